/-
  Layer 5 (task): the library's IndexFunc, ContainsFunc at tasks; All.
-/
import Derived.Test.YtldiplnccgoeiaaTaskRight
import Derived.Shelf.Lay
namespace Go.Proofs.Ytldiplnccgoeiaa
open Go.RowKit Mm Go.Shelf
namespace Tk

theorem any_take_yes {α : Type} [Inhabited α] {l : List α} {p : α → Bool} {k : Nat} (hk : k < l.length) (h : p (at_ l k) = true) : l.any p = true := List.any_eq_true.2 ⟨_, at_mem hk, h⟩
theorem any_take_no {α : Type} [Inhabited α] {l : List α} {p : α → Bool} (h : ∀ j, j < l.length → p (at_ l j) = false) : l.any p = false := by
  rw [List.any_eq_false]
  intro x hx
  obtain ⟨j, hj, rfl⟩ := mem_at hx
  rw [h j hj]
  simp

/-- an index, or -1: whether there is one -/
def IdxOf (w : World) (r : Bool) (e : Ending) (w' : World) : Prop := ∃ n : Int, e = .returned (.int .i64 n) ∧ (r = true → 0 ≤ n) ∧ (r = false → n = -1) ∧ Below w.heap.size w w'

/-- what is asked of a closure over tasks -/
def PredTask (g : Nat) (lb : Array Value) (pb : Tsk → Bool) (w : World) : Prop := ∀ (W : World) (x : Tsk) (B : Option Addr) (d : Nat), Below w.heap.size w W → Rd W B d x.2.2.2 → x.2.2.2.length ≤ 1000000 →
  Calls Try.prog g (#[.agg #[.int .i64 x.1, .int .i64 x.2.1, .int .i64 x.2.2.1, .slice B x.2.2.2.length d]] ++ lb) W fun e w' => e = .returned (.bool (pb x)) ∧ Below W.heap.size W w'

set_option maxHeartbeats 800000 in
theorem indexTask (g : Nat) (lb : Array Value) (pb : Tsk → Bool) (eg : ∀ args w, (callFunc g args).run Try.prog w = .ok (.enter g args) w) (A : Option Addr) (c : Nat) (l : List Tsk) (w : World) (hbig : l.length ≤ 1000000) (hin : ∀ j, j < l.length → (at_ l j).2.2.2.length ≤ 1000000) (hp : PredTask g lb pb w) (hr : Rd w A c l) :
    Calls Try.prog 51 #[.slice A l.length c, .func (.func g) #[] lb] w (IdxOf w (l.any pb)) := by
  have HR := Lib.hid hr
  have HP := Lib.hid hp
  have HIN := Lib.hid hin
  clear hr hp hin
  go_enter Try.func51, Try.ntmps51
  go_wp2_with fail
  go_loopw [8] (fun i wr => ∃ k : Nat, i = .int .i64 k ∧ k ≤ l.length ∧ Hid (∀ j, j < k → pb (at_ l j) = false) ∧ Hid (Below w.heap.size w wr)) (fun i _ => l.length - (intOf i).toNat)
  case atStart => exact ⟨0, rfl, Nat.zero_le _, (fun j h => by omega), Below.refl _ _⟩
  case round =>
    obtain ⟨k, rfl, hk, HH, HB⟩ := hrel
    by_cases hlt : k < l.length
    · obtain ⟨b, off, rfl, hc⟩ := task_at (HR.out.below HB.out) (by omega)
      obtain ⟨B, d, x1, x2, x3, x4, _, _, _, r⟩ := hc k hlt
      have hcall := HP.out wr (at_ l k) B d HB.out r.rd (HIN.out k hlt)
      clear hc r
      cases hb : pb (at_ l k) with
      | true =>
        rw [hb] at hcall
        have HY := Lib.hid (any_take_yes hlt hb)
        clear hb
        generalize at_ l k = x at *
        go_wp2_with (go_at_fn g; refine hcall.mono ?_; rintro e w1 ⟨rfl, b2⟩; have HB2 := Lib.hid (below_step HB.out b2); clear b2 hcall)
        go_ret
        exact ⟨k, rfl, (fun _ => by omega), (fun h => by rw [HY.out] at h; cases h), HB2.out⟩
      | false =>
        rw [hb] at hcall
        have HN := Lib.hid hb
        clear hb
        generalize hx : at_ l k = x at *
        have HX := Lib.hid hx
        clear hx
        go_wp2_with (go_at_fn g; refine hcall.mono ?_; rintro e w1 ⟨rfl, b2⟩; have HB2 := Lib.hid (below_step HB.out b2); clear b2 hcall)
        go_roundw
        case rel =>
          refine ⟨k + 1, by go_num, hlt, fun j hj => ?_, HB2⟩
          by_cases e : j = k
          · subst e; rw [HX.out]; exact HN.out
          · exact HH.out j (by omega)
        case measure => simp [intOf]; omega
    · go_wp2_with fail
      go_ret
      have hn := any_take_no (p := pb) (l := l) fun j hj => HH.out j (by omega)
      exact ⟨-1, rfl, (fun h => by rw [hn] at h; cases h), (fun _ => rfl), HB.out⟩

theorem hasTask (g : Nat) (lb : Array Value) (pb : Tsk → Bool) (eg : ∀ args w, (callFunc g args).run Try.prog w = .ok (.enter g args) w) (A : Option Addr) (c : Nat) (l : List Tsk) (w : World) (hbig : l.length ≤ 1000000) (hin : ∀ j, j < l.length → (at_ l j).2.2.2.length ≤ 1000000) (hp : PredTask g lb pb w) (hr : Rd w A c l) :
    Calls Try.prog 41 #[.slice A l.length c, .func (.func g) #[] lb] w fun e w' => e = .returned (.bool (l.any pb)) ∧ Below w.heap.size w w' := by
  have HR := Lib.hid hr
  have HP := Lib.hid hp
  have HIN := Lib.hid hin
  clear hr hp hin
  go_enter Try.func41, Try.ntmps41
  go_wp2_with fail
  refine (indexTask g lb pb eg A c l _ hbig HIN.out HP.out HR.out).mono ?_
  rintro e w1 ⟨n, rfl, h1, h2, b1⟩
  have B1 := Lib.hid b1
  have H1 := Lib.hid h1
  have H2 := Lib.hid h2
  clear b1 h1 h2
  cases ha : l.any pb with
  | true =>
    have h := H1.out ha
    have HA := Lib.hid ha
    clear ha
    go_wp2_with fail
    go_ret
    exact ⟨ret_bool (by rw [HA.out]), B1.out⟩
  | false =>
    have h := H2.out ha
    subst h
    have HA := Lib.hid ha
    clear ha
    go_wp2_with fail
    go_ret
    exact ⟨ret_bool (by rw [HA.out]), B1.out⟩

theorem all_closure (w : World) : PredTask 42 #[] (fun t => !rightT t) w := fun W x B d _ hr hl => by
  obtain ⟨t1, t2, t3, t4⟩ := box_new W x.1 x.2.1 x.2.2.1 B x.2.2.2.length d
  have b0 := below_one W (Obj.cells #[.int .i64 x.1, .int .i64 x.2.1, .int .i64 x.2.2.1, .slice B x.2.2.2.length d] 47)
  show Calls Try.prog 42 #[.agg #[.int .i64 x.1, .int .i64 x.2.1, .int .i64 x.2.2.1, .slice B x.2.2.2.length d]] W _
  have HQ : Hid (rightT x = rightB x.1 x.2.1 x.2.2.1 x.2.2.2) := rfl
  go_enter Try.func42, Try.ntmps42
  go_wp2_with fail
  have HR := Lib.hid hr
  have B0 := Lib.hid b0
  clear hr b0
  generalize W.alloc (Obj.cells #[.int .i64 x.1, .int .i64 x.2.1, .int .i64 x.2.2.1, .slice B x.2.2.2.length d] 47) = w0 at *
  refine (right_any x.1 x.2.1 x.2.2.1 B d x.2.2.2 _ hl (HR.out.below B0.out)).mono ?_
  rintro e w1 ⟨rfl, b1⟩
  replace t1 := cell_below b1 t1
  replace t2 := cell_below b1 t2
  replace t3 := cell_below b1 t3
  replace t4 := cell_below b1 t4
  have B1 := Lib.hid (below_step B0.out b1)
  clear b1
  go_wp2_with fail
  go_ret
  exact ⟨ret_bool (by rw [HQ.out]), B1.out⟩
theorem allEnters : ∀ args w, (callFunc 42 args).run Try.prog w = .ok (.enter 42 args) w := enters_of Try.func42 (by kernel_rfl) rfl
theorem any_not (L : List Tsk) : L.any (fun t => !rightT t) = !L.all rightT := by
  induction L with
  | nil => rfl
  | cons x l ih => simp [ih]

set_option maxHeartbeats 800000 in
theorem all_any (A : Option Addr) (c : Nat) (L : List Tsk) (w : World) (hbig : L.length ≤ 1000000) (hin : ∀ j, j < L.length → (at_ L j).2.2.2.length ≤ 1000000) (hr : Rd w A c L) :
    Calls Try.prog 27 #[.slice A L.length c] w fun e w' => e = .returned (.bool (allB L)) ∧ Below w.heap.size w w' := by
  by_cases h8 : 8 < L.length
  · have HH : Hid (allB L = false) := by show _ = _; simp [allB]; omega
    go_enter Try.func27, Try.ntmps27
    go_wp2_with fail
    go_ret
    exact ⟨ret_bool HH.out.symm, Below.refl _ _⟩
  · have HH : Hid (allB L = !(L.any (fun t => !rightT t))) := by show _ = _; rw [any_not]; simp [allB]; omega
    go_enter Try.func27, Try.ntmps27
    have HR := Lib.hid hr
    have HIN := Lib.hid hin
    clear hr hin
    go_wp2_with fail
    refine (hasTask _ _ _ allEnters A c L _ hbig HIN.out (all_closure _) HR.out).mono ?_
    rintro e w1 ⟨rfl, b1⟩
    have B1 := Lib.hid b1
    clear b1
    go_wp2_with fail
    go_ret
    exact ⟨ret_bool HH.out.symm, B1.out⟩

end Tk
end Go.Proofs.Ytldiplnccgoeiaa
