/-
  Layer 10 (verdict): the library's IndexFunc, ContainsFunc at tasks, where the closure is asked about the tasks of the list alone; the closure that tells whether a job is due.
-/
import Derived.Test.YtldiplnccgoeiaaVerdictCyc
import Derived.Test.YtldiplnccgoeiaaTaskAll
import Derived.Test.YtldiplnccgoeiaaTaskList
namespace Go.Proofs.Ytldiplnccgoeiaa
open Go.RowKit Mm Tk
namespace Vd

/-- what is asked of a closure over the tasks of a list -/
def PredIn (L : List Tsk) (g : Nat) (lb : Array Value) (pb : Tsk → Bool) (w : World) : Prop := ∀ (W : World) (x : Tsk) (B : Option Addr) (d : Nat), x ∈ L → Below w.heap.size w W →
  Calls Try.prog g (#[.agg #[.int .i64 x.1, .int .i64 x.2.1, .int .i64 x.2.2.1, .slice B x.2.2.2.length d]] ++ lb) W fun e w' => e = .returned (.bool (pb x)) ∧ Below W.heap.size W w'

set_option maxHeartbeats 800000 in
theorem indexIn (g : Nat) (lb : Array Value) (pb : Tsk → Bool) (eg : ∀ args w, (callFunc g args).run Try.prog w = .ok (.enter g args) w) (A : Option Addr) (c : Nat) (l : List Tsk) (w : World) (hp : PredIn l g lb pb w) (H : TL w A c l) :
    Calls Try.prog 51 #[.slice A l.length c, .func (.func g) #[] lb] w (IdxOf w (l.any pb)) := by
  obtain ⟨hbig, hin, hr⟩ := H
  have HR := Lib.hid hr
  have HP := Lib.hid hp
  have HIN := Lib.hid hin
  clear hr hp hin
  go_enter Try.func51, Try.ntmps51
  go_wp2_with fail
  go_loopw [8] (fun i wr => ∃ k : Nat, i = .int .i64 k ∧ k ≤ l.length ∧ Hid (∀ j, j < k → pb (at_ l j) = false) ∧ Hid (Below w.heap.size w wr)) (fun i _ => l.length - (intOf i).toNat)
  case atStart => exact ⟨0, rfl, Nat.zero_le _, (fun j h => by omega), Below.refl _ _⟩
  case round =>
    obtain ⟨k, rfl, hk, HH, HB⟩ := hrel
    by_cases hlt : k < l.length
    · obtain ⟨b, off, rfl, hc⟩ := task_at (HR.out.below HB.out) (by omega)
      obtain ⟨B, d, x1, x2, x3, x4, _, _, _, r⟩ := hc k hlt
      have hcall := HP.out wr (at_ l k) B d (at_mem hlt) HB.out
      clear hc r
      cases hb : pb (at_ l k) with
      | true =>
        rw [hb] at hcall
        have HY := Lib.hid (any_take_yes hlt hb)
        clear hb
        generalize at_ l k = x at *
        go_wp2_with (go_at_fn g; refine hcall.mono ?_; rintro e w1 ⟨rfl, b2⟩; have HB2 := Lib.hid (below_step HB.out b2); clear b2 hcall)
        go_ret
        exact ⟨k, rfl, (fun _ => by omega), (fun h => by rw [HY.out] at h; cases h), HB2.out⟩
      | false =>
        rw [hb] at hcall
        have HN := Lib.hid hb
        clear hb
        generalize hx : at_ l k = x at *
        have HX := Lib.hid hx
        clear hx
        go_wp2_with (go_at_fn g; refine hcall.mono ?_; rintro e w1 ⟨rfl, b2⟩; have HB2 := Lib.hid (below_step HB.out b2); clear b2 hcall)
        go_roundw
        case rel =>
          refine ⟨k + 1, by go_num, hlt, fun j hj => ?_, HB2⟩
          by_cases e : j = k
          · subst e; rw [HX.out]; exact HN.out
          · exact HH.out j (by omega)
        case measure => simp [intOf]; omega
    · go_wp2_with fail
      go_ret
      have hn := any_take_no (p := pb) (l := l) fun j hj => HH.out j (by omega)
      exact ⟨-1, rfl, (fun h => by rw [hn] at h; cases h), (fun _ => rfl), HB.out⟩

theorem hasIn (g : Nat) (lb : Array Value) (pb : Tsk → Bool) (eg : ∀ args w, (callFunc g args).run Try.prog w = .ok (.enter g args) w) (A : Option Addr) (c : Nat) (l : List Tsk) (v : Bool) (hv : l.any pb = v) (n : Nat) (hn : l.length = n) (w : World) (hp : PredIn l g lb pb w) (H : TL w A c l) :
    Calls Try.prog 41 #[.slice A n c, .func (.func g) #[] lb] w fun e w' => e = .returned (.bool v) ∧ Below w.heap.size w w' := by
  subst hn
  have HT := Lib.hid H
  have hbig := H.1
  have HP := Lib.hid hp
  clear hp
  clear H
  go_enter Try.func41, Try.ntmps41
  go_wp2_with fail
  refine (indexIn g lb pb eg A c l _ HP.out HT.out).mono ?_
  rintro e w1 ⟨n, rfl, h1, h2, b1⟩
  have B1 := Lib.hid b1
  have H1 := Lib.hid h1
  have H2 := Lib.hid h2
  clear b1 h1 h2
  cases v with
  | true =>
    have h := H1.out hv
    clear hv
    go_wp2_with fail
    go_ret
    exact ⟨rfl, B1.out⟩
  | false =>
    have h := H2.out hv
    subst h
    clear hv
    go_wp2_with fail
    go_ret
    exact ⟨rfl, B1.out⟩

theorem dueEnters : ∀ args w, (callFunc 47 args).run Try.prog w = .ok (.enter 47 args) w := enters_of Try.func47 (by kernel_rfl) rfl

set_option maxHeartbeats 800000 in
theorem due_closure (L : List Tsk) (hL : allB L = true) (X t : Nat) (ht : t ≤ 1000000) (w : World) (hX : w.cell? ⟨X, 0, none⟩ = some (.int .i64 t)) : PredIn L 47 #[.pointer (some ⟨X, 0, none⟩)] (dueT t) w := fun W x B d hx hb => by
  obtain ⟨t1, t2, t3, t4⟩ := box_new W x.1 x.2.1 x.2.2.1 B x.2.2.2.length d
  have b0 := below_one W (Obj.cells #[.int .i64 x.1, .int .i64 x.2.1, .int .i64 x.2.2.1, .slice B x.2.2.2.length d] 47)
  have y := cell_below b0 (cell_below hb hX)
  obtain ⟨j, hj, e⟩ := mem_at hx
  have hT := Dm.right_T (Dm.all_right hL j hj)
  rw [e] at hT
  clear e hj j hx hb hX
  show Calls Try.prog 47 #[.agg #[.int .i64 x.1, .int .i64 x.2.1, .int .i64 x.2.2.1, .slice B x.2.2.2.length d], .pointer (some ⟨X, 0, none⟩)] W _
  by_cases hd : x.2.1 ≤ t
  · obtain ⟨r, hr⟩ : ∃ r, ((t : Int) - x.2.1) % x.2.2.1 = r := ⟨_, rfl⟩
    have r0 := Int.emod_nonneg ((t : Int) - x.2.1) (b := x.2.2.1) (by omega)
    have r1 := Int.emod_lt_of_pos ((t : Int) - x.2.1) (b := x.2.2.1) (by omega)
    rw [hr] at r0 r1
    have e1 : ((t : Int) - x.2.1).tmod x.2.2.1 = r := by rw [Int.tmod_eq_emod_of_nonneg (by omega), hr]
    have e2 : IntKind.i64.wrap r = r := IntWalk.i64_in _ (by omega)
    have e3 : IntKind.i64.wrap ((t : Int) - x.2.1) = (t : Int) - x.2.1 := IntWalk.i64_in _ (by omega)
    have i1 : ¬ x.2.2.1 = 0 := by omega
    have HV : Hid (dueT t x = decide (r = 0)) := by
      show _ = _
      unfold dueT
      rw [decide_eq_true hd, hr]
      rfl
    have B0 := Lib.hid b0
    clear b0
    go_enter Try.func47, Try.ntmps47
    go_wp2_with fail
    go_ret
    exact ⟨ret_bool (by rw [HV.out]; rfl), B0.out⟩
  · have HV : Hid (dueT t x = false) := by
      show _ = _
      unfold dueT
      rw [decide_eq_false hd]
      rfl
    have B0 := Lib.hid b0
    clear b0
    go_enter Try.func47, Try.ntmps47
    go_wp2_with fail
    go_ret
    exact ⟨ret_bool HV.out.symm, B0.out⟩

end Vd
end Go.Proofs.Ytldiplnccgoeiaa
