/-
  Layer 6 (level): the generic count and greatest, at tasks and at ints; levelAt.
-/
import Derived.Test.YtlgfbodmaocibaaTaskUses
import Derived.Test.YtlgfbodmaocibaaLevelMath
namespace Go.Proofs.Ytlgfbodmaocibaa
open Go.RowKit Mm Tk Go.Shelf
namespace Lv

/-- how many of the first k -/
def cntTo (p : Tsk → Bool) (L : List Tsk) (k : Nat) : Nat := ((L.take k).filter p).length
theorem cntTo_yes {p : Tsk → Bool} {L : List Tsk} {k : Nat} (h : k < L.length) (hd : p (at_ L k) = true) : cntTo p L (k + 1) = cntTo p L k + 1 := by
  unfold cntTo
  rw [take_succ_at h, List.filter_append, List.length_append]
  simp [hd]
theorem cntTo_no {p : Tsk → Bool} {L : List Tsk} {k : Nat} (h : k < L.length) (hd : p (at_ L k) = false) : cntTo p L (k + 1) = cntTo p L k := by
  unfold cntTo
  rw [take_succ_at h, List.filter_append, List.length_append]
  simp [hd]

set_option maxHeartbeats 800000 in
theorem count_any (g : Nat) (lb : Array Value) (pb : Tsk → Bool) (eg : ∀ args w, (callFunc g args).run Try.prog w = .ok (.enter g args) w) (A : Option Addr) (c : Nat) (L : List Tsk) (w : World) (hbig : L.length ≤ 1000000) (hin : ∀ j, j < L.length → (at_ L j).2.2.2.length ≤ 1000000) (hp : PredTask g lb pb w) (hr : Rd w A c L) :
    Calls Try.prog 28 #[.slice A L.length c, .func (.func g) #[] lb] w fun e w' => e = .returned (.int .i64 ((L.filter pb).length : Nat)) ∧ Below w.heap.size w w' := by
  have HR := Lib.hid hr
  have HP := Lib.hid hp
  have HIN := Lib.hid hin
  clear hr hp hin
  go_enter Try.func28, Try.ntmps28
  go_wp2_with fail
  go_loopw [5, 10] (fun n i wr => ∃ k q : Nat, i = .int .i64 k ∧ n = .int .i64 q ∧ k ≤ L.length ∧ q ≤ k ∧ Hid (q = cntTo pb L k) ∧ Hid (Below w.heap.size w wr)) (fun _ i _ => L.length - (intOf i).toNat)
  case atStart => exact ⟨0, 0, rfl, rfl, Nat.zero_le _, Nat.le_refl _, rfl, Below.refl _ _⟩
  case round =>
    obtain ⟨k, q, rfl, rfl, hk, hqk, HQ, HB⟩ := hrel
    by_cases hlt : k < L.length
    · obtain ⟨b, off, rfl, hc⟩ := task_at (HR.out.below HB.out) (by omega)
      obtain ⟨B, d, x1, x2, x3, x4, _, _, _, r⟩ := hc k hlt
      have hcall := fun W hW => HP.out W (at_ L k) B d (below_step HB.out hW) (r.rd.below hW) (HIN.out k hlt)
      have HY : Hid (pb (at_ L k) = true → q + 1 = cntTo pb L (k + 1)) := fun h => by rw [cntTo_yes hlt h, ← HQ.out]
      have HN : Hid (pb (at_ L k) = false → q = cntTo pb L (k + 1)) := fun h => by rw [cntTo_no hlt h, ← HQ.out]
      clear hc r
      have HCALL := Lib.hid hcall
      clear hcall
      generalize at_ L k = x at *
      obtain ⟨y1, y2, y3, y4⟩ := box_new wr x.1 x.2.1 x.2.2.1 B x.2.2.2.length d
      have b1 := below_one wr (Obj.cells #[.int .i64 x.1, .int .i64 x.2.1, .int .i64 x.2.2.1, .slice B x.2.2.2.length d] 33)
      have B1 := Lib.hid b1
      clear b1
      go_wp2_with fail
      generalize wr.alloc (Obj.cells #[.int .i64 x.1, .int .i64 x.2.1, .int .i64 x.2.2.1, .slice B x.2.2.2.length d] 33) = w1 at *
      go_at_fn g
      refine (HCALL.out w1 B1.out).mono ?_
      rintro e w2 ⟨rfl, b2⟩
      have HB2 := Lib.hid (below_step HB.out (below_step B1.out b2))
      clear b2
      cases hb : pb x with
      | true =>
        have HC := Lib.hid (HY.out hb)
        clear hb
        go_wp2_with fail
        go_roundw
        case rel => exact ⟨k + 1, q + 1, by go_num, by go_num, hlt, by omega, HC, HB2⟩
        case measure => simp [intOf]; omega
      | false =>
        have HC := Lib.hid (HN.out hb)
        clear hb
        go_wp2_with fail
        go_roundw
        case rel => exact ⟨k + 1, q, by go_num, rfl, hlt, by omega, HC, HB2⟩
        case measure => simp [intOf]; omega
    · have hkl : k = L.length := by omega
      subst hkl
      have HF : Hid (q = (L.filter pb).length) := by show _ = _; rw [HQ.out]; unfold cntTo; rw [List.take_length]
      go_wp2_with fail
      go_ret
      exact ⟨ret_int (by rw [HF.out]), HB.out⟩

/-- what is asked of a closure that tells a number of a task, of an int -/
def FunTask (g : Nat) (lb : Array Value) (f : Tsk → Nat) (w : World) : Prop := ∀ (W : World) (x : Tsk) (B : Option Addr) (d : Nat), Below w.heap.size w W → Rd W B d x.2.2.2 → x.2.2.2.length ≤ 1000000 →
  Calls Try.prog g (#[.agg #[.int .i64 x.1, .int .i64 x.2.1, .int .i64 x.2.2.1, .slice B x.2.2.2.length d]] ++ lb) W fun e w' => e = .returned (.int .i64 (f x : Nat)) ∧ Below W.heap.size W w'
def FunInt (g : Nat) (lb : Array Value) (f : Int → Nat) (w : World) : Prop := ∀ (W : World) (x : Int), Below w.heap.size w W →
  Calls Try.prog g (#[.int .i64 x] ++ lb) W fun e w' => e = .returned (.int .i64 (f x : Nat)) ∧ Below W.heap.size W w'
/-- the greatest, among the first k -/
def mostTo {α : Type} [Inhabited α] (f : α → Nat) (L : List α) : Nat → Nat
  | 0 => 0
  | k + 1 => max (mostTo f L k) (f (at_ L k))
def most {α : Type} [Inhabited α] (f : α → Nat) (L : List α) : Nat := mostTo f L L.length
theorem int_max (q y : Nat) : Value.int .i64 (if q < y then (y : Int) else (q : Int)) = .int .i64 ((max q y : Nat) : Int) := by
  congr 1
  split <;> omega

set_option maxHeartbeats 800000 in
theorem greatestTask_any (g : Nat) (lb : Array Value) (f : Tsk → Nat) (eg : ∀ args w, (callFunc g args).run Try.prog w = .ok (.enter g args) w) (A : Option Addr) (c : Nat) (L : List Tsk) (w : World) (hbig : L.length ≤ 1000000) (hin : ∀ j, j < L.length → (at_ L j).2.2.2.length ≤ 1000000) (hp : FunTask g lb f w) (hr : Rd w A c L) :
    Calls Try.prog 30 #[.slice A L.length c, .func (.func g) #[] lb] w fun e w' => e = .returned (.int .i64 (most f L : Nat)) ∧ Below w.heap.size w w' := by
  have HR := Lib.hid hr
  have HP := Lib.hid hp
  have HIN := Lib.hid hin
  clear hr hp hin
  go_enter Try.func30, Try.ntmps30
  go_wp2_with fail
  go_loopw [5, 10] (fun n i wr => ∃ k q : Nat, i = .int .i64 k ∧ n = .int .i64 q ∧ k ≤ L.length ∧ Hid (q = mostTo f L k) ∧ Hid (Below w.heap.size w wr)) (fun _ i _ => L.length - (intOf i).toNat)
  case atStart => exact ⟨0, 0, rfl, rfl, Nat.zero_le _, rfl, Below.refl _ _⟩
  case round =>
    obtain ⟨k, q, rfl, rfl, hk, HQ, HB⟩ := hrel
    by_cases hlt : k < L.length
    · obtain ⟨b, off, rfl, hc⟩ := task_at (HR.out.below HB.out) (by omega)
      obtain ⟨B, d, x1, x2, x3, x4, _, _, _, r⟩ := hc k hlt
      have hcall := fun W hW => HP.out W (at_ L k) B d (below_step HB.out hW) (r.rd.below hW) (HIN.out k hlt)
      have HC : Hid (max q (f (at_ L k)) = mostTo f L (k + 1)) := by show _ = _; rw [mostTo, ← HQ.out]
      clear hc r
      have HCALL := Lib.hid hcall
      clear hcall
      generalize at_ L k = x at *
      obtain ⟨y1, y2, y3, y4⟩ := box_new wr x.1 x.2.1 x.2.2.1 B x.2.2.2.length d
      have b1 := below_one wr (Obj.cells #[.int .i64 x.1, .int .i64 x.2.1, .int .i64 x.2.2.1, .slice B x.2.2.2.length d] 33)
      have B1 := Lib.hid b1
      clear b1
      go_wp2_with fail
      generalize wr.alloc (Obj.cells #[.int .i64 x.1, .int .i64 x.2.1, .int .i64 x.2.2.1, .slice B x.2.2.2.length d] 33) = w1 at *
      go_at_fn g
      refine (HCALL.out w1 B1.out).mono ?_
      rintro e w2 ⟨rfl, b2⟩
      have HB2 := Lib.hid (below_step HB.out (below_step B1.out b2))
      clear b2
      generalize f x = y at *
      go_wp2_with fail
      go_roundw
      case rel => exact ⟨k + 1, max q y, by go_num, int_max q y, hlt, HC, HB2⟩
      case measure => simp [intOf]; omega
    · have hkl : k = L.length := by omega
      subst hkl
      go_wp2_with fail
      go_ret
      exact ⟨ret_int (by rw [HQ.out]; rfl), HB.out⟩

set_option maxHeartbeats 800000 in
theorem greatestInt_any (g : Nat) (lb : Array Value) (f : Int → Nat) (eg : ∀ args w, (callFunc g args).run Try.prog w = .ok (.enter g args) w) (A : Option Addr) (c : Nat) (L : List Int) (w : World) (hbig : L.length ≤ 1000000) (hp : FunInt g lb f w) (hr : Rd w A c L) :
    Calls Try.prog 23 #[.slice A L.length c, .func (.func g) #[] lb] w fun e w' => e = .returned (.int .i64 (most f L : Nat)) ∧ Below w.heap.size w w' := by
  have HR := Lib.hid hr
  have HP := Lib.hid hp
  clear hr hp
  go_enter Try.func23, Try.ntmps23
  go_wp2_with fail
  go_loopw [5, 10] (fun n i wr => ∃ k q : Nat, i = .int .i64 k ∧ n = .int .i64 q ∧ k ≤ L.length ∧ Hid (q = mostTo f L k) ∧ Hid (Below w.heap.size w wr)) (fun _ i _ => L.length - (intOf i).toNat)
  case atStart => exact ⟨0, 0, rfl, rfl, Nat.zero_le _, rfl, Below.refl _ _⟩
  case round =>
    obtain ⟨k, q, rfl, rfl, hk, HQ, HB⟩ := hrel
    by_cases hlt : k < L.length
    · obtain ⟨b, off, rfl, hc⟩ := (HR.out.below HB.out).int (by omega)
      obtain ⟨x1, _⟩ := hc k hlt
      have hcall := HP.out wr (at_ L k) HB.out
      have HC : Hid (max q (f (at_ L k)) = mostTo f L (k + 1)) := by show _ = _; rw [mostTo, ← HQ.out]
      clear hc
      have HCALL := Lib.hid hcall
      clear hcall
      generalize at_ L k = x at *
      go_wp2_with fail
      go_at_fn g
      refine HCALL.out.mono ?_
      rintro e w2 ⟨rfl, b2⟩
      have HB2 := Lib.hid (below_step HB.out b2)
      clear b2
      generalize f x = y at *
      go_wp2_with fail
      go_roundw
      case rel => exact ⟨k + 1, max q y, by go_num, int_max q y, hlt, HC, HB2⟩
      case measure => simp [intOf]; omega
    · have hkl : k = L.length := by omega
      subst hkl
      go_wp2_with fail
      go_ret
      exact ⟨ret_int (by rw [HQ.out]; rfl), HB.out⟩

/-- the level that a task with this D has -/
def lv (L : List Tsk) (D : Int) : Nat := more L D + 1

theorem level_closure (D : Int) (X : Nat) (w : World) (hX : w.cell? ⟨X, 0, none⟩ = some (.int .i64 D)) :
    PredTask 29 #[.pointer (some ⟨X, 0, none⟩)] (fun t => decide (D < t.2.1)) w := fun W x B d hb _ _ => by
  have hc := cell_new (cell_below hb hX) (.cells #[.int .i64 x.1, .int .i64 x.2.1, .int .i64 x.2.2.1, .slice B x.2.2.2.length d] 33)
  show Calls Try.prog 29 #[.agg #[.int .i64 x.1, .int .i64 x.2.1, .int .i64 x.2.2.1, .slice B x.2.2.2.length d], .pointer (some ⟨X, 0, none⟩)] W _
  clear hX hb
  go_enter Try.func29, Try.ntmps29
  go_wp2
  go_ret
  exact ⟨rfl, below_one _ _⟩
theorem levelEnters : ∀ args w, (callFunc 29 args).run Try.prog w = .ok (.enter 29 args) w := enters_of Try.func29 (by kernel_rfl) rfl

theorem levelAt_any (A : Option Addr) (c : Nat) (L : List Tsk) (D : Int) (w : World) (hbig : L.length ≤ 1000000) (hin : ∀ j, j < L.length → (at_ L j).2.2.2.length ≤ 1000000) (hr : Rd w A c L) :
    Calls Try.prog 21 #[.slice A L.length c, .int .i64 D] w fun e w' => e = .returned (.int .i64 (lv L D : Nat)) ∧ Below w.heap.size w w' := by
  have x1 : (w.alloc (Obj.cells #[.int .i64 D] 3)).cell? ⟨w.heap.size, 0, none⟩ = some (.int .i64 D) := by simp
  have b0 := below_one w (Obj.cells #[.int .i64 D] 3)
  have hle : more L D ≤ L.length := more_le L D
  have HM : Hid ((L.filter fun t => decide (D < t.2.1)).length = more L D) := rfl
  have HR := Lib.hid hr
  have HIN := Lib.hid hin
  have B0 := Lib.hid b0
  clear hr hin b0
  go_enter Try.func21, Try.ntmps21
  go_wp2_with fail
  refine (count_any _ _ _ levelEnters A c L _ hbig HIN.out (level_closure D _ _ x1) (HR.out.below B0.out)).mono ?_
  rintro e w1 ⟨rfl, b1⟩
  have B1 := Lib.hid (below_step B0.out b1)
  clear b1
  rw [HM.out]
  generalize hq : more L D = m at *
  have HQ := Lib.hid hq
  clear hq
  go_wp2_with fail
  go_ret
  exact ⟨ret_int (by unfold lv; rw [HQ.out]; go_num), B1.out⟩

end Lv
end Go.Proofs.Ytlgfbodmaocibaa
