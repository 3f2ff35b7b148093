/-
  Merged texts: Law05Args, Law05Refs.
-/
import Derived.Test.YtfhifmpkdnnpmaaGmem
import Derived.Test.YtfhifmpkdnnpmaaGtask
import Derived.Test.YtfhifmpkdnnpmaaOLaw05Right
/-
  Layer 5: the arguments of the statements, opened: a slice of tasks, a task, an int, a byte.
-/
namespace Go.Proofs.Ytfhifmpkdnnpmaa
open Go.ChangeShapes Go.WideShapes Go.ChangeAt Go.RowKit Go.Deep Go.Joins Mm
namespace Tk

theorem opInt : Opens Try.prog 3 Int := opens_int Try.underlying3 (by kernel_rfl)
theorem opSec : Opens Try.prog 65 Sc := opens_struct Try.underlying65 (by kernel_rfl) (fieldsOpen_cons rfl opInt (fieldsOpen_cons rfl opInt (fieldsOpen_one rfl opInt)))
theorem opSecs : Opens Try.prog 45 (List Sc) := opens_slice Try.underlying45 (by kernel_rfl) opSec
theorem opTask : Opens Try.prog 47 Tsk := opens_struct Try.underlying47 (by kernel_rfl) (fieldsOpen_cons rfl opInt (fieldsOpen_cons rfl opInt (fieldsOpen_cons rfl opInt (fieldsOpen_one rfl opSecs))))
theorem opTasks : Opens Try.prog 22 (List Tsk) := opens_slice Try.underlying22 (by kernel_rfl) opTask

section
variable {H : Type} {enc : TypeId × Value → H} {w : World} {base : Nat} {spare : Nat → Bool} {held : Bool}
theorem open_task {r : Reach} {b0 : Nat} {v : Value} {d : DataW H} {ps : List MemPlace} (hv : Value.okWide Try.prog w r b0 47 v) (h : DataW.Trod enc Try.prog w base spare held 47 v d ps) :
    ∃ (A : Option Addr) (c : Nat) (x : Tsk), v = .agg #[.int .i64 x.1, .int .i64 x.2.1, .int .i64 x.2.2.1, .slice A x.2.2.2.length c] ∧ Fit x.1 ∧ Fit x.2.1 ∧ Fit x.2.2.1 ∧ Rd w A c x.2.2.2 := by
  obtain ⟨cs, x, rfl, hx⟩ := open_strct (α := Tsk) Try.underlying47 opTask hv h
  obtain ⟨B, d, rfl, f1, f2, f3, hr⟩ := rd_task.1 hx
  exact ⟨B, d, x, rfl, f1, f2, f3, hr⟩
end

end Tk
end Go.Proofs.Ytfhifmpkdnnpmaa

/-
  Layer 5: the document's answers All, Same; the helper Great.
-/
namespace Go.Proofs.Ytfhifmpkdnnpmaa
open Go.RowKit Mm
namespace Tk

/-- how many of the first tasks are right -/
def cnt (L : List Tsk) (k : Nat) : Nat := ((L.take k).filter rightT).length
theorem cnt_yes {L : List Tsk} {k : Nat} (h : k < L.length) (hr : rightT (at_ L k) = true) : cnt L (k + 1) = cnt L k + 1 := by
  unfold cnt
  rw [take_succ_at h, List.filter_append, List.length_append]
  simp [hr]
theorem cnt_no {L : List Tsk} {k : Nat} (h : k < L.length) (hr : rightT (at_ L k) = false) : cnt L (k + 1) = cnt L k := by
  unfold cnt
  rw [take_succ_at h, List.filter_append, List.length_append]
  simp [hr]
theorem cnt_le (L : List Tsk) (k : Nat) : cnt L k ≤ k := by
  unfold cnt
  exact Nat.le_trans (List.length_filter_le _ _) (by simp; omega)
theorem cnt_all (L : List Tsk) : allB L = (decide (cnt L L.length = L.length) && decide (cnt L L.length ≤ 8)) := by
  unfold cnt allB
  rw [List.take_length, Bool.eq_iff_iff]
  simp only [Bool.and_eq_true, decide_eq_true_eq, List.all_eq_true]
  have hl := List.length_filter_le rightT L
  constructor
  · rintro ⟨h1, h2⟩
    rw [List.filter_eq_self.2 h2]
    exact ⟨rfl, h1⟩
  · rintro ⟨h1, h2⟩
    exact ⟨by omega, List.filter_eq_self.1 (List.filter_sublist.eq_of_length h1)⟩

set_option maxHeartbeats 800000 in
theorem refAll_max (A : Option Addr) (c : Nat) (L : List Tsk) (w : World) (hbig : L.length ≤ 1000000) (hin : ∀ j, j < L.length → (at_ L j).2.2.2.length ≤ 9223372036854775807) (hr : Rd w A c L) :
    Calls Try.prog 15 #[.slice A L.length c] w fun e w' => e = .returned (.bool (allB L)) ∧ Below w.heap.size w w' := by
  have HR := Lib.hid hr
  have HIN := Lib.hid hin
  clear hr hin
  have HA := Lib.hid (cnt_all L)
  go_enter Try.func15, Try.ntmps15
  go_wp2_with fail
  go_loopw [3, 4] (fun n i wr => ∃ k q : Nat, i = .int .i64 k ∧ n = .int .i64 q ∧ k ≤ L.length ∧ q ≤ k ∧ Hid (q = cnt L k) ∧ Hid (Below w.heap.size w wr)) (fun _ i _ => L.length - (intOf i).toNat)
  case atStart => exact ⟨0, 0, rfl, rfl, Nat.zero_le _, Nat.le_refl _, rfl, Below.refl _ _⟩
  case round =>
    obtain ⟨k, q, rfl, rfl, hk, hqk, HQ, HB⟩ := hrel
    by_cases hlt : k < L.length
    · obtain ⟨b, off, rfl, hc⟩ := task_at (HR.out.below HB.out) (by omega)
      obtain ⟨B, d, x1, x2, x3, x4, _, _, _, r⟩ := hc k hlt
      have HR2 := Lib.hid r.rd
      have HL := Lib.hid (HIN.out k hlt)
      have HY : Hid (rightT (at_ L k) = true → q + 1 = cnt L (k + 1)) := fun h => by rw [cnt_yes hlt h, ← HQ.out]
      have HN : Hid (rightT (at_ L k) = false → q = cnt L (k + 1)) := fun h => by rw [cnt_no hlt h, ← HQ.out]
      clear hc r
      generalize at_ L k = x at *
      have HE : Hid (rightB x.1 x.2.1 x.2.2.1 x.2.2.2 = rightT x) := rfl
      go_wp2_with fail
      refine (refRight_max x.1 x.2.1 x.2.2.1 B d x.2.2.2 _ HL.out HR2.out).mono ?_
      rintro e w1 ⟨rfl, b1⟩
      have B1 := Lib.hid (below_step HB.out b1)
      clear b1
      rw [HE.out]
      cases ht : rightT x with
      | true =>
        have HC := Lib.hid (HY.out ht)
        clear ht
        go_wp2_with fail
        go_roundw
        case rel => exact ⟨k + 1, q + 1, by go_num, by go_num, hlt, by omega, HC, B1⟩
        case measure => simp [intOf]; omega
      | false =>
        have HC := Lib.hid (HN.out ht)
        clear ht
        go_wp2_with fail
        go_roundw
        case rel => exact ⟨k + 1, q, by go_num, rfl, hlt, by omega, HC, B1⟩
        case measure => simp [intOf]; omega
    · have hkl : k = L.length := by omega
      subst hkl
      have HZ : Hid (allB L = (decide (q = L.length) && decide (q ≤ 8))) := by show _ = _; rw [HA.out, ← HQ.out]
      by_cases h1 : q = L.length
      · by_cases h2 : q ≤ 8
        · have HF : Hid (allB L = true) := by show _ = _; rw [HZ.out]; simp [h1]; omega
          have h3 : ((q : Int) == (L.length : Int)) = true := by simp; omega
          have h4 : (q : Int) ≤ 8 := by omega
          clear h1
          go_wp2_with fail
          go_ret
          exact ⟨ret_bool HF.out.symm, HB.out⟩
        · have HF : Hid (allB L = false) := by show _ = _; rw [HZ.out]; simp; omega
          have h3 : ((q : Int) == (L.length : Int)) = true := by simp; omega
          have h4 : decide ((q : Int) ≤ 8) = false := by simp; omega
          clear h1
          go_wp2_with fail
          go_ret
          exact ⟨ret_bool HF.out.symm, HB.out⟩
      · have HF : Hid (allB L = false) := by show _ = _; rw [HZ.out]; simp [h1]
        have h3 : ((q : Int) == (L.length : Int)) = false := by simp; omega
        go_wp2_with fail
        go_ret
        exact ⟨ret_bool HF.out.symm, HB.out⟩

theorem refAll_any (A : Option Addr) (c : Nat) (L : List Tsk) (w : World) (hbig : L.length ≤ 1000000) (hin : ∀ j, j < L.length → (at_ L j).2.2.2.length ≤ 1000000) (hr : Rd w A c L) :
    Calls Try.prog 15 #[.slice A L.length c] w fun e w' => e = .returned (.bool (allB L)) ∧ Below w.heap.size w w' := refAll_max A c L w hbig (fun j hj => Nat.le_trans (hin j hj) (by decide)) hr

/-- tasks that are more than is looked at -/
def Great (L : List Tsk) : Prop := 20 < L.length ∨ ∃ j, j < L.length ∧ 20 < (at_ L j).2.2.2.length
def greatB (L : List Tsk) : Bool := decide (20 < L.length) || L.any fun t => decide (20 < t.2.2.2.length)
theorem great_no {L : List Tsk} (h : greatB L = false) : L.length ≤ 20 ∧ ∀ j, j < L.length → (at_ L j).2.2.2.length ≤ 20 := by
  unfold greatB at h
  rw [Bool.or_eq_false_iff, decide_eq_false_iff_not, List.any_eq_false] at h
  refine ⟨by omega, fun j hj => ?_⟩
  have := h.2 _ (at_mem hj)
  simpa using this
set_option maxHeartbeats 800000 in
theorem great_any (A : Option Addr) (c : Nat) (L : List Tsk) (w : World) (hr : Rd w A c L) :
    Calls Try.prog 7 #[.slice A L.length c] w fun e w' => e = .returned (.bool (greatB L)) ∧ Below w.heap.size w w' := by
  have hbig := Nat.le_trans hr.le hr.max
  unfold maxLen at hbig
  have HR := Lib.hid hr
  clear hr
  go_enter Try.func7, Try.ntmps7
  go_wp2_with fail
  go_loopw [3] (fun i wr => ∃ k : Nat, i = .int .i64 k ∧ k ≤ L.length ∧ Hid (∀ j, j < k → (at_ L j).2.2.2.length ≤ 20) ∧ Hid (Below w.heap.size w wr)) (fun i _ => L.length - (intOf i).toNat)
  case atStart => exact ⟨0, rfl, Nat.zero_le _, (fun j h => by omega), Below.refl _ _⟩
  case round =>
    obtain ⟨k, rfl, hk, HH, HB⟩ := hrel
    by_cases hlt : k < L.length
    · obtain ⟨b, off, rfl, hc⟩ := task_at (HR.out.below HB.out) (by omega)
      obtain ⟨B, d, x1, x2, x3, x4, _, _, _, r⟩ := hc k hlt
      have hxl := Nat.le_trans r.le r.max
      unfold maxLen at hxl
      clear hc r x1 x2 x3
      by_cases h20 : 20 < (at_ L k).2.2.2.length
      · have HF : Hid (greatB L = true) := by
          show _ = _
          unfold greatB
          rw [Bool.or_eq_true, List.any_eq_true]
          exact .inr ⟨_, at_mem hlt, by simpa using h20⟩
        have h21 : (20 : Int) < ((at_ L k).2.2.2.length : Int) := by omega
        generalize (at_ L k).2.2.2.length = n at *
        go_wp2_with fail
        go_ret
        exact ⟨ret_bool HF.out.symm, HB.out⟩
      · have HH2 : Hid ((at_ L k).2.2.2.length ≤ 20) := by show _ ≤ _; omega
        have h21 : decide ((20 : Int) < ((at_ L k).2.2.2.length : Int)) = false := by simp; omega
        generalize hn : (at_ L k).2.2.2.length = n at *
        have HN := Lib.hid hn
        clear hn
        go_wp2_with fail
        go_roundw
        case rel =>
          refine ⟨k + 1, by go_num, hlt, fun j hj => ?_, HB⟩
          by_cases e : j = k
          · subst e; rw [HN.out]; exact HH2.out
          · exact HH.out j (by omega)
        case measure => simp [intOf]; omega
    · have HF : Hid (greatB L = decide (20 < L.length)) := by
        show _ = _
        unfold greatB
        have : L.any (fun t => decide (20 < t.2.2.2.length)) = false := by
          rw [List.any_eq_false]
          intro x hx
          obtain ⟨j, hj, rfl⟩ := mem_at hx
          have := HH.out j (by omega)
          simpa using this
        rw [this, Bool.or_false]
      by_cases h20 : 20 < L.length
      · have h21 : (20 : Int) < (L.length : Int) := by omega
        go_wp2_with fail
        go_ret
        exact ⟨ret_bool (by rw [HF.out]; simp [h20]), HB.out⟩
      · have h21 : decide ((20 : Int) < (L.length : Int)) = false := by simp; omega
        go_wp2_with fail
        go_ret
        exact ⟨ret_bool (by rw [HF.out]; simp [h20]), HB.out⟩

end Tk
end Go.Proofs.Ytfhifmpkdnnpmaa

