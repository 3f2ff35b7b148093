/-
  Merged texts: Law05Args, Law05Refs, Law05Same.
-/
import Derived.Test.YtdjjdebnbaaihaaGmem
import Derived.Test.YtdjjdebnbaaihaaGtask
import Derived.Test.YtdjjdebnbaaihaaOLaw05Right
/-
  Layer 5: the arguments of the statements, opened: a slice of tasks, a task, an int, a byte.
-/
namespace Go.Proofs.Ytdjjdebnbaaihaa
open Go.ChangeShapes Go.WideShapes Go.ChangeAt Go.RowKit Go.Deep Go.Joins Mm
namespace Tk

theorem opInt : Opens Try.prog 3 Int := opens_int Try.underlying3 (by kernel_rfl)
theorem opSec : Opens Try.prog 80 Sc := opens_struct Try.underlying80 (by kernel_rfl) (fieldsOpen_cons rfl opInt (fieldsOpen_cons rfl opInt (fieldsOpen_one rfl opInt)))
theorem opSecs : Opens Try.prog 31 (List Sc) := opens_slice Try.underlying31 (by kernel_rfl) opSec
theorem opTask : Opens Try.prog 33 Tsk := opens_struct Try.underlying33 (by kernel_rfl) (fieldsOpen_cons rfl opInt (fieldsOpen_cons rfl opInt (fieldsOpen_cons rfl opInt (fieldsOpen_one rfl opSecs))))
theorem opTasks : Opens Try.prog 22 (List Tsk) := opens_slice Try.underlying22 (by kernel_rfl) opTask

section
variable {H : Type} {enc : TypeId × Value → H} {w : World} {base : Nat} {spare : Nat → Bool} {held : Bool}
set_option maxRecDepth 20000 in
theorem open_task {r : Reach} {b0 : Nat} {v : Value} {d : DataW H} {ps : List MemPlace} (hv : Value.okWide Try.prog w r b0 33 v) (h : DataW.Trod enc Try.prog w base spare held 33 v d ps) :
    ∃ (A : Option Addr) (c : Nat) (x : Tsk), v = .agg #[.int .i64 x.1, .int .i64 x.2.1, .int .i64 x.2.2.1, .slice A x.2.2.2.length c] ∧ Fit x.1 ∧ Fit x.2.1 ∧ Fit x.2.2.1 ∧ Rd w A c x.2.2.2 := by
  obtain ⟨cs, x, rfl, hx⟩ := open_strct (α := Tsk) Try.underlying33 opTask hv h
  obtain ⟨B, d, rfl, f1, f2, f3, hr⟩ := rd_task.1 hx
  exact ⟨B, d, x, rfl, f1, f2, f3, hr⟩
end

end Tk
end Go.Proofs.Ytdjjdebnbaaihaa

/-
  Layer 5: the document's answers All, Same; the helper Great.
-/
namespace Go.Proofs.Ytdjjdebnbaaihaa
open Go.RowKit Mm
namespace Tk

/-- how many of the first tasks are right -/
def cnt (L : List Tsk) (k : Nat) : Nat := ((L.take k).filter rightT).length
theorem cnt_yes {L : List Tsk} {k : Nat} (h : k < L.length) (hr : rightT (at_ L k) = true) : cnt L (k + 1) = cnt L k + 1 := by
  unfold cnt
  rw [take_succ_at h, List.filter_append, List.length_append]
  simp [hr]
theorem cnt_no {L : List Tsk} {k : Nat} (h : k < L.length) (hr : rightT (at_ L k) = false) : cnt L (k + 1) = cnt L k := by
  unfold cnt
  rw [take_succ_at h, List.filter_append, List.length_append]
  simp [hr]
theorem cnt_le (L : List Tsk) (k : Nat) : cnt L k ≤ k := by
  unfold cnt
  exact Nat.le_trans (List.length_filter_le _ _) (by simp; omega)
theorem cnt_all (L : List Tsk) : allB L = (decide (cnt L L.length = L.length) && decide (cnt L L.length ≤ 8)) := by
  unfold cnt allB
  rw [List.take_length, Bool.eq_iff_iff]
  simp only [Bool.and_eq_true, decide_eq_true_eq, List.all_eq_true]
  have hl := List.length_filter_le rightT L
  constructor
  · rintro ⟨h1, h2⟩
    rw [List.filter_eq_self.2 h2]
    exact ⟨rfl, h1⟩
  · rintro ⟨h1, h2⟩
    exact ⟨by omega, List.filter_eq_self.1 (List.filter_sublist.eq_of_length h1)⟩

set_option maxHeartbeats 800000 in
theorem refAll_max (A : Option Addr) (c : Nat) (L : List Tsk) (w : World) (hbig : L.length ≤ 1000000) (hin : ∀ j, j < L.length → (at_ L j).2.2.2.length ≤ 9223372036854775807) (hr : Rd w A c L) :
    Calls Try.prog 43 #[.slice A L.length c] w fun e w' => e = .returned (.bool (allB L)) ∧ Below w.heap.size w w' := by
  have HR := Lib.hid hr
  have HIN := Lib.hid hin
  clear hr hin
  have HA := Lib.hid (cnt_all L)
  go_enter Try.func43, Try.ntmps43
  go_wp2_with fail
  go_loopw [3, 4] (fun n i wr => ∃ k q : Nat, i = .int .i64 k ∧ n = .int .i64 q ∧ k ≤ L.length ∧ q ≤ k ∧ Hid (q = cnt L k) ∧ Hid (Below w.heap.size w wr)) (fun _ i _ => L.length - (intOf i).toNat)
  case atStart => exact ⟨0, 0, rfl, rfl, Nat.zero_le _, Nat.le_refl _, rfl, Below.refl _ _⟩
  case round =>
    obtain ⟨k, q, rfl, rfl, hk, hqk, HQ, HB⟩ := hrel
    by_cases hlt : k < L.length
    · obtain ⟨b, off, rfl, hc⟩ := task_at (HR.out.below HB.out) (by omega)
      obtain ⟨B, d, x1, x2, x3, x4, _, _, _, r⟩ := hc k hlt
      have HR2 := Lib.hid r.rd
      have HL := Lib.hid (HIN.out k hlt)
      have HY : Hid (rightT (at_ L k) = true → q + 1 = cnt L (k + 1)) := fun h => by rw [cnt_yes hlt h, ← HQ.out]
      have HN : Hid (rightT (at_ L k) = false → q = cnt L (k + 1)) := fun h => by rw [cnt_no hlt h, ← HQ.out]
      clear hc r
      generalize at_ L k = x at *
      have HE : Hid (rightB x.1 x.2.1 x.2.2.1 x.2.2.2 = rightT x) := rfl
      go_wp2_with fail
      refine (refRight_max x.1 x.2.1 x.2.2.1 B d x.2.2.2 _ HL.out HR2.out).mono ?_
      rintro e w1 ⟨rfl, b1⟩
      have B1 := Lib.hid (below_step HB.out b1)
      clear b1
      rw [HE.out]
      cases ht : rightT x with
      | true =>
        have HC := Lib.hid (HY.out ht)
        clear ht
        go_wp2_with fail
        go_roundw
        case rel => exact ⟨k + 1, q + 1, by go_num, by go_num, hlt, by omega, HC, B1⟩
        case measure => simp [intOf]; omega
      | false =>
        have HC := Lib.hid (HN.out ht)
        clear ht
        go_wp2_with fail
        go_roundw
        case rel => exact ⟨k + 1, q, by go_num, rfl, hlt, by omega, HC, B1⟩
        case measure => simp [intOf]; omega
    · have hkl : k = L.length := by omega
      subst hkl
      have HZ : Hid (allB L = (decide (q = L.length) && decide (q ≤ 8))) := by show _ = _; rw [HA.out, ← HQ.out]
      by_cases h1 : q = L.length
      · by_cases h2 : q ≤ 8
        · have HF : Hid (allB L = true) := by show _ = _; rw [HZ.out]; simp [h1]; omega
          have h3 : ((q : Int) == (L.length : Int)) = true := by simp; omega
          have h4 : (q : Int) ≤ 8 := by omega
          clear h1
          go_wp2_with fail
          go_ret
          exact ⟨ret_bool HF.out.symm, HB.out⟩
        · have HF : Hid (allB L = false) := by show _ = _; rw [HZ.out]; simp; omega
          have h3 : ((q : Int) == (L.length : Int)) = true := by simp; omega
          have h4 : decide ((q : Int) ≤ 8) = false := by simp; omega
          clear h1
          go_wp2_with fail
          go_ret
          exact ⟨ret_bool HF.out.symm, HB.out⟩
      · have HF : Hid (allB L = false) := by show _ = _; rw [HZ.out]; simp [h1]
        have h3 : ((q : Int) == (L.length : Int)) = false := by simp; omega
        go_wp2_with fail
        go_ret
        exact ⟨ret_bool HF.out.symm, HB.out⟩

theorem refAll_any (A : Option Addr) (c : Nat) (L : List Tsk) (w : World) (hbig : L.length ≤ 1000000) (hin : ∀ j, j < L.length → (at_ L j).2.2.2.length ≤ 1000000) (hr : Rd w A c L) :
    Calls Try.prog 43 #[.slice A L.length c] w fun e w' => e = .returned (.bool (allB L)) ∧ Below w.heap.size w w' := refAll_max A c L w hbig (fun j hj => Nat.le_trans (hin j hj) (by decide)) hr

/-- tasks that are more than is looked at -/
def Great (L : List Tsk) : Prop := 20 < L.length ∨ ∃ j, j < L.length ∧ 20 < (at_ L j).2.2.2.length
def greatB (L : List Tsk) : Bool := decide (20 < L.length) || L.any fun t => decide (20 < t.2.2.2.length)
theorem great_no {L : List Tsk} (h : greatB L = false) : L.length ≤ 20 ∧ ∀ j, j < L.length → (at_ L j).2.2.2.length ≤ 20 := by
  unfold greatB at h
  rw [Bool.or_eq_false_iff, decide_eq_false_iff_not, List.any_eq_false] at h
  refine ⟨by omega, fun j hj => ?_⟩
  have := h.2 _ (at_mem hj)
  simpa using this
set_option maxHeartbeats 800000 in
theorem great_any (A : Option Addr) (c : Nat) (L : List Tsk) (w : World) (hr : Rd w A c L) :
    Calls Try.prog 12 #[.slice A L.length c] w fun e w' => e = .returned (.bool (greatB L)) ∧ Below w.heap.size w w' := by
  have hbig := Nat.le_trans hr.le hr.max
  unfold maxLen at hbig
  have HR := Lib.hid hr
  clear hr
  go_enter Try.func12, Try.ntmps12
  go_wp2_with fail
  go_loopw [3] (fun i wr => ∃ k : Nat, i = .int .i64 k ∧ k ≤ L.length ∧ Hid (∀ j, j < k → (at_ L j).2.2.2.length ≤ 20) ∧ Hid (Below w.heap.size w wr)) (fun i _ => L.length - (intOf i).toNat)
  case atStart => exact ⟨0, rfl, Nat.zero_le _, (fun j h => by omega), Below.refl _ _⟩
  case round =>
    obtain ⟨k, rfl, hk, HH, HB⟩ := hrel
    by_cases hlt : k < L.length
    · obtain ⟨b, off, rfl, hc⟩ := task_at (HR.out.below HB.out) (by omega)
      obtain ⟨B, d, x1, x2, x3, x4, _, _, _, r⟩ := hc k hlt
      have hxl := Nat.le_trans r.le r.max
      unfold maxLen at hxl
      clear hc r x1 x2 x3
      by_cases h20 : 20 < (at_ L k).2.2.2.length
      · have HF : Hid (greatB L = true) := by
          show _ = _
          unfold greatB
          rw [Bool.or_eq_true, List.any_eq_true]
          exact .inr ⟨_, at_mem hlt, by simpa using h20⟩
        have h21 : (20 : Int) < ((at_ L k).2.2.2.length : Int) := by omega
        generalize (at_ L k).2.2.2.length = n at *
        go_wp2_with fail
        go_ret
        exact ⟨ret_bool HF.out.symm, HB.out⟩
      · have HH2 : Hid ((at_ L k).2.2.2.length ≤ 20) := by show _ ≤ _; omega
        have h21 : decide ((20 : Int) < ((at_ L k).2.2.2.length : Int)) = false := by simp; omega
        generalize hn : (at_ L k).2.2.2.length = n at *
        have HN := Lib.hid hn
        clear hn
        go_wp2_with fail
        go_roundw
        case rel =>
          refine ⟨k + 1, by go_num, hlt, fun j hj => ?_, HB⟩
          by_cases e : j = k
          · subst e; rw [HN.out]; exact HH2.out
          · exact HH.out j (by omega)
        case measure => simp [intOf]; omega
    · have HF : Hid (greatB L = decide (20 < L.length)) := by
        show _ = _
        unfold greatB
        have : L.any (fun t => decide (20 < t.2.2.2.length)) = false := by
          rw [List.any_eq_false]
          intro x hx
          obtain ⟨j, hj, rfl⟩ := mem_at hx
          have := HH.out j (by omega)
          simpa using this
        rw [this, Bool.or_false]
      by_cases h20 : 20 < L.length
      · have h21 : (20 : Int) < (L.length : Int) := by omega
        go_wp2_with fail
        go_ret
        exact ⟨ret_bool (by rw [HF.out]; simp [h20]), HB.out⟩
      · have h21 : decide ((20 : Int) < (L.length : Int)) = false := by simp; omega
        go_wp2_with fail
        go_ret
        exact ⟨ret_bool (by rw [HF.out]; simp [h20]), HB.out⟩

end Tk
end Go.Proofs.Ytdjjdebnbaaihaa

/-
  Layer 5: the document's answer Same.
-/
namespace Go.Proofs.Ytdjjdebnbaaihaa
open Go.RowKit Mm
namespace Tk
attribute [local go_sem ↓] neqSec

theorem same_sec {a b : Tsk} {j : Nat} (hj : j < a.2.2.2.length) (h : at_ a.2.2.2 j ≠ at_ b.2.2.2 j) : sameB a b = false := by
  rw [same_parts, sec_one hj h]; simp

set_option maxRecDepth 100000 in
set_option maxHeartbeats 1600000 in
theorem refSame_any (A B : Option Addr) (c d : Nat) (a b : Tsk) (w : World) (hbig : a.2.2.2.length ≤ 1000000) (hb : b.2.2.2.length ≤ 1000000) (hr : Rd w A c a.2.2.2) (hs : Rd w B d b.2.2.2) :
    Calls Try.prog 31 #[.agg #[.int .i64 a.1, .int .i64 a.2.1, .int .i64 a.2.2.1, .slice A a.2.2.2.length c], .agg #[.int .i64 b.1, .int .i64 b.2.1, .int .i64 b.2.2.1, .slice B b.2.2.2.length d]] w fun e w' => e = .returned (.bool (sameB a b)) ∧ Below w.heap.size w w' := by
  obtain ⟨s1, s2, s3, s4⟩ := (box_new w a.1 a.2.1 a.2.2.1 A a.2.2.2.length c).below (below_one _ (Obj.cells #[.int .i64 b.1, .int .i64 b.2.1, .int .i64 b.2.2.1, .slice B b.2.2.2.length d] 33))
  obtain ⟨t1, t2, t3, t4⟩ := box_at (w.alloc (Obj.cells #[.int .i64 a.1, .int .i64 a.2.1, .int .i64 a.2.2.1, .slice A a.2.2.2.length c] 33)) b.1 b.2.1 b.2.2.1 B b.2.2.2.length d (w.heap.size + 1) (by simp)
  have b0 := below_two w (Obj.cells #[.int .i64 a.1, .int .i64 a.2.1, .int .i64 a.2.2.1, .slice A a.2.2.2.length c] 33) (Obj.cells #[.int .i64 b.1, .int .i64 b.2.1, .int .i64 b.2.2.1, .slice B b.2.2.2.length d] 33)
  have HP := Lib.hid (same_parts (a := a) (b := b))
  go_enter Try.func31, Try.ntmps31
  go_wp2_with fail
  have HR := Lib.hid hr
  have HS := Lib.hid hs
  have B0 := Lib.hid b0
  clear hr hs b0
  generalize (w.alloc (Obj.cells #[.int .i64 a.1, .int .i64 a.2.1, .int .i64 a.2.2.1, .slice A a.2.2.2.length c] 33)).alloc (Obj.cells #[.int .i64 b.1, .int .i64 b.2.1, .int .i64 b.2.2.1, .slice B b.2.2.2.length d] 33) = w0 at *
  go_loopw [5] (fun i wr => ∃ k : Nat, i = .int .i64 k ∧ k ≤ a.2.2.2.length ∧ k ≤ b.2.2.2.length ∧ Hid (∀ j, j < k → at_ a.2.2.2 j = at_ b.2.2.2 j) ∧ Hid (Below w0.heap.size w0 wr)) (fun i _ => a.2.2.2.length - (intOf i).toNat)
  case atStart => exact ⟨0, rfl, Nat.zero_le _, Nat.zero_le _, (fun j h => by omega), Below.refl _ _⟩
  case round =>
    obtain ⟨k, rfl, hk, hk2, HH, HB⟩ := hrel
    have HB2 := Lib.hid (below_step B0.out HB.out)
    have s1 := cell_below HB.out s1
    have s2 := cell_below HB.out s2
    have s3 := cell_below HB.out s3
    have s4 := cell_below HB.out s4
    have t1 := cell_below HB.out t1
    have t2 := cell_below HB.out t2
    have t3 := cell_below HB.out t3
    have t4 := cell_below HB.out t4
    by_cases hlt : k < a.2.2.2.length
    · by_cases hlt2 : k < b.2.2.2.length
      · obtain ⟨ba, offa, rfl, hc⟩ := sec_at (HR.out.below HB2.out) (by omega)
        obtain ⟨x1, x2, x3, _, _, _⟩ := hc k hlt
        clear hc
        obtain ⟨bb, offb, rfl, hc⟩ := sec_at (HS.out.below HB2.out) (by omega)
        obtain ⟨y1, y2, y3, _, _, _⟩ := hc k hlt2
        clear hc
        have HN : Hid (at_ a.2.2.2 k ≠ at_ b.2.2.2 k → sameB a b = false) := fun h => same_sec hlt h
        have i1 : (0 : Int) ≤ (k : Int) := by omega
        have i2 : (k : Int) < (a.2.2.2.length : Int) := by omega
        have i3 : (k : Int) < (b.2.2.2.length : Int) := by omega
        by_cases he : at_ a.2.2.2 k = at_ b.2.2.2 k
        · rw [← he] at y1 y2 y3
          have HE := Lib.hid he
          clear he
          go_wp2_with fail
          generalize at_ a.2.2.2 k = x at x1 x2 x3 y1 y2 y3
          replace x1 := cell_bw x1
          replace x2 := cell_bw x2
          replace x3 := cell_bw x3
          replace y1 := cell_bw y1
          replace y2 := cell_bw y2
          replace y3 := cell_bw y3
          replace s4 := cell_bw s4
          replace t4 := cell_bw t4
          refine wp_region_bw (by kernel_rfl) (by kernel_rfl) ?_
          repeat
            (with_reducible refine wpQuiet_step (fun K hK => ?_)
             go_simp
             first
               | (with_reducible refine hK _ ?_
                  clear hK K)
               | (rw [if_neg]
                  rotate_left
                  focus (intro h; cases h; done)
                  with_reducible refine hK _ ?_
                  clear hK K)
               | (apply Exists.intro
                  refine ⟨fun _ => ?_, hK _ ?_⟩
                  (fail)
                  clear hK K))
          with_reducible refine wpQuiet_nil ?_
          intro wb hw'
          obtain ⟨⟨wb', lb⟩, hw''⟩ := hw'
          subst hw''
          go_wp2_with fail
          go_roundw
          case rel =>
            refine ⟨k + 1, by go_num, hlt, hlt2, fun j hj => ?_, below_step HB.out lb⟩
            by_cases e : j = k
            · subst e; exact HE.out
            · exact HH.out j (by omega)
          case measure => simp [intOf]; omega
        · have HF := Lib.hid (HN.out he)
          have hq := ne_parts he
          clear he
          go_wp2_with fail
          generalize at_ a.2.2.2 k = x at *
          generalize at_ b.2.2.2 k = y at *
          replace x1 := cell_bw x1
          replace x2 := cell_bw x2
          replace x3 := cell_bw x3
          replace y1 := cell_bw y1
          replace y2 := cell_bw y2
          replace y3 := cell_bw y3
          replace s4 := cell_bw s4
          replace t4 := cell_bw t4
          refine wp_region_bw (by kernel_rfl) (by kernel_rfl) ?_
          repeat
            (with_reducible refine wpQuiet_step (fun K hK => ?_)
             go_simp
             first
               | (with_reducible refine hK _ ?_
                  clear hK K)
               | (rw [if_neg]
                  rotate_left
                  focus (intro h; cases h; done)
                  with_reducible refine hK _ ?_
                  clear hK K)
               | (apply Exists.intro
                  refine ⟨fun _ => ?_, hK _ ?_⟩
                  (fail)
                  clear hK K))
          with_reducible refine wpQuiet_nil ?_
          intro wb hw'
          obtain ⟨⟨wb', lb⟩, hw''⟩ := hw'
          subst hw''
          go_wp2_with fail
          go_ret
          exact ⟨ret_bool HF.out.symm, below_step HB2.out lb⟩
      · have HL : Hid (a.2.2.2.length ≠ b.2.2.2.length) := by show _ ≠ _; omega
        have HF : Hid (sameB a b = false) := by
          show _ = _
          rw [HP.out]
          have : decide (a.2.2.2 = b.2.2.2) = false := decide_eq_false fun h => HL.out (by rw [h])
          rw [this]; simp
        have h5 : ((a.2.2.2.length : Int) == (b.2.2.2.length : Int)) = false := by simp; exact_mod_cast HL.out
        have i2 : (k : Int) < (a.2.2.2.length : Int) := by omega
        have i3 : ¬ (k : Int) < (b.2.2.2.length : Int) := by omega
        go_wp2
        all_goals (go_ret; exact ⟨ret_bool HF.out.symm, HB2.out⟩)
    · have i3 : ¬ (k : Int) < (a.2.2.2.length : Int) := by omega
      have hka : k = a.2.2.2.length := by omega
      by_cases h4 : a.2.2.2.length = b.2.2.2.length
      · have HF : Hid (sameB a b = (decide (a.1 = b.1) && (decide (a.2.1 = b.2.1) && decide (a.2.2.1 = b.2.2.1)))) := by
          show _ = _
          rw [HP.out]
          have : decide (a.2.2.2 = b.2.2.2) = true := decide_eq_true (at_eq_of h4 fun i hi => HH.out i (by omega))
          rw [this]; simp
        have h5 : ((a.2.2.2.length : Int) == (b.2.2.2.length : Int)) = true := by simp; exact_mod_cast h4
        clear h4 hka
        go_wp2
        all_goals (go_ret; exact ⟨ret_bool (by rw [HF.out]; simp_all), HB2.out⟩)
      · have HF : Hid (sameB a b = false) := by
          show _ = _
          rw [HP.out]
          have : decide (a.2.2.2 = b.2.2.2) = false := decide_eq_false fun h => h4 (by rw [h])
          rw [this]; simp
        have h5 : ((a.2.2.2.length : Int) == (b.2.2.2.length : Int)) = false := by simp; exact_mod_cast h4
        clear h4 hka
        go_wp2
        all_goals (go_ret; exact ⟨ret_bool HF.out.symm, HB2.out⟩)

end Tk
end Go.Proofs.Ytdjjdebnbaaihaa

