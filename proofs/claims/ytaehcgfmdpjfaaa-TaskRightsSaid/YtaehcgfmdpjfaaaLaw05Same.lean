/-
  Layer 5: the document's answer Same.
-/
import Derived.Test.YtaehcgfmdpjfaaaLaw05Refs
namespace Go.Proofs.Ytaehcgfmdpjfaaa
open Go.RowKit Mm
namespace Tk
attribute [local go_sem ↓] neqSec

theorem same_sec {a b : Tsk} {j : Nat} (hj : j < a.2.2.2.length) (h : at_ a.2.2.2 j ≠ at_ b.2.2.2 j) : sameB a b = false := by
  rw [same_parts, sec_one hj h]; simp

set_option maxRecDepth 100000 in
set_option maxHeartbeats 1600000 in
theorem refSame_any (A B : Option Addr) (c d : Nat) (a b : Tsk) (w : World) (hbig : a.2.2.2.length ≤ 1000000) (hb : b.2.2.2.length ≤ 1000000) (hr : Rd w A c a.2.2.2) (hs : Rd w B d b.2.2.2) :
    Calls Try.prog 13 #[.agg #[.int .i64 a.1, .int .i64 a.2.1, .int .i64 a.2.2.1, .slice A a.2.2.2.length c], .agg #[.int .i64 b.1, .int .i64 b.2.1, .int .i64 b.2.2.1, .slice B b.2.2.2.length d]] w fun e w' => e = .returned (.bool (sameB a b)) ∧ Below w.heap.size w w' := by
  obtain ⟨s1, s2, s3, s4⟩ := (box_new w a.1 a.2.1 a.2.2.1 A a.2.2.2.length c).below (below_one _ (Obj.cells #[.int .i64 b.1, .int .i64 b.2.1, .int .i64 b.2.2.1, .slice B b.2.2.2.length d] 27))
  obtain ⟨t1, t2, t3, t4⟩ := box_at (w.alloc (Obj.cells #[.int .i64 a.1, .int .i64 a.2.1, .int .i64 a.2.2.1, .slice A a.2.2.2.length c] 27)) b.1 b.2.1 b.2.2.1 B b.2.2.2.length d (w.heap.size + 1) (by simp)
  have b0 := below_two w (Obj.cells #[.int .i64 a.1, .int .i64 a.2.1, .int .i64 a.2.2.1, .slice A a.2.2.2.length c] 27) (Obj.cells #[.int .i64 b.1, .int .i64 b.2.1, .int .i64 b.2.2.1, .slice B b.2.2.2.length d] 27)
  have HP := Lib.hid (same_parts (a := a) (b := b))
  go_enter Try.func13, Try.ntmps13
  go_wp2_with fail
  have HR := Lib.hid hr
  have HS := Lib.hid hs
  have B0 := Lib.hid b0
  clear hr hs b0
  generalize (w.alloc (Obj.cells #[.int .i64 a.1, .int .i64 a.2.1, .int .i64 a.2.2.1, .slice A a.2.2.2.length c] 27)).alloc (Obj.cells #[.int .i64 b.1, .int .i64 b.2.1, .int .i64 b.2.2.1, .slice B b.2.2.2.length d] 27) = w0 at *
  go_loopw [5] (fun i wr => ∃ k : Nat, i = .int .i64 k ∧ k ≤ a.2.2.2.length ∧ k ≤ b.2.2.2.length ∧ Hid (∀ j, j < k → at_ a.2.2.2 j = at_ b.2.2.2 j) ∧ Hid (Below w0.heap.size w0 wr)) (fun i _ => a.2.2.2.length - (intOf i).toNat)
  case atStart => exact ⟨0, rfl, Nat.zero_le _, Nat.zero_le _, (fun j h => by omega), Below.refl _ _⟩
  case round =>
    obtain ⟨k, rfl, hk, hk2, HH, HB⟩ := hrel
    have HB2 := Lib.hid (below_step B0.out HB.out)
    have s1 := cell_below HB.out s1
    have s2 := cell_below HB.out s2
    have s3 := cell_below HB.out s3
    have s4 := cell_below HB.out s4
    have t1 := cell_below HB.out t1
    have t2 := cell_below HB.out t2
    have t3 := cell_below HB.out t3
    have t4 := cell_below HB.out t4
    by_cases hlt : k < a.2.2.2.length
    · by_cases hlt2 : k < b.2.2.2.length
      · obtain ⟨ba, offa, rfl, hc⟩ := sec_at (HR.out.below HB2.out) (by omega)
        obtain ⟨x1, x2, x3, _, _, _⟩ := hc k hlt
        clear hc
        obtain ⟨bb, offb, rfl, hc⟩ := sec_at (HS.out.below HB2.out) (by omega)
        obtain ⟨y1, y2, y3, _, _, _⟩ := hc k hlt2
        clear hc
        have HN : Hid (at_ a.2.2.2 k ≠ at_ b.2.2.2 k → sameB a b = false) := fun h => same_sec hlt h
        have i1 : (0 : Int) ≤ (k : Int) := by omega
        have i2 : (k : Int) < (a.2.2.2.length : Int) := by omega
        have i3 : (k : Int) < (b.2.2.2.length : Int) := by omega
        by_cases he : at_ a.2.2.2 k = at_ b.2.2.2 k
        · rw [← he] at y1 y2 y3
          have HE := Lib.hid he
          clear he
          go_wp2_with fail
          generalize at_ a.2.2.2 k = x at x1 x2 x3 y1 y2 y3
          replace x1 := cell_bw x1
          replace x2 := cell_bw x2
          replace x3 := cell_bw x3
          replace y1 := cell_bw y1
          replace y2 := cell_bw y2
          replace y3 := cell_bw y3
          replace s4 := cell_bw s4
          replace t4 := cell_bw t4
          refine wp_region_bw (by kernel_rfl) (by kernel_rfl) ?_
          repeat
            (with_reducible refine wpQuiet_step (fun K hK => ?_)
             go_simp
             first
               | (with_reducible refine hK _ ?_
                  clear hK K)
               | (rw [if_neg]
                  rotate_left
                  focus (intro h; cases h; done)
                  with_reducible refine hK _ ?_
                  clear hK K)
               | (apply Exists.intro
                  refine ⟨fun _ => ?_, hK _ ?_⟩
                  (fail)
                  clear hK K))
          with_reducible refine wpQuiet_nil ?_
          intro wb hw'
          obtain ⟨⟨wb', lb⟩, hw''⟩ := hw'
          subst hw''
          go_wp2_with fail
          go_roundw
          case rel =>
            refine ⟨k + 1, by go_num, hlt, hlt2, fun j hj => ?_, below_step HB.out lb⟩
            by_cases e : j = k
            · subst e; exact HE.out
            · exact HH.out j (by omega)
          case measure => simp [intOf]; omega
        · have HF := Lib.hid (HN.out he)
          have hq := ne_parts he
          clear he
          go_wp2_with fail
          generalize at_ a.2.2.2 k = x at *
          generalize at_ b.2.2.2 k = y at *
          replace x1 := cell_bw x1
          replace x2 := cell_bw x2
          replace x3 := cell_bw x3
          replace y1 := cell_bw y1
          replace y2 := cell_bw y2
          replace y3 := cell_bw y3
          replace s4 := cell_bw s4
          replace t4 := cell_bw t4
          refine wp_region_bw (by kernel_rfl) (by kernel_rfl) ?_
          repeat
            (with_reducible refine wpQuiet_step (fun K hK => ?_)
             go_simp
             first
               | (with_reducible refine hK _ ?_
                  clear hK K)
               | (rw [if_neg]
                  rotate_left
                  focus (intro h; cases h; done)
                  with_reducible refine hK _ ?_
                  clear hK K)
               | (apply Exists.intro
                  refine ⟨fun _ => ?_, hK _ ?_⟩
                  (fail)
                  clear hK K))
          with_reducible refine wpQuiet_nil ?_
          intro wb hw'
          obtain ⟨⟨wb', lb⟩, hw''⟩ := hw'
          subst hw''
          go_wp2_with fail
          go_ret
          exact ⟨ret_bool HF.out.symm, below_step HB2.out lb⟩
      · have HL : Hid (a.2.2.2.length ≠ b.2.2.2.length) := by show _ ≠ _; omega
        have HF : Hid (sameB a b = false) := by
          show _ = _
          rw [HP.out]
          have : decide (a.2.2.2 = b.2.2.2) = false := decide_eq_false fun h => HL.out (by rw [h])
          rw [this]; simp
        have h5 : ((a.2.2.2.length : Int) == (b.2.2.2.length : Int)) = false := by simp; exact_mod_cast HL.out
        have i2 : (k : Int) < (a.2.2.2.length : Int) := by omega
        have i3 : ¬ (k : Int) < (b.2.2.2.length : Int) := by omega
        go_wp2
        all_goals (go_ret; exact ⟨ret_bool HF.out.symm, HB2.out⟩)
    · have i3 : ¬ (k : Int) < (a.2.2.2.length : Int) := by omega
      have hka : k = a.2.2.2.length := by omega
      by_cases h4 : a.2.2.2.length = b.2.2.2.length
      · have HF : Hid (sameB a b = (decide (a.1 = b.1) && (decide (a.2.1 = b.2.1) && decide (a.2.2.1 = b.2.2.1)))) := by
          show _ = _
          rw [HP.out]
          have : decide (a.2.2.2 = b.2.2.2) = true := decide_eq_true (at_eq_of h4 fun i hi => HH.out i (by omega))
          rw [this]; simp
        have h5 : ((a.2.2.2.length : Int) == (b.2.2.2.length : Int)) = true := by simp; exact_mod_cast h4
        clear h4 hka
        go_wp2
        all_goals (go_ret; exact ⟨ret_bool (by rw [HF.out]; simp_all), HB2.out⟩)
      · have HF : Hid (sameB a b = false) := by
          show _ = _
          rw [HP.out]
          have : decide (a.2.2.2 = b.2.2.2) = false := decide_eq_false fun h => h4 (by rw [h])
          rw [this]; simp
        have h5 : ((a.2.2.2.length : Int) == (b.2.2.2.length : Int)) = false := by simp; exact_mod_cast h4
        clear h4 hka
        go_wp2
        all_goals (go_ret; exact ⟨ret_bool HF.out.symm, HB2.out⟩)

end Tk
end Go.Proofs.Ytaehcgfmdpjfaaa
