/-
  Layer 5 (task): the library's Equal at sections; Same.
-/
import Derived.Test.YtaehcgfmdpjfaaaTaskMem
import Derived.Test.YtaehcgfmdpjfaaaMemEq
namespace Go.Proofs.Ytaehcgfmdpjfaaa
open Go.RowKit Mm
namespace Tk

theorem sec_ext {x y : Sc} (h1 : x.1 = y.1) (h2 : x.2.1 = y.2.1) (h3 : x.2.2 = y.2.2) : x = y := by
  obtain ⟨a, b, c⟩ := x
  obtain ⟨d, e, f⟩ := y
  simp only at h1 h2 h3
  rw [h1, h2, h3]
theorem sec_one {a b : List Sc} {j : Nat} (_hj : j < a.length) (h : at_ a j ≠ at_ b j) : decide (a = b) = false := by
  rw [decide_eq_false_iff_not]
  rintro rfl
  exact h rfl

theorem neqSec (a b c d e f : Int) (w : World) : (binOp .neq 35 (.agg #[.int .i64 a, .int .i64 b, .int .i64 c]) (.agg #[.int .i64 d, .int .i64 e, .int .i64 f])).run Try.prog w = .ok (.bool (!decide ([a, b, c] = [d, e, f]))) w :=
  run_neq_ints 3 Try.underlying3 (by kernel_rfl) (by kernel_rfl) (by kernel_rfl) w [a, b, c] [d, e, f] rfl rfl
attribute [local go_sem ↓] neqSec
theorem ne_parts {x y : Sc} (h : x ≠ y) : (!decide (x.1 = y.1) || (!decide (x.2.1 = y.2.1) || !decide (x.2.2 = y.2.2))) = true := by
  by_cases h1 : x.1 = y.1
  · by_cases h2 : x.2.1 = y.2.1
    · by_cases h3 : x.2.2 = y.2.2
      · exact absurd (sec_ext h1 h2 h3) h
      · simp [h3]
    · simp [h2]
  · simp [h1]
set_option maxHeartbeats 800000 in
theorem equalSec (A B : Option Addr) (c d : Nat) (a b : List Sc) (w : World) (hbig : a.length ≤ 1000000) (hb : b.length ≤ 1000000) (hr : Rd w A c a) (hs : Rd w B d b) :
    Calls Try.prog 21 #[.slice A a.length c, .slice B b.length d] w fun e w' => e = .returned (.bool (decide (a = b))) ∧ Below w.heap.size w w' := by
  have HR := Lib.hid hr
  have HS := Lib.hid hs
  clear hr hs
  by_cases hl : a.length = b.length
  · go_enter Try.func21, Try.ntmps21
    go_wp2_with fail
    have HL := Lib.hid hl
    clear hl
    go_loopw [13] (fun i wr => ∃ k : Nat, i = .int .i64 k ∧ k ≤ a.length ∧ Hid (∀ j, j < k → at_ a j = at_ b j) ∧ Hid (Below w.heap.size w wr)) (fun i _ => a.length - (intOf i).toNat)
    case atStart => exact ⟨0, rfl, Nat.zero_le _, (fun j h => by omega), Below.refl _ _⟩
    case round =>
      obtain ⟨k, rfl, hk, HH, HB⟩ := hrel
      by_cases hlt : k < a.length
      · have hlt2 : k < b.length := by have := HL.out; omega
        obtain ⟨ba, offa, rfl, hc⟩ := sec_at (HR.out.below HB.out) (by omega)
        obtain ⟨x1, x2, x3, _, _, _⟩ := hc k hlt
        clear hc
        obtain ⟨bb, offb, rfl, hc⟩ := sec_at (HS.out.below HB.out) (by omega)
        obtain ⟨y1, y2, y3, _, _, _⟩ := hc k hlt2
        clear hc
        have HN : Hid (at_ a k ≠ at_ b k → decide (a = b) = false) := fun h => sec_one hlt h
        have i1 : (0 : Int) ≤ (k : Int) := by omega
        have i2 : (k : Int) < (a.length : Int) := by omega
        have i3 : (k : Int) < (b.length : Int) := by omega
        by_cases he : at_ a k = at_ b k
        · rw [← he] at y1 y2 y3
          have HE := Lib.hid he
          clear he
          go_wp2_with fail
          generalize at_ a k = x at x1 x2 x3 y1 y2 y3
          replace x1 := cell_bw x1
          replace x2 := cell_bw x2
          replace x3 := cell_bw x3
          replace y1 := cell_bw y1
          replace y2 := cell_bw y2
          replace y3 := cell_bw y3
          refine wp_region_bw (by kernel_rfl) (by kernel_rfl) ?_
          repeat
            (with_reducible refine wpQuiet_step (fun K hK => ?_)
             go_simp
             first
               | (with_reducible refine hK _ ?_
                  clear hK K)
               | (rw [if_neg]
                  rotate_left
                  focus (intro h; cases h; done)
                  with_reducible refine hK _ ?_
                  clear hK K)
               | (apply Exists.intro
                  refine ⟨fun _ => ?_, hK _ ?_⟩
                  (fail)
                  clear hK K))
          with_reducible refine wpQuiet_nil ?_
          intro wb hw'
          obtain ⟨⟨wb', lb⟩, hw''⟩ := hw'
          subst hw''
          go_wp2_with fail
          go_roundw
          case rel =>
            refine ⟨k + 1, by go_num, hlt, fun j hj => ?_, below_step HB.out lb⟩
            by_cases e : j = k
            · subst e; exact HE.out
            · exact HH.out j (by omega)
          case measure => simp [intOf]; omega
        · have HF := Lib.hid (HN.out he)
          have hq := ne_parts he
          clear he
          go_wp2_with fail
          generalize at_ a k = x at *
          generalize at_ b k = y at *
          replace x1 := cell_bw x1
          replace x2 := cell_bw x2
          replace x3 := cell_bw x3
          replace y1 := cell_bw y1
          replace y2 := cell_bw y2
          replace y3 := cell_bw y3
          refine wp_region_bw (by kernel_rfl) (by kernel_rfl) ?_
          repeat
            (with_reducible refine wpQuiet_step (fun K hK => ?_)
             go_simp
             first
               | (with_reducible refine hK _ ?_
                  clear hK K)
               | (rw [if_neg]
                  rotate_left
                  focus (intro h; cases h; done)
                  with_reducible refine hK _ ?_
                  clear hK K)
               | (apply Exists.intro
                  refine ⟨fun _ => ?_, hK _ ?_⟩
                  (fail)
                  clear hK K))
          with_reducible refine wpQuiet_nil ?_
          intro wb hw'
          obtain ⟨⟨wb', lb⟩, hw''⟩ := hw'
          subst hw''
          go_wp2_with fail
          go_ret
          exact ⟨ret_bool HF.out.symm, below_step HB.out lb⟩
      · have hlt2 : ¬ k < b.length := by have := HL.out; omega
        go_wp2_with fail
        go_ret
        exact ⟨ret_bool (decide_eq_true (at_eq_of HL.out fun i hi => HH.out i (by omega))).symm, HB.out⟩
  · have HF : Hid (decide (a = b) = false) := decide_eq_false fun h => hl (by rw [h])
    go_enter Try.func21, Try.ntmps21
    go_wp2
    go_ret
    exact ⟨ret_bool HF.out.symm, Below.refl _ _⟩

/-- are two tasks alike -/
theorem same_parts {a b : Tsk} : sameB a b = (decide (a.1 = b.1) && (decide (a.2.1 = b.2.1) && (decide (a.2.2.1 = b.2.2.1) && decide (a.2.2.2 = b.2.2.2)))) := by
  simp [sameB, Bool.decide_and]

set_option maxHeartbeats 800000 in
theorem same_any (A B : Option Addr) (c d : Nat) (a b : Tsk) (w : World) (hbig : a.2.2.2.length ≤ 1000000) (hb : b.2.2.2.length ≤ 1000000) (hr : Rd w A c a.2.2.2) (hs : Rd w B d b.2.2.2) :
    Calls Try.prog 12 #[.agg #[.int .i64 a.1, .int .i64 a.2.1, .int .i64 a.2.2.1, .slice A a.2.2.2.length c], .agg #[.int .i64 b.1, .int .i64 b.2.1, .int .i64 b.2.2.1, .slice B b.2.2.2.length d]] w fun e w' => e = .returned (.bool (sameB a b)) ∧ Below w.heap.size w w' := by
  have HR := Lib.hid hr
  have HS := Lib.hid hs
  clear hr hs
  have HP := Lib.hid (same_parts (a := a) (b := b))
  by_cases h1 : a.1 = b.1
  · by_cases h2 : a.2.1 = b.2.1
    · by_cases h3 : a.2.2.1 = b.2.2.1
      · have HF : Hid (sameB a b = decide (a.2.2.2 = b.2.2.2)) := by show sameB a b = _; rw [HP.out]; simp [h1, h2, h3]
        go_enter Try.func12, Try.ntmps12
        go_wp2_with fail
        refine (equalSec A B c d _ _ _ hbig hb (HR.out.below (below_two _ _ _)) (HS.out.below (below_two _ _ _))).mono ?_
        rintro e w2 ⟨rfl, b2⟩
        have B2 := Lib.hid (below_step (below_two _ _ _) b2)
        clear b2
        go_wp2_with fail
        go_ret
        exact ⟨ret_bool HF.out.symm, B2.out⟩
      · have HF : Hid (sameB a b = false) := by show sameB a b = _; rw [HP.out]; simp [h3]
        go_enter Try.func12, Try.ntmps12
        go_wp2_with fail
        go_ret
        exact ⟨ret_bool HF.out.symm, below_two _ _ _⟩
    · have HF : Hid (sameB a b = false) := by show sameB a b = _; rw [HP.out]; simp [h2]
      go_enter Try.func12, Try.ntmps12
      go_wp2_with fail
      go_ret
      exact ⟨ret_bool HF.out.symm, below_two _ _ _⟩
  · have HF : Hid (sameB a b = false) := by show sameB a b = _; rw [HP.out]; simp [h1]
    go_enter Try.func12, Try.ntmps12
    go_wp2_with fail
    go_ret
    exact ⟨ret_bool HF.out.symm, below_two _ _ _⟩

end Tk
end Go.Proofs.Ytaehcgfmdpjfaaa
