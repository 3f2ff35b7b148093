/-
  Merged texts: Law03Refs.
-/
import Derived.Test.YtfkcplnjhelclaaGring
/-
  Layer 3: the references of the statements: As, Right, SameList, Same.
-/
namespace Go.Proofs.Ytfkcplnjhelclaa
open Go.RowKit
namespace Rn
attribute [local go_sem ↓] Go.wp_at_zero Go.wp_at_succ
attribute [local go_sem ↓] build_ring build_some build_none build_ref build_refSome

theorem as_any (A : Option Addr) (n c : Nat) (f m : Int) (w : World) :
    Calls Try.prog 26 #[.agg #[.slice A n c, .int .i64 f, .int .i64 m]] w fun e w' => e = .returned (.agg #[.slice A n c, .int .i64 f, .int .i64 m]) ∧ Below w.heap.size w w' := by
  have B0 : Hid (Below w.heap.size w ((((((w.alloc (.cells #[.slice A n c, .int .i64 f, .int .i64 m] 52)).alloc (.cells #[.slice none 0 0, .int .i64 0, .int .i64 0] 62))).setCell ⟨w.heap.size + 1, 0, none⟩ (.slice A n c)).setCell ⟨w.heap.size + 1, 1, none⟩ (.int .i64 f)).setCell ⟨w.heap.size + 1, 2, none⟩ (.int .i64 m))) :=
    (((below_two _ _ _).setCell (by simp) _).setCell (by simp) _).setCell (by simp) _
  go_enter Try.func26, Try.ntmps26
  go_wp2_with fail
  refine bodyPost_ret (v := .agg #[.slice A n c, .int .i64 f, .int .i64 m]) (by simp [results, Try.results26, go_sem]) rfl ?_
  first | exact ⟨rfl, B0.out⟩ | exact ⟨rfl, below_two _ _ _⟩

set_option maxHeartbeats 1600000 in
theorem refRight_any (A : Option Addr) (n c : Nat) (f m : Int) (w : World) (hbig : n ≤ 1000000) :
    Calls Try.prog 28 #[.agg #[.slice A n c, .int .i64 f, .int .i64 m]] w fun e w' => e = .returned (.bool (rightB n f m)) ∧ Below w.heap.size w w' := by
  have fin : ∀ b, rightB n f m = b → ∀ w', Below w.heap.size w w' → (Ending.returned (.bool b) = .returned (.bool (rightB n f m)) ∧ Below w.heap.size w w') := fun b h w' hb => ⟨ret_bool h.symm, hb⟩
  have FIN := Lib.hid fin
  clear fin
  have hw : IntKind.i64.wrap ((n : Int) - 1) = (n : Int) - 1 := IntWalk.i64_in _ (by omega)
  by_cases h0 : (1 : Int) ≤ (n : Int)
  · by_cases h1 : (0 : Int) ≤ f
    · by_cases h2 : f ≤ (n : Int) - 1
      · by_cases h3 : (0 : Int) ≤ m
        · by_cases h4 : m ≤ (n : Int)
          · have F := Lib.hid (FIN.out true (decide_eq_true (by omega)))
            go_enter Try.func28, Try.ntmps28
            go_wp2
            go_ret
            exact F.out _ (below_one _ _)
          · have h4' : (n : Int) < m := by omega
            have F := Lib.hid (FIN.out false (decide_eq_false (by omega)))
            go_enter Try.func28, Try.ntmps28
            go_wp2
            go_ret
            exact F.out _ (below_one _ _)
        · have h3' : m < 0 := by omega
          have F := Lib.hid (FIN.out false (decide_eq_false (by omega)))
          go_enter Try.func28, Try.ntmps28
          go_wp2
          go_ret
          exact F.out _ (below_one _ _)
      · have h2' : (n : Int) - 1 < f := by omega
        have F := Lib.hid (FIN.out false (decide_eq_false (by omega)))
        go_enter Try.func28, Try.ntmps28
        go_wp2
        go_ret
        exact F.out _ (below_one _ _)
    · have h1' : f < 0 := by omega
      have F := Lib.hid (FIN.out false (decide_eq_false (by omega)))
      go_enter Try.func28, Try.ntmps28
      go_wp2
      go_ret
      exact F.out _ (below_one _ _)
  · have h0' : (n : Int) < 1 := by omega
    have F := Lib.hid (FIN.out false (decide_eq_false (by omega)))
    go_enter Try.func28, Try.ntmps28
    go_wp2
    go_ret
    exact F.out _ (below_one _ _)

set_option maxHeartbeats 1600000 in
theorem sameList_any (A B : Option Addr) (c d : Nat) (a : List Int) (w : World) (hbig : a.length ≤ 1000000) (ha : Rd w A c a) (hb : Rd w B d a) :
    Calls Try.prog 31 #[.slice A a.length c, .slice B a.length d] w fun e w' => e = .returned (.bool true) ∧ Below w.heap.size w w' := by
  have HA := Lib.hid ha
  have HBb := Lib.hid hb
  clear ha hb
  go_enter Try.func31, Try.ntmps31
  go_wp2_with fail
  go_loopw [5] (fun i wr => ∃ k : Nat, k ≤ a.length ∧ i = .int .i64 k ∧ Hid (Below w.heap.size w wr)) (fun i _ => a.length - (intOf i).toNat)
  case atStart => exact ⟨0, Nat.zero_le _, rfl, Below.refl _ _⟩
  case round =>
    obtain ⟨k, hk, rfl, HB⟩ := hrel
    by_cases hlt : k < a.length
    · obtain ⟨ab, ao, rfl, hca⟩ := (HA.out.below HB.out).2 (by omega)
      obtain ⟨bb, bo, rfl, hcb⟩ := (HBb.out.below HB.out).2 (by omega)
      have x1 := hca k hlt
      have y1 := hcb k hlt
      have q1 : (0 : Int) ≤ (k : Int) := by omega
      have q2 : (k : Int) < (a.length : Int) := by omega
      clear hca hcb
      go_wp2_with fail
      go_quiet (fail)
      go_wp2_with fail
      go_roundw
      case rel => exact ⟨k + 1, by omega, by go_num, ⟨HB.out.os, HB.out.tape, HB.out.output, HB.out.size, HB.out.block⟩⟩
      case measure => simp [intOf]; omega
    · go_wp2_with fail
      go_ret
      exact ⟨rfl, HB.out⟩
theorem sameList_n (n m : Nat) (A B : Option Addr) (c d : Nat) (a : List Int) (w : World) (hn : a.length = n) (hm : a.length = m) (hbig : a.length ≤ 1000000) (ha : Rd w A c a) (hb : Rd w B d a) :
    Calls Try.prog 31 #[.slice A n c, .slice B m d] w fun e w' => e = .returned (.bool true) ∧ Below w.heap.size w w' := by
  subst hn
  subst hm
  exact sameList_any A B c d a w hbig ha hb

set_option maxHeartbeats 1600000 in
theorem same_n (n m : Nat) (A B : Option Addr) (c d : Nat) (f M : Int) (a : List Int) (w : World) (hn : a.length = n) (hm : a.length = m) (hbig : a.length ≤ 1000000) (ha : Rd w A c a) (hb : Rd w B d a) :
    Calls Try.prog 29 #[.agg #[.slice A n c, .int .i64 f, .int .i64 M], .agg #[.slice B m d, .int .i64 f, .int .i64 M]] w fun e w' => e = .returned (.bool true) ∧ Below w.heap.size w w' := by
  have HA : Hid (Rd ((w.alloc (.cells #[.slice A n c, .int .i64 f, .int .i64 M] 62)).alloc (.cells #[.slice B m d, .int .i64 f, .int .i64 M] 62)) A c a) := (ha.alloc _).alloc _
  have HB : Hid (Rd ((w.alloc (.cells #[.slice A n c, .int .i64 f, .int .i64 M] 62)).alloc (.cells #[.slice B m d, .int .i64 f, .int .i64 M] 62)) B d a) := (hb.alloc _).alloc _
  have B0 : Hid (Below w.heap.size w ((w.alloc (.cells #[.slice A n c, .int .i64 f, .int .i64 M] 62)).alloc (.cells #[.slice B m d, .int .i64 f, .int .i64 M] 62))) := below_two _ _ _
  have x1 : ((w.alloc (.cells #[.slice A n c, .int .i64 f, .int .i64 M] 62)).alloc (.cells #[.slice B m d, .int .i64 f, .int .i64 M] 62)).cell? ⟨w.heap.size, 1, none⟩ = some (.int .i64 f) := by go_simp
  have x2 : ((w.alloc (.cells #[.slice A n c, .int .i64 f, .int .i64 M] 62)).alloc (.cells #[.slice B m d, .int .i64 f, .int .i64 M] 62)).cell? ⟨w.heap.size, 2, none⟩ = some (.int .i64 M) := by go_simp
  have y1 : ((w.alloc (.cells #[.slice A n c, .int .i64 f, .int .i64 M] 62)).alloc (.cells #[.slice B m d, .int .i64 f, .int .i64 M] 62)).cell? ⟨w.heap.size + 1, 1, none⟩ = some (.int .i64 f) := by go_simp
  have y2 : ((w.alloc (.cells #[.slice A n c, .int .i64 f, .int .i64 M] 62)).alloc (.cells #[.slice B m d, .int .i64 f, .int .i64 M] 62)).cell? ⟨w.heap.size + 1, 2, none⟩ = some (.int .i64 M) := by go_simp
  have HN := Lib.hid hn
  have HM := Lib.hid hm
  clear ha hb hn hm
  go_enter Try.func29, Try.ntmps29
  go_wp2_with fail
  generalize ((w.alloc (.cells #[.slice A n c, .int .i64 f, .int .i64 M] 62)).alloc (.cells #[.slice B m d, .int .i64 f, .int .i64 M] 62)) = w0 at *
  refine (sameList_n n m A B c d a _ HN.out HM.out hbig HA.out HB.out).mono ?_
  rintro e w1 ⟨rfl, b1⟩
  have X1 := cell_below b1 x1
  have X2 := cell_below b1 x2
  have Y1 := cell_below b1 y1
  have Y2 := cell_below b1 y2
  have B1 := Lib.hid (below_step B0.out b1)
  clear b1 x1 x2 y1 y2
  go_wp2_with fail
  go_ret
  exact ⟨rfl, B1.out⟩

end Rn
end Go.Proofs.Ytfkcplnjhelclaa

