/-
  Layer 1 (arith): what each call answers, and that it writes nothing that was there.
-/
import Derived.Test.YtldiplnccgoeiaaArithAdd
namespace Go.Proofs.Ytldiplnccgoeiaa
open Go.RowKit
namespace Ar

set_option maxHeartbeats 400000 in
theorem wrapped_any (p a b : Int) (w : World) :
    Calls Try.prog 55 #[.int .i64 p, .int .i64 a, .int .i64 b] w fun e w' => e = .returned (.bool (wrapB p a b)) ∧ w = w' := by
  by_cases hb : b = 0
  · subst hb
    go_enter Try.func55, Try.ntmps55
    go_wp2
    go_ret
    exact ⟨ret_bool (by simp [wrapB]), rfl⟩
  · go_enter Try.func55, Try.ntmps55
    go_wp2
    go_ret
    exact ⟨ret_bool (by simp [wrapB]), rfl⟩

set_option maxHeartbeats 400000 in
theorem mul_bad (a b : Int) (w : World) (h : (perm a && perm b) = false) :
    Calls Try.prog 44 #[.int .i64 a, .int .i64 b] w fun e w' => e = .returned (.tuple #[.int .i64 0, .int .i64 1]) ∧ Below w.heap.size w w' := by
  have H := Lib.hid h
  clear h
  go_enter Try.func44, Try.ntmps44
  go_wp2_with fail
  refine (perm2 a b w).mono ?_
  rintro e w' ⟨rfl, rfl⟩
  rw [H.out]
  go_wp2_with fail
  go_ret2
  exact ⟨rfl, (Below.refl _ _).alloc (Nat.le_refl _) _⟩

set_option maxHeartbeats 400000 in
theorem mul_ok (a b : Int) (w : World) (ha : perm a = true) (hb : perm b = true) (hs : perm (a * b) = true) :
    Calls Try.prog 44 #[.int .i64 a, .int .i64 b] w fun e w' => e = .returned (.tuple #[.int .i64 (a * b), .int .i64 0]) ∧ Below w.heap.size w w' := by
  have hf := Lib.hid (mul_fits ha hs)
  have H : Hid ((perm a && perm b) = true) := by show (perm a && perm b) = true; rw [ha, hb]; rfl
  have HS := Lib.hid hs
  have hbd := perm_iff.1 hs
  clear ha hb hs
  go_enter Try.func44, Try.ntmps44
  go_wp2_with fail
  refine (perm2 a b w).mono ?_
  rintro e w' ⟨rfl, rfl⟩
  rw [H.out]
  go_wp2_with fail
  refine (wrapped_any (a * b) a b _).mono ?_
  rintro e w' ⟨rfl, rfl⟩
  rw [hf.out.2]
  go_wp2_with fail
  refine (perm1 (a * b) _ _ (by go_simp)).mono ?_
  rintro e w' ⟨rfl, rfl⟩
  rw [HS.out]
  go_wp2_with fail
  go_ret2
  exact ⟨rfl, ((Below.refl _ _).alloc (Nat.le_refl _) _).alloc (by simp) _⟩

set_option maxHeartbeats 400000 in
theorem mul_large' (a b : Int) (w : World) (ha : perm a = true) (hb : perm b = true) (hs : perm (a * b) = false) :
    Calls Try.prog 44 #[.int .i64 a, .int .i64 b] w fun e w' => e = .returned (.tuple #[.int .i64 0, .int .i64 5]) ∧ Below w.heap.size w w' := by
  have H : Hid ((perm a && perm b) = true) := by show (perm a && perm b) = true; rw [ha, hb]; rfl
  rcases mul_large ha hb hs with hw | ⟨hw, hn⟩
  · have HW := Lib.hid hw
    clear ha hb hs hw
    go_enter Try.func44, Try.ntmps44
    go_wp2_with fail
    refine (perm2 a b w).mono ?_
    rintro e w' ⟨rfl, rfl⟩
    rw [H.out]
    go_wp2_with fail
    refine (wrapped_any (wrap64 (a * b)) a b _).mono ?_
    rintro e w' ⟨rfl, rfl⟩
    rw [HW.out]
    go_wp2_with fail
    go_ret2
    exact ⟨rfl, (Below.refl _ _).alloc (Nat.le_refl _) _⟩
  · have HW := Lib.hid hw
    have HN := Lib.hid hn
    clear ha hb hs hw hn
    go_enter Try.func44, Try.ntmps44
    go_wp2_with fail
    refine (perm2 a b w).mono ?_
    rintro e w' ⟨rfl, rfl⟩
    rw [H.out]
    go_wp2_with fail
    refine (wrapped_any (wrap64 (a * b)) a b _).mono ?_
    rintro e w' ⟨rfl, rfl⟩
    rw [HW.out]
    go_wp2_with fail
    refine (perm1 (wrap64 (a * b)) _ _ (by go_simp)).mono ?_
    rintro e w' ⟨rfl, rfl⟩
    rw [HN.out]
    go_wp2_with fail
    go_ret2
    exact ⟨rfl, ((Below.refl _ _).alloc (Nat.le_refl _) _).alloc (by simp) _⟩

end Ar
end Go.Proofs.Ytldiplnccgoeiaa
