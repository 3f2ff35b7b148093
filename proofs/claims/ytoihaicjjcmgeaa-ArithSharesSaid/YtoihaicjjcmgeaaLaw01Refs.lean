/-
  The document's own answers for layer 1, and the statements' helpers: what each call answers.
-/
import Derived.Test.YtoihaicjjcmgeaaArithWalks2
import Derived.Test.YtoihaicjjcmgeaaLaw01Math
namespace Go.Proofs.Ytoihaicjjcmgeaa
open Go.RowKit
theorem ret2b {k : IntKind} {a b : Int} {c d : Bool} (h : a = b) (g : c = d) : Ending.returned (.tuple #[.int k a, .bool c]) = .returned (.tuple #[.int k b, .bool d]) := by rw [h, g]
namespace Ar

set_option maxHeartbeats 400000 in
theorem refMay (n : Int) (w : World) :
    Calls Try.prog 24 #[.int .i64 n] w fun e w' => e = .returned (.bool (perm n)) ∧ w = w' := by
  cases hp : perm n with
  | true =>
    have h := perm_iff.1 hp
    clear hp
    go_enter Try.func24, Try.ntmps24
    go_wp2
    go_ret
    exact ⟨rfl, rfl⟩
  | false =>
    have h := perm_no.1 hp
    clear hp
    rcases h with h | h
    all_goals
      go_enter Try.func24, Try.ntmps24
      go_wp2
      go_ret
      first | exact ⟨rfl, rfl⟩ | exact ⟨ret_bool (decide_eq_false (by omega)), rfl⟩

set_option maxHeartbeats 400000 in
theorem may_any (a b : Int) (w : World) :
    Calls Try.prog 10 #[.int .i64 a, .int .i64 b] w fun e w' => e = .returned (.bool (perm a && perm b)) ∧ w = w' := by
  cases hp : perm a with
  | true =>
    have HP := Lib.hid hp
    clear hp
    rw [Bool.true_and]
    go_enter Try.func10, Try.ntmps10
    go_wp2_with fail
    refine (refMay a _).mono ?_
    rintro e w' ⟨rfl, rfl⟩
    rw [HP.out]
    go_wp2_with fail
    refine (refMay b _).mono ?_
    rintro e w' ⟨rfl, rfl⟩
    go_wp2_with fail
    go_ret
    exact ⟨rfl, rfl⟩
  | false =>
    have HP := Lib.hid hp
    clear hp
    rw [Bool.false_and]
    go_enter Try.func10, Try.ntmps10
    go_wp2_with fail
    refine (refMay a _).mono ?_
    rintro e w' ⟨rfl, rfl⟩
    rw [HP.out]
    go_wp2_with fail
    go_ret
    exact ⟨rfl, rfl⟩

set_option maxHeartbeats 400000 in
theorem told_ok (n : Int) (w : World) :
    Calls Try.prog 14 #[.int .i64 n, .int .i64 0, .int .i64 n, .bool true] w fun e w' => e = .returned (.bool true) ∧ w = w' := by
  go_enter Try.func14, Try.ntmps14
  go_wp2
  go_ret
  exact ⟨rfl, rfl⟩

set_option maxHeartbeats 400000 in
theorem told_no (n : Int) (w : World) :
    Calls Try.prog 14 #[.int .i64 0, .int .i64 5, .int .i64 n, .bool false] w fun e w' => e = .returned (.bool true) ∧ w = w' := by
  go_enter Try.func14, Try.ntmps14
  go_wp2
  go_ret
  exact ⟨rfl, rfl⟩

set_option maxHeartbeats 400000 in
theorem refAdd_ok (a b : Int) (w : World) (ha : perm a = true) (hb : perm b = true) (hs : perm (a + b) = true) :
    Calls Try.prog 12 #[.int .i64 a, .int .i64 b] w fun e w' => e = .returned (.tuple #[.int .i64 (a + b), .bool true]) ∧ w = w' := by
  have h1 := perm_iff.1 ha
  have h2 := perm_iff.1 hb
  have HS := Lib.hid hs
  clear ha hb hs
  go_enter Try.func12, Try.ntmps12
  go_wp2_with fail
  refine (refMay (a + b) _).mono ?_
  rintro e w' ⟨rfl, rfl⟩
  rw [HS.out]
  go_wp2_with fail
  go_ret2
  exact ⟨rfl, rfl⟩

set_option maxHeartbeats 400000 in
theorem refAdd_no (a b : Int) (w : World) (ha : perm a = true) (hb : perm b = true) (hs : perm (a + b) = false) :
    Calls Try.prog 12 #[.int .i64 a, .int .i64 b] w fun e w' => e = .returned (.tuple #[.int .i64 0, .bool false]) ∧ w = w' := by
  have h1 := perm_iff.1 ha
  have h2 := perm_iff.1 hb
  have HS := Lib.hid hs
  clear ha hb hs
  go_enter Try.func12, Try.ntmps12
  go_wp2_with fail
  refine (refMay (a + b) _).mono ?_
  rintro e w' ⟨rfl, rfl⟩
  rw [HS.out]
  go_wp2_with fail
  go_ret2
  exact ⟨rfl, rfl⟩

set_option maxHeartbeats 400000 in
theorem halves_any (n : Int) (w : World) (h0 : 0 ≤ n) (h1 : n ≤ 4611686018427387903) :
    Calls Try.prog 25 #[.int .i64 n] w fun e w' => e = .returned (.tuple #[.int .i64 (hi n), .int .i64 (lo n)]) ∧ w = w' := by
  go_enter Try.func25, Try.ntmps25
  go_wp2
  go_ret2
  exact ⟨rfl, rfl⟩

set_option maxHeartbeats 400000 in
theorem refFloor (a b : Int) (w : World) (ha : perm a = true) (hb : perm b = true) (hb1 : 1 ≤ b) :
    Calls Try.prog 17 #[.int .i64 a, .int .i64 b] w fun e w' => e = .returned (.int .i64 (a / b)) ∧ w = w' := by
  have h1 := perm_iff.1 ha
  have h2 := perm_iff.1 hb
  have hr := rem_bd a b hb1
  have HF := Lib.hid (ref_floor a b hb1)
  clear ha hb
  by_cases hm : a.tmod b < 0
  · have HE := Lib.hid (HF.out.1 hm)
    go_enter Try.func17, Try.ntmps17
    go_wp2
    go_ret
    exact ⟨ret_int HE.out, rfl⟩
  · have HE := Lib.hid (HF.out.2 (by omega))
    go_enter Try.func17, Try.ntmps17
    go_wp2
    go_ret
    exact ⟨ret_int HE.out, rfl⟩

set_option maxHeartbeats 400000 in
theorem refGcd (k : Nat) : ∀ (a b : Int) (w : World), 0 ≤ a → 0 ≤ b → a ≤ 4611686018427387903 → b ≤ 4611686018427387903 → b ≤ k →
    Calls Try.prog 20 #[.int .i64 a, .int .i64 b] w fun e w' => e = .returned (.int .i64 (gcdZ a b)) ∧ w = w' := by
  induction k with
  | zero =>
    intro a b w ha hb ha1 hb1 hk
    obtain rfl : b = 0 := by omega
    have HE := Lib.hid (gcdZ_zero a ha)
    go_enter Try.func20, Try.ntmps20
    go_wp2_with fail
    go_ret
    exact ⟨ret_int HE.out.symm, rfl⟩
  | succ k ih =>
    intro a b w ha hb ha1 hb1 hk
    have IH := Lib.hid ih
    clear ih
    by_cases h0 : b = 0
    · subst h0
      have HE := Lib.hid (gcdZ_zero a ha)
      go_enter Try.func20, Try.ntmps20
      go_wp2_with fail
      go_ret
      exact ⟨ret_int HE.out.symm, rfl⟩
    · have hm0 := Int.emod_nonneg a h0
      have hm1 := Int.emod_lt_of_pos a (show 0 < b by omega)
      have HE := Lib.hid (gcdZ_step a b ha hb)
      have hpos : 1 ≤ b := by omega
      go_enter Try.func20, Try.ntmps20
      go_wp2_with fail
      refine (IH.out b (a % b) _ (by omega) (by omega) (by omega) (by omega) (by omega)).mono ?_
      rintro e w' ⟨rfl, rfl⟩
      go_wp2_with fail
      go_ret
      exact ⟨ret_int HE.out.symm, rfl⟩

end Ar
end Go.Proofs.Ytoihaicjjcmgeaa
