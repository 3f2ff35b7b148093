/-
  Layer 1 (arith): what divides both, what both divide.
-/
import Derived.Test.YtldiplnccgoeiaaArithWalks
import Derived.RegionTactic
import Derived.ChangeAlike
import Derived.Deep.QuietTactic
import Derived.BigQuiet
import Derived.WalkSmall
namespace Go.Proofs.Ytldiplnccgoeiaa
open Go.RowKit
theorem ret2 {k : IntKind} {a b : Int} {v : Value} (h : a = b) : Ending.returned (.tuple #[.int k a, v]) = .returned (.tuple #[.int k b, v]) := by rw [h]
namespace Ar

set_option maxHeartbeats 400000 in
theorem divisor_any (a b : Int) (w : World) (ha : 0 ≤ a) (hb : 0 ≤ b) (ha1 : a ≤ 4611686018427387903) (hb1 : b ≤ 4611686018427387903) :
    Calls Try.prog 45 #[.int .i64 a, .int .i64 b] w fun e w' => e = .returned (.int .i64 (gcdZ a b)) ∧ Below w.heap.size w w' := by
  have HG : ∃ g, Hid (g = gcdZ a b) := ⟨_, rfl⟩
  obtain ⟨g, HG⟩ := HG
  rw [← HG.out]
  go_enter Try.func45, Try.ntmps45
  go_wp2
  go_loopw [0, 1] (fun s t w' => ∃ x y : Int, 0 ≤ x ∧ 0 ≤ y ∧ x ≤ 4611686018427387903 ∧ y ≤ 4611686018427387903 ∧ s = .int .i64 x ∧ t = .int .i64 y ∧ Hid (g = gcdZ x y) ∧ Below w.heap.size w w') (fun _ t _ => (intOf t).toNat)
  case atStart => exact ⟨a, b, ha, hb, ha1, hb1, rfl, rfl, HG, Below.refl _ _⟩
  case round =>
    obtain ⟨x, y, hx, hy, hx1, hy1, rfl, rfl, hg, hbel⟩ := hrel
    by_cases h0 : y = 0
    · subst h0
      have hg' := Lib.hid (hg.out.trans (gcdZ_zero x hx))
      go_wp2
      go_ret
      exact ⟨ret_int hg'.out.symm, hbel⟩
    · have hpos : 1 ≤ y := by omega
      have hm0 := Int.emod_nonneg x h0
      have hm1 := Int.emod_lt_of_pos x (show 0 < y by omega)
      have hne : (y != 0) = true := by simpa using h0
      have HS := Lib.hid (hg.out.trans (gcdZ_step x y hx hy))
      go_wp2
      go_quiet (fail)
      go_roundw
      case rel => exact ⟨_, _, _, _, _, _, _, _, ⟨y, x % y, by omega, by omega, by omega, by omega, rfl, rfl, HS, below_drewN hbel _⟩, rfl⟩
      case measure => simp [intOf]; omega

set_option maxHeartbeats 400000 in
theorem lcm_bad (a b : Int) (w : World) (h : (perm a && perm b) = false ∨ a < 1 ∨ b < 1) :
    Calls Try.prog 29 #[.int .i64 a, .int .i64 b] w fun e w' => e = .returned (.tuple #[.int .i64 0, .int .i64 1]) ∧ Below w.heap.size w w' := by
  cases hp : (perm a && perm b) with
  | false =>
    have H := Lib.hid hp
    clear hp h
    go_enter Try.func29, Try.ntmps29
    go_wp2_with fail
    refine (perm2 a b w).mono ?_
    rintro e w' ⟨rfl, rfl⟩
    rw [H.out]
    go_wp2_with fail
    go_ret2
    exact ⟨rfl, (Below.refl _ _).alloc (Nat.le_refl _) _⟩
  | true =>
    have H := Lib.hid hp
    have hb : a < 1 ∨ (1 ≤ a ∧ b < 1) := by
      rcases h with h | h
      · rw [h] at hp; cases hp
      · omega
    clear hp h
    rcases hb with hb | ⟨ha, hb⟩
    all_goals
      go_enter Try.func29, Try.ntmps29
      go_wp2_with fail
      refine (perm2 a b w).mono ?_
      rintro e w' ⟨rfl, rfl⟩
      rw [H.out]
      go_wp2_with fail
      go_ret2
      exact ⟨rfl, (Below.refl _ _).alloc (Nat.le_refl _) _⟩

set_option maxHeartbeats 400000 in
theorem lcm_ok (a b : Int) (w : World) (ha : perm a = true) (hb : perm b = true) (ha0 : 1 ≤ a) (hb0 : 1 ≤ b) (hs : perm (a / gcdZ a b * b) = true) :
    Calls Try.prog 29 #[.int .i64 a, .int .i64 b] w fun e w' => e = .returned (.tuple #[.int .i64 (a / gcdZ a b * b), .int .i64 0]) ∧ Below w.heap.size w w' := by
  have h1 := perm_iff.1 ha
  have h2 := perm_iff.1 hb
  have hg := gcdZ_pos a b ha0
  have hq := IntWalk.tdiv_le a (gcdZ a b) (by omega) hg
  have H : Hid ((perm a && perm b) = true) := by show (perm a && perm b) = true; rw [ha, hb]; rfl
  have HQ : Hid (perm (a / gcdZ a b) = true) := perm_iff.2 (by omega)
  have HB := Lib.hid hb
  have HS := Lib.hid hs
  clear ha hb hs
  go_enter Try.func29, Try.ntmps29
  go_wp2_with fail
  refine (perm2 a b w).mono ?_
  rintro e w' ⟨rfl, rfl⟩
  rw [H.out]
  go_wp2_with fail
  refine (divisor_any a b _ (by omega) (by omega) (by omega) (by omega)).mono ?_
  rintro e w' ⟨rfl, hbel⟩
  have HBel := Lib.hid hbel
  clear hbel
  go_wp2_with fail
  refine (mul_ok (a / gcdZ a b) b _ HQ.out HB.out HS.out).mono ?_
  rintro e w2 ⟨rfl, hbel2⟩
  have HBel2 := Lib.hid hbel2
  clear hbel2
  go_wp2_with fail
  go_ret2
  have b1 := HBel.out
  have b2 := HBel2.out
  have s1 := b1.size
  exact ⟨rfl, (((Below.refl _ _).alloc (Nat.le_refl _) _).trans (b1.mono (by simp))).trans (b2.mono (by simp at s1; omega))⟩

set_option maxHeartbeats 400000 in
theorem lcm_large (a b : Int) (w : World) (ha : perm a = true) (hb : perm b = true) (ha0 : 1 ≤ a) (hb0 : 1 ≤ b) (hs : perm (a / gcdZ a b * b) = false) :
    Calls Try.prog 29 #[.int .i64 a, .int .i64 b] w fun e w' => e = .returned (.tuple #[.int .i64 0, .int .i64 5]) ∧ Below w.heap.size w w' := by
  have h1 := perm_iff.1 ha
  have h2 := perm_iff.1 hb
  have hg := gcdZ_pos a b ha0
  have hq := IntWalk.tdiv_le a (gcdZ a b) (by omega) hg
  have H : Hid ((perm a && perm b) = true) := by show (perm a && perm b) = true; rw [ha, hb]; rfl
  have HQ : Hid (perm (a / gcdZ a b) = true) := perm_iff.2 (by omega)
  have HB := Lib.hid hb
  have HS := Lib.hid hs
  clear ha hb hs
  go_enter Try.func29, Try.ntmps29
  go_wp2_with fail
  refine (perm2 a b w).mono ?_
  rintro e w' ⟨rfl, rfl⟩
  rw [H.out]
  go_wp2_with fail
  refine (divisor_any a b _ (by omega) (by omega) (by omega) (by omega)).mono ?_
  rintro e w' ⟨rfl, hbel⟩
  have HBel := Lib.hid hbel
  clear hbel
  go_wp2_with fail
  refine (mul_large' (a / gcdZ a b) b _ HQ.out HB.out HS.out).mono ?_
  rintro e w2 ⟨rfl, hbel2⟩
  have HBel2 := Lib.hid hbel2
  clear hbel2
  go_wp2_with fail
  go_ret2
  have b1 := HBel.out
  have b2 := HBel2.out
  have s1 := b1.size
  exact ⟨rfl, (((Below.refl _ _).alloc (Nat.le_refl _) _).trans (b1.mono (by simp))).trans (b2.mono (by simp at s1; omega))⟩

end Ar
end Go.Proofs.Ytldiplnccgoeiaa
