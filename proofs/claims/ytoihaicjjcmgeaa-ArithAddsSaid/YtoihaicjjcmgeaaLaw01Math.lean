/-
  Plain arithmetic for the statements of layer 1: a product by halves; what both divide.
-/
import Derived.Test.YtoihaicjjcmgeaaArithMath
namespace Go.Proofs.Ytoihaicjjcmgeaa.Ar
open Go.RowKit

def hi (n : Int) : Int := n / 2147483648
def lo (n : Int) : Int := n % 2147483648

theorem hi_bd (n : Int) (h0 : 0 ≤ n) (h1 : n ≤ 4611686018427387903) : 0 ≤ hi n ∧ hi n ≤ 2147483647 := by unfold hi; omega
theorem lo_bd (n : Int) : 0 ≤ lo n ∧ lo n ≤ 2147483647 := by unfold lo; omega
theorem hi_lo (n : Int) : n = hi n * 2147483648 + lo n := by unfold hi lo; omega

theorem mul_bd {p q : Int} (h0 : 0 ≤ p) (h1 : p ≤ 2147483647) (g0 : 0 ≤ q) (g1 : q ≤ 2147483647) : 0 ≤ p * q ∧ p * q ≤ 4611686014132420609 := by
  refine ⟨Int.mul_nonneg h0 g0, ?_⟩
  have := Int.mul_le_mul h1 g1 g0 (by omega)
  omega

/-- The product by halves. -/
theorem by_halves (x y : Int) : x * y = hi x * hi y * 4611686018427387904 + (hi x * lo y + lo x * hi y) * 2147483648 + lo x * lo y := by
  have hx := hi_lo x
  have hy := hi_lo y
  generalize hi x = p at *
  generalize lo x = q at *
  generalize hi y = r at *
  generalize lo y = s at *
  subst hx hy
  simp only [Int.add_mul, Int.mul_add]
  have e1 : p * 2147483648 * (r * 2147483648) = p * r * 4611686018427387904 := by
    rw [Int.mul_assoc, Int.mul_left_comm 2147483648 r, ← Int.mul_assoc]; rfl
  have e2 : p * 2147483648 * s = p * s * 2147483648 := Int.mul_right_comm _ _ _
  have e3 : q * (r * 2147483648) = q * r * 2147483648 := (Int.mul_assoc _ _ _).symm
  rw [e1, e2, e3]; omega

def cross (x y : Int) : Int := hi x * lo y + lo x * hi y

/-- What the tests on the halves decide. -/
theorem halves_tell (x y : Int) (hx0 : 0 ≤ x) (hx1 : x ≤ 4611686018427387903) (hy0 : 0 ≤ y) (hy1 : y ≤ 4611686018427387903) :
    (0 < hi x ∧ 0 < hi y → perm (x * y) = false) ∧
    (2147483647 < hi x * lo y + lo x * hi y → perm (x * y) = false) ∧
    (hi x ≤ 0 ∨ hi y ≤ 0 → hi x * lo y + lo x * hi y ≤ 2147483647 → 4611686018427387903 - (hi x * lo y + lo x * hi y) * 2147483648 < lo x * lo y → perm (x * y) = false) ∧
    (hi x ≤ 0 ∨ hi y ≤ 0 → hi x * lo y + lo x * hi y ≤ 2147483647 → lo x * lo y ≤ 4611686018427387903 - (hi x * lo y + lo x * hi y) * 2147483648 →
      perm (x * y) = true ∧ lo x * lo y + (hi x * lo y + lo x * hi y) * 2147483648 = x * y) := by
  have hm := by_halves x y
  have a1 := hi_bd x hx0 hx1
  have a2 := hi_bd y hy0 hy1
  have b1 := lo_bd x
  have b2 := lo_bd y
  have c1 := mul_bd a1.1 a1.2 a2.1 a2.2
  have c2 := mul_bd a1.1 a1.2 b2.1 b2.2
  have c3 := mul_bd b1.1 b1.2 a2.1 a2.2
  have c4 := mul_bd b1.1 b1.2 b2.1 b2.2
  have hz : hi x ≤ 0 ∨ hi y ≤ 0 → hi x * hi y = 0 := by
    rintro (h | h)
    · rw [show hi x = 0 by omega, Int.zero_mul]
    · rw [show hi y = 0 by omega, Int.mul_zero]
  have hp : 0 < hi x ∧ 0 < hi y → 1 ≤ hi x * hi y := fun ⟨h, g⟩ => Int.mul_pos h g
  generalize hi x * hi y = P at *
  generalize hi x * lo y = Q at *
  generalize lo x * hi y = R at *
  generalize lo x * lo y = S at *
  generalize x * y = M at *
  refine ⟨fun h => ?_, fun h => ?_, fun h h' h'' => ?_, fun h h' h'' => ?_⟩
  · have := hp h; rw [perm_no]; omega
  · rw [perm_no]; omega
  · have := hz h; rw [perm_no]; omega
  · have := hz h
    refine ⟨?_, by omega⟩
    rw [perm_iff]; omega

/-- The product, or 0 where it is too large. -/
def rm (a b : Int) : Int := if perm (a * b) then a * b else 0

theorem rm_no {a b : Int} (h : perm (a * b) = false) : rm a b = 0 := by unfold rm; rw [h]; rfl
theorem rm_yes {a b : Int} (h : perm (a * b) = true) : rm a b = a * b := by unfold rm; rw [h]; rfl
theorem pm_neg_left (x y : Int) : perm (-x * y) = perm (x * y) := by rw [Int.neg_mul, perm_neg]
theorem pm_neg_right (x y : Int) : perm (x * -y) = perm (x * y) := by rw [Int.mul_neg, perm_neg]
theorem pm_neg_both (x y : Int) : perm (-x * -y) = perm (x * y) := by rw [Int.neg_mul_neg]

/-- A number, told by how far from 0 it is. -/
theorem sign_cases (a : Int) : ∃ x : Int, 0 ≤ x ∧ (a = x ∨ (a = -x ∧ 0 < x)) := by
  by_cases h : 0 ≤ a
  · exact ⟨a, h, .inl rfl⟩
  · exact ⟨-a, by omega, .inr ⟨by omega, by omega⟩⟩

/-- What both divide, in the two orders of the division. -/
theorem lcm_two (a b : Int) (ha : 1 ≤ a) (hb : 1 ≤ b) : a * (b / gcdZ a b) = a / gcdZ a b * b := by
  have hg := gcdZ_pos a b ha
  obtain ⟨p, hp⟩ := gcdZ_dvd_left a b (by omega)
  obtain ⟨q, hq⟩ := gcdZ_dvd_right a b (by omega)
  generalize gcdZ a b = g at *
  have h0 : g ≠ 0 := by omega
  have e1 : a / g = p := by rw [hp, Int.mul_ediv_cancel_left _ h0]
  have e2 : b / g = q := by rw [hq, Int.mul_ediv_cancel_left _ h0]
  rw [e1, e2, hp, hq, Int.mul_comm g p, Int.mul_assoc]

end Go.Proofs.Ytoihaicjjcmgeaa.Ar
