/-
  Plain arithmetic for layer 1 (arith): which numbers are permitted, and what its calls answer. Nothing here speaks of the program.
-/
import Derived.IntWalk
namespace Go.Proofs.Ytldiplnccgoeiaa.Ar
open Go.RowKit

/-- The number may be. -/
def perm (n : Int) : Bool := decide (-4611686018427387903 ≤ n ∧ n ≤ 4611686018427387903)

theorem perm_iff {n : Int} : perm n = true ↔ -4611686018427387903 ≤ n ∧ n ≤ 4611686018427387903 := by
  unfold perm; simp
theorem perm_no {n : Int} : perm n = false ↔ n < -4611686018427387903 ∨ 4611686018427387903 < n := by
  unfold perm; simp; omega
theorem perm_neg (n : Int) : perm (-n) = perm n := by
  cases h : perm n with
  | true => rw [perm_iff] at h ⊢; omega
  | false => rw [perm_no] at h ⊢; omega

/-- What 'wrapped' answers. -/
def wrapB (p a b : Int) : Bool := b != 0 && RowKit.wrap64 (p.tdiv b) != a

theorem tdiv_bd (p b : Int) (h1 : -9223372036854775808 ≤ p) (h2 : p ≤ 9223372036854775807) : -9223372036854775808 ≤ p.tdiv b ∧ p.tdiv b ≤ 9223372036854775808 := by
  have h : (p.tdiv b).natAbs ≤ p.natAbs := by rw [Int.natAbs_tdiv]; exact Nat.div_le_self _ _
  omega

theorem wrap_bd (n : Int) : -9223372036854775808 ≤ wrap64 n ∧ wrap64 n ≤ 9223372036854775807 := by unfold wrap64; omega
theorem wrap_off (n : Int) : ∃ k : Int, wrap64 n = n - 18446744073709551616 * k := ⟨(n + 9223372036854775808) / 18446744073709551616, by unfold wrap64; omega⟩

theorem mul_fits {a b : Int} (ha : perm a = true) (hp : perm (a * b) = true) : wrap64 (a * b) = a * b ∧ wrapB (a * b) a b = false := by
  have h := perm_iff.1 hp
  have h' := perm_iff.1 ha
  refine ⟨IntWalk.wrap64_in _ (by omega), ?_⟩
  unfold wrapB
  by_cases hb : b = 0
  · simp [hb]
  · rw [Int.mul_tdiv_cancel _ hb, IntWalk.wrap64_in _ (by omega)]; simp

theorem mul_large {a b : Int} (ha : perm a = true) (hb : perm b = true) (hp : perm (a * b) = false) : wrapB (wrap64 (a * b)) a b = true ∨ (wrapB (wrap64 (a * b)) a b = false ∧ perm (wrap64 (a * b)) = false) := by
  have ha' := perm_iff.1 ha
  have hb' := perm_iff.1 hb
  by_cases hin : -9223372036854775808 ≤ a * b ∧ a * b ≤ 9223372036854775807
  · rw [IntWalk.wrap64_in _ hin]
    cases hw : wrapB (a * b) a b with
    | true => exact .inl rfl
    | false => exact .inr ⟨rfl, hp⟩
  · left
    have hb0 : b ≠ 0 := by intro h; apply hin; rw [h]; simp
    obtain ⟨k, hk⟩ := wrap_off (a * b)
    have hbd := wrap_bd (a * b)
    generalize wrap64 (a * b) = p at hk hbd
    generalize hm : a * b = m at hk hin
    have hk0 : k ≠ 0 := by intro h; rw [h] at hk; omega
    unfold wrapB
    have hne : (b != 0) = true := by simpa using hb0
    rw [hne, Bool.true_and, bne_iff_ne]
    intro he
    have ht := tdiv_bd p b hbd.1 hbd.2
    have hta : p.tdiv b = a := by
      by_cases hx : p.tdiv b = 9223372036854775808
      · rw [hx] at he; have : wrap64 9223372036854775808 = -9223372036854775808 := by unfold wrap64; omega
        omega
      · rw [IntWalk.wrap64_in _ (by omega)] at he; exact he
    have hr := Int.mul_tdiv_add_tmod p b
    rw [hta, Int.mul_comm, hm] at hr
    have hlt : (p.tmod b).natAbs < b.natAbs := by
      rw [Int.natAbs_tmod]; exact Nat.mod_lt _ (by omega)
    omega

/-- The quotient rounded down. -/
theorem floor_eq (a b : Int) (hb : 1 ≤ b) : (a.tmod b < 0 → a.tdiv b - 1 = a / b) ∧ (0 ≤ a.tmod b → a.tdiv b = a / b) := by
  have h1 := Int.mul_tdiv_add_tmod a b
  have h2 := Int.mul_ediv_add_emod a b
  have h3 := Int.emod_nonneg a (show b ≠ 0 by omega)
  have h4 := Int.emod_lt_of_pos a (show 0 < b by omega)
  have h5 : (a.tmod b).natAbs < b.natAbs := by rw [Int.natAbs_tmod]; exact Nat.mod_lt _ (by omega)
  generalize a.tdiv b = q at *
  generalize a.tmod b = r at *
  generalize a / b = q' at *
  generalize a % b = r' at *
  have key : b * (q - q') = r' - r := by rw [Int.mul_sub]; omega
  constructor
  · intro h
    have hlo : 0 < b * (q - q') := by omega
    have hhi : b * (q - q') < b * 2 := by omega
    have g1 : q - q' < 2 := Int.lt_of_mul_lt_mul_left hhi (by omega)
    have g2 : 0 < q - q' := Int.pos_of_mul_pos_right hlo (by omega)
    omega
  · intro h
    have hhi : b * (q - q') < b * 1 := by omega
    have hlo : b * (-1) < b * (q - q') := by omega
    have g1 : q - q' < 1 := Int.lt_of_mul_lt_mul_left hhi (by omega)
    have g2 : -1 < q - q' := Int.lt_of_mul_lt_mul_left hlo (by omega)
    omega

/-- The quotient rounded up. -/
def up (a b : Int) : Int := -((-a) / b)

theorem ceil_eq (a b : Int) (hb : 1 ≤ b) : (0 < a.tmod b → a.tdiv b + 1 = up a b) ∧ (a.tmod b ≤ 0 → a.tdiv b = up a b) := by
  have h := floor_eq (-a) b hb
  have e1 : (-a).tmod b = -(a.tmod b) := Int.neg_tmod a b
  have e2 : (-a).tdiv b = -(a.tdiv b) := Int.neg_tdiv a b
  rw [e1, e2] at h
  unfold up
  omega

theorem quo_bd (a b : Int) (ha : perm a = true) : -4611686018427387903 ≤ a.tdiv b ∧ a.tdiv b ≤ 4611686018427387903 := by
  have h' := perm_iff.1 ha
  have h : (a.tdiv b).natAbs ≤ a.natAbs := by rw [Int.natAbs_tdiv]; exact Nat.div_le_self _ _
  omega

theorem rem_bd (a b : Int) (hb : 1 ≤ b) : -b < a.tmod b ∧ a.tmod b < b := by
  have h5 : (a.tmod b).natAbs < b.natAbs := by rw [Int.natAbs_tmod]; exact Nat.mod_lt _ (by omega)
  omega

/-- The document's own quotient: what is left is taken off first. -/
theorem ref_floor (a b : Int) (hb : 1 ≤ b) : (a.tmod b < 0 → (a - (a.tmod b + b)).tdiv b = a / b) ∧ (0 ≤ a.tmod b → (a - a.tmod b).tdiv b = a / b) := by
  have h1 := Int.mul_tdiv_add_tmod a b
  have hf := floor_eq a b hb
  have hb0 : b ≠ 0 := by omega
  constructor
  · intro h
    have e : a - (a.tmod b + b) = b * (a.tdiv b - 1) := by rw [Int.mul_sub, Int.mul_one]; omega
    rw [e, Int.mul_tdiv_cancel_left _ hb0]; exact hf.1 h
  · intro h
    have e : a - a.tmod b = b * a.tdiv b := by omega
    rw [e, Int.mul_tdiv_cancel_left _ hb0]; exact hf.2 h

/-- What divides both. -/
def gcdZ (a b : Int) : Int := ((Nat.gcd a.toNat b.toNat : Nat) : Int)

theorem gcdZ_zero (a : Int) (h : 0 ≤ a) : gcdZ a 0 = a := by unfold gcdZ; simp; omega
theorem gcdZ_step (a b : Int) (ha : 0 ≤ a) (hb : 0 ≤ b) : gcdZ a b = gcdZ b (a % b) := by
  obtain ⟨x, rfl⟩ := Int.eq_ofNat_of_zero_le ha
  obtain ⟨y, rfl⟩ := Int.eq_ofNat_of_zero_le hb
  unfold gcdZ
  have : ((x : Int) % (y : Int)).toNat = x % y := by rw [← Int.natCast_emod]; rfl
  rw [this, Int.toNat_natCast, Int.toNat_natCast, Nat.gcd_comm x y, Nat.gcd_rec y x, Nat.gcd_comm]
theorem gcdZ_nonneg (a b : Int) : 0 ≤ gcdZ a b := by unfold gcdZ; omega
theorem gcdZ_pos (a b : Int) (ha : 1 ≤ a) : 1 ≤ gcdZ a b := by
  unfold gcdZ
  have := Nat.gcd_pos_of_pos_left (m := a.toNat) b.toNat (by omega)
  omega
theorem gcdZ_pos' (a b : Int) (hb : 1 ≤ b) : 1 ≤ gcdZ a b := by
  unfold gcdZ
  have := Nat.gcd_pos_of_pos_right (n := b.toNat) a.toNat (by omega)
  omega
theorem gcdZ_dvd_left (a b : Int) (ha : 0 ≤ a) : gcdZ a b ∣ a := by
  unfold gcdZ
  have := Int.natCast_dvd_natCast.2 (Nat.gcd_dvd_left a.toNat b.toNat)
  rwa [Int.toNat_of_nonneg ha] at this
theorem gcdZ_dvd_right (a b : Int) (hb : 0 ≤ b) : gcdZ a b ∣ b := by
  unfold gcdZ
  have := Int.natCast_dvd_natCast.2 (Nat.gcd_dvd_right a.toNat b.toNat)
  rwa [Int.toNat_of_nonneg hb] at this
theorem gcdZ_le (a b : Int) (ha : 1 ≤ a) : gcdZ a b ≤ a := Int.le_of_dvd (by omega) (gcdZ_dvd_left a b (by omega))

end Go.Proofs.Ytldiplnccgoeiaa.Ar
