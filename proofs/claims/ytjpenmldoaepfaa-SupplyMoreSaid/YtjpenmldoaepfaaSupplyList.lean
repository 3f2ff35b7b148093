/-
  Layer 9 (supply): how many of a list; which lists are legal; what they give at least: plain mathematics.
-/
import Derived.Test.YtjpenmldoaepfaaSupplyFace
import Derived.Test.YtjpenmldoaepfaaMemFlags
namespace Go.Proofs.Ytjpenmldoaepfaa
open Go.RowKit Mm
namespace Sp

theorem cnt_succ (p : Nat → Bool) (n : Nat) : cnt p (n + 1) = cnt p n + (if p n then 1 else 0) := rfl
theorem cnt_zero (p : Nat → Bool) : cnt p 0 = 0 := rfl
theorem cnt_len (p : Nat → Bool) (n : Nat) : cnt p n ≤ n := by
  have := cnt_slow p (Nat.zero_le n)
  rw [cnt_zero] at this
  omega
/-- how many of l are given, from i on and below j -/
def inN (l : List Bool) (i j : Nat) : Nat := cnt (at_ l) j - cnt (at_ l) i
theorem inN_len (l : List Bool) (i j : Nat) : inN l i j ≤ j - i := by
  unfold inN
  rcases Nat.le_total i j with h | h
  · have := cnt_slow (at_ l) h
    omega
  · have := cnt_mono (at_ l) h
    omega
theorem inN_same (l : List Bool) (i : Nat) : inN l i i = 0 := Nat.sub_self _
theorem inN_yes {l : List Bool} {i j : Nat} (h : i ≤ j) (hp : at_ l j = true) : inN l i (j + 1) = inN l i j + 1 := by
  have := cnt_mono (at_ l) h
  unfold inN
  rw [cnt_succ, hp]
  simp; omega
theorem inN_no {l : List Bool} {i j : Nat} (hp : at_ l j = false) : inN l i (j + 1) = inN l i j := by
  unfold inN
  rw [cnt_succ, hp]
  simp
theorem inN_add (l : List Bool) {i j k : Nat} (h1 : i ≤ j) (h2 : j ≤ k) : inN l i k = inN l i j + inN l j k := by
  have := cnt_mono (at_ l) h1
  have := cnt_mono (at_ l) h2
  unfold inN
  omega

/-- every whole period has its ticks -/
def legB (P B : Nat) (l : List Bool) : Bool := decide (∀ j, j < l.length / P → B ≤ inN l (j * P) (j * P + P))
theorem leg_iff {P B : Nat} {l : List Bool} : legB P B l = true ↔ ∀ j, j < l.length / P → B ≤ inN l (j * P) (j * P + P) := by unfold legB; exact decide_eq_true_iff
theorem leg_no {P B : Nat} {l : List Bool} {j : Nat} (hj : j < l.length / P) (h : ¬ B ≤ inN l (j * P) (j * P + P)) : legB P B l = false := by
  unfold legB
  rw [decide_eq_false_iff_not]
  exact fun e => h (e j hj)
/-- .. of an interface that is right -/
def legalB (P B : Int) (l : List Bool) : Bool := rightB P B && legB P.toNat B.toNat l
theorem legal_iff {P B : Int} {l : List Bool} : legalB P B l = true ↔ rightB P B = true ∧ legB P.toNat B.toNat l = true := by unfold legalB; rw [Bool.and_eq_true]
theorem period_le {P j n : Nat} (hP : 0 < P) (hj : j < n / P) : j * P + P ≤ n := by
  have h1 := Nat.mul_le_mul_right P (show j + 1 ≤ n / P from hj)
  have h2 := Nat.div_mul_le_self n P
  rw [Nat.add_mul] at h1
  omega

/-- the least of the first k + 1 places -/
def leastTo (l : List Bool) (t : Nat) : Nat → Nat
  | 0 => inN l 0 t
  | k + 1 => min (leastTo l t k) (inN l (k + 1) (k + 1 + t))
theorem leastTo_len (l : List Bool) (t : Nat) : ∀ k, leastTo l t k ≤ t
  | 0 => by have := inN_len l 0 t; rw [leastTo]; omega
  | k + 1 => by have := leastTo_len l t k; rw [leastTo]; omega
theorem leastTo_le (l : List Bool) (t : Nat) : ∀ k j, j ≤ k → leastTo l t k ≤ inN l j (j + t)
  | 0, j, h => by
    have : j = 0 := by omega
    subst this
    rw [leastTo, Nat.zero_add]
    exact Nat.le_refl _
  | k + 1, j, h => by
    rw [leastTo]
    rcases Nat.lt_or_ge j (k + 1) with h' | h'
    · have := leastTo_le l t k j (by omega)
      omega
    · have : j = k + 1 := by omega
      subst this
      omega
theorem leastTo_ge {l : List Bool} {t m : Nat} : ∀ {k}, (∀ j, j ≤ k → m ≤ inN l j (j + t)) → m ≤ leastTo l t k
  | 0, h => by have := h 0 (by omega); rw [Nat.zero_add] at this; exact this
  | k + 1, h => by
    have h1 := leastTo_ge (k := k) (fun j hj => h j (by omega))
    have h2 := h (k + 1) (by omega)
    rw [leastTo]
    omega
/-- what is given at least in t ticks one behind the other -/
def leastZ (l : List Bool) (t : Int) : Nat := if 0 ≤ t ∧ t ≤ l.length then leastTo l t.toNat (l.length - t.toNat) else 0
theorem leastZ_in {l : List Bool} {t : Nat} (h : t ≤ l.length) : leastZ l t = leastTo l t (l.length - t) := by
  unfold leastZ
  rw [if_pos ⟨by omega, by omega⟩, Int.toNat_natCast]
theorem leastZ_out {l : List Bool} {t : Int} (h : t < 0 ∨ l.length < t) : leastZ l t = 0 := by
  unfold leastZ
  rw [if_neg (by omega)]
theorem leastZ_zero (l : List Bool) : leastZ l 0 = 0 := by
  have := leastTo_len l 0 (l.length - 0)
  have h := leastZ_in (l := l) (t := 0) (by omega)
  have e : leastZ l ((0 : Nat) : Int) = leastZ l 0 := rfl
  omega
theorem leastZ_len (l : List Bool) (t : Int) : leastZ l t ≤ l.length := by
  unfold leastZ
  split
  · have := leastTo_len l t.toNat (l.length - t.toNat)
    omega
  · omega
/-- the tick that leaves and the one that joins -/
theorem inN_slide (l : List Bool) (k t : Nat) : inN l (k + 1) (k + 1 + t) + inN l k (k + 1) = inN l k (k + t) + inN l (k + t) (k + t + 1) := by
  have h1 := inN_add l (i := k) (j := k + 1) (k := k + 1 + t) (by omega) (by omega)
  have h2 := inN_add l (i := k) (j := k + t) (k := k + t + 1) (by omega) (by omega)
  rw [show k + t + 1 = k + 1 + t from by omega] at *
  omega

end Sp
end Go.Proofs.Ytjpenmldoaepfaa
