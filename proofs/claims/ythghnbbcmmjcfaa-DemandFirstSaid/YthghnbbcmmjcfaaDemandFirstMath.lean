/-
  Layer 7 (demand): plain mathematics: the pattern in which all tasks are released at 0, and as soon as may be.
-/
import Derived.Test.YthghnbbcmmjcfaaDemandMath
namespace Go.Proofs.Ythghnbbcmmjcfaa
namespace Dm
open Mm Tk

/-- how many releases of one task -/
def firstN (t : Int) (x : Tsk) : Nat := (njobs 0 x.2.2.1 t).toNat
def firstR (L : List Tsk) (t : Int) : List (List Int) := L.map fun x => early x.2.2.1 (firstN t x)
theorem firstR_len (L : List Tsk) (t : Int) : (firstR L t).length = L.length := by simp [firstR]
theorem firstR_at {L : List Tsk} {t : Int} {j : Nat} (h : j < L.length) : at_ (firstR L t) j = early (at_ L j).2.2.1 (firstN t (at_ L j)) := by
  rw [at_get (by rw [firstR_len]; exact h), at_get h]
  simp [firstR]
theorem firstR_take (L : List Tsk) (t : Int) (k : Nat) : firstR (L.take k) t = (firstR L t).take k := by simp [firstR, List.map_take]
theorem firstR_step {L : List Tsk} {t : Int} {k : Nat} (h : k < L.length) : firstR (L.take (k + 1)) t = firstR (L.take k) t ++ [early (at_ L k).2.2.1 (firstN t (at_ L k))] := by
  rw [take_succ_at h]
  simp [firstR]
theorem firstN_le {x : Tsk} (h : rightT x = true) {t : Int} (h0 : 0 ≤ t) (ht : t ≤ 900) : firstN t x ≤ 901 ∧ ((firstN t x : Nat) : Int) = njobs 0 x.2.2.1 t := by
  have hx := right_T h
  have h1 := njobs_nonneg (D := 0) (T := x.2.2.1) (t := t) (by omega)
  have h2 : njobs 0 x.2.2.1 t ≤ t + 1 := by
    rcases Int.lt_or_le (t + 1) (njobs 0 x.2.2.1 t) with h | h
    · have h3 := (lt_njobs (D := 0) (T := x.2.2.1) (t := t) (by omega) (t + 1) (by omega)).2 h
      have h4 : (t + 1) * 1 ≤ (t + 1) * x.2.2.1 := Int.mul_le_mul_of_nonneg_left (by omega) (by omega)
      omega
    · exact h
  unfold firstN
  omega
theorem first_legal {L : List Tsk} (h : allB L = true) {t : Int} (h0 : 0 ≤ t) (ht : t ≤ 900) : legalB L (firstR L t) = true := by
  rw [legal_iff, firstR_len]
  refine ⟨h, rfl, fun i hi => ?_⟩
  have hr := all_right h i hi
  have hx := right_T hr
  have hn := firstN_le hr h0 ht
  rw [firstR_at hi]
  refine early_row (by omega) (by omega) ?_
  have : ((firstN t (at_ L i) : Nat) : Int) * (at_ L i).2.2.1 ≤ 901 * 200 := Int.mul_le_mul (by omega) (by omega) (by omega) (by omega)
  omega
theorem first_demTo {L : List Tsk} (h : allB L = true) {t : Int} (h0 : 0 ≤ t) (ht : t ≤ 900) : ∀ {k : Nat}, k ≤ L.length → demTo L (firstR L t) 0 t k = bndTo L t k
  | 0, _ => rfl
  | k + 1, hk => by
    have hr := all_right h k (by omega)
    have hx := right_T hr
    have hn := firstN_le hr h0 ht
    rw [demTo, bndTo, first_demTo h h0 ht (k := k) (by omega), firstR_at (by omega), early_cnt (by omega)]
    unfold bndT
    have : njobs (at_ L k).2.1 (at_ L k).2.2.1 t ≤ njobs 0 (at_ L k).2.2.1 t := by
      rcases Int.lt_or_le (njobs 0 (at_ L k).2.2.1 t) (njobs (at_ L k).2.1 (at_ L k).2.2.1 t) with h' | h'
      · have g0 := njobs_nonneg (D := 0) (T := (at_ L k).2.2.1) (t := t) (by omega)
        have g1 := (lt_njobs (D := (at_ L k).2.1) (T := (at_ L k).2.2.1) (t := t) (by omega) _ g0).2 h'
        have g2 := (lt_njobs (D := 0) (T := (at_ L k).2.2.1) (t := t) (by omega) _ g0).1 (by omega)
        omega
      · exact h'
    split
    · rw [show ((firstN t (at_ L k) : Nat) : Int) = njobs (at_ L k).2.1 (at_ L k).2.2.1 t from by omega]
    · rfl
/-- P7.3 -/
theorem first_dem {L : List Tsk} (h : allB L = true) {t : Int} (h0 : 0 ≤ t) (ht : t ≤ 900) : dem L (firstR L t) 0 t = bnd L t := by
  unfold dem bnd
  rw [firstR_len]
  exact first_demTo h h0 ht (Nat.le_refl _)

end Dm
end Go.Proofs.Ythghnbbcmmjcfaa
