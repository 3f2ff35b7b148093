/-
  Layer 10 (verdict): plain mathematics: what fits, fits for each tick; what doesn't, doesn't for some.
-/
import Derived.Test.YtldiplnccgoeiaaDemandMath
import Derived.Test.YtldiplnccgoeiaaBlockMath
import Derived.Test.YtldiplnccgoeiaaSupplyMath
namespace Go.Proofs.Ytldiplnccgoeiaa
namespace Vd
open Mm Tk Dm Bk Sp

/-- what tasks may ask and wait for -/
def need (L : List Tsk) (t : Nat) : Int := bnd L t + blk L t
/-- they fit -/
def Fit_ (L : List Tsk) (P B : Nat) : Prop := ∀ t : Nat, need L t ≤ sbf P B t
/-- asked, and given, in a cycle -/
def askT (x : Tsk) (H : Nat) : Int := x.1 * ((H : Int) / x.2.2.1)
def askTo (L : List Tsk) (H : Nat) : Nat → Int
  | 0 => 0
  | k + 1 => askTo L H k + askT (at_ L k) H
def asked (L : List Tsk) (H : Nat) : Int := askTo L H L.length
def given (P B H : Nat) : Nat := B * (H / P)

theorem njobs_steps {D T t : Int} (hT : 0 < T) (h : D ≤ t) : ∀ m : Nat, njobs D T (t + m * T) = njobs D T t + m
  | 0 => by simp
  | m + 1 => by
    have h0 : 0 ≤ (m : Int) * T := Int.mul_nonneg (by omega) (by omega)
    rw [show t + ((m + 1 : Nat) : Int) * T = (t + m * T) + T from by rw [show ((m + 1 : Nat) : Int) = (m : Int) + 1 from by omega, Int.add_mul]; omega, njobs_step hT (by omega), njobs_steps hT h m]
    omega
/-- H is a cycle of the tasks -/
def Cyc (L : List Tsk) (H : Nat) : Prop := ∀ j, j < L.length → (H : Int) % (at_ L j).2.2.1 = 0
theorem bndTo_cycle {L : List Tsk} (h : ∀ j, j < L.length → rightT (at_ L j) = true) {H : Nat} (hH : Cyc L H) {t : Int} (ht : ∀ j, j < L.length → (at_ L j).2.1 ≤ t) : ∀ {k : Nat}, k ≤ L.length → bndTo L (t + H) k = bndTo L t k + askTo L H k
  | 0, _ => by simp [bndTo, askTo]
  | k + 1, hk => by
    have ih := bndTo_cycle h hH ht (k := k) (by omega)
    have hx := right_T (h k (by omega))
    have hc := hH k (by omega)
    have hd := ht k (by omega)
    have e : bndT (at_ L k) (t + H) = bndT (at_ L k) t + askT (at_ L k) H := by
      generalize at_ L k = x at *
      unfold bndT askT
      have hq : (H : Int) = x.2.2.1 * ((H : Int) / x.2.2.1) := by
        have := Int.mul_ediv_add_emod (H : Int) x.2.2.1
        omega
      have hq0 : 0 ≤ (H : Int) / x.2.2.1 := Int.ediv_nonneg (by omega) (by omega)
      obtain ⟨m, hm⟩ : ∃ m : Nat, (H : Int) / x.2.2.1 = m := ⟨((H : Int) / x.2.2.1).toNat, by omega⟩
      rw [hm] at hq ⊢
      rw [hq, Int.mul_comm x.2.2.1, njobs_steps (by omega) hd, Int.mul_add]
    rw [bndTo, bndTo, askTo, ih, e]
    omega
theorem bnd_cycle {L : List Tsk} (h : allB L = true) {H : Nat} (hH : Cyc L H) {t : Int} (ht : ∀ j, j < L.length → (at_ L j).2.1 ≤ t) : bnd L (t + H) = bnd L t + asked L H := bndTo_cycle (all_right h) hH ht (Nat.le_refl _)
theorem bnd_cycles {L : List Tsk} (h : allB L = true) {H : Nat} (hH : Cyc L H) {t : Int} (ht : ∀ j, j < L.length → (at_ L j).2.1 ≤ t) : ∀ m : Nat, bnd L (t + m * H) = bnd L t + m * asked L H
  | 0 => by simp
  | m + 1 => by
    have h0 : 0 ≤ (m : Int) * (H : Int) := Int.mul_nonneg (by omega) (by omega)
    rw [show t + ((m + 1 : Nat) : Int) * (H : Int) = (t + m * H) + H from by rw [show ((m + 1 : Nat) : Int) = (m : Int) + 1 from by omega, Int.add_mul]; omega,
      bnd_cycle h hH (fun j hj => by have := ht j hj; omega), bnd_cycles h hH ht m, show ((m + 1 : Nat) : Int) = (m : Int) + 1 from by omega, Int.add_mul]
    omega
theorem sbf_cycle {P B H t : Nat} (hB : 1 ≤ B) (hBP : B ≤ P) (hH : H % P = 0) (h : P - B ≤ t) : sbf P B (t + H) = sbf P B t + given P B H := by
  have e : H = (H / P) * P := by have := Nat.div_add_mod H P; rw [Nat.mul_comm] at this; omega
  unfold given
  generalize H / P = m at *
  rw [e, sbf_periods hB hBP h, Nat.mul_comm B]
theorem sbf_cycles {P B H t : Nat} (hB : 1 ≤ B) (hBP : B ≤ P) (hH : H % P = 0) (h : P - B ≤ t) : ∀ m, sbf P B (t + m * H) = sbf P B t + m * given P B H
  | 0 => by simp
  | m + 1 => by
    rw [show t + (m + 1) * H = (t + m * H) + H from by rw [Nat.add_mul]; omega, sbf_cycle hB hBP hH (by omega), sbf_cycles hB hBP hH h m, Nat.add_mul]
    omega
theorem blk_late {L : List Tsk} {t : Int} (ht : ∀ j, j < L.length → (at_ L j).2.1 ≤ t) : blk L t = 0 := blk_high fun x hx => by
  obtain ⟨j, hj, rfl⟩ := mem_at hx
  exact ht j hj
/-- H is a cycle, E its end -/
structure End (L : List Tsk) (P H E : Nat) : Prop where
  pos : 0 < H
  cyc : Cyc L H
  per : H % P = 0
  far : H + 2 * P ≤ E
  due : ∀ j, j < L.length → (H : Int) + (at_ L j).2.1 ≤ E
/-- P10.3 -/
theorem fits_all {L : List Tsk} {P B H E : Nat} (h : allB L = true) (hB : 1 ≤ B) (hBP : B ≤ P) (hE : End L P H E) (ha : asked L H ≤ given P B H) (hf : ∀ t : Nat, t ≤ E → need L t ≤ sbf P B t) : Fit_ L P B := by
  intro t
  induction t using Nat.strongRecOn with
  | _ t ih =>
    rcases Nat.lt_or_ge E t with hlt | hge
    · have h1 := hE.pos
      have h2 := hE.far
      have ih' := ih (t - H) (by omega)
      have hd : ∀ j, j < L.length → (at_ L j).2.1 ≤ ((t - H : Nat) : Int) := fun j hj => by have := hE.due j hj; omega
      have hd' : ∀ j, j < L.length → (at_ L j).2.1 ≤ (t : Int) := fun j hj => by have := hE.due j hj; omega
      have e1 := bnd_cycle h hE.cyc hd
      rw [show ((t - H : Nat) : Int) + (H : Int) = (t : Int) from by omega] at e1
      have e2 := sbf_cycle (t := t - H) hB hBP hE.per (by omega)
      rw [show t - H + H = t from by omega] at e2
      unfold need at *
      rw [blk_late hd] at ih'
      rw [blk_late hd', e1, e2]
      omega
    · exact hf t hge
/-- where more is asked than given, there is a tick -/
theorem fits_not {L : List Tsk} {P B H E : Nat} (h : allB L = true) (hB : 1 ≤ B) (hBP : B ≤ P) (hE : End L P H E) (ha : ¬ asked L H ≤ given P B H) : sbf P B (E + H * (sbf P B E + 1)) < need L (E + H * (sbf P B E + 1) : Nat) := by
  have hd : ∀ j, j < L.length → (at_ L j).2.1 ≤ (E : Int) := fun j hj => by have := hE.due j hj; omega
  have hd' : ∀ j, j < L.length → (at_ L j).2.1 ≤ ((E + H * (sbf P B E + 1) : Nat) : Int) := fun j hj => by have := hE.due j hj; omega
  have h2 := hE.far
  unfold need
  rw [blk_late hd', Nat.mul_comm H, sbf_cycles hB hBP hE.per (by omega)]
  generalize sbf P B E = s at *
  have e1 := bnd_cycles h hE.cyc hd (s + 1)
  have e0 := bnd_nonneg h (E : Int)
  rw [show ((E + (s + 1) * H : Nat) : Int) = (E : Int) + ((s + 1 : Nat) : Int) * (H : Int) from by rw [Int.natCast_add, Int.natCast_mul], e1]
  have e2 : ((s + 1 : Nat) : Int) * ((given P B H : Int) + 1) ≤ ((s + 1 : Nat) : Int) * asked L H := Int.mul_le_mul_of_nonneg_left (by omega) (by omega)
  rw [Int.mul_add, Int.mul_one] at e2
  rw [Int.natCast_add, Int.natCast_mul]
  omega
/-- the whole verdict is exact -/
theorem fits_iff {L : List Tsk} {P B H E : Nat} (h : allB L = true) (hB : 1 ≤ B) (hBP : B ≤ P) (hE : End L P H E) : Fit_ L P B ↔ asked L H ≤ given P B H ∧ ∀ t : Nat, t ≤ E → need L t ≤ sbf P B t := by
  constructor
  · intro hf
    refine ⟨?_, fun t _ => hf t⟩
    rcases Int.lt_or_le (given P B H : Int) (asked L H) with h' | h'
    · have := fits_not h hB hBP hE (by omega)
      have := hf (E + H * (sbf P B E + 1))
      omega
    · exact h'
  · rintro ⟨h1, h2⟩
    exact fits_all h hB hBP hE h1 h2
/-- P10.4: a greater budget; a task less, without sections -/
theorem fit_more {L : List Tsk} {P B C : Nat} (hB : 1 ≤ B) (hBC : B ≤ C) (hC : C ≤ P) (hf : Fit_ L P B) : Fit_ L P C := fun t => by
  have h1 := hf t
  have h2 := sbf_more' (P := P) hB hBC hC t
  omega
theorem bnd_one (x : Tsk) (t : Int) : bnd [x] t = bndT x t := by
  show bndTo [x] t 1 = _
  rw [bndTo, bndTo]
  show 0 + bndT x t = _
  omega
theorem bnd_append (L M : List Tsk) (t : Int) : bnd (L ++ M) t = bnd L t + bnd M t := by
  have := bnd_split (L ++ M) t (n := L.length) (by simp)
  rw [List.take_left, List.drop_left] at this
  exact this.symm
theorem bnd_less {L : List Tsk} (h : allB L = true) {k : Nat} (hk : k < L.length) (t : Int) : bnd (L.take k ++ L.drop (k + 1)) t ≤ bnd L t := by
  have e1 := bnd_split L t (n := k) (by omega)
  have e2 := bnd_split (L.drop k) t (n := 1) (by rw [List.length_drop]; omega)
  have e3 : (L.drop k).take 1 = [at_ L k] := by rw [at_get hk, List.drop_eq_getElem_cons hk]; rfl
  have e4 : (L.drop k).drop 1 = L.drop (k + 1) := by rw [List.drop_drop]
  rw [e3, e4, bnd_one] at e2
  have := bndT_nonneg (all_right h k hk) t
  rw [bnd_append]
  omega
theorem fit_less {L : List Tsk} {P B : Nat} (h : allB L = true) {k : Nat} (hk : k < L.length) (hp : ∀ x ∈ L, x.2.2.2 = []) (hf : Fit_ L P B) : Fit_ (L.take k ++ L.drop (k + 1)) P B := fun t => by
  have h1 := hf t
  have h2 := bnd_less h hk (t : Int)
  have h3 := blk_plain hp (t : Int)
  have h4 := blk_plain (L := L.take k ++ L.drop (k + 1)) (fun x hx => hp x (by
    rcases List.mem_append.1 hx with hx | hx
    · exact List.mem_of_mem_take hx
    · exact List.mem_of_mem_drop hx)) (t : Int)
  unfold need at *
  rw [h3] at h1
  rw [h4]
  omega

end Vd
end Go.Proofs.Ytldiplnccgoeiaa
