/-
  Merged texts: VerdictMath, VerdictCyc, VerdictHas, VerdictRange, VerdictNeed, VerdictCycle, VerdictFirst, VerdictFits.
-/
import Derived.Test.YtdjjdebnbaaihaaGdemand
import Derived.Test.YtdjjdebnbaaihaaGblock
import Derived.Test.YtdjjdebnbaaihaaGsupply
import Derived.Test.YtdjjdebnbaaihaaGtask
import Derived.RangeFuncNested
import Derived.RangeFuncBound
import Derived.RangeFuncCalls
import Derived.RangeFuncLeaves
import Derived.Shelf.Abstract
import Derived.Shelf.RegionOpen
import Derived.OwnWalkIn
import Derived.TacticsInMore
import Derived.LoopNIn
import Derived.LoopIn
import Derived.Test.YtdjjdebnbaaihaaGarith
/-
  Layer 10 (verdict): plain mathematics: what fits, fits for each tick; what doesn't, doesn't for some.
-/
namespace Go.Proofs.Ytdjjdebnbaaihaa
namespace Vd
open Mm Tk Dm Bk Sp

/-- what tasks may ask and wait for -/
def need (L : List Tsk) (t : Nat) : Int := bnd L t + blk L t
/-- they fit -/
def Fit_ (L : List Tsk) (P B : Nat) : Prop := ∀ t : Nat, need L t ≤ sbf P B t
/-- asked, and given, in a cycle -/
def askT (x : Tsk) (H : Nat) : Int := x.1 * ((H : Int) / x.2.2.1)
def askTo (L : List Tsk) (H : Nat) : Nat → Int
  | 0 => 0
  | k + 1 => askTo L H k + askT (at_ L k) H
def asked (L : List Tsk) (H : Nat) : Int := askTo L H L.length
def given (P B H : Nat) : Nat := B * (H / P)

theorem njobs_steps {D T t : Int} (hT : 0 < T) (h : D ≤ t) : ∀ m : Nat, njobs D T (t + m * T) = njobs D T t + m
  | 0 => by simp
  | m + 1 => by
    have h0 : 0 ≤ (m : Int) * T := Int.mul_nonneg (by omega) (by omega)
    rw [show t + ((m + 1 : Nat) : Int) * T = (t + m * T) + T from by rw [show ((m + 1 : Nat) : Int) = (m : Int) + 1 from by omega, Int.add_mul]; omega, njobs_step hT (by omega), njobs_steps hT h m]
    omega
/-- H is a cycle of the tasks -/
def Cyc (L : List Tsk) (H : Nat) : Prop := ∀ j, j < L.length → (H : Int) % (at_ L j).2.2.1 = 0
theorem bndTo_cycle {L : List Tsk} (h : ∀ j, j < L.length → rightT (at_ L j) = true) {H : Nat} (hH : Cyc L H) {t : Int} (ht : ∀ j, j < L.length → (at_ L j).2.1 ≤ t) : ∀ {k : Nat}, k ≤ L.length → bndTo L (t + H) k = bndTo L t k + askTo L H k
  | 0, _ => by simp [bndTo, askTo]
  | k + 1, hk => by
    have ih := bndTo_cycle h hH ht (k := k) (by omega)
    have hx := right_T (h k (by omega))
    have hc := hH k (by omega)
    have hd := ht k (by omega)
    have e : bndT (at_ L k) (t + H) = bndT (at_ L k) t + askT (at_ L k) H := by
      generalize at_ L k = x at *
      unfold bndT askT
      have hq : (H : Int) = x.2.2.1 * ((H : Int) / x.2.2.1) := by
        have := Int.mul_ediv_add_emod (H : Int) x.2.2.1
        omega
      have hq0 : 0 ≤ (H : Int) / x.2.2.1 := Int.ediv_nonneg (by omega) (by omega)
      obtain ⟨m, hm⟩ : ∃ m : Nat, (H : Int) / x.2.2.1 = m := ⟨((H : Int) / x.2.2.1).toNat, by omega⟩
      rw [hm] at hq ⊢
      rw [hq, Int.mul_comm x.2.2.1, njobs_steps (by omega) hd, Int.mul_add]
    rw [bndTo, bndTo, askTo, ih, e]
    omega
theorem bnd_cycle {L : List Tsk} (h : allB L = true) {H : Nat} (hH : Cyc L H) {t : Int} (ht : ∀ j, j < L.length → (at_ L j).2.1 ≤ t) : bnd L (t + H) = bnd L t + asked L H := bndTo_cycle (all_right h) hH ht (Nat.le_refl _)
theorem bnd_cycles {L : List Tsk} (h : allB L = true) {H : Nat} (hH : Cyc L H) {t : Int} (ht : ∀ j, j < L.length → (at_ L j).2.1 ≤ t) : ∀ m : Nat, bnd L (t + m * H) = bnd L t + m * asked L H
  | 0 => by simp
  | m + 1 => by
    have h0 : 0 ≤ (m : Int) * (H : Int) := Int.mul_nonneg (by omega) (by omega)
    rw [show t + ((m + 1 : Nat) : Int) * (H : Int) = (t + m * H) + H from by rw [show ((m + 1 : Nat) : Int) = (m : Int) + 1 from by omega, Int.add_mul]; omega,
      bnd_cycle h hH (fun j hj => by have := ht j hj; omega), bnd_cycles h hH ht m, show ((m + 1 : Nat) : Int) = (m : Int) + 1 from by omega, Int.add_mul]
    omega
theorem sbf_cycle {P B H t : Nat} (hB : 1 ≤ B) (hBP : B ≤ P) (hH : H % P = 0) (h : P - B ≤ t) : sbf P B (t + H) = sbf P B t + given P B H := by
  have e : H = (H / P) * P := by have := Nat.div_add_mod H P; rw [Nat.mul_comm] at this; omega
  unfold given
  generalize H / P = m at *
  rw [e, sbf_periods hB hBP h, Nat.mul_comm B]
theorem sbf_cycles {P B H t : Nat} (hB : 1 ≤ B) (hBP : B ≤ P) (hH : H % P = 0) (h : P - B ≤ t) : ∀ m, sbf P B (t + m * H) = sbf P B t + m * given P B H
  | 0 => by simp
  | m + 1 => by
    rw [show t + (m + 1) * H = (t + m * H) + H from by rw [Nat.add_mul]; omega, sbf_cycle hB hBP hH (by omega), sbf_cycles hB hBP hH h m, Nat.add_mul]
    omega
theorem blk_late {L : List Tsk} {t : Int} (ht : ∀ j, j < L.length → (at_ L j).2.1 ≤ t) : blk L t = 0 := blk_high fun x hx => by
  obtain ⟨j, hj, rfl⟩ := mem_at hx
  exact ht j hj
/-- H is a cycle, E its end -/
structure End (L : List Tsk) (P H E : Nat) : Prop where
  pos : 0 < H
  cyc : Cyc L H
  per : H % P = 0
  far : H + 2 * P ≤ E
  due : ∀ j, j < L.length → (H : Int) + (at_ L j).2.1 ≤ E
/-- P10.3 -/
theorem fits_all {L : List Tsk} {P B H E : Nat} (h : allB L = true) (hB : 1 ≤ B) (hBP : B ≤ P) (hE : End L P H E) (ha : asked L H ≤ given P B H) (hf : ∀ t : Nat, t ≤ E → need L t ≤ sbf P B t) : Fit_ L P B := by
  intro t
  induction t using Nat.strongRecOn with
  | _ t ih =>
    rcases Nat.lt_or_ge E t with hlt | hge
    · have h1 := hE.pos
      have h2 := hE.far
      have ih' := ih (t - H) (by omega)
      have hd : ∀ j, j < L.length → (at_ L j).2.1 ≤ ((t - H : Nat) : Int) := fun j hj => by have := hE.due j hj; omega
      have hd' : ∀ j, j < L.length → (at_ L j).2.1 ≤ (t : Int) := fun j hj => by have := hE.due j hj; omega
      have e1 := bnd_cycle h hE.cyc hd
      rw [show ((t - H : Nat) : Int) + (H : Int) = (t : Int) from by omega] at e1
      have e2 := sbf_cycle (t := t - H) hB hBP hE.per (by omega)
      rw [show t - H + H = t from by omega] at e2
      unfold need at *
      rw [blk_late hd] at ih'
      rw [blk_late hd', e1, e2]
      omega
    · exact hf t hge
/-- where more is asked than given, there is a tick -/
theorem fits_not {L : List Tsk} {P B H E : Nat} (h : allB L = true) (hB : 1 ≤ B) (hBP : B ≤ P) (hE : End L P H E) (ha : ¬ asked L H ≤ given P B H) : sbf P B (E + H * (sbf P B E + 1)) < need L (E + H * (sbf P B E + 1) : Nat) := by
  have hd : ∀ j, j < L.length → (at_ L j).2.1 ≤ (E : Int) := fun j hj => by have := hE.due j hj; omega
  have hd' : ∀ j, j < L.length → (at_ L j).2.1 ≤ ((E + H * (sbf P B E + 1) : Nat) : Int) := fun j hj => by have := hE.due j hj; omega
  have h2 := hE.far
  unfold need
  rw [blk_late hd', Nat.mul_comm H, sbf_cycles hB hBP hE.per (by omega)]
  generalize sbf P B E = s at *
  have e1 := bnd_cycles h hE.cyc hd (s + 1)
  have e0 := bnd_nonneg h (E : Int)
  rw [show ((E + (s + 1) * H : Nat) : Int) = (E : Int) + ((s + 1 : Nat) : Int) * (H : Int) from by rw [Int.natCast_add, Int.natCast_mul], e1]
  have e2 : ((s + 1 : Nat) : Int) * ((given P B H : Int) + 1) ≤ ((s + 1 : Nat) : Int) * asked L H := Int.mul_le_mul_of_nonneg_left (by omega) (by omega)
  rw [Int.mul_add, Int.mul_one] at e2
  rw [Int.natCast_add, Int.natCast_mul]
  omega
/-- the whole verdict is exact -/
theorem fits_iff {L : List Tsk} {P B H E : Nat} (h : allB L = true) (hB : 1 ≤ B) (hBP : B ≤ P) (hE : End L P H E) : Fit_ L P B ↔ asked L H ≤ given P B H ∧ ∀ t : Nat, t ≤ E → need L t ≤ sbf P B t := by
  constructor
  · intro hf
    refine ⟨?_, fun t _ => hf t⟩
    rcases Int.lt_or_le (given P B H : Int) (asked L H) with h' | h'
    · have := fits_not h hB hBP hE (by omega)
      have := hf (E + H * (sbf P B E + 1))
      omega
    · exact h'
  · rintro ⟨h1, h2⟩
    exact fits_all h hB hBP hE h1 h2
/-- P10.4: a greater budget; a task less, without sections -/
theorem fit_more {L : List Tsk} {P B C : Nat} (hB : 1 ≤ B) (hBC : B ≤ C) (hC : C ≤ P) (hf : Fit_ L P B) : Fit_ L P C := fun t => by
  have h1 := hf t
  have h2 := sbf_more' (P := P) hB hBC hC t
  omega
theorem bnd_one (x : Tsk) (t : Int) : bnd [x] t = bndT x t := by
  show bndTo [x] t 1 = _
  rw [bndTo, bndTo]
  show 0 + bndT x t = _
  omega
theorem bnd_append (L M : List Tsk) (t : Int) : bnd (L ++ M) t = bnd L t + bnd M t := by
  have := bnd_split (L ++ M) t (n := L.length) (by simp)
  rw [List.take_left, List.drop_left] at this
  exact this.symm
theorem bnd_less {L : List Tsk} (h : allB L = true) {k : Nat} (hk : k < L.length) (t : Int) : bnd (L.take k ++ L.drop (k + 1)) t ≤ bnd L t := by
  have e1 := bnd_split L t (n := k) (by omega)
  have e2 := bnd_split (L.drop k) t (n := 1) (by rw [List.length_drop]; omega)
  have e3 : (L.drop k).take 1 = [at_ L k] := by rw [at_get hk, List.drop_eq_getElem_cons hk]; rfl
  have e4 : (L.drop k).drop 1 = L.drop (k + 1) := by rw [List.drop_drop]
  rw [e3, e4, bnd_one] at e2
  have := bndT_nonneg (all_right h k hk) t
  rw [bnd_append]
  omega
theorem fit_less {L : List Tsk} {P B : Nat} (h : allB L = true) {k : Nat} (hk : k < L.length) (hp : ∀ x ∈ L, x.2.2.2 = []) (hf : Fit_ L P B) : Fit_ (L.take k ++ L.drop (k + 1)) P B := fun t => by
  have h1 := hf t
  have h2 := bnd_less h hk (t : Int)
  have h3 := blk_plain hp (t : Int)
  have h4 := blk_plain (L := L.take k ++ L.drop (k + 1)) (fun x hx => hp x (by
    rcases List.mem_append.1 hx with hx | hx
    · exact List.mem_of_mem_take hx
    · exact List.mem_of_mem_drop hx)) (t : Int)
  unfold need at *
  rw [h3] at h1
  rw [h4]
  omega

end Vd
end Go.Proofs.Ytdjjdebnbaaihaa

/-
  Layer 10 (verdict): plain mathematics: the cycle (the least number that P and all T divide), the end; where the need rises; the first tick for which there is too little.
-/
namespace Go.Proofs.Ytdjjdebnbaaihaa
namespace Vd
open Mm Tk Dm Bk Sp

/-- the least number that P and the T of the first k tasks divide -/
def lcmTo (P : Nat) (L : List Tsk) : Nat → Nat
  | 0 => P
  | k + 1 => Nat.lcm (lcmTo P L k) (at_ L k).2.2.1.toNat
/-- the greatest D, or 2 * P -/
def farTo (P : Nat) (L : List Tsk) : Nat → Nat
  | 0 => 2 * P
  | k + 1 => max (farTo P L k) (at_ L k).2.1.toNat
def cyc (P : Nat) (L : List Tsk) : Nat := lcmTo P L L.length
def far (P : Nat) (L : List Tsk) : Nat := farTo P L L.length

theorem lcmTo_pos {P : Nat} {L : List Tsk} (hP : 1 ≤ P) (h : ∀ j, j < L.length → rightT (at_ L j) = true) : ∀ {k : Nat}, k ≤ L.length → 1 ≤ lcmTo P L k
  | 0, _ => hP
  | k + 1, hk => by
    have ih := lcmTo_pos hP h (k := k) (by omega)
    have hx := right_T (h k (by omega))
    rw [lcmTo]
    exact Nat.lcm_pos (by omega) (by omega)
theorem lcmTo_dvd (P : Nat) (L : List Tsk) {i k : Nat} (h : i ≤ k) : lcmTo P L i ∣ lcmTo P L k := by
  induction k with
  | zero =>
    have : i = 0 := by omega
    subst this
    exact Nat.dvd_refl _
  | succ k ih =>
    by_cases e : i = k + 1
    · subst e; exact Nat.dvd_refl _
    · rw [lcmTo]
      exact Nat.dvd_trans (ih (by omega)) (Nat.dvd_lcm_left _ _)
theorem lcmTo_T {P : Nat} {L : List Tsk} {j k : Nat} (h : j < k) : (at_ L j).2.2.1.toNat ∣ lcmTo P L k := Nat.dvd_trans (by rw [lcmTo]; exact Nat.dvd_lcm_right _ _) (lcmTo_dvd P L (show j + 1 ≤ k from h))
theorem lcmTo_least {P : Nat} {L : List Tsk} {n : Nat} (hP : P ∣ n) : ∀ {k : Nat}, (∀ j, j < k → (at_ L j).2.2.1.toNat ∣ n) → lcmTo P L k ∣ n
  | 0, _ => hP
  | k + 1, h => by
    rw [lcmTo]
    exact Nat.lcm_dvd (lcmTo_least hP fun j hj => h j (by omega)) (h k (by omega))
theorem lcmTo_le {P : Nat} {L : List Tsk} (hP : 1 ≤ P) (h : ∀ j, j < L.length → rightT (at_ L j) = true) {i k : Nat} (hik : i ≤ k) (hk : k ≤ L.length) : lcmTo P L i ≤ lcmTo P L k := Nat.le_of_dvd (by have := lcmTo_pos hP h hk; omega) (lcmTo_dvd P L hik)
theorem farTo_le (P : Nat) (L : List Tsk) {i k : Nat} (h : i ≤ k) : farTo P L i ≤ farTo P L k := by
  induction k with
  | zero =>
    have : i = 0 := by omega
    subst this
    exact Nat.le_refl _
  | succ k ih =>
    by_cases e : i = k + 1
    · subst e; exact Nat.le_refl _
    · have := ih (by omega)
      rw [farTo]
      omega
theorem farTo_D (P : Nat) (L : List Tsk) {j k : Nat} (h : j < k) : (at_ L j).2.1.toNat ≤ farTo P L k := Nat.le_trans (by rw [farTo]; omega) (farTo_le P L (show j + 1 ≤ k from h))
theorem farTo_small {P : Nat} {L : List Tsk} (hP : P ≤ 200) (h : ∀ j, j < L.length → rightT (at_ L j) = true) : ∀ {k : Nat}, k ≤ L.length → farTo P L k ≤ 400
  | 0, _ => by rw [farTo]; omega
  | k + 1, hk => by
    have ih := farTo_small hP h (k := k) (by omega)
    have hx := right_T (h k (by omega))
    rw [farTo]
    omega
theorem far_two (P : Nat) (L : List Tsk) : 2 * P ≤ far P L := by
  have := farTo_le P L (Nat.zero_le L.length)
  rw [farTo] at this
  exact this

/-- what is not refused -/
def inB (L : List Tsk) (P B : Int) : Bool := allB L && Sp.rightB P B
theorem in_iff {L : List Tsk} {P B : Int} : inB L P B = true ↔ allB L = true ∧ Sp.rightB P B = true := by unfold inB; rw [Bool.and_eq_true]
def cycOk (L : List Tsk) (P B : Int) : Bool := inB L P B && decide (cyc P.toNat L + far P.toNat L ≤ 3000)
theorem cycOk_iff {L : List Tsk} {P B : Int} : cycOk L P B = true ↔ inB L P B = true ∧ cyc P.toNat L + far P.toNat L ≤ 3000 := by unfold cycOk; rw [Bool.and_eq_true, decide_eq_true_iff]
/-- the cycle, the end, the error -/
def cycZ (L : List Tsk) (P B : Int) : Nat := if cycOk L P B then cyc P.toNat L else 0
def endZ (L : List Tsk) (P B : Int) : Nat := if cycOk L P B then cyc P.toNat L + far P.toNat L else 0
def cycE (L : List Tsk) (P B : Int) : Nat := if inB L P B then (if cycOk L P B then 0 else 5) else 1
theorem cycE_cases (L : List Tsk) (P B : Int) : cycE L P B = 0 ∨ cycE L P B = 1 ∨ cycE L P B = 5 := by
  unfold cycE
  split
  · split <;> simp
  · simp
theorem cyc_none {L : List Tsk} {P B : Int} (h : inB L P B = false) : cycZ L P B = 0 ∧ endZ L P B = 0 ∧ cycE L P B = 1 := by
  have : cycOk L P B = false := by unfold cycOk; rw [h]; rfl
  unfold cycZ endZ cycE
  rw [this, h]
  exact ⟨rfl, rfl, rfl⟩
theorem cyc_large {L : List Tsk} {P B : Int} (h : inB L P B = true) (hl : 3000 < cyc P.toNat L + far P.toNat L) : cycZ L P B = 0 ∧ endZ L P B = 0 ∧ cycE L P B = 5 := by
  have : cycOk L P B = false := by
    rw [← Bool.not_eq_true, cycOk_iff]
    rintro ⟨_, h2⟩
    omega
  unfold cycZ endZ cycE
  rw [this, h]
  exact ⟨rfl, rfl, rfl⟩
theorem cyc_fine {L : List Tsk} {P B : Int} (h : cycOk L P B = true) : cycZ L P B = cyc P.toNat L ∧ endZ L P B = cyc P.toNat L + far P.toNat L ∧ cycE L P B = 0 := by
  unfold cycZ endZ cycE
  rw [h, (cycOk_iff.1 h).1]
  exact ⟨rfl, rfl, rfl⟩
theorem cycE_zero {L : List Tsk} {P B : Int} : cycE L P B = 0 ↔ cycOk L P B = true := by
  constructor
  · intro h
    cases hi : inB L P B with
    | false => rw [(cyc_none hi).2.2] at h; cases h
    | true =>
      rcases Nat.lt_or_ge 3000 (cyc P.toNat L + far P.toNat L) with h' | h'
      · rw [(cyc_large hi h').2.2] at h; cases h
      · exact cycOk_iff.2 ⟨hi, h'⟩
  · intro h
    exact (cyc_fine h).2.2
theorem cyc_end {L : List Tsk} {P B : Nat} (h : allB L = true) (hB : 1 ≤ B) (hBP : B ≤ P) : End L P (cyc P L) (cyc P L + far P L) where
  pos := lcmTo_pos (by omega) (all_right h) (Nat.le_refl _)
  cyc := fun j hj => by
    have h1 := lcmTo_T (P := P) (L := L) hj
    have hx := right_T (all_right h j hj)
    unfold Vd.cyc
    generalize lcmTo P L L.length = n at *
    generalize (at_ L j).2.2.1 = T at *
    obtain ⟨q, hq⟩ := h1
    rw [show (n : Int) = T * q from by rw [hq, Int.natCast_mul, Int.toNat_of_nonneg (by omega)]]
    exact Int.mul_emod_right _ _
  per := Nat.mod_eq_zero_of_dvd (lcmTo_dvd P L (Nat.zero_le _))
  far := by have := far_two P L; omega
  due := fun j hj => by
    have h1 := farTo_D P L hj
    have hx := right_T (all_right h j hj)
    unfold Vd.far
    omega

/-! ### at the cycle itself -/
theorem bndTo_at {L : List Tsk} (h : ∀ j, j < L.length → rightT (at_ L j) = true) {H : Nat} (h0 : 0 < H) (hH : Cyc L H) : ∀ {k : Nat}, k ≤ L.length → bndTo L H k = askTo L H k
  | 0, _ => rfl
  | k + 1, hk => by
    have ih := bndTo_at h h0 hH (k := k) (by omega)
    have hx := right_T (h k (by omega))
    have hc := hH k (by omega)
    have e : bndT (at_ L k) H = askT (at_ L k) H := by
      generalize at_ L k = x at *
      unfold bndT askT
      congr 1
      have hq : (H : Int) = x.2.2.1 * ((H : Int) / x.2.2.1) := by
        have := Int.mul_ediv_add_emod (H : Int) x.2.2.1
        omega
      have hq1 : x.2.2.1 ≤ (H : Int) := Int.le_of_dvd (by omega) (Int.dvd_of_emod_eq_zero hc)
      generalize (H : Int) / x.2.2.1 = q at *
      rw [njobs_eq (by omega)]
      have : (H : Int) - x.2.1 = (x.2.2.1 - x.2.1) + (q - 1) * x.2.2.1 := by rw [hq, Int.sub_mul, Int.mul_comm q]; omega
      rw [this, Int.add_mul_ediv_right _ _ (by omega), Int.ediv_eq_zero_of_lt (by omega) (by omega)]
      omega
    rw [bndTo, askTo, ih]
    show _ + bndT (at_ L k) H = _
    rw [e]
theorem sbf_share {P B H : Nat} (hB : 1 ≤ B) (hBP : B ≤ P) (h0 : 0 < H) (hH : H % P = 0) : sbf P B H ≤ given P B H := by
  obtain ⟨m, rfl⟩ := Nat.dvd_of_mod_eq_zero hH
  unfold given
  rw [Nat.mul_div_cancel_left _ (by omega)]
  obtain ⟨k, rfl⟩ : ∃ k, m = k + 1 := ⟨m - 1, by
    have : m ≠ 0 := by intro e; subst e; omega
    omega⟩
  rw [Nat.mul_comm P (k + 1), Nat.add_mul, Nat.one_mul, Nat.add_comm, sbf_periods hB hBP (by omega)]
  have h1 : sbf P B P ≤ B := by
    have h2 := sbf_period (t := P - B) hB hBP (Nat.le_refl _)
    have h3 := sbf_at (P := P) (B := B) 0 0 (by omega)
    simp only [Nat.zero_mul, Nat.add_zero, Nat.mul_zero, Nat.zero_sub] at h3
    rw [h3] at h2
    have h4 := sbf_mono (P := P) (B := B) (t := P) (u := P - B + P) hB hBP (by omega)
    omega
  rw [Nat.mul_add, Nat.mul_one, Nat.mul_comm B]
  omega
/-- where all ticks up to the end are enough, all are -/
theorem fits_end {L : List Tsk} {P B H E : Nat} (h : allB L = true) (hB : 1 ≤ B) (hBP : B ≤ P) (hE : End L P H E) (hf : ∀ t : Nat, t ≤ E → need L t ≤ sbf P B t) : asked L H ≤ given P B H := by
  have h1 := hf H (by have := hE.far; omega)
  have h2 := sbf_share hB hBP hE.pos hE.per
  have h3 : bnd L H = asked L H := bndTo_at (all_right h) hE.pos hE.cyc (Nat.le_refl _)
  unfold need at h1
  omega

/-! ### where the need rises -/
/-- a job of x is due at t, if all begin at 0 -/
def dueT (t : Int) (x : Tsk) : Bool := decide (x.2.1 ≤ t) && decide ((t - x.2.1) % x.2.2.1 = 0)
def dueL (L : List Tsk) (t : Int) : Bool := L.any (dueT t)
theorem due_not {L : List Tsk} {t : Int} (h : dueL L t = false) {j : Nat} (hj : j < L.length) : dueT t (at_ L j) = false := by
  unfold dueL at h
  rw [List.any_eq_false] at h
  have := h _ (at_mem hj)
  cases e : dueT t (at_ L j) with
  | true => exact absurd e this
  | false => rfl
theorem bndT_flat {x : Tsk} (hx : rightT x = true) {t : Int} (h : dueT t x = false) : bndT x t = bndT x (t - 1) := by
  have hT := right_T hx
  unfold bndT
  congr 1
  unfold dueT at h
  rw [Bool.and_eq_false_iff, decide_eq_false_iff_not, decide_eq_false_iff_not] at h
  unfold njobs
  by_cases h1 : t < x.2.1
  · rw [if_pos h1, if_pos (by omega)]
  · have h2 : (t - x.2.1) % x.2.2.1 ≠ 0 := by
      rcases h with h | h
      · omega
      · exact h
    have h3 : ¬ t = x.2.1 := by
      intro e
      apply h2
      rw [e, Int.sub_self]
      simp
    rw [if_neg h1, if_neg (by omega)]
    have e1 := Int.mul_ediv_add_emod (t - x.2.1) x.2.2.1
    have e2 := Int.emod_lt_of_pos (t - x.2.1) (b := x.2.2.1) (by omega)
    have e3 := Int.emod_nonneg (t - x.2.1) (b := x.2.2.1) (by omega)
    generalize hq : (t - x.2.1) / x.2.2.1 = q at *
    generalize (t - x.2.1) % x.2.2.1 = r at *
    have e4 : t - 1 - x.2.1 = (r - 1) + q * x.2.2.1 := by rw [Int.mul_comm]; omega
    rw [e4, Int.add_mul_ediv_right _ _ (by omega), Int.ediv_eq_zero_of_lt (by omega) (by omega)]
    omega
theorem bndTo_flat {L : List Tsk} (h : ∀ j, j < L.length → rightT (at_ L j) = true) {t : Int} (hd : ∀ j, j < L.length → dueT t (at_ L j) = false) : ∀ {k : Nat}, k ≤ L.length → bndTo L t k = bndTo L (t - 1) k
  | 0, _ => rfl
  | k + 1, hk => by
    rw [bndTo, bndTo, bndTo_flat h hd (k := k) (by omega)]
    show _ + bndT (at_ L k) t = _ + bndT (at_ L k) (t - 1)
    rw [bndT_flat (h k (by omega)) (hd k (by omega))]
theorem need_flat {L : List Tsk} (h : allB L = true) {t : Nat} (hd : dueL L (t + 1 : Nat) = false) : need L (t + 1) = need L t := by
  have hj : ∀ j, j < L.length → dueT ((t + 1 : Nat) : Int) (at_ L j) = false := fun j hj => due_not hd hj
  unfold need
  have e1 : bnd L ((t + 1 : Nat) : Int) = bnd L (t : Nat) := by
    have := bndTo_flat (all_right h) hj (Nat.le_refl _)
    rw [show ((t + 1 : Nat) : Int) - 1 = (t : Nat) from by omega] at this
    exact this
  have e2 : blk L ((t + 1 : Nat) : Int) = blk L (t : Nat) := blk_same fun x hx => by
    obtain ⟨j, hj', rfl⟩ := mem_at hx
    have h1 := hj j hj'
    unfold dueT at h1
    rw [Bool.and_eq_false_iff, decide_eq_false_iff_not, decide_eq_false_iff_not] at h1
    constructor
    · intro h2
      rcases h1 with h1 | h1
      · omega
      · have h3 : ¬ ((t + 1 : Nat) : Int) = (at_ L j).2.1 := by
          intro e
          apply h1
          rw [e, Int.sub_self]
          simp
        omega
    · intro h2; omega
  rw [e1, e2]
theorem need_zero {L : List Tsk} (h : allB L = true) : need L 0 = 0 := by
  unfold need
  have e1 : bnd L ((0 : Nat) : Int) = 0 := by
    have : ∀ k, k ≤ L.length → bndTo L ((0 : Nat) : Int) k = 0 := by
      intro k
      induction k with
      | zero => intro _; rfl
      | succ k ih =>
        intro hk
        have hx := right_T (all_right h k (by omega))
        rw [bndTo, ih (by omega)]
        unfold bndT
        rw [njobs_zero (by omega)]
        omega
    exact this _ (Nat.le_refl _)
  have e2 : blk L ((0 : Nat) : Int) = 0 := blk_low fun x hx => by
    obtain ⟨j, hj, rfl⟩ := mem_at hx
    have := right_T (all_right h j hj)
    omega
  rw [e1, e2]
  rfl
/-- for t there is too little -/
def badB (L : List Tsk) (P B t : Nat) : Bool := decide ((sbf P B t : Int) < need L t)
theorem bad_iff {L : List Tsk} {P B t : Nat} : badB L P B t = true ↔ (sbf P B t : Int) < need L t := by unfold badB; exact decide_eq_true_iff
theorem bad_no {L : List Tsk} {P B t : Nat} : badB L P B t = false ↔ need L t ≤ (sbf P B t : Int) := by unfold badB; rw [decide_eq_false_iff_not]; omega
/-- where there is too little for the first time a job is due -/
theorem bad_due {L : List Tsk} {P B : Nat} (h : allB L = true) (hB : 1 ≤ B) (hBP : B ≤ P) {t : Nat} (hb : badB L P B t = true) (hd : dueL L t = false) : ∃ u, u < t ∧ badB L P B u = true := by
  cases t with
  | zero =>
    rw [bad_iff, need_zero h] at hb
    omega
  | succ t =>
    refine ⟨t, by omega, ?_⟩
    rw [bad_iff] at hb ⊢
    rw [need_flat h hd] at hb
    have := sbf_mono (P := P) (B := B) (t := t) (u := t + 1) hB hBP (by omega)
    omega
theorem bad_none {L : List Tsk} {P B E : Nat} (h : allB L = true) (hB : 1 ≤ B) (hBP : B ≤ P) (hd : ∀ t, t ≤ E → dueL L t = true → badB L P B t = false) : ∀ t, t ≤ E → badB L P B t = false := by
  intro t
  induction t using Nat.strongRecOn with
  | _ t ih =>
    intro ht
    cases hdt : dueL L t with
    | true => exact hd t ht hdt
    | false =>
      cases hb : badB L P B t with
      | false => rfl
      | true =>
        obtain ⟨u, hu, hbu⟩ := bad_due h hB hBP hb hdt
        rw [ih u hu (by omega)] at hbu
        cases hbu
/-- the first tick up to E for which there is too little, told as an answer -/
def FirstOf (L : List Tsk) (P B E t : Nat) (b : Bool) : Prop := (b = false ∧ t = 0 ∧ ∀ u, u ≤ E → badB L P B u = false) ∨ (b = true ∧ t ≤ E ∧ badB L P B t = true ∧ ∀ u, u < t → badB L P B u = false)
theorem FirstOf.same {L : List Tsk} {P B E t t' : Nat} {b b' : Bool} (h : FirstOf L P B E t b) (h' : FirstOf L P B E t' b') : t = t' ∧ b = b' := by
  rcases h with ⟨rfl, rfl, h1⟩ | ⟨rfl, h1, h2, h3⟩
  · rcases h' with ⟨rfl, rfl, _⟩ | ⟨rfl, g1, g2, _⟩
    · exact ⟨rfl, rfl⟩
    · rw [h1 t' g1] at g2; cases g2
  · rcases h' with ⟨rfl, rfl, g1⟩ | ⟨rfl, g1, g2, g3⟩
    · rw [g1 t h1] at h2; cases h2
    · refine ⟨?_, rfl⟩
      rcases Nat.lt_trichotomy t t' with e | e | e
      · rw [g3 t e] at h2; cases h2
      · exact e
      · rw [h3 t' e] at g2; cases g2
/-- the least of the bad ones below n, or none -/
def firstTo (L : List Tsk) (P B : Nat) : Nat → Option Nat
  | 0 => none
  | n + 1 => match firstTo L P B n with
    | some t => some t
    | none => if badB L P B n then some n else none
theorem firstTo_of (L : List Tsk) (P B : Nat) : ∀ n, (firstTo L P B n = none ∧ ∀ u, u < n → badB L P B u = false) ∨ ∃ t, firstTo L P B n = some t ∧ t < n ∧ badB L P B t = true ∧ ∀ u, u < t → badB L P B u = false
  | 0 => .inl ⟨rfl, fun u h => by omega⟩
  | n + 1 => by
    rcases firstTo_of L P B n with ⟨h1, h2⟩ | ⟨t, h1, h2, h3, h4⟩
    · cases hb : badB L P B n with
      | true => exact .inr ⟨n, by simp [firstTo, h1, hb], by omega, hb, h2⟩
      | false =>
        refine .inl ⟨by simp [firstTo, h1, hb], fun u hu => ?_⟩
        by_cases e : u = n
        · subst e; exact hb
        · exact h2 u (by omega)
    · exact .inr ⟨t, by simp [firstTo, h1], by omega, h3, h4⟩
def firT (L : List Tsk) (P B E : Nat) : Nat := (firstTo L P B (E + 1)).getD 0
def firB (L : List Tsk) (P B E : Nat) : Bool := (firstTo L P B (E + 1)).isSome
theorem firstOf (L : List Tsk) (P B E : Nat) : FirstOf L P B E (firT L P B E) (firB L P B E) := by
  unfold firT firB
  rcases firstTo_of L P B (E + 1) with ⟨h1, h2⟩ | ⟨t, h1, h2, h3, h4⟩
  · rw [h1]
    exact .inl ⟨rfl, rfl, fun u hu => h2 u (by omega)⟩
  · rw [h1]
    exact .inr ⟨rfl, by show t ≤ E; omega, h3, h4⟩

/-! ### the whole answers -/
/-- First's answer -/
def firstT (L : List Tsk) (P B : Int) : Nat := if cycOk L P B then firT L P.toNat B.toNat (endZ L P B) else 0
def firstB (L : List Tsk) (P B : Int) : Bool := cycOk L P B && firB L P.toNat B.toNat (endZ L P B)
/-- Fits's answer -/
def fitsB (L : List Tsk) (P B : Int) : Bool := cycOk L P B && !firB L P.toNat B.toNat (endZ L P B)
theorem fits_is {L : List Tsk} {P B : Int} : fitsB L P B = (decide (cycE L P B = 0) && !firstB L P B) := by
  unfold fitsB firstB
  cases h : cycOk L P B with
  | false =>
    have : ¬ cycE L P B = 0 := fun e => by rw [cycE_zero.1 e] at h; cases h
    rw [decide_eq_false this]
    rfl
  | true =>
    rw [decide_eq_true (cycE_zero.2 h)]
    simp
/-- what Fits says, in full -/
theorem fits_true {L : List Tsk} {P B : Int} (hc : cycOk L P B = true) : fitsB L P B = true ↔ Fit_ L P.toNat B.toNat := by
  obtain ⟨h1, _⟩ := cycOk_iff.1 hc
  obtain ⟨h2, h3⟩ := in_iff.1 h1
  obtain ⟨p, b, rfl, rfl, g1, g2, g3⟩ := right_nat h3
  simp only [Int.toNat_natCast]
  have hE := cyc_end h2 g1 g2
  have he := (cyc_fine hc).2.1
  rw [Int.toNat_natCast] at he
  unfold fitsB
  rw [hc, he, Bool.true_and]
  simp only [Int.toNat_natCast]
  have hF := firstOf L p b (cyc p L + far p L)
  constructor
  · intro hb
    rcases hF with ⟨_, _, h⟩ | ⟨h, _⟩
    · have hf : ∀ t : Nat, t ≤ cyc p L + far p L → need L t ≤ sbf p b t := fun t ht => bad_no.1 (h t ht)
      exact fits_all h2 g1 g2 hE (fits_end h2 g1 g2 hE hf) hf
    · rw [h] at hb; cases hb
  · intro hf
    rcases hF with ⟨h, _⟩ | ⟨_, _, h, _⟩
    · rw [h]; rfl
    · rw [bad_iff] at h
      have := hf (firT L p b (cyc p L + far p L))
      omega

end Vd
end Go.Proofs.Ytdjjdebnbaaihaa

/-
  Layer 10 (verdict): the library's IndexFunc, ContainsFunc at tasks, where the closure is asked about the tasks of the list alone; the closure that tells whether a job is due.
-/
namespace Go.Proofs.Ytdjjdebnbaaihaa
open Go.RowKit Mm Tk
namespace Vd

/-- what is asked of a closure over the tasks of a list -/
def PredIn (L : List Tsk) (g : Nat) (lb : Array Value) (pb : Tsk → Bool) (w : World) : Prop := ∀ (W : World) (x : Tsk) (B : Option Addr) (d : Nat), x ∈ L → Below w.heap.size w W →
  Calls Try.prog g (#[.agg #[.int .i64 x.1, .int .i64 x.2.1, .int .i64 x.2.2.1, .slice B x.2.2.2.length d]] ++ lb) W fun e w' => e = .returned (.bool (pb x)) ∧ Below W.heap.size W w'

set_option maxHeartbeats 800000 in
theorem indexIn (g : Nat) (lb : Array Value) (pb : Tsk → Bool) (eg : ∀ args w, (callFunc g args).run Try.prog w = .ok (.enter g args) w) (A : Option Addr) (c : Nat) (l : List Tsk) (w : World) (hp : PredIn l g lb pb w) (H : TL w A c l) :
    Calls Try.prog 55 #[.slice A l.length c, .func (.func g) #[] lb] w (IdxOf w (l.any pb)) := by
  obtain ⟨hbig, hin, hr⟩ := H
  have HR := Lib.hid hr
  have HP := Lib.hid hp
  have HIN := Lib.hid hin
  clear hr hp hin
  go_enter Try.func55, Try.ntmps55
  go_wp2_with fail
  go_loopw [8] (fun i wr => ∃ k : Nat, i = .int .i64 k ∧ k ≤ l.length ∧ Hid (∀ j, j < k → pb (at_ l j) = false) ∧ Hid (Below w.heap.size w wr)) (fun i _ => l.length - (intOf i).toNat)
  case atStart => exact ⟨0, rfl, Nat.zero_le _, (fun j h => by omega), Below.refl _ _⟩
  case round =>
    obtain ⟨k, rfl, hk, HH, HB⟩ := hrel
    by_cases hlt : k < l.length
    · obtain ⟨b, off, rfl, hc⟩ := task_at (HR.out.below HB.out) (by omega)
      obtain ⟨B, d, x1, x2, x3, x4, _, _, _, r⟩ := hc k hlt
      have hcall := HP.out wr (at_ l k) B d (at_mem hlt) HB.out
      clear hc r
      cases hb : pb (at_ l k) with
      | true =>
        rw [hb] at hcall
        have HY := Lib.hid (any_take_yes hlt hb)
        clear hb
        generalize at_ l k = x at *
        go_wp2_with (go_at_fn g; refine hcall.mono ?_; rintro e w1 ⟨rfl, b2⟩; have HB2 := Lib.hid (below_step HB.out b2); clear b2 hcall)
        go_ret
        exact ⟨k, rfl, (fun _ => by omega), (fun h => by rw [HY.out] at h; cases h), HB2.out⟩
      | false =>
        rw [hb] at hcall
        have HN := Lib.hid hb
        clear hb
        generalize hx : at_ l k = x at *
        have HX := Lib.hid hx
        clear hx
        go_wp2_with (go_at_fn g; refine hcall.mono ?_; rintro e w1 ⟨rfl, b2⟩; have HB2 := Lib.hid (below_step HB.out b2); clear b2 hcall)
        go_roundw
        case rel =>
          refine ⟨k + 1, by go_num, hlt, fun j hj => ?_, HB2⟩
          by_cases e : j = k
          · subst e; rw [HX.out]; exact HN.out
          · exact HH.out j (by omega)
        case measure => simp [intOf]; omega
    · go_wp2_with fail
      go_ret
      have hn := any_take_no (p := pb) (l := l) fun j hj => HH.out j (by omega)
      exact ⟨-1, rfl, (fun h => by rw [hn] at h; cases h), (fun _ => rfl), HB.out⟩

theorem hasIn (g : Nat) (lb : Array Value) (pb : Tsk → Bool) (eg : ∀ args w, (callFunc g args).run Try.prog w = .ok (.enter g args) w) (A : Option Addr) (c : Nat) (l : List Tsk) (v : Bool) (hv : l.any pb = v) (n : Nat) (hn : l.length = n) (w : World) (hp : PredIn l g lb pb w) (H : TL w A c l) :
    Calls Try.prog 35 #[.slice A n c, .func (.func g) #[] lb] w fun e w' => e = .returned (.bool v) ∧ Below w.heap.size w w' := by
  subst hn
  have HT := Lib.hid H
  have hbig := H.1
  have HP := Lib.hid hp
  clear hp
  clear H
  go_enter Try.func35, Try.ntmps35
  go_wp2_with fail
  refine (indexIn g lb pb eg A c l _ HP.out HT.out).mono ?_
  rintro e w1 ⟨n, rfl, h1, h2, b1⟩
  have B1 := Lib.hid b1
  have H1 := Lib.hid h1
  have H2 := Lib.hid h2
  clear b1 h1 h2
  cases v with
  | true =>
    have h := H1.out hv
    clear hv
    go_wp2_with fail
    go_ret
    exact ⟨rfl, B1.out⟩
  | false =>
    have h := H2.out hv
    subst h
    clear hv
    go_wp2_with fail
    go_ret
    exact ⟨rfl, B1.out⟩

theorem dueEnters : ∀ args w, (callFunc 78 args).run Try.prog w = .ok (.enter 78 args) w := enters_of Try.func78 (by kernel_rfl) rfl

set_option maxHeartbeats 800000 in
theorem due_closure (L : List Tsk) (hL : allB L = true) (X t : Nat) (ht : t ≤ 1000000) (w : World) (hX : w.cell? ⟨X, 0, none⟩ = some (.int .i64 t)) : PredIn L 78 #[.pointer (some ⟨X, 0, none⟩)] (dueT t) w := fun W x B d hx hb => by
  obtain ⟨t1, t2, t3, t4⟩ := box_new W x.1 x.2.1 x.2.2.1 B x.2.2.2.length d
  have b0 := below_one W (Obj.cells #[.int .i64 x.1, .int .i64 x.2.1, .int .i64 x.2.2.1, .slice B x.2.2.2.length d] 33)
  have y := cell_below b0 (cell_below hb hX)
  obtain ⟨j, hj, e⟩ := mem_at hx
  have hT := Dm.right_T (Dm.all_right hL j hj)
  rw [e] at hT
  clear e hj j hx hb hX
  show Calls Try.prog 78 #[.agg #[.int .i64 x.1, .int .i64 x.2.1, .int .i64 x.2.2.1, .slice B x.2.2.2.length d], .pointer (some ⟨X, 0, none⟩)] W _
  by_cases hd : x.2.1 ≤ t
  · obtain ⟨r, hr⟩ : ∃ r, ((t : Int) - x.2.1) % x.2.2.1 = r := ⟨_, rfl⟩
    have r0 := Int.emod_nonneg ((t : Int) - x.2.1) (b := x.2.2.1) (by omega)
    have r1 := Int.emod_lt_of_pos ((t : Int) - x.2.1) (b := x.2.2.1) (by omega)
    rw [hr] at r0 r1
    have e1 : ((t : Int) - x.2.1).tmod x.2.2.1 = r := by rw [Int.tmod_eq_emod_of_nonneg (by omega), hr]
    have e2 : IntKind.i64.wrap r = r := IntWalk.i64_in _ (by omega)
    have e3 : IntKind.i64.wrap ((t : Int) - x.2.1) = (t : Int) - x.2.1 := IntWalk.i64_in _ (by omega)
    have i1 : ¬ x.2.2.1 = 0 := by omega
    have HV : Hid (dueT t x = decide (r = 0)) := by
      show _ = _
      unfold dueT
      rw [decide_eq_true hd, hr]
      rfl
    have B0 := Lib.hid b0
    clear b0
    go_enter Try.func78, Try.ntmps78
    go_wp2_with fail
    go_ret
    exact ⟨ret_bool (by rw [HV.out]; rfl), B0.out⟩
  · have HV : Hid (dueT t x = false) := by
      show _ = _
      unfold dueT
      rw [decide_eq_false hd]
      rfl
    have B0 := Lib.hid b0
    clear b0
    go_enter Try.func78, Try.ntmps78
    go_wp2_with fail
    go_ret
    exact ⟨ret_bool HV.out.symm, B0.out⟩

end Vd
end Go.Proofs.Ytdjjdebnbaaihaa

/-
  Layer 10 (verdict): the range over the ticks at which a job is due.
-/
namespace Go.Proofs.Ytdjjdebnbaaihaa
open Go.RowKit Mm Tk
attribute [local go_sem] Oper.semAt_some
namespace Vd

/-- the ticks that are tried -/
abbrev Tick := { t : Nat // t ≤ 3000 }
/-- all ticks below k at which a job is due have come; no more than k -/
def Seen (L : List Tsk) (k : Nat) (pre : List Tick) : Prop := pre.length ≤ k ∧ ∀ t : Nat, t < k → dueL L t = true → ∃ x ∈ pre, x.1 = t
theorem Seen.zero (L : List Tsk) : Seen L 0 [] := ⟨Nat.le_refl _, fun t h => by omega⟩
theorem Seen.skip {L : List Tsk} {k : Nat} {pre : List Tick} (h : Seen L k pre) (hd : dueL L k = false) : Seen L (k + 1) pre := ⟨by have := h.1; omega, fun t ht hdt => by
  by_cases e : t = k
  · subst e; rw [hd] at hdt; cases hdt
  · exact h.2 t (by omega) hdt⟩
theorem Seen.next {L : List Tsk} {k : Nat} {pre : List Tick} (h : Seen L k pre) (hk : k ≤ 3000) : Seen L (k + 1) (pre ++ [⟨k, hk⟩]) := ⟨by have := h.1; simp; omega, fun t ht hdt => by
  by_cases e : t = k
  · subst e; exact ⟨⟨t, hk⟩, by simp, rfl⟩
  · obtain ⟨x, hx, hxe⟩ := h.2 t (by omega) hdt
    exact ⟨x, by simp [hx], hxe⟩⟩
/-- it has gone through all; it was left -/
def AllOf (L : List Tsk) (E : Nat) (xs : List Tick) : Prop := ∀ t : Nat, t ≤ E → dueL L t = true → ∃ x ∈ xs, x.1 = t
def LeftAt (L : List Tsk) (E : Nat) (pre : List Tick) : Prop := ∃ ys x, pre = ys ++ [x] ∧ x.1 ≤ E ∧ ∀ t : Nat, t < x.1 → dueL L t = true → ∃ y ∈ ys, y.1 = t

theorem grown_of_below {w w' : World} (b : Below w.heap.size w w') : w.grownBy w' none := ⟨b.os, b.tape, b.output, b.size, fun k hk _ => b.block k hk⟩
theorem AbidesFrom.low {β : Type} {B : Nat} {J : β → World → Prop} (h : AbidesFrom B J) {s : β} {w w' : World} (hs : J s w) (b : Below w.heap.size w w') : J s w' := h s w w' none hs (grown_of_below b) (fun r e => by cases e)

set_option maxRecDepth 100000 in
set_option maxHeartbeats 2000000 in
theorem dl_stops (n : Nat) (hn : 1 ≤ n) (XE XL E : Nat) (hE : E ≤ 3000) (A : Option Addr) (c : Nat) (L : List Tsk) (hL : allB L = true) (w : World) (c1 : w.cell? ⟨XE, 0, none⟩ = some (.int .i64 E)) (c2 : w.cell? ⟨XL, 0, none⟩ = some (.slice A L.length c)) (H : TL w A c L) :
    SeqStopsK Fence.wide n Try.prog 77 #[.pointer (some ⟨XE, 0, none⟩), .pointer (some ⟨XL, 0, none⟩)] (fun x : Tick => #[Value.int .i64 x.1]) (Below w.heap.size) (AllOf L E) (LeftAt L E) 5000 w := fun l J Jx W hW hJ hJx hY h0 => by
  have HT := Lib.hid (H.below hW)
  have HC1 := Lib.hid c1
  have HC2 := Lib.hid c2
  have HY := Lib.hid hY
  have HJ := Lib.hid hJ
  have HW := Lib.hid hW
  have HL := Lib.hid hL
  have HLN : Hid (L.length ≤ 8) := Dm.all_len hL
  have HH := Lib.hid H
  have H0 := Lib.hid h0
  have d1 := (hW.cell (p := ⟨XE, 0, none⟩) (lt_of_cell c1)).trans c1
  clear hJ hJx hY h0 c1 c2 H hW hL
  refine callsIn_of_wp Try.func77 rfl trivial ?_ rfl
  simp only [Try.ntmps77, List.size_toArray, List.length_cons, List.length_nil, Nat.reduceAdd, Nat.reduceSub, Array.replicate_succ, Array.replicate_zero, List.push_toArray, List.append_toArray, List.nil_append, List.cons_append]
  have i0 : IntKind.i64.wrap ((E : Int) + 1) = (E : Int) + 1 := IntWalk.i64_in _ (by omega)
  gi_wp2_with fail
  gi_loopw [8] (fun p wr => ∃ (k : Nat) (pre : List Tick), p = .int .i64 k ∧ k ≤ E + 1 ∧ Hid (Seen L k pre) ∧ Hid (J pre wr) ∧ Hid (Below w.heap.size w wr)) (fun p _ => E + 1 - (intOf p).toNat)
  case atStart => exact ⟨0, [], rfl, Nat.zero_le _, Seen.zero L, H0.out, HW.out⟩
  case round =>
    obtain ⟨k, pre, rfl, hk, HS, HJP, HB⟩ := hrel
    by_cases hlt : k < E + 1
    · have hk3 : k ≤ 3000 := by omega
      have c1 := (HB.out.cell (p := ⟨XE, 0, none⟩) (lt_of_cell HC1.out)).trans HC1.out
      have c2 := (HB.out.cell (p := ⟨XL, 0, none⟩) (lt_of_cell HC2.out)).trans HC2.out
      have bx := below_one wr (Obj.cells #[.int .i64 k] 3)
      have x1 : (wr.alloc (Obj.cells #[.int .i64 k] 3)).cell? ⟨wr.heap.size, 0, none⟩ = some (.int .i64 k) := by simp
      have hT := (HH.out.below HB.out).below bx
      replace c1 := cell_below bx c1
      replace c2 := cell_below bx c2
      have JX := Lib.hid (AbidesFrom.low HJ.out HJP.out bx)
      have BX := Lib.hid (below_step HB.out bx)
      have HP := Lib.hid (due_closure L HL.out wr.heap.size k (by omega) _ x1)
      have HT2 := Lib.hid hT
      clear bx hT d1
      have hlen : pre.length < 5000 := by have := HS.out.1; omega
      cases hd : dueL L k with
      | true =>
        have HD : Hid (L.any (dueT k) = true) := hd
        have HN := Lib.hid (HS.out.next hk3)
        clear hd
        gi_wp2_with fail
        refine ⟨trivial, (callsIn_wide.2 (hasIn 78 _ (dueT k) dueEnters A c L true HD.out L.length rfl _ HP.out HT2.out)).mono ?_⟩
        rintro e w2 ⟨rfl, b2⟩
        have x2 := cell_below b2 x1
        have J2 := AbidesFrom.low HJ.out JX.out b2
        have B2 := Lib.hid (below_step BX.out b2)
        obtain ⟨fn, tmps, assign, body, hy, hR⟩ := HY.out pre ⟨k, hk3⟩ w2 J2 hlen
        dsimp only at hy
        clear J2 b2 x1 c1 c2
        gi_wp2_with fail
        refine hR.mono ?_
        rintro e w3 (⟨rfl, hJ3, hk3'⟩ | ⟨rfl, hJx3⟩)
        · have J3 := Lib.hid hJ3
          have B3 := Lib.hid (B2.out.trans hk3')
          clear hJ3 hk3' hR hy x2
          gi_wp2_with fail
          go_roundw
          case rel => exact ⟨k + 1, pre ++ [⟨k, hk3⟩], by go_num, hlt, HN, J3, B3⟩
          case measure => simp [intOf]; omega
        · have J3 := Lib.hid hJx3
          clear hJx3 hR hy x2
          gi_wp2_with fail
          refine bodyPost_ret (results_none rfl _ _ _) rfl ?_
          exact ⟨⟨_, rfl⟩, .inr ⟨pre ++ [⟨k, hk3⟩], ⟨pre, ⟨k, hk3⟩, rfl, by show k ≤ E; omega, HS.out.2⟩, J3.out⟩⟩
      | false =>
        have HD : Hid (L.any (dueT k) = false) := hd
        have HN := Lib.hid (HS.out.skip hd)
        clear hd
        gi_wp2_with fail
        refine ⟨trivial, (callsIn_wide.2 (hasIn 78 _ (dueT k) dueEnters A c L false HD.out L.length rfl _ HP.out HT2.out)).mono ?_⟩
        rintro e w2 ⟨rfl, b2⟩
        have J2 := Lib.hid (AbidesFrom.low HJ.out JX.out b2)
        have B2 := Lib.hid (below_step BX.out b2)
        clear b2 x1 c1 c2
        gi_wp2_with fail
        refine ⟨fun _ h => (by cases h), ?_⟩
        gi_wp2_with fail
        go_roundw
        case rel => exact ⟨k + 1, pre, by go_num, hlt, HN, J2, B2⟩
        case measure => simp [intOf]; omega
    · have hkE : k = E + 1 := by omega
      subst hkE
      have i1 : ¬ ((E + 1 : Nat) : Int) < (E : Int) + 1 := by omega
      gi_wp2_with fail
      go_end0
      exact ⟨⟨_, rfl⟩, .inl ⟨pre, fun t ht hd => HS.out.2 t (by omega) hd, HJP.out⟩⟩

end Vd
end Go.Proofs.Ytdjjdebnbaaihaa

/-
  Layer 10 (verdict): Need.
-/
namespace Go.Proofs.Ytdjjdebnbaaihaa
open Go.RowKit Mm Tk
namespace Vd

/-- what Need answers -/
def needOk (L : List Tsk) (t : Int) : Bool := allB L && decide (0 ≤ t ∧ t ≤ 4611686018427387903)
theorem needOk_iff {L : List Tsk} {t : Int} : needOk L t = true ↔ allB L = true ∧ 0 ≤ t ∧ t ≤ 4611686018427387903 := by unfold needOk; rw [Bool.and_eq_true, decide_eq_true_iff]
def needZ (L : List Tsk) (t : Int) : Int := if needOk L t then (if need L t.toNat ≤ 4611686018427387903 then need L t.toNat else 0) else 0
def needE (L : List Tsk) (t : Int) : Int := if needOk L t then (if need L t.toNat ≤ 4611686018427387903 then 0 else 5) else 1
theorem needZ_bad {L : List Tsk} {t : Int} (h : needOk L t = false) : needZ L t = 0 ∧ needE L t = 1 := by
  unfold needZ needE
  rw [h]
  exact ⟨rfl, rfl⟩
theorem needZ_ok {L : List Tsk} {t : Int} (h : needOk L t = true) (hn : need L t.toNat ≤ 4611686018427387903) : needZ L t = need L t.toNat ∧ needE L t = 0 := by
  unfold needZ needE
  rw [h, if_pos rfl, if_pos rfl, if_pos hn, if_pos hn]
  exact ⟨rfl, rfl⟩
theorem needZ_large {L : List Tsk} {t : Int} (h : needOk L t = true) (hn : ¬ need L t.toNat ≤ 4611686018427387903) : needZ L t = 0 ∧ needE L t = 5 := by
  unfold needZ needE
  rw [h, if_pos rfl, if_pos rfl, if_neg hn, if_neg hn]
  exact ⟨rfl, rfl⟩

theorem dbound_v (A : Option Addr) (c : Nat) (L : List Tsk) (t z e : Int) (hz : Dm.bndZ L t = z) (he : Dm.bndE L t = e) (n : Nat) (hn : L.length = n) (w : World) (H : TL w A c L) :
    Calls Try.prog 84 #[.slice A n c, .int .i64 t] w fun x w' => x = .returned (.tuple #[.int .i64 z, .int .i64 e]) ∧ Below w.heap.size w w' := by
  subst hz; subst he; subst hn
  exact Dm.bound_any A c L t w H
theorem bof_v (A : Option Addr) (c : Nat) (L : List Tsk) (t z e : Int) (hz : ((Bk.ofB L t : Nat) : Int) = z) (he : ((Bk.errB L : Nat) : Int) = e) (n : Nat) (hn : L.length = n) (w : World) (H : TL w A c L) :
    Calls Try.prog 85 #[.slice A n c, .int .i64 t] w fun x w' => x = .returned (.tuple #[.int .i64 z, .int .i64 e]) ∧ Below w.heap.size w w' := by
  subst hz; subst he; subst hn
  exact Bk.of_any A c L t w H

set_option maxHeartbeats 1600000 in
theorem need_any (A : Option Addr) (c : Nat) (L : List Tsk) (t : Int) (w : World) (H : TL w A c L) :
    Calls Try.prog 79 #[.slice A L.length c, .int .i64 t] w fun e w' => e = .returned (.tuple #[.int .i64 (needZ L t), .int .i64 (needE L t)]) ∧ Below w.heap.size w w' := by
  have hb1 := H.1
  have HT := Lib.hid H
  clear H
  cases hok : needOk L t with
  | false =>
    have hno : ¬ (allB L = true ∧ 0 ≤ t ∧ t ≤ 4611686018427387903) := fun e => by rw [needOk_iff.2 e] at hok; cases hok
    obtain ⟨z1, z2⟩ := Dm.bnd_bad hno
    obtain ⟨z3, z4⟩ := needZ_bad hok
    have Z1 := Lib.hid z1
    have Z2 := Lib.hid z2
    have Z3 := Lib.hid z3
    have Z4 := Lib.hid z4
    clear z1 z2 z3 z4
    clear hok hno
    go_enter Try.func79, Try.ntmps79
    go_wp2_with fail
    refine (dbound_v A c L t 0 1 Z1.out Z2.out _ rfl _ HT.out).mono ?_
    rintro e w1 ⟨rfl, b1⟩
    have B1 := Lib.hid b1
    replace HT := Lib.hid (HT.out.below b1)
    clear b1
    go_wp2_with fail
    go_ret2
    exact ⟨by rw [Z3.out, Z4.out]; rfl, B1.out⟩
  | true =>
    obtain ⟨ha, h0, h1⟩ := needOk_iff.1 hok
    obtain ⟨k, rfl⟩ : ∃ k : Nat, t = k := ⟨t.toNat, by omega⟩
    obtain ⟨d1, d2⟩ := Dm.bnd_good ha h0 h1
    have hnd : need L k = Dm.bnd L k + (Bk.blk L k : Nat) := rfl
    have n0 := Dm.bnd_nonneg ha (k : Int)
    have hbl := Bk.blk_le ha (k : Int)
    have hof : Bk.ofB L (k : Int) = Bk.blk L k := by unfold Bk.ofB; rw [if_pos ha]
    have her : Bk.errB L = 0 := by unfold Bk.errB; rw [if_pos ha]
    obtain ⟨b, hb⟩ : ∃ b, Dm.bnd L (k : Int) = b := ⟨_, rfl⟩
    obtain ⟨q, hq⟩ : ∃ q, Bk.blk L (k : Int) = q := ⟨_, rfl⟩
    rw [hb] at d1 d2 n0 hnd
    rw [hq] at hnd hbl hof
    have ht : ((k : Int)).toNat = k := Int.toNat_natCast k
    by_cases hbm : b ≤ 4611686018427387903
    · obtain ⟨s1, s2⟩ := Dm.sum_small hbm
      rw [s1] at d1
      rw [s2] at d2
      have o1 : ((Bk.ofB L (k : Int) : Nat) : Int) = (q : Int) := by rw [hof]
      have o2 : ((Bk.errB L : Nat) : Int) = 0 := by rw [her]; rfl
      have p1 := Dm.perm_of n0 hbm
      have p2 := Dm.perm_of (v := (q : Int)) (by omega) (by omega)
      by_cases hs : b + (q : Int) ≤ 4611686018427387903
      · obtain ⟨z3, z4⟩ := needZ_ok hok (by rw [ht, hnd]; exact hs)
        rw [ht, hnd] at z3
        have p3 := Dm.perm_of (v := b + (q : Int)) (by omega) hs
        have D1 := Lib.hid d1
        have D2 := Lib.hid d2
        have O1 := Lib.hid o1
        have O2 := Lib.hid o2
        have P1 := Lib.hid p1
        have P2 := Lib.hid p2
        have P3 := Lib.hid p3
        have Z3 := Lib.hid z3
        have Z4 := Lib.hid z4
        have N0 := Lib.hid n0
        have HBL := Lib.hid hbl
        clear d1 d2 o1 o2 p1 p2 p3 z3 z4 n0 hbl
        clear hok ha hnd hof her hb hq s1 s2 ht hbm hs
        go_enter Try.func79, Try.ntmps79
        go_wp2_with fail
        refine (dbound_v A c L k b 0 D1.out D2.out _ rfl _ HT.out).mono ?_
        rintro e w1 ⟨rfl, b1⟩
        have B1 := Lib.hid b1
        replace HT := Lib.hid (HT.out.below b1)
        clear b1
        go_wp2_with fail
        refine (bof_v A c L k q 0 O1.out O2.out _ rfl _ HT.out).mono ?_
        rintro e w2 ⟨rfl, b2⟩
        have B2 := Lib.hid (below_step B1.out b2)
        clear b2
        go_wp2_with fail
        refine (Ar.add_ok b q _ P1.out P2.out P3.out).mono ?_
        rintro e w3 ⟨rfl, b3⟩
        have B3 := Lib.hid (below_step B2.out b3)
        clear b3
        go_wp2_with fail
        go_ret2
        exact ⟨by rw [Z3.out, Z4.out]; rfl, B3.out⟩
      · obtain ⟨z3, z4⟩ := needZ_large hok (by rw [ht, hnd]; exact hs)
        have p3 := Dm.perm_not hs
        have D1 := Lib.hid d1
        have D2 := Lib.hid d2
        have O1 := Lib.hid o1
        have O2 := Lib.hid o2
        have P1 := Lib.hid p1
        have P2 := Lib.hid p2
        have P3 := Lib.hid p3
        have Z3 := Lib.hid z3
        have Z4 := Lib.hid z4
        have N0 := Lib.hid n0
        have HBL := Lib.hid hbl
        clear d1 d2 o1 o2 p1 p2 p3 z3 z4 n0 hbl
        clear hok ha hnd hof her hb hq s1 s2 ht hbm hs
        go_enter Try.func79, Try.ntmps79
        go_wp2_with fail
        refine (dbound_v A c L k b 0 D1.out D2.out _ rfl _ HT.out).mono ?_
        rintro e w1 ⟨rfl, b1⟩
        have B1 := Lib.hid b1
        replace HT := Lib.hid (HT.out.below b1)
        clear b1
        go_wp2_with fail
        refine (bof_v A c L k q 0 O1.out O2.out _ rfl _ HT.out).mono ?_
        rintro e w2 ⟨rfl, b2⟩
        have B2 := Lib.hid (below_step B1.out b2)
        clear b2
        go_wp2_with fail
        refine (Ar.add_large b q _ P1.out P2.out P3.out).mono ?_
        rintro e w3 ⟨rfl, b3⟩
        have B3 := Lib.hid (below_step B2.out b3)
        clear b3
        go_wp2_with fail
        go_ret2
        exact ⟨by rw [Z3.out, Z4.out]; rfl, B3.out⟩
    · obtain ⟨s1, s2⟩ := Dm.sum_great hbm
      rw [s1] at d1
      rw [s2] at d2
      obtain ⟨z3, z4⟩ := needZ_large hok (by rw [ht, hnd]; omega)
      have D1 := Lib.hid d1
      have D2 := Lib.hid d2
      have Z3 := Lib.hid z3
      have Z4 := Lib.hid z4
      clear d1 d2 z3 z4
      clear hok ha hnd hof her hb hq s1 s2 ht hbm n0 hbl
      go_enter Try.func79, Try.ntmps79
      go_wp2_with fail
      refine (dbound_v A c L k 0 5 D1.out D2.out _ rfl _ HT.out).mono ?_
      rintro e w1 ⟨rfl, b1⟩
      have B1 := Lib.hid b1
      replace HT := Lib.hid (HT.out.below b1)
      clear b1
      go_wp2_with fail
      go_ret2
      exact ⟨by rw [Z3.out, Z4.out]; rfl, B1.out⟩
theorem need_v (A : Option Addr) (c : Nat) (L : List Tsk) (t z e : Int) (hz : needZ L t = z) (he : needE L t = e) (n : Nat) (hn : L.length = n) (w : World) (H : TL w A c L) :
    Calls Try.prog 79 #[.slice A n c, .int .i64 t] w fun x w' => x = .returned (.tuple #[.int .i64 z, .int .i64 e]) ∧ Below w.heap.size w w' := by
  subst hz; subst he; subst hn
  exact need_any A c L t w H
/-- what is needed is small, if t is -/
theorem need_small {L : List Tsk} (h : allB L = true) {t : Nat} {m : Int} (hm : (t : Int) ≤ m) : 0 ≤ need L t ∧ need L t ≤ 1600 * m + 200 := by
  have h1 := Dm.bnd_nonneg h (t : Int)
  have h2 := Dm.bnd_small h (t := (t : Int)) (m := m) (by omega) hm
  have h3 := Bk.blk_le h (t : Int)
  unfold need
  omega
theorem need_of {L : List Tsk} (h : allB L = true) {t : Nat} (ht : (t : Int) ≤ 1099511627776) : needZ L t = need L t ∧ needE L t = 0 := by
  have h1 := need_small h ht
  have h2 := needZ_ok (L := L) (t := (t : Int)) (needOk_iff.2 ⟨h, by omega, by omega⟩) (by rw [Int.toNat_natCast]; omega)
  rwa [Int.toNat_natCast] at h2

end Vd
end Go.Proofs.Ytdjjdebnbaaihaa

/-
  Layer 10 (verdict): Cycle.
-/
namespace Go.Proofs.Ytdjjdebnbaaihaa
open Go.RowKit Mm Tk
namespace Vd

theorem lcmZ (m T : Nat) (_ : 1 ≤ m) : (m : Int) / Ar.gcdZ m T * (T : Int) = (Nat.lcm m T : Nat) := by
  unfold Ar.gcdZ Nat.lcm
  rw [Int.toNat_natCast, Int.toNat_natCast, ← Int.natCast_ediv, ← Int.natCast_mul, Nat.div_mul_right_comm (Nat.gcd_dvd_left m T)]
theorem lcm_n (m T v : Nat) (hv : Nat.lcm m T = v) (hm : 1 ≤ m) (hm2 : m ≤ 4611686018427387903) (hT : 1 ≤ T) (hT2 : T ≤ 200) (h : v ≤ 4611686018427387903) (w : World) :
    Calls Try.prog 76 #[.int .i64 m, .int .i64 T] w fun e w' => e = .returned (.tuple #[.int .i64 v, .int .i64 0]) ∧ Below w.heap.size w w' := by
  have e := lcmZ m T hm
  rw [hv] at e
  have := Ar.lcm_ok (m : Int) (T : Int) w (Ar.perm_iff.2 (by omega)) (Ar.perm_iff.2 (by omega)) (by omega) (by omega) (by rw [e]; exact Ar.perm_iff.2 (by omega))
  rw [e] at this
  exact this
theorem lcm_far (m T : Nat) (hm : 1 ≤ m) (hm2 : m ≤ 4611686018427387903) (hT : 1 ≤ T) (hT2 : T ≤ 200) (h : 4611686018427387903 < Nat.lcm m T) (w : World) :
    Calls Try.prog 76 #[.int .i64 m, .int .i64 T] w fun e w' => e = .returned (.tuple #[.int .i64 0, .int .i64 5]) ∧ Below w.heap.size w w' := by
  have e := lcmZ m T hm
  exact Ar.lcm_large (m : Int) (T : Int) w (Ar.perm_iff.2 (by omega)) (Ar.perm_iff.2 (by omega)) (by omega) (by omega) (by rw [e]; exact Ar.perm_no.2 (by omega))

/-- an answer of Cycle -/
def cycV (L : List Tsk) (P B : Int) : Value := .tuple #[.int .i64 (cycZ L P B : Nat), .int .i64 (endZ L P B : Nat), .int .i64 (cycE L P B : Nat)]

set_option maxRecDepth 20000 in
set_option maxHeartbeats 3200000 in
theorem cycle_any (P B : Int) (A : Option Addr) (c : Nat) (L : List Tsk) (w : World) (H : TL w A c L) :
    Calls Try.prog 70 #[.slice A L.length c, .agg #[.int .i64 P, .int .i64 B]] w fun e w' => e = .returned (cycV L P B) ∧ Below w.heap.size w w' := by
  obtain ⟨t1, t2⟩ := Sp.fc_new w P B
  have b0 := below_one w (Obj.cells #[.int .i64 P, .int .i64 B] 30)
  have HT := Lib.hid (H.below b0)
  have hb1 := H.1
  have B0 := Lib.hid b0
  clear b0
  clear H
  cases ha : allB L with
  | false =>
    obtain ⟨z1, z2, z3⟩ := cyc_none (L := L) (P := P) (B := B) (by unfold inB; rw [ha]; rfl)
    have HV : Hid (cycV L P B = .tuple #[.int .i64 0, .int .i64 0, .int .i64 1]) := by show _ = _; unfold cycV; rw [z1, z2, z3]; rfl
    have HA := Lib.hid ha
    clear ha
    clear z1 z2 z3
    go_enter Try.func70, Try.ntmps70
    go_wp2_with fail
    refine (all_any A c L _ HT.out.1 HT.out.2.1 HT.out.2.2).mono ?_
    rintro e w1 ⟨rfl, b1⟩
    rw [HA.out]
    replace t1 := (cell_below b1) t1
    replace t2 := (cell_below b1) t2
    replace HT := Lib.hid (HT.out.below b1)
    have B1 := Lib.hid (below_step B0.out b1)
    clear b1
    go_wp2_with fail
    go_ret3
    exact ⟨by rw [HV.out]; rfl, B1.out⟩
  | true =>
    cases hr : Sp.rightB P B with
    | false =>
      obtain ⟨z1, z2, z3⟩ := cyc_none (L := L) (P := P) (B := B) (by unfold inB; rw [hr, Bool.and_false])
      have HV : Hid (cycV L P B = .tuple #[.int .i64 0, .int .i64 0, .int .i64 1]) := by show _ = _; unfold cycV; rw [z1, z2, z3]; rfl
      have HA := Lib.hid ha
      have HR := Lib.hid hr
      clear ha hr
      clear z1 z2 z3
      go_enter Try.func70, Try.ntmps70
      go_wp2_with fail
      refine (all_any A c L _ HT.out.1 HT.out.2.1 HT.out.2.2).mono ?_
      rintro e w1 ⟨rfl, b1⟩
      rw [HA.out]
      replace t1 := (cell_below b1) t1
      replace t2 := (cell_below b1) t2
      replace HT := Lib.hid (HT.out.below b1)
      have B1 := Lib.hid (below_step B0.out b1)
      clear b1
      go_wp2_with fail
      refine (Sp.right_v P B false HR.out _).mono ?_
      rintro e w2 ⟨rfl, b2⟩
      replace t1 := cell_below b2 t1
      replace t2 := cell_below b2 t2
      have B2 := Lib.hid (below_step B1.out b2)
      clear b2
      go_wp2_with fail
      go_ret3
      exact ⟨by rw [HV.out]; rfl, B2.out⟩
    | true =>
      have HI : Hid (inB L P B = true) := in_iff.2 ⟨ha, hr⟩
      have HAL := Lib.hid (Dm.all_right ha)
      have HR8 := Dm.all_len ha
      obtain ⟨p, b, rfl, rfl, h1, h2, h3⟩ := Sp.right_nat hr
      have HA := Lib.hid ha
      have HR := Lib.hid hr
      clear ha hr
      go_enter Try.func70, Try.ntmps70
      go_wp2_with fail
      refine (all_any A c L _ HT.out.1 HT.out.2.1 HT.out.2.2).mono ?_
      rintro e w1 ⟨rfl, b1⟩
      rw [HA.out]
      replace t1 := (cell_below b1) t1
      replace t2 := (cell_below b1) t2
      replace HT := Lib.hid (HT.out.below b1)
      have B1 := Lib.hid (below_step B0.out b1)
      clear b1
      go_wp2_with fail
      refine (Sp.right_v p b true HR.out _).mono ?_
      rintro e w2 ⟨rfl, b2⟩
      replace t1 := cell_below b2 t1
      replace t2 := cell_below b2 t2
      have B2 := Lib.hid (below_step B1.out b2)
      replace HT := Lib.hid (HT.out.below b2)
      clear b2
      go_wp2_with fail
      replace t1 := cell_bw t1
      replace t2 := cell_bw t2
      have i0 : IntKind.i64.wrap (2 * (p : Int)) = 2 * (p : Int) := IntWalk.i64_in _ (by omega)
      refine wp_region_bw (by kernel_rfl) (by kernel_rfl) ?_
      repeat
        (with_reducible refine wpQuiet_step (fun K hK => ?_)
         go_simp
         first
           | (with_reducible refine hK _ ?_
              clear hK K)
           | (rw [if_neg]
              rotate_left
              focus (intro h; cases h; done)
              with_reducible refine hK _ ?_
              clear hK K)
           | (apply Exists.intro
              refine ⟨fun _ => ?_, hK _ ?_⟩
              (fail)
              clear hK K))
      with_reducible refine wpQuiet_nil ?_
      intro wb hw'
      obtain ⟨⟨wb', lb⟩, hw''⟩ := hw'
      subst hw''
      replace HT := Lib.hid (HT.out.below lb)
      have B3 := Lib.hid (below_step B2.out lb)
      clear lb t1 t2 i0
      go_wp2_with fail
      go_loopw [7, 8, 27] (fun cc f i wr => ∃ k m d : Nat, i = .int .i64 k ∧ cc = .int .i64 m ∧ f = .int .i64 d ∧ k ≤ L.length ∧ 1 ≤ m ∧ m ≤ 4611686018427387903 ∧ d ≤ 400 ∧ Hid (lcmTo p L k = m) ∧ Hid (farTo p L k = d) ∧ Hid (Below w.heap.size w wr) ∧ Hid (TL wr A c L)) (fun _ _ i _ => L.length - (intOf i).toNat)
      case atStart => exact ⟨0, p, 2 * p, rfl, rfl, by go_num, Nat.zero_le _, by omega, by omega, by omega, rfl, rfl, B3.out, HT.out⟩
      case round =>
        obtain ⟨k, m, d, rfl, rfl, rfl, hk, hm1, hm2, hd, HM, HD, HB, HT⟩ := hrel
        by_cases hlt : k < L.length
        · obtain ⟨bb, off, rfl, hc⟩ := task_at HT.out.2.2 (by omega)
          obtain ⟨B, e, x1, x2, x3, x4, _, _, _, _⟩ := hc k hlt
          have hx := Dm.right_T (HAL.out k hlt)
          have HL1 : Hid (lcmTo p L (k + 1) = Nat.lcm m (at_ L k).2.2.1.toNat) := by show _ = _; rw [lcmTo, HM.out]
          have HF1 : Hid (farTo p L (k + 1) = max d (at_ L k).2.1.toNat) := by show _ = _; rw [farTo, HD.out]
          have HLE : Hid (lcmTo p L (k + 1) ≤ cyc p L) := lcmTo_le (by omega) HAL.out hlt (Nat.le_refl _)
          clear hc
          generalize at_ L k = x at *
          obtain ⟨T, hT⟩ : ∃ T : Nat, x.2.2.1 = T := ⟨x.2.2.1.toNat, by omega⟩
          obtain ⟨D, hD⟩ : ∃ D : Nat, x.2.1 = D := ⟨x.2.1.toNat, by omega⟩
          rw [hT] at x3
          rw [hD] at x2
          rw [hT, Int.toNat_natCast] at HL1
          rw [hD, Int.toNat_natCast] at HF1
          have hT1 : 1 ≤ T := by omega
          have hT2 : T ≤ 200 := by omega
          have hD2 : D ≤ 200 := by omega
          clear hx hT hD
          have bw := below_one wr (Obj.cells #[.int .i64 x.1, .int .i64 D, .int .i64 T, .slice B x.2.2.2.length e] 33)
          obtain ⟨y1, y2, y3, y4⟩ := box_new wr x.1 D T B x.2.2.2.length e
          have HT2 := Lib.hid (HT.out.below bw)
          have B4 := Lib.hid (below_step HB.out bw)
          clear bw
          by_cases hdd : (d : Int) < (D : Int)
          · rw [show max d D = D from by omega] at HF1
            obtain ⟨m2, hm3⟩ : ∃ m2, Nat.lcm m T = m2 := ⟨_, rfl⟩
            rw [hm3] at HL1
            by_cases hbig : m2 ≤ 4611686018427387903
            · have HC := Lib.hid (lcm_n m T m2 hm3 hm1 hm2 hT1 hT2 hbig)
              have HP : 1 ≤ m2 := by rw [← HL1.out]; exact lcmTo_pos (by omega) HAL.out hlt
              clear hm3
              go_wp2_with fail
              generalize wr.alloc (Obj.cells #[.int .i64 x.1, .int .i64 D, .int .i64 T, .slice B x.2.2.2.length e] 33) = w4 at *
              clear x1 x2 x3 x4
              refine (HC.out _).mono ?_
              rintro e w5 ⟨rfl, b5⟩
              replace y1 := cell_below b5 y1
              replace y2 := cell_below b5 y2
              replace y3 := cell_below b5 y3
              replace y4 := cell_below b5 y4
              have B5 := Lib.hid (below_step B4.out b5)
              replace HT2 := Lib.hid (HT2.out.below b5)
              clear b5
              go_wp2_with fail
              go_roundw
              case rel => exact ⟨k + 1, m2, D, by go_num, rfl, rfl, hlt, HP, hbig, (by omega), HL1, HF1, B5, HT2⟩
              case measure => simp [intOf]; omega
            · obtain ⟨z1, z2, z3⟩ := cyc_large (L := L) (P := (p : Int)) (B := (b : Int)) HI.out (by rw [Int.toNat_natCast]; have := HLE.out; rw [HL1.out] at this; omega)
              have HV : Hid (cycV L (p : Int) (b : Int) = .tuple #[.int .i64 0, .int .i64 0, .int .i64 5]) := by show _ = _; unfold cycV; rw [z1, z2, z3]; rfl
              have HC := Lib.hid (lcm_far m T hm1 hm2 hT1 hT2 (by omega))
              clear z1 z2 z3 hm3
              go_wp2_with fail
              generalize wr.alloc (Obj.cells #[.int .i64 x.1, .int .i64 D, .int .i64 T, .slice B x.2.2.2.length e] 33) = w4 at *
              clear x1 x2 x3 x4
              refine (HC.out _).mono ?_
              rintro e w5 ⟨rfl, b5⟩
              replace y1 := cell_below b5 y1
              replace y2 := cell_below b5 y2
              replace y3 := cell_below b5 y3
              replace y4 := cell_below b5 y4
              have B5 := Lib.hid (below_step B4.out b5)
              replace HT2 := Lib.hid (HT2.out.below b5)
              clear b5
              go_wp2_with fail
              go_ret3
              exact ⟨by rw [HV.out]; rfl, B5.out⟩
          · rw [show max d D = d from by omega] at HF1
            obtain ⟨m2, hm3⟩ : ∃ m2, Nat.lcm m T = m2 := ⟨_, rfl⟩
            rw [hm3] at HL1
            by_cases hbig : m2 ≤ 4611686018427387903
            · have HC := Lib.hid (lcm_n m T m2 hm3 hm1 hm2 hT1 hT2 hbig)
              have HP : 1 ≤ m2 := by rw [← HL1.out]; exact lcmTo_pos (by omega) HAL.out hlt
              clear hm3
              go_wp2_with fail
              generalize wr.alloc (Obj.cells #[.int .i64 x.1, .int .i64 D, .int .i64 T, .slice B x.2.2.2.length e] 33) = w4 at *
              clear x1 x2 x3 x4
              refine (HC.out _).mono ?_
              rintro e w5 ⟨rfl, b5⟩
              replace y1 := cell_below b5 y1
              replace y2 := cell_below b5 y2
              replace y3 := cell_below b5 y3
              replace y4 := cell_below b5 y4
              have B5 := Lib.hid (below_step B4.out b5)
              replace HT2 := Lib.hid (HT2.out.below b5)
              clear b5
              go_wp2_with fail
              go_roundw
              case rel => exact ⟨k + 1, m2, d, by go_num, rfl, rfl, hlt, HP, hbig, (by omega), HL1, HF1, B5, HT2⟩
              case measure => simp [intOf]; omega
            · obtain ⟨z1, z2, z3⟩ := cyc_large (L := L) (P := (p : Int)) (B := (b : Int)) HI.out (by rw [Int.toNat_natCast]; have := HLE.out; rw [HL1.out] at this; omega)
              have HV : Hid (cycV L (p : Int) (b : Int) = .tuple #[.int .i64 0, .int .i64 0, .int .i64 5]) := by show _ = _; unfold cycV; rw [z1, z2, z3]; rfl
              have HC := Lib.hid (lcm_far m T hm1 hm2 hT1 hT2 (by omega))
              clear z1 z2 z3 hm3
              go_wp2_with fail
              generalize wr.alloc (Obj.cells #[.int .i64 x.1, .int .i64 D, .int .i64 T, .slice B x.2.2.2.length e] 33) = w4 at *
              clear x1 x2 x3 x4
              refine (HC.out _).mono ?_
              rintro e w5 ⟨rfl, b5⟩
              replace y1 := cell_below b5 y1
              replace y2 := cell_below b5 y2
              replace y3 := cell_below b5 y3
              replace y4 := cell_below b5 y4
              have B5 := Lib.hid (below_step B4.out b5)
              replace HT2 := Lib.hid (HT2.out.below b5)
              clear b5
              go_wp2_with fail
              go_ret3
              exact ⟨by rw [HV.out]; rfl, B5.out⟩
        · have hkl : k = L.length := by omega
          subst hkl
          have i0 : IntKind.i64.wrap (3000 - (d : Int)) = 3000 - (d : Int) := IntWalk.i64_in _ (by omega)
          have e1 : cyc p L = m := HM.out
          have e2 : far p L = d := HD.out
          by_cases hbig : 3000 < m + d
          · obtain ⟨z1, z2, z3⟩ := cyc_large (L := L) (P := (p : Int)) (B := (b : Int)) HI.out (by rw [Int.toNat_natCast, e1, e2]; exact hbig)
            have HV : Hid (cycV L (p : Int) (b : Int) = .tuple #[.int .i64 0, .int .i64 0, .int .i64 5]) := by show _ = _; unfold cycV; rw [z1, z2, z3]; rfl
            clear z1 z2 z3 e1 e2
            go_wp2_with fail
            go_ret3
            exact ⟨by rw [HV.out]; rfl, HB.out⟩
          · obtain ⟨z1, z2, z3⟩ := cyc_fine (L := L) (P := (p : Int)) (B := (b : Int)) (cycOk_iff.2 ⟨HI.out, by rw [Int.toNat_natCast, e1, e2]; omega⟩)
            rw [Int.toNat_natCast, e1, e2] at z2
            rw [Int.toNat_natCast, e1] at z1
            have HV : Hid (cycV L (p : Int) (b : Int) = .tuple #[.int .i64 m, .int .i64 ((m : Int) + (d : Int)), .int .i64 0]) := by show _ = _; unfold cycV; rw [z1, z2, z3]; push_cast; rfl
            clear z1 z2 z3 e1 e2
            go_wp2_with fail
            go_ret3
            exact ⟨by rw [HV.out]; rfl, HB.out⟩

end Vd
end Go.Proofs.Ytdjjdebnbaaihaa

/-
  Layer 10 (verdict): whether there is too little for t; the range's making; First.
-/
namespace Go.Proofs.Ytdjjdebnbaaihaa
open Go.RowKit Mm Tk
attribute [local go_sem] Oper.semAt_some
namespace Vd

set_option maxHeartbeats 800000 in
theorem exceeds_n (A : Option Addr) (c : Nat) (L : List Tsk) (p b t : Nat) (v : Bool) (hv : badB L p b t = v) (hL : allB L = true) (h1 : 1 ≤ b) (h2 : b ≤ p) (h3 : p ≤ 200) (ht : t ≤ 3000) (n : Nat) (hn : L.length = n) (w : World) (H : TL w A c L) :
    Calls Try.prog 72 #[.slice A n c, .agg #[.int .i64 p, .int .i64 b], .int .i64 t] w fun e w' => e = .returned (.bool v) ∧ Below w.heap.size w w' := by
  subst hn
  obtain ⟨t1, t2⟩ := Sp.fc_new w (p : Int) (b : Int)
  have b0 := below_one w (Obj.cells #[.int .i64 p, .int .i64 b] 30)
  have HT := Lib.hid (H.below b0)
  obtain ⟨n1, n2⟩ := need_of hL (t := t) (by omega)
  have hb := need_small hL (t := t) (m := 3000) (by omega)
  have hsb := Sp.sbf_le h1 h2 t
  have HB := Lib.hid (Sp.bound_ok p b t h1 h2 h3 (by omega))
  obtain ⟨z, hz⟩ : ∃ z, need L t = z := ⟨_, rfl⟩
  obtain ⟨s, hs⟩ : ∃ s, Sp.sbf p b t = s := ⟨_, rfl⟩
  rw [hz] at n1 hb
  rw [hs] at hsb HB
  have hv2 : decide ((s : Int) < z) = v := by rw [← hv, ← hz, ← hs]; rfl
  have B0 := Lib.hid b0
  have N1 := Lib.hid n1
  have N2 := Lib.hid n2
  clear b0 n1 n2
  clear H hv hz hs hL
  cases v with
  | true =>
    have i1 := of_decide_eq_true hv2
    clear hv2
    go_enter Try.func72, Try.ntmps72
    go_wp2_with fail
    refine (need_v A c L t z 0 N1.out N2.out _ rfl _ HT.out).mono ?_
    rintro e w1 ⟨rfl, b1⟩
    replace t1 := cell_below b1 t1
    replace t2 := cell_below b1 t2
    have B1 := Lib.hid (below_step B0.out b1)
    clear b1
    go_wp2_with fail
    refine (HB.out _).mono ?_
    rintro e w2 ⟨rfl, b2⟩
    have B2 := Lib.hid (below_step B1.out b2)
    clear b2
    go_wp2_with fail
    go_ret
    exact ⟨rfl, B2.out⟩
  | false =>
    have i1 := of_decide_eq_false hv2
    clear hv2
    go_enter Try.func72, Try.ntmps72
    go_wp2_with fail
    refine (need_v A c L t z 0 N1.out N2.out _ rfl _ HT.out).mono ?_
    rintro e w1 ⟨rfl, b1⟩
    replace t1 := cell_below b1 t1
    replace t2 := cell_below b1 t2
    have B1 := Lib.hid (below_step B0.out b1)
    clear b1
    go_wp2_with fail
    refine (HB.out _).mono ?_
    rintro e w2 ⟨rfl, b2⟩
    have B2 := Lib.hid (below_step B1.out b2)
    clear b2
    go_wp2_with fail
    go_ret
    exact ⟨ret_bool (decide_eq_false (by omega)), B2.out⟩

theorem dl_make (A : Option Addr) (c n : Nat) (E : Int) (w : World) :
    Calls Try.prog 71 #[.slice A n c, .int .i64 E] w fun e w' => e = .returned (.func (.func 77) #[] #[.pointer (some ⟨w.heap.size + 1, 0, none⟩), .pointer (some ⟨w.heap.size, 0, none⟩)]) ∧ w' = (w.alloc (.cells #[.slice A n c] 22)).alloc (.cells #[.int .i64 E] 3) := by
  go_enter Try.func71, Try.ntmps71
  go_wp2_with fail
  go_ret
  exact ⟨rfl, rfl⟩

theorem dlEnters : ∀ args w, (callFunc 77 args).run Try.prog w = .ok (.enter 77 args) w := enters_of Try.func77 (by kernel_rfl) rfl

/-- an answer of First -/
def firV (L : List Tsk) (P B : Int) : Value := .tuple #[.int .i64 (firstT L P B : Nat), .bool (firstB L P B), .int .i64 (cycE L P B : Nat)]
theorem cycle_n (A : Option Addr) (c : Nat) (L : List Tsk) (P B : Int) (h z e : Nat) (hh : cycZ L P B = h) (hz : endZ L P B = z) (he : cycE L P B = e) (n : Nat) (hn : L.length = n) (w : World) (H : TL w A c L) :
    Calls Try.prog 70 #[.slice A n c, .agg #[.int .i64 P, .int .i64 B]] w fun x w' => x = .returned (.tuple #[.int .i64 h, .int .i64 z, .int .i64 e]) ∧ Below w.heap.size w w' := by
  subst hh; subst hz; subst he; subst hn
  exact cycle_any P B A c L w H

/-- the boxes of First -/
def w5 (w : World) (A : Option Addr) (n c : Nat) (P B : Int) : World := ((((w.alloc (.cells #[.slice A n c] 22)).alloc (.cells #[.int .i64 P, .int .i64 B] 30)).alloc (.cells #[.int .i64 0] 3)).alloc (.cells #[.bool false] 4)).alloc (.cells #[.int .i64 0] 39)
/-- what lies in them -/
structure In5 (w w' : World) (X : Nat) (A : Option Addr) (n c : Nat) (P B : Int) : Prop where
  low : Below w.heap.size w w'
  size : X + 1 + 1 + 1 + 1 < w'.heap.size
  l : w'.cell? ⟨X, 0, none⟩ = some (.slice A n c)
  f0 : w'.cell? ⟨X + 1, 0, none⟩ = some (.int .i64 P)
  f1 : w'.cell? ⟨X + 1, 1, none⟩ = some (.int .i64 B)
  r0 : w'.cell? ⟨X + 1 + 1, 0, none⟩ = some (.int .i64 0)
  r1 : w'.cell? ⟨X + 1 + 1 + 1, 0, none⟩ = some (.bool false)
  r2 : w'.cell? ⟨X + 1 + 1 + 1 + 1, 0, none⟩ = some (.int .i64 0)
  z0 : w'.frozen? ⟨X + 1 + 1, 0, none⟩ = false
  z1 : w'.frozen? ⟨X + 1 + 1 + 1, 0, none⟩ = false
  z2 : w'.frozen? ⟨X + 1 + 1 + 1 + 1, 0, none⟩ = false
theorem In5.below {w w' w'' : World} {X : Nat} {A : Option Addr} {n c : Nat} {P B : Int} (h : In5 w w' X A n c P B) (b : Below w'.heap.size w' w'') : In5 w w'' X A n c P B where
  low := below_step h.low b
  size := Nat.lt_of_lt_of_le h.size b.size
  l := cell_below b h.l
  f0 := cell_below b h.f0
  f1 := cell_below b h.f1
  r0 := cell_below b h.r0
  r1 := cell_below b h.r1
  r2 := cell_below b h.r2
  z0 := frozen_below b h.r0 h.z0
  z1 := frozen_below b h.r1 h.z1
  z2 := frozen_below b h.r2 h.z2
theorem new_box (w : World) (v : Value) (t : TypeId) (X : Nat) (hX : w.heap.size = X) : (w.alloc (.cells #[v] t)).cell? ⟨X, 0, none⟩ = some v ∧ (w.alloc (.cells #[v] t)).frozen? ⟨X, 0, none⟩ = false := by
  subst hX
  constructor <;> simp
theorem in5 (w : World) (A : Option Addr) (n c : Nat) (P B : Int) : In5 w (w5 w A n c P B) w.heap.size A n c P B := by
  unfold w5
  have a1 := new_box w (.slice A n c) 22 w.heap.size rfl
  obtain ⟨s1, hs1⟩ : ∃ s1, w.alloc (.cells #[.slice A n c] 22) = s1 := ⟨_, rfl⟩
  have z1 : s1.heap.size = w.heap.size + 1 := by rw [← hs1]; exact World.size_alloc _ _
  have d1 : Below w.heap.size w s1 := by rw [← hs1]; exact below_one _ _
  rw [hs1] at a1 ⊢
  have a2 := Sp.fc_new s1 P B
  obtain ⟨s2, hs2⟩ : ∃ s2, s1.alloc (.cells #[.int .i64 P, .int .i64 B] 30) = s2 := ⟨_, rfl⟩
  have z2 : s2.heap.size = w.heap.size + 1 + 1 := by rw [← hs2, World.size_alloc, z1]
  have d2 : Below s1.heap.size s1 s2 := by rw [← hs2]; exact below_one _ _
  rw [hs2] at a2 ⊢
  rw [z1] at a2
  have a3 := new_box s2 (.int .i64 0) 3 _ z2
  obtain ⟨s3, hs3⟩ : ∃ s3, s2.alloc (.cells #[.int .i64 0] 3) = s3 := ⟨_, rfl⟩
  have z3 : s3.heap.size = w.heap.size + 1 + 1 + 1 := by rw [← hs3, World.size_alloc, z2]
  have d3 : Below s2.heap.size s2 s3 := by rw [← hs3]; exact below_one _ _
  rw [hs3] at a3 ⊢
  have a4 := new_box s3 (.bool false) 4 _ z3
  obtain ⟨s4, hs4⟩ : ∃ s4, s3.alloc (.cells #[.bool false] 4) = s4 := ⟨_, rfl⟩
  have z4 : s4.heap.size = w.heap.size + 1 + 1 + 1 + 1 := by rw [← hs4, World.size_alloc, z3]
  have d4 : Below s3.heap.size s3 s4 := by rw [← hs4]; exact below_one _ _
  rw [hs4] at a4 ⊢
  have a5 := new_box s4 (.int .i64 0) 39 _ z4
  obtain ⟨s5, hs5⟩ : ∃ s5, s4.alloc (.cells #[.int .i64 0] 39) = s5 := ⟨_, rfl⟩
  have z5 : s5.heap.size = w.heap.size + 1 + 1 + 1 + 1 + 1 := by rw [← hs5, World.size_alloc, z4]
  have d5 : Below s4.heap.size s4 s5 := by rw [← hs5]; exact below_one _ _
  rw [hs5] at a5 ⊢
  have d45 := below_step d4 d5
  have d35 := below_step d3 d45
  have d25 := below_step d2 d35
  exact ⟨below_step d1 d25, by omega, cell_below d25 a1.1, cell_below d35 a2.1, cell_below d35 a2.2, cell_below d45 a3.1, cell_below d5 a4.1, a5.1, frozen_below d45 a3.1 a3.2, frozen_below d5 a4.1 a4.2, a5.2⟩

/-- the three results, written -/
def set3 (W : World) (X : Nat) (u v x : Value) : World := ((W.setCell ⟨X + 1 + 1, 0, none⟩ u).setCell ⟨X + 1 + 1 + 1, 0, none⟩ v).setCell ⟨X + 1 + 1 + 1 + 1, 0, none⟩ x
theorem set3_cells {w W : World} {X : Nat} {A : Option Addr} {n c : Nat} {P B : Int} (h : In5 w W X A n c P B) (u v x : Value) :
    (set3 W X u v x).cell? ⟨X + 1 + 1, 0, none⟩ = some u ∧ (set3 W X u v x).cell? ⟨X + 1 + 1 + 1, 0, none⟩ = some v ∧ (set3 W X u v x).cell? ⟨X + 1 + 1 + 1 + 1, 0, none⟩ = some x := by
  have n1 : (⟨X + 1 + 1, 0, none⟩ : Addr) ≠ ⟨X + 1 + 1 + 1, 0, none⟩ := fun e => by injection e with e; omega
  have n2 : (⟨X + 1 + 1, 0, none⟩ : Addr) ≠ ⟨X + 1 + 1 + 1 + 1, 0, none⟩ := fun e => by injection e with e; omega
  have n3 : (⟨X + 1 + 1 + 1, 0, none⟩ : Addr) ≠ ⟨X + 1 + 1 + 1 + 1, 0, none⟩ := fun e => by injection e with e; omega
  have n4 := n1.symm
  have n5 := n2.symm
  have n6 := n3.symm
  unfold set3
  refine ⟨?_, ?_, ?_⟩
  · rw [World.cell?_setCell_other _ _ _ _ n5, World.cell?_setCell_other _ _ _ _ n4]
    exact World.cell?_setCell_same _ _ _ h.r0
  · rw [World.cell?_setCell_other _ _ _ _ n6]
    exact World.cell?_setCell_same _ _ _ ((World.cell?_setCell_other _ _ _ _ n1).trans h.r1)
  · exact World.cell?_setCell_same _ _ _ (((World.cell?_setCell_other _ _ _ _ n3).trans (World.cell?_setCell_other _ _ _ _ n2)).trans h.r2)
theorem set3_below {B : Nat} {w W : World} {X : Nat} (h : Below B w W) (hX : B ≤ X) (u v x : Value) : Below B w (set3 W X u v x) := ((h.setCell (p := ⟨X + 1 + 1, 0, none⟩) (by show B ≤ X + 1 + 1; omega) _).setCell (p := ⟨X + 1 + 1 + 1, 0, none⟩) (by show B ≤ X + 1 + 1 + 1; omega) _).setCell (p := ⟨X + 1 + 1 + 1 + 1, 0, none⟩) (by show B ≤ X + 1 + 1 + 1 + 1; omega) _
theorem set3_keeps (W : World) (X : Nat) (u v x : Value) : KeepsOthers W (set3 W X u v x) := ((KeepsOthers.setCell _ _ _).trans (KeepsOthers.setCell _ _ _)).trans (KeepsOthers.setCell _ _ _)

theorem keeps_of {W W' : World} (b : Below W.heap.size W W') : KeepsOthers W W' := KeepsOthers.of_grownBy (grown_of_below b) (fun j o e => by cases e)
/-- the invariant of the rounds; how one is left -/
def Inv (L : List Tsk) (p b : Nat) (W0 : World) (pre : List Tick) (W : World) : Prop := Below W0.heap.size W0 W ∧ ∀ x ∈ pre, badB L p b x.1 = false
def Out (L : List Tsk) (p b : Nat) (w : World) (X : Nat) (cd : Code) (pre : List Tick) (W : World) : Prop :=
  (cd = .ret ∧ ∃ ys x, pre = ys ++ [x] ∧ badB L p b x.1 = true ∧ (∀ y ∈ ys, badB L p b y.1 = false) ∧
    W.cell? ⟨X + 1 + 1, 0, none⟩ = some (.int .i64 x.1) ∧ W.cell? ⟨X + 1 + 1 + 1, 0, none⟩ = some (.bool true) ∧ W.cell? ⟨X + 1 + 1 + 1 + 1, 0, none⟩ = some (.int .i64 0)) ∧ Below w.heap.size w W
theorem inv_own (L : List Tsk) (p b : Nat) (W0 : World) : OwnFrom W0.heap.size (Inv L p b W0) := OwnFrom.and (ownFrom_below (Nat.le_refl _) (Nat.le_refl _)) (ownFrom_pure _ _)
theorem out_own (L : List Tsk) (p b : Nat) (w W0 : World) (X : Nat) (h : w.heap.size ≤ W0.heap.size) (cd : Code) : OwnFrom W0.heap.size (Out L p b w X cd) := OwnFrom.and (fun s A B row hs hg hr => by
  obtain ⟨h0, ys, x, h1, h2, h3, h4, h5, h6⟩ := hs
  exact ⟨h0, ys, x, h1, h2, h3, cell_kept h4 hg (fun r e => (hr r e).2), cell_kept h5 hg (fun r e => (hr r e).2), cell_kept h6 hg (fun r e => (hr r e).2)⟩) (ownFrom_below (Nat.le_refl _) h)

/-- what has come tells the answer -/
theorem first_none {L : List Tsk} {p b E : Nat} (hL : allB L = true) (h1 : 1 ≤ b) (h2 : b ≤ p) {xs : List Tick} (hA : AllOf L E xs) (hg : ∀ x ∈ xs, badB L p b x.1 = false) : FirstOf L p b E 0 false := .inl ⟨rfl, rfl, bad_none hL h1 h2 fun t ht hd => by
  obtain ⟨x, hx, e⟩ := hA t ht hd
  rw [← e]
  exact hg x hx⟩
theorem first_some {L : List Tsk} {p b E : Nat} (hL : allB L = true) (h1 : 1 ≤ b) (h2 : b ≤ p) {pre : List Tick} (hA : LeftAt L E pre) {ys : List Tick} {x : Tick} (he : pre = ys ++ [x]) (hx : badB L p b x.1 = true) (hg : ∀ y ∈ ys, badB L p b y.1 = false) : FirstOf L p b E x.1 true := by
  obtain ⟨ys', x', e', hE, hs⟩ := hA
  rw [he] at e'
  obtain ⟨e1, e2⟩ := List.append_inj' e' rfl
  obtain rfl : x = x' := by simpa using e2
  subst e1
  refine .inr ⟨rfl, hE, hx, fun u hu => ?_⟩
  by_cases h0 : x.1 = 0
  · omega
  · exact bad_none (E := x.1 - 1) hL h1 h2 (fun t ht hd => by
      obtain ⟨y, hy, e⟩ := hs t (by omega) hd
      rw [← e]
      exact hg y hy) u (by omega)

set_option maxRecDepth 100000 in
set_option maxHeartbeats 4000000 in
theorem first_any (P B : Int) (A : Option Addr) (c : Nat) (L : List Tsk) (w : World) (H : TL w A c L) :
    Calls Try.prog 64 #[.slice A L.length c, .agg #[.int .i64 P, .int .i64 B]] w fun e w' => e = .returned (firV L P B) ∧ Below w.heap.size w w' := by
  obtain ⟨h, hh⟩ : ∃ h, cycZ L P B = h := ⟨_, rfl⟩
  obtain ⟨z, hz⟩ : ∃ z, endZ L P B = z := ⟨_, rfl⟩
  obtain ⟨e, he⟩ : ∃ e, cycE L P B = e := ⟨_, rfl⟩
  have HC := Lib.hid (cycle_n A c L P B h z e hh hz he L.length rfl)
  have HT := Lib.hid H
  clear H
  refine (callsIn_wide (n := 4)).1 ?_
  refine callsIn_of_wp_marks Try.func64 rfl trivial ?_ rfl
  simp only [Try.ntmps64, List.size_toArray, List.length_cons, List.length_nil, Nat.reduceAdd, Nat.reduceSub, Array.replicate_succ, Array.replicate_zero, List.push_toArray, List.append_toArray, List.nil_append, List.cons_append]
  gi_wp2_with fail
  have h5 := in5 w A L.length c P B
  rw [← w5]
  generalize w5 w A L.length c P B = w0 at *
  refine ⟨trivial, (callsIn_wide.2 (HC.out _ (HT.out.below h5.low))).mono ?_⟩
  rintro x w1 ⟨rfl, b1⟩
  replace h5 := h5.below b1
  replace HT := Lib.hid (HT.out.below h5.low)
  clear b1
  cases hok : cycOk L P B with
  | false =>
    have he0 : ¬ e = 0 := fun h => by rw [← he, cycE_zero, hok] at h; cases h
    have i1 : ¬ (e : Int) = 0 := by omega
    have i2 : ((e : Int) == 0) = false := beq_eq_false_iff_ne.2 i1
    have HV : Hid (firV L P B = .tuple #[.int .i64 0, .bool false, .int .i64 e]) := by
      show _ = _
      unfold firV firstT firstB
      rw [hok, he]
      rfl
    have q0 := h5.r0
    have q1 := h5.r1
    have q2 := h5.r2
    have p0 := h5.z0
    have p1 := h5.z1
    have p2 := h5.z2
    have H5 := Lib.hid h5
    clear h5
    have HH := Lib.hid hh
    have HZ := Lib.hid hz
    have HE := Lib.hid he
    have HOK := Lib.hid hok
    have HE0 := Lib.hid he0
    clear hh hz he hok he0
    gi_wp2_with fail
    obtain ⟨k0, k1, k2⟩ := set3_cells H5.out (.int .i64 0) (.bool false) (.int .i64 e)
    have B3 := Lib.hid (set3_below H5.out.low (Nat.le_refl _) (.int .i64 0) (.bool false) (.int .i64 e))
    rw [← set3]
    generalize set3 w1 w.heap.size (.int .i64 0) (.bool false) (.int .i64 e) = w3 at *
    refine ⟨.tuple #[.int .i64 0, .bool false, .int .i64 e], ?_, by rw [HV.out], B3.out⟩
    simp [results, Try.results64, go_sem, k0, k1, k2]
  | true =>
    obtain ⟨g0, g4⟩ := cycOk_iff.1 hok
    obtain ⟨hL, hr⟩ := in_iff.1 g0
    obtain ⟨p, b, rfl, rfl, g1, g2, g3⟩ := Sp.right_nat hr
    rw [Int.toNat_natCast] at g4
    obtain ⟨_, e2, e3⟩ := cyc_fine hok
    rw [Int.toNat_natCast] at e2
    have he0 : e = 0 := by rw [← he]; exact e3
    have hz3 : z ≤ 3000 := by rw [← hz, e2]; exact g4
    subst he0
    have HF : Hid (∀ t v, FirstOf L p b z t v → firV L (p : Int) (b : Int) = .tuple #[.int .i64 t, .bool v, .int .i64 0]) := fun t v hf => by
      obtain ⟨f1, f2⟩ := hf.same (firstOf L p b z)
      unfold firV firstT firstB
      rw [hok, hz, e3, f1, f2]
      rfl
    have t1 := h5.l
    have hXs := h5.low.size
    have H5 := Lib.hid h5
    have HL := Lib.hid hL
    clear h5 hh hz he hok e2 e3 g0 g4 hr hL HC
    gi_wp2_with fail
    refine ⟨trivial, (callsIn_wide.2 (dl_make A c L.length z _)).mono ?_⟩
    rintro x w2 ⟨rfl, rfl⟩
    gi_wp2_with fail
    have bb := below_two w1 (Obj.cells #[.slice A L.length c] 22) (Obj.cells #[.int .i64 z] 3)
    have y1 : ((w1.alloc (Obj.cells #[.slice A L.length c] 22)).alloc (Obj.cells #[.int .i64 z] 3)).cell? ⟨w1.heap.size, 0, none⟩ = some (.slice A L.length c) := cell_new (by simp) _
    have y2 : ((w1.alloc (Obj.cells #[.slice A L.length c] 22)).alloc (Obj.cells #[.int .i64 z] 3)).cell? ⟨w1.heap.size + 1, 0, none⟩ = some (.int .i64 z) := (new_box _ _ _ _ (World.size_alloc _ _)).1
    have hT := HT.out.below bb
    have h5 := H5.out.below bb
    clear HT H5 t1
    generalize (w1.alloc (Obj.cells #[.slice A L.length c] 22)).alloc (Obj.cells #[.int .i64 z] 3) = W0 at *
    have hX0 : w.heap.size ≤ W0.heap.size := h5.low.size
    have HT := Lib.hid hT
    have H5 := Lib.hid h5
    have HS := Lib.hid (dl_stops 3 (by omega) (w1.heap.size + 1) w1.heap.size z hz3 A c L HL.out W0 y2 y1 hT)
    clear hT h5 bb y1 y2
    refine wpIn_rangeFunc_ownF rfl (by omega) (gf := 77) (lb := #[.pointer (some ⟨w1.heap.size + 1, 0, none⟩), .pointer (some ⟨w1.heap.size, 0, none⟩)]) rfl trivial dlEnters HS.out belowK_t (belowK_b (Nat.le_refl _)) (Below.refl _ _) (fun _ => rfl)
      (Inv L p b W0) (Out L p b w w.heap.size) (inv_own L p b W0) (out_own L p b w W0 w.heap.size hX0) ⟨Below.refl _ _, fun x hx => by cases hx⟩
      (fun x => { tmps := #[.slice A L.length c, .agg #[.int .i64 p, .int .i64 b], .pointer (some ⟨w.heap.size, 0, none⟩), .pointer (some ⟨w.heap.size + 1, 0, none⟩), .pointer (some ⟨w.heap.size + 1 + 1, 0, none⟩), .pointer (some ⟨w.heap.size + 1 + 1 + 1, 0, none⟩), .pointer (some ⟨w.heap.size + 1 + 1 + 1 + 1, 0, none⟩), .int .i64 h, .int .i64 z, .int .i64 0, .int .i64 x.1, .tuple #[.int .i64 h, .int .i64 z, .int .i64 0], .slice A L.length c, .agg #[.int .i64 p, .int .i64 b], .tuple #[.int .i64 h, .int .i64 z, .int .i64 0], .int .i64 h, .int .i64 z, .int .i64 0, .int .i64 0, .bool false, undef, .slice A L.length c, .int .i64 z, .func (.func 77) #[] #[.pointer (some ⟨w1.heap.size + 1, 0, none⟩), .pointer (some ⟨w1.heap.size, 0, none⟩)], .int .i64 x.1, undef, undef, undef, undef, undef], defers := [] }) ?assign ?body ?done ?stop
    case assign =>
      intro l x W K hK
      gi_wp2_with fail
      exact hK
    case body =>
      rintro l pre x W ⟨hb, hp⟩ _
      have h5 := H5.out.below hb
      have hT := HT.out.below hb
      have hW0 := hb.size
      have t1 := h5.l
      have t2 := h5.f0
      have t3 := h5.f1
      have HH5 := Lib.hid h5
      have HTT := Lib.hid hT
      have HB := Lib.hid hb
      have HP := Lib.hid hp
      clear h5 hT hb hp
      cases hv : badB L p b x.1 with
      | true =>
        have HV := Lib.hid hv
        clear hv
        gi_wp2_with fail
        refine ⟨trivial, (CallsIn.inRound l (callsIn_wide.2 (exceeds_n A c L p b x.1 true HV.out HL.out g1 g2 g3 x.2 L.length rfl _ HTT.out))).mono ?_⟩
        rintro e W1 ⟨rfl, b1⟩
        have h5 := HH5.out.below b1
        have q0 := h5.r0
        have q1 := h5.r1
        have q2 := h5.r2
        have p0 := h5.z0
        have p1 := h5.z1
        have p2 := h5.z2
        have H6 := Lib.hid h5
        have B1 := Lib.hid b1
        clear h5 b1 t1 t2 t3
        gi_wp2_with fail
        obtain ⟨k0, k1, k2⟩ := set3_cells H6.out (.int .i64 x.1) (.bool true) (.int .i64 0)
        rw [← set3]
        exact ⟨(keeps_of B1.out).trans (set3_keeps _ _ _ _ _), ⟨rfl, pre, x, rfl, HV.out, HP.out, k0, k1, k2⟩, set3_below H6.out.low (Nat.le_refl _) _ _ _⟩
      | false =>
        have HV := Lib.hid hv
        clear hv
        gi_wp2_with fail
        refine ⟨trivial, (CallsIn.inRound l (callsIn_wide.2 (exceeds_n A c L p b x.1 false HV.out HL.out g1 g2 g3 x.2 L.length rfl _ HTT.out))).mono ?_⟩
        rintro e W1 ⟨rfl, b1⟩
        have B1 := Lib.hid b1
        clear b1 t1 t2 t3
        gi_wp2_with fail
        exact ⟨keeps_of B1.out, B1.out.mono hW0, HB.out.trans (B1.out.mono hW0), fun y hy => by
          rcases List.mem_append.1 hy with h | h
          · exact HP.out y h
          · obtain rfl : y = x := by simpa using h
            exact HV.out⟩
    case done =>
      rintro D xs W hD hS ⟨hb, hp⟩ hK
      have hV := HF.out _ _ (first_none HL.out g1 g2 hS hp)
      have h5 := H5.out.below hb
      have q0 := h5.r0
      have q1 := h5.r1
      have q2 := h5.r2
      have p0 := h5.z0
      have p1 := h5.z1
      have p2 := h5.z2
      have HH5 := Lib.hid h5
      have HB := Lib.hid hb
      have HV := Lib.hid hV
      have HK := Lib.hid hK
      clear h5 hb hp hS hV hK
      gi_wp2_with fail
      obtain ⟨k0, k1, k2⟩ := set3_cells HH5.out (.int .i64 0) (.bool false) (.int .i64 0)
      have hK3 := (set3_keeps W w.heap.size (.int .i64 0) (.bool false) (.int .i64 0)).same D _ HK.out rfl
      have B3 := set3_below HH5.out.low (Nat.le_refl _) (.int .i64 0) (.bool false) (.int .i64 0)
      rw [← set3]
      generalize set3 W w.heap.size (.int .i64 0) (.bool false) (.int .i64 0) = W3 at *
      have hrow : ∀ r, (some D : Option Nat) = some r → ∃ o : Obj, W3.heap[r]? = some o ∧ o.isCells = false := fun r e => by cases e; exact ⟨_, hK3, rfl⟩
      replace k0 := cell_kept k0 (grownBy_putObj' W3 D (.deferred none)) hrow
      replace k1 := cell_kept k1 (grownBy_putObj' W3 D (.deferred none)) hrow
      replace k2 := cell_kept k2 (grownBy_putObj' W3 D (.deferred none)) hrow
      refine ⟨by simp, .inl ⟨_, _, rfl, run_takeDeferred hK3, ?_⟩⟩
      refine ⟨.tuple #[.int .i64 0, .bool false, .int .i64 0], ?_, by rw [HV.out]; rfl, B3.trans (belowK_b (w := w) (Nat.le_refl _) W3 D _ _ (by omega) hK3 rfl rfl)⟩
      simp [results, Try.results64, go_sem, k0, k1, k2]
    case stop =>
      rintro D cd pre W hD hS ⟨⟨rfl, ys, x, e, hx, hg, k0, k1, k2⟩, hb⟩ hK
      have HV := Lib.hid (HF.out _ _ (first_some HL.out g1 g2 hS e hx hg))
      have HK := Lib.hid hK
      have HB := Lib.hid hb
      clear hS hx hg e hK hb
      gi_wp2_with fail
      have hrow : ∀ r, (some D : Option Nat) = some r → ∃ o : Obj, W.heap[r]? = some o ∧ o.isCells = false := fun r e => by cases e; exact ⟨_, HK.out, rfl⟩
      replace k0 := cell_kept k0 (grownBy_putObj' W D (.deferred none)) hrow
      replace k1 := cell_kept k1 (grownBy_putObj' W D (.deferred none)) hrow
      replace k2 := cell_kept k2 (grownBy_putObj' W D (.deferred none)) hrow
      refine ⟨by simp, .inl ⟨_, _, rfl, run_takeDeferred HK.out, ?_⟩⟩
      refine ⟨.tuple #[.int .i64 x.1, .bool true, .int .i64 0], ?_, by rw [HV.out], HB.out.trans (belowK_b (w := w) (Nat.le_refl _) W D _ _ (by omega) HK.out rfl rfl)⟩
      simp [results, Try.results64, go_sem, k0, k1, k2]

end Vd
end Go.Proofs.Ytdjjdebnbaaihaa

/-
  Layer 10 (verdict): Fits; the calls under other names.
-/
namespace Go.Proofs.Ytdjjdebnbaaihaa
open Go.RowKit Mm Tk
namespace Vd

theorem first_v (A : Option Addr) (c : Nat) (L : List Tsk) (P B : Int) (t : Nat) (v : Bool) (e : Nat) (ht : firstT L P B = t) (hv : firstB L P B = v) (he : cycE L P B = e) (n : Nat) (hn : L.length = n) (w : World) (H : TL w A c L) :
    Calls Try.prog 64 #[.slice A n c, .agg #[.int .i64 P, .int .i64 B]] w fun x w' => x = .returned (.tuple #[.int .i64 t, .bool v, .int .i64 e]) ∧ Below w.heap.size w w' := by
  subst ht; subst hv; subst he; subst hn
  exact first_any P B A c L w H

set_option maxHeartbeats 800000 in
theorem fits_any (P B : Int) (A : Option Addr) (c : Nat) (L : List Tsk) (w : World) (H : TL w A c L) :
    Calls Try.prog 52 #[.slice A L.length c, .agg #[.int .i64 P, .int .i64 B]] w fun e w' => e = .returned (.tuple #[.bool (fitsB L P B), .int .i64 (cycE L P B : Nat)]) ∧ Below w.heap.size w w' := by
  obtain ⟨t1, t2⟩ := Sp.fc_new w P B
  have b0 := below_one w (Obj.cells #[.int .i64 P, .int .i64 B] 30)
  have HT := Lib.hid (H.below b0)
  have hF := fits_is (L := L) (P := P) (B := B)
  obtain ⟨t, ht⟩ : ∃ t, firstT L P B = t := ⟨_, rfl⟩
  obtain ⟨v, hv⟩ : ∃ v, firstB L P B = v := ⟨_, rfl⟩
  obtain ⟨e, he⟩ : ∃ e, cycE L P B = e := ⟨_, rfl⟩
  have HC := Lib.hid (first_v A c L P B t v e ht hv he L.length rfl)
  rw [hv, he] at hF
  rw [he]
  clear H ht hv he
  have B0 := Lib.hid b0
  clear b0
  by_cases h0 : e = 0
  · subst h0
    have HF : Hid (fitsB L P B = !v) := by show _ = _; rw [hF]; rfl
    clear hF
    go_enter Try.func52, Try.ntmps52
    go_wp2_with fail
    refine (HC.out _ HT.out).mono ?_
    rintro e w1 ⟨rfl, b1⟩
    replace t1 := cell_below b1 t1
    replace t2 := cell_below b1 t2
    have B1 := Lib.hid (below_step B0.out b1)
    clear b1
    go_wp2_with fail
    go_ret2
    exact ⟨by rw [HF.out]; rfl, B1.out⟩
  · have HF : Hid (fitsB L P B = false) := by show _ = _; rw [hF, decide_eq_false h0]; rfl
    have i1 : ¬ (e : Int) = 0 := by omega
    have i2 : ((e : Int) == 0) = false := beq_eq_false_iff_ne.2 i1
    clear hF
    go_enter Try.func52, Try.ntmps52
    go_wp2_with fail
    refine (HC.out _ HT.out).mono ?_
    rintro e w1 ⟨rfl, b1⟩
    replace t1 := cell_below b1 t1
    replace t2 := cell_below b1 t2
    have B1 := Lib.hid (below_step B0.out b1)
    clear b1
    go_wp2_with fail
    go_ret2
    exact ⟨by rw [HF.out]; rfl, B1.out⟩
theorem fits_v (A : Option Addr) (c : Nat) (L : List Tsk) (P B : Int) (v : Bool) (e : Nat) (hv : fitsB L P B = v) (he : cycE L P B = e) (n : Nat) (hn : L.length = n) (w : World) (H : TL w A c L) :
    Calls Try.prog 52 #[.slice A n c, .agg #[.int .i64 P, .int .i64 B]] w fun x w' => x = .returned (.tuple #[.bool v, .int .i64 e]) ∧ Below w.heap.size w w' := by
  subst hv; subst he; subst hn
  exact fits_any P B A c L w H

end Vd
end Go.Proofs.Ytdjjdebnbaaihaa

