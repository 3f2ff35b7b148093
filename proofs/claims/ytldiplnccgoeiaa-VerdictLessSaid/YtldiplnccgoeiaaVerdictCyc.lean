/-
  Layer 10 (verdict): plain mathematics: the cycle (the least number that P and all T divide), the end; where the need rises; the first tick for which there is too little.
-/
import Derived.Test.YtldiplnccgoeiaaVerdictMath
import Derived.Test.YtldiplnccgoeiaaSupplyFace
namespace Go.Proofs.Ytldiplnccgoeiaa
namespace Vd
open Mm Tk Dm Bk Sp

/-- the least number that P and the T of the first k tasks divide -/
def lcmTo (P : Nat) (L : List Tsk) : Nat → Nat
  | 0 => P
  | k + 1 => Nat.lcm (lcmTo P L k) (at_ L k).2.2.1.toNat
/-- the greatest D, or 2 * P -/
def farTo (P : Nat) (L : List Tsk) : Nat → Nat
  | 0 => 2 * P
  | k + 1 => max (farTo P L k) (at_ L k).2.1.toNat
def cyc (P : Nat) (L : List Tsk) : Nat := lcmTo P L L.length
def far (P : Nat) (L : List Tsk) : Nat := farTo P L L.length

theorem lcmTo_pos {P : Nat} {L : List Tsk} (hP : 1 ≤ P) (h : ∀ j, j < L.length → rightT (at_ L j) = true) : ∀ {k : Nat}, k ≤ L.length → 1 ≤ lcmTo P L k
  | 0, _ => hP
  | k + 1, hk => by
    have ih := lcmTo_pos hP h (k := k) (by omega)
    have hx := right_T (h k (by omega))
    rw [lcmTo]
    exact Nat.lcm_pos (by omega) (by omega)
theorem lcmTo_dvd (P : Nat) (L : List Tsk) {i k : Nat} (h : i ≤ k) : lcmTo P L i ∣ lcmTo P L k := by
  induction k with
  | zero =>
    have : i = 0 := by omega
    subst this
    exact Nat.dvd_refl _
  | succ k ih =>
    by_cases e : i = k + 1
    · subst e; exact Nat.dvd_refl _
    · rw [lcmTo]
      exact Nat.dvd_trans (ih (by omega)) (Nat.dvd_lcm_left _ _)
theorem lcmTo_T {P : Nat} {L : List Tsk} {j k : Nat} (h : j < k) : (at_ L j).2.2.1.toNat ∣ lcmTo P L k := Nat.dvd_trans (by rw [lcmTo]; exact Nat.dvd_lcm_right _ _) (lcmTo_dvd P L (show j + 1 ≤ k from h))
theorem lcmTo_least {P : Nat} {L : List Tsk} {n : Nat} (hP : P ∣ n) : ∀ {k : Nat}, (∀ j, j < k → (at_ L j).2.2.1.toNat ∣ n) → lcmTo P L k ∣ n
  | 0, _ => hP
  | k + 1, h => by
    rw [lcmTo]
    exact Nat.lcm_dvd (lcmTo_least hP fun j hj => h j (by omega)) (h k (by omega))
theorem lcmTo_le {P : Nat} {L : List Tsk} (hP : 1 ≤ P) (h : ∀ j, j < L.length → rightT (at_ L j) = true) {i k : Nat} (hik : i ≤ k) (hk : k ≤ L.length) : lcmTo P L i ≤ lcmTo P L k := Nat.le_of_dvd (by have := lcmTo_pos hP h hk; omega) (lcmTo_dvd P L hik)
theorem farTo_le (P : Nat) (L : List Tsk) {i k : Nat} (h : i ≤ k) : farTo P L i ≤ farTo P L k := by
  induction k with
  | zero =>
    have : i = 0 := by omega
    subst this
    exact Nat.le_refl _
  | succ k ih =>
    by_cases e : i = k + 1
    · subst e; exact Nat.le_refl _
    · have := ih (by omega)
      rw [farTo]
      omega
theorem farTo_D (P : Nat) (L : List Tsk) {j k : Nat} (h : j < k) : (at_ L j).2.1.toNat ≤ farTo P L k := Nat.le_trans (by rw [farTo]; omega) (farTo_le P L (show j + 1 ≤ k from h))
theorem farTo_small {P : Nat} {L : List Tsk} (hP : P ≤ 200) (h : ∀ j, j < L.length → rightT (at_ L j) = true) : ∀ {k : Nat}, k ≤ L.length → farTo P L k ≤ 400
  | 0, _ => by rw [farTo]; omega
  | k + 1, hk => by
    have ih := farTo_small hP h (k := k) (by omega)
    have hx := right_T (h k (by omega))
    rw [farTo]
    omega
theorem far_two (P : Nat) (L : List Tsk) : 2 * P ≤ far P L := by
  have := farTo_le P L (Nat.zero_le L.length)
  rw [farTo] at this
  exact this

/-- what is not refused -/
def inB (L : List Tsk) (P B : Int) : Bool := allB L && Sp.rightB P B
theorem in_iff {L : List Tsk} {P B : Int} : inB L P B = true ↔ allB L = true ∧ Sp.rightB P B = true := by unfold inB; rw [Bool.and_eq_true]
def cycOk (L : List Tsk) (P B : Int) : Bool := inB L P B && decide (cyc P.toNat L + far P.toNat L ≤ 3000)
theorem cycOk_iff {L : List Tsk} {P B : Int} : cycOk L P B = true ↔ inB L P B = true ∧ cyc P.toNat L + far P.toNat L ≤ 3000 := by unfold cycOk; rw [Bool.and_eq_true, decide_eq_true_iff]
/-- the cycle, the end, the error -/
def cycZ (L : List Tsk) (P B : Int) : Nat := if cycOk L P B then cyc P.toNat L else 0
def endZ (L : List Tsk) (P B : Int) : Nat := if cycOk L P B then cyc P.toNat L + far P.toNat L else 0
def cycE (L : List Tsk) (P B : Int) : Nat := if inB L P B then (if cycOk L P B then 0 else 5) else 1
theorem cycE_cases (L : List Tsk) (P B : Int) : cycE L P B = 0 ∨ cycE L P B = 1 ∨ cycE L P B = 5 := by
  unfold cycE
  split
  · split <;> simp
  · simp
theorem cyc_none {L : List Tsk} {P B : Int} (h : inB L P B = false) : cycZ L P B = 0 ∧ endZ L P B = 0 ∧ cycE L P B = 1 := by
  have : cycOk L P B = false := by unfold cycOk; rw [h]; rfl
  unfold cycZ endZ cycE
  rw [this, h]
  exact ⟨rfl, rfl, rfl⟩
theorem cyc_large {L : List Tsk} {P B : Int} (h : inB L P B = true) (hl : 3000 < cyc P.toNat L + far P.toNat L) : cycZ L P B = 0 ∧ endZ L P B = 0 ∧ cycE L P B = 5 := by
  have : cycOk L P B = false := by
    rw [← Bool.not_eq_true, cycOk_iff]
    rintro ⟨_, h2⟩
    omega
  unfold cycZ endZ cycE
  rw [this, h]
  exact ⟨rfl, rfl, rfl⟩
theorem cyc_fine {L : List Tsk} {P B : Int} (h : cycOk L P B = true) : cycZ L P B = cyc P.toNat L ∧ endZ L P B = cyc P.toNat L + far P.toNat L ∧ cycE L P B = 0 := by
  unfold cycZ endZ cycE
  rw [h, (cycOk_iff.1 h).1]
  exact ⟨rfl, rfl, rfl⟩
theorem cycE_zero {L : List Tsk} {P B : Int} : cycE L P B = 0 ↔ cycOk L P B = true := by
  constructor
  · intro h
    cases hi : inB L P B with
    | false => rw [(cyc_none hi).2.2] at h; cases h
    | true =>
      rcases Nat.lt_or_ge 3000 (cyc P.toNat L + far P.toNat L) with h' | h'
      · rw [(cyc_large hi h').2.2] at h; cases h
      · exact cycOk_iff.2 ⟨hi, h'⟩
  · intro h
    exact (cyc_fine h).2.2
theorem cyc_end {L : List Tsk} {P B : Nat} (h : allB L = true) (hB : 1 ≤ B) (hBP : B ≤ P) : End L P (cyc P L) (cyc P L + far P L) where
  pos := lcmTo_pos (by omega) (all_right h) (Nat.le_refl _)
  cyc := fun j hj => by
    have h1 := lcmTo_T (P := P) (L := L) hj
    have hx := right_T (all_right h j hj)
    unfold Vd.cyc
    generalize lcmTo P L L.length = n at *
    generalize (at_ L j).2.2.1 = T at *
    obtain ⟨q, hq⟩ := h1
    rw [show (n : Int) = T * q from by rw [hq, Int.natCast_mul, Int.toNat_of_nonneg (by omega)]]
    exact Int.mul_emod_right _ _
  per := Nat.mod_eq_zero_of_dvd (lcmTo_dvd P L (Nat.zero_le _))
  far := by have := far_two P L; omega
  due := fun j hj => by
    have h1 := farTo_D P L hj
    have hx := right_T (all_right h j hj)
    unfold Vd.far
    omega

/-! ### at the cycle itself -/
theorem bndTo_at {L : List Tsk} (h : ∀ j, j < L.length → rightT (at_ L j) = true) {H : Nat} (h0 : 0 < H) (hH : Cyc L H) : ∀ {k : Nat}, k ≤ L.length → bndTo L H k = askTo L H k
  | 0, _ => rfl
  | k + 1, hk => by
    have ih := bndTo_at h h0 hH (k := k) (by omega)
    have hx := right_T (h k (by omega))
    have hc := hH k (by omega)
    have e : bndT (at_ L k) H = askT (at_ L k) H := by
      generalize at_ L k = x at *
      unfold bndT askT
      congr 1
      have hq : (H : Int) = x.2.2.1 * ((H : Int) / x.2.2.1) := by
        have := Int.mul_ediv_add_emod (H : Int) x.2.2.1
        omega
      have hq1 : x.2.2.1 ≤ (H : Int) := Int.le_of_dvd (by omega) (Int.dvd_of_emod_eq_zero hc)
      generalize (H : Int) / x.2.2.1 = q at *
      rw [njobs_eq (by omega)]
      have : (H : Int) - x.2.1 = (x.2.2.1 - x.2.1) + (q - 1) * x.2.2.1 := by rw [hq, Int.sub_mul, Int.mul_comm q]; omega
      rw [this, Int.add_mul_ediv_right _ _ (by omega), Int.ediv_eq_zero_of_lt (by omega) (by omega)]
      omega
    rw [bndTo, askTo, ih]
    show _ + bndT (at_ L k) H = _
    rw [e]
theorem sbf_share {P B H : Nat} (hB : 1 ≤ B) (hBP : B ≤ P) (h0 : 0 < H) (hH : H % P = 0) : sbf P B H ≤ given P B H := by
  obtain ⟨m, rfl⟩ := Nat.dvd_of_mod_eq_zero hH
  unfold given
  rw [Nat.mul_div_cancel_left _ (by omega)]
  obtain ⟨k, rfl⟩ : ∃ k, m = k + 1 := ⟨m - 1, by
    have : m ≠ 0 := by intro e; subst e; omega
    omega⟩
  rw [Nat.mul_comm P (k + 1), Nat.add_mul, Nat.one_mul, Nat.add_comm, sbf_periods hB hBP (by omega)]
  have h1 : sbf P B P ≤ B := by
    have h2 := sbf_period (t := P - B) hB hBP (Nat.le_refl _)
    have h3 := sbf_at (P := P) (B := B) 0 0 (by omega)
    simp only [Nat.zero_mul, Nat.add_zero, Nat.mul_zero, Nat.zero_sub] at h3
    rw [h3] at h2
    have h4 := sbf_mono (P := P) (B := B) (t := P) (u := P - B + P) hB hBP (by omega)
    omega
  rw [Nat.mul_add, Nat.mul_one, Nat.mul_comm B]
  omega
/-- where all ticks up to the end are enough, all are -/
theorem fits_end {L : List Tsk} {P B H E : Nat} (h : allB L = true) (hB : 1 ≤ B) (hBP : B ≤ P) (hE : End L P H E) (hf : ∀ t : Nat, t ≤ E → need L t ≤ sbf P B t) : asked L H ≤ given P B H := by
  have h1 := hf H (by have := hE.far; omega)
  have h2 := sbf_share hB hBP hE.pos hE.per
  have h3 : bnd L H = asked L H := bndTo_at (all_right h) hE.pos hE.cyc (Nat.le_refl _)
  unfold need at h1
  omega

/-! ### where the need rises -/
/-- a job of x is due at t, if all begin at 0 -/
def dueT (t : Int) (x : Tsk) : Bool := decide (x.2.1 ≤ t) && decide ((t - x.2.1) % x.2.2.1 = 0)
def dueL (L : List Tsk) (t : Int) : Bool := L.any (dueT t)
theorem due_not {L : List Tsk} {t : Int} (h : dueL L t = false) {j : Nat} (hj : j < L.length) : dueT t (at_ L j) = false := by
  unfold dueL at h
  rw [List.any_eq_false] at h
  have := h _ (at_mem hj)
  cases e : dueT t (at_ L j) with
  | true => exact absurd e this
  | false => rfl
theorem bndT_flat {x : Tsk} (hx : rightT x = true) {t : Int} (h : dueT t x = false) : bndT x t = bndT x (t - 1) := by
  have hT := right_T hx
  unfold bndT
  congr 1
  unfold dueT at h
  rw [Bool.and_eq_false_iff, decide_eq_false_iff_not, decide_eq_false_iff_not] at h
  unfold njobs
  by_cases h1 : t < x.2.1
  · rw [if_pos h1, if_pos (by omega)]
  · have h2 : (t - x.2.1) % x.2.2.1 ≠ 0 := by
      rcases h with h | h
      · omega
      · exact h
    have h3 : ¬ t = x.2.1 := by
      intro e
      apply h2
      rw [e, Int.sub_self]
      simp
    rw [if_neg h1, if_neg (by omega)]
    have e1 := Int.mul_ediv_add_emod (t - x.2.1) x.2.2.1
    have e2 := Int.emod_lt_of_pos (t - x.2.1) (b := x.2.2.1) (by omega)
    have e3 := Int.emod_nonneg (t - x.2.1) (b := x.2.2.1) (by omega)
    generalize hq : (t - x.2.1) / x.2.2.1 = q at *
    generalize (t - x.2.1) % x.2.2.1 = r at *
    have e4 : t - 1 - x.2.1 = (r - 1) + q * x.2.2.1 := by rw [Int.mul_comm]; omega
    rw [e4, Int.add_mul_ediv_right _ _ (by omega), Int.ediv_eq_zero_of_lt (by omega) (by omega)]
    omega
theorem bndTo_flat {L : List Tsk} (h : ∀ j, j < L.length → rightT (at_ L j) = true) {t : Int} (hd : ∀ j, j < L.length → dueT t (at_ L j) = false) : ∀ {k : Nat}, k ≤ L.length → bndTo L t k = bndTo L (t - 1) k
  | 0, _ => rfl
  | k + 1, hk => by
    rw [bndTo, bndTo, bndTo_flat h hd (k := k) (by omega)]
    show _ + bndT (at_ L k) t = _ + bndT (at_ L k) (t - 1)
    rw [bndT_flat (h k (by omega)) (hd k (by omega))]
theorem need_flat {L : List Tsk} (h : allB L = true) {t : Nat} (hd : dueL L (t + 1 : Nat) = false) : need L (t + 1) = need L t := by
  have hj : ∀ j, j < L.length → dueT ((t + 1 : Nat) : Int) (at_ L j) = false := fun j hj => due_not hd hj
  unfold need
  have e1 : bnd L ((t + 1 : Nat) : Int) = bnd L (t : Nat) := by
    have := bndTo_flat (all_right h) hj (Nat.le_refl _)
    rw [show ((t + 1 : Nat) : Int) - 1 = (t : Nat) from by omega] at this
    exact this
  have e2 : blk L ((t + 1 : Nat) : Int) = blk L (t : Nat) := blk_same fun x hx => by
    obtain ⟨j, hj', rfl⟩ := mem_at hx
    have h1 := hj j hj'
    unfold dueT at h1
    rw [Bool.and_eq_false_iff, decide_eq_false_iff_not, decide_eq_false_iff_not] at h1
    constructor
    · intro h2
      rcases h1 with h1 | h1
      · omega
      · have h3 : ¬ ((t + 1 : Nat) : Int) = (at_ L j).2.1 := by
          intro e
          apply h1
          rw [e, Int.sub_self]
          simp
        omega
    · intro h2; omega
  rw [e1, e2]
theorem need_zero {L : List Tsk} (h : allB L = true) : need L 0 = 0 := by
  unfold need
  have e1 : bnd L ((0 : Nat) : Int) = 0 := by
    have : ∀ k, k ≤ L.length → bndTo L ((0 : Nat) : Int) k = 0 := by
      intro k
      induction k with
      | zero => intro _; rfl
      | succ k ih =>
        intro hk
        have hx := right_T (all_right h k (by omega))
        rw [bndTo, ih (by omega)]
        unfold bndT
        rw [njobs_zero (by omega)]
        omega
    exact this _ (Nat.le_refl _)
  have e2 : blk L ((0 : Nat) : Int) = 0 := blk_low fun x hx => by
    obtain ⟨j, hj, rfl⟩ := mem_at hx
    have := right_T (all_right h j hj)
    omega
  rw [e1, e2]
  rfl
/-- for t there is too little -/
def badB (L : List Tsk) (P B t : Nat) : Bool := decide ((sbf P B t : Int) < need L t)
theorem bad_iff {L : List Tsk} {P B t : Nat} : badB L P B t = true ↔ (sbf P B t : Int) < need L t := by unfold badB; exact decide_eq_true_iff
theorem bad_no {L : List Tsk} {P B t : Nat} : badB L P B t = false ↔ need L t ≤ (sbf P B t : Int) := by unfold badB; rw [decide_eq_false_iff_not]; omega
/-- where there is too little for the first time a job is due -/
theorem bad_due {L : List Tsk} {P B : Nat} (h : allB L = true) (hB : 1 ≤ B) (hBP : B ≤ P) {t : Nat} (hb : badB L P B t = true) (hd : dueL L t = false) : ∃ u, u < t ∧ badB L P B u = true := by
  cases t with
  | zero =>
    rw [bad_iff, need_zero h] at hb
    omega
  | succ t =>
    refine ⟨t, by omega, ?_⟩
    rw [bad_iff] at hb ⊢
    rw [need_flat h hd] at hb
    have := sbf_mono (P := P) (B := B) (t := t) (u := t + 1) hB hBP (by omega)
    omega
theorem bad_none {L : List Tsk} {P B E : Nat} (h : allB L = true) (hB : 1 ≤ B) (hBP : B ≤ P) (hd : ∀ t, t ≤ E → dueL L t = true → badB L P B t = false) : ∀ t, t ≤ E → badB L P B t = false := by
  intro t
  induction t using Nat.strongRecOn with
  | _ t ih =>
    intro ht
    cases hdt : dueL L t with
    | true => exact hd t ht hdt
    | false =>
      cases hb : badB L P B t with
      | false => rfl
      | true =>
        obtain ⟨u, hu, hbu⟩ := bad_due h hB hBP hb hdt
        rw [ih u hu (by omega)] at hbu
        cases hbu
/-- the first tick up to E for which there is too little, told as an answer -/
def FirstOf (L : List Tsk) (P B E t : Nat) (b : Bool) : Prop := (b = false ∧ t = 0 ∧ ∀ u, u ≤ E → badB L P B u = false) ∨ (b = true ∧ t ≤ E ∧ badB L P B t = true ∧ ∀ u, u < t → badB L P B u = false)
theorem FirstOf.same {L : List Tsk} {P B E t t' : Nat} {b b' : Bool} (h : FirstOf L P B E t b) (h' : FirstOf L P B E t' b') : t = t' ∧ b = b' := by
  rcases h with ⟨rfl, rfl, h1⟩ | ⟨rfl, h1, h2, h3⟩
  · rcases h' with ⟨rfl, rfl, _⟩ | ⟨rfl, g1, g2, _⟩
    · exact ⟨rfl, rfl⟩
    · rw [h1 t' g1] at g2; cases g2
  · rcases h' with ⟨rfl, rfl, g1⟩ | ⟨rfl, g1, g2, g3⟩
    · rw [g1 t h1] at h2; cases h2
    · refine ⟨?_, rfl⟩
      rcases Nat.lt_trichotomy t t' with e | e | e
      · rw [g3 t e] at h2; cases h2
      · exact e
      · rw [h3 t' e] at g2; cases g2
/-- the least of the bad ones below n, or none -/
def firstTo (L : List Tsk) (P B : Nat) : Nat → Option Nat
  | 0 => none
  | n + 1 => match firstTo L P B n with
    | some t => some t
    | none => if badB L P B n then some n else none
theorem firstTo_of (L : List Tsk) (P B : Nat) : ∀ n, (firstTo L P B n = none ∧ ∀ u, u < n → badB L P B u = false) ∨ ∃ t, firstTo L P B n = some t ∧ t < n ∧ badB L P B t = true ∧ ∀ u, u < t → badB L P B u = false
  | 0 => .inl ⟨rfl, fun u h => by omega⟩
  | n + 1 => by
    rcases firstTo_of L P B n with ⟨h1, h2⟩ | ⟨t, h1, h2, h3, h4⟩
    · cases hb : badB L P B n with
      | true => exact .inr ⟨n, by simp [firstTo, h1, hb], by omega, hb, h2⟩
      | false =>
        refine .inl ⟨by simp [firstTo, h1, hb], fun u hu => ?_⟩
        by_cases e : u = n
        · subst e; exact hb
        · exact h2 u (by omega)
    · exact .inr ⟨t, by simp [firstTo, h1], by omega, h3, h4⟩
def firT (L : List Tsk) (P B E : Nat) : Nat := (firstTo L P B (E + 1)).getD 0
def firB (L : List Tsk) (P B E : Nat) : Bool := (firstTo L P B (E + 1)).isSome
theorem firstOf (L : List Tsk) (P B E : Nat) : FirstOf L P B E (firT L P B E) (firB L P B E) := by
  unfold firT firB
  rcases firstTo_of L P B (E + 1) with ⟨h1, h2⟩ | ⟨t, h1, h2, h3, h4⟩
  · rw [h1]
    exact .inl ⟨rfl, rfl, fun u hu => h2 u (by omega)⟩
  · rw [h1]
    exact .inr ⟨rfl, by show t ≤ E; omega, h3, h4⟩

/-! ### the whole answers -/
/-- First's answer -/
def firstT (L : List Tsk) (P B : Int) : Nat := if cycOk L P B then firT L P.toNat B.toNat (endZ L P B) else 0
def firstB (L : List Tsk) (P B : Int) : Bool := cycOk L P B && firB L P.toNat B.toNat (endZ L P B)
/-- Fits's answer -/
def fitsB (L : List Tsk) (P B : Int) : Bool := cycOk L P B && !firB L P.toNat B.toNat (endZ L P B)
theorem fits_is {L : List Tsk} {P B : Int} : fitsB L P B = (decide (cycE L P B = 0) && !firstB L P B) := by
  unfold fitsB firstB
  cases h : cycOk L P B with
  | false =>
    have : ¬ cycE L P B = 0 := fun e => by rw [cycE_zero.1 e] at h; cases h
    rw [decide_eq_false this]
    rfl
  | true =>
    rw [decide_eq_true (cycE_zero.2 h)]
    simp
/-- what Fits says, in full -/
theorem fits_true {L : List Tsk} {P B : Int} (hc : cycOk L P B = true) : fitsB L P B = true ↔ Fit_ L P.toNat B.toNat := by
  obtain ⟨h1, _⟩ := cycOk_iff.1 hc
  obtain ⟨h2, h3⟩ := in_iff.1 h1
  obtain ⟨p, b, rfl, rfl, g1, g2, g3⟩ := right_nat h3
  simp only [Int.toNat_natCast]
  have hE := cyc_end h2 g1 g2
  have he := (cyc_fine hc).2.1
  rw [Int.toNat_natCast] at he
  unfold fitsB
  rw [hc, he, Bool.true_and]
  simp only [Int.toNat_natCast]
  have hF := firstOf L p b (cyc p L + far p L)
  constructor
  · intro hb
    rcases hF with ⟨_, _, h⟩ | ⟨h, _⟩
    · have hf : ∀ t : Nat, t ≤ cyc p L + far p L → need L t ≤ sbf p b t := fun t ht => bad_no.1 (h t ht)
      exact fits_all h2 g1 g2 hE (fits_end h2 g1 g2 hE hf) hf
    · rw [h] at hb; cases hb
  · intro hf
    rcases hF with ⟨h, _⟩ | ⟨_, _, h, _⟩
    · rw [h]; rfl
    · rw [bad_iff] at h
      have := hf (firT L p b (cyc p L + far p L))
      omega

end Vd
end Go.Proofs.Ytldiplnccgoeiaa
