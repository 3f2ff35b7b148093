/-
  Merged texts: DemandMath, DemandApart, DemandLegal.
-/
import Derived.Test.YtfhifmpkdnnpmaaGtask
import Derived.Test.YtfhifmpkdnnpmaaGmem
/-
  Layer 7 (demand): plain mathematics: the bound, patterns, their demand.
-/
namespace Go.Proofs.Ytfhifmpkdnnpmaa
namespace Dm
open Mm Tk

/-- how many jobs, released as early as may be, are due by t -/
def njobs (D T t : Int) : Int := if t < D then 0 else (t - D) / T + 1
theorem njobs_nonneg {D T t : Int} (hT : 0 < T) : 0 ≤ njobs D T t := by
  unfold njobs
  split
  · omega
  · have := Int.ediv_nonneg (show 0 ≤ t - D by omega) (show 0 ≤ T by omega)
    omega
theorem njobs_zero {D T t : Int} (h : t < D) : njobs D T t = 0 := by simp [njobs, h]
theorem njobs_pos {D T t : Int} (hT : 0 < T) (h : D ≤ t) : 1 ≤ njobs D T t := by
  unfold njobs
  rw [if_neg (by omega)]
  have := Int.ediv_nonneg (show 0 ≤ t - D by omega) (show 0 ≤ T by omega)
  omega
theorem njobs_eq {D T t : Int} (h : D ≤ t) : njobs D T t = (t - D) / T + 1 := by
  unfold njobs
  rw [if_neg (by omega)]
theorem njobs_step {D T t : Int} (hT : 0 < T) (h : D ≤ t) : njobs D T (t + T) = njobs D T t + 1 := by
  rw [njobs_eq h, njobs_eq (by omega), show t + T - D = (t - D) + T * 1 from by omega, Int.add_mul_ediv_left _ _ (by omega)]
theorem lt_njobs {D T t : Int} (hT : 0 < T) (k : Int) (hk : 0 ≤ k) : D + k * T ≤ t ↔ k < njobs D T t := by
  have hkT : 0 ≤ k * T := Int.mul_nonneg hk (by omega)
  unfold njobs
  split
  · constructor
    · intro h; omega
    · intro h; omega
  · rw [Int.lt_add_one_iff, Int.le_ediv_iff_mul_le hT]
    omega
theorem njobs_mono {D T t u : Int} (hT : 0 < T) (h : t ≤ u) : njobs D T t ≤ njobs D T u := by
  rcases Int.lt_or_le (njobs D T u) (njobs D T t) with h' | h'
  · have h0 := njobs_nonneg (D := D) (t := u) hT
    have := (lt_njobs (D := D) (t := t) hT _ h0).2 h'
    have := (lt_njobs (D := D) (t := u) hT _ h0).1 (by omega)
    omega
  · exact h'
theorem njobs_le {D T t : Int} (hT : 0 < T) (hD : 0 < D) (ht : 0 ≤ t) : njobs D T t ≤ t := by
  have h0 := njobs_nonneg (D := D) (t := t) hT
  rcases Int.lt_or_le t (njobs D T t) with h | h
  · have := (lt_njobs (D := D) (t := t) hT t ht).2 h
    have h1 : t * 1 ≤ t * T := Int.mul_le_mul_of_nonneg_left (by omega) ht
    omega
  · exact h

/-- the bound of one task, of the first k, of all -/
def bndT (x : Tsk) (t : Int) : Int := x.1 * njobs x.2.1 x.2.2.1 t
def bndTo (L : List Tsk) (t : Int) : Nat → Int
  | 0 => 0
  | k + 1 => bndTo L t k + bndT (at_ L k) t
def bnd (L : List Tsk) (t : Int) : Int := bndTo L t L.length
theorem bnd_nil (t : Int) : bnd [] t = 0 := rfl
theorem right_T {t : Tsk} (h : rightT t = true) : 1 ≤ t.1 ∧ t.1 ≤ t.2.1 ∧ t.2.1 ≤ t.2.2.1 ∧ t.2.2.1 ≤ 200 := times_iff.1 (rightB_iff.1 h).1
theorem all_right {L : List Tsk} (h : allB L = true) : ∀ j, j < L.length → rightT (at_ L j) = true := by
  unfold allB at h
  rw [Bool.and_eq_true, List.all_eq_true] at h
  exact fun j hj => h.2 _ (at_mem hj)
theorem all_len {L : List Tsk} (h : allB L = true) : L.length ≤ 8 := by
  unfold allB at h
  rw [Bool.and_eq_true, decide_eq_true_eq] at h
  exact h.1
theorem bndT_nonneg {x : Tsk} (h : rightT x = true) (t : Int) : 0 ≤ bndT x t := by
  have := right_T h
  exact Int.mul_nonneg (by omega) (njobs_nonneg (by omega))
theorem bndT_mono {x : Tsk} (h : rightT x = true) {t u : Int} (htu : t ≤ u) : bndT x t ≤ bndT x u := by
  have := right_T h
  exact Int.mul_le_mul_of_nonneg_left (njobs_mono (by omega) htu) (by omega)
theorem bndTo_nonneg {L : List Tsk} (h : ∀ j, j < L.length → rightT (at_ L j) = true) (t : Int) : ∀ {k : Nat}, k ≤ L.length → 0 ≤ bndTo L t k
  | 0, _ => Int.le_refl _
  | k + 1, hk => by
    have := bndTo_nonneg h t (k := k) (by omega)
    have := bndT_nonneg (h k (by omega)) t
    rw [bndTo]; omega
theorem bndTo_le {L : List Tsk} (h : ∀ j, j < L.length → rightT (at_ L j) = true) (t : Int) {i k : Nat} (hik : i ≤ k) (hk : k ≤ L.length) : bndTo L t i ≤ bndTo L t k := by
  induction k with
  | zero => have : i = 0 := by omega
            subst this; exact Int.le_refl _
  | succ k ih =>
    by_cases e : i = k + 1
    · subst e; exact Int.le_refl _
    · have := ih (by omega) (by omega)
      have := bndT_nonneg (h k (by omega)) t
      rw [bndTo]; omega
theorem bndTo_mono {L : List Tsk} (h : ∀ j, j < L.length → rightT (at_ L j) = true) {t u : Int} (htu : t ≤ u) : ∀ {k : Nat}, k ≤ L.length → bndTo L t k ≤ bndTo L u k
  | 0, _ => Int.le_refl _
  | k + 1, hk => by
    have := bndTo_mono h htu (k := k) (by omega)
    have := bndT_mono (h k (by omega)) htu
    rw [bndTo, bndTo]; omega
/-- P7.4 -/
theorem bnd_mono {L : List Tsk} (h : allB L = true) {t u : Int} (htu : t ≤ u) : bnd L t ≤ bnd L u := bndTo_mono (all_right h) htu (Nat.le_refl _)
theorem bnd_nonneg {L : List Tsk} (h : allB L = true) (t : Int) : 0 ≤ bnd L t := bndTo_nonneg (all_right h) t (Nat.le_refl _)
theorem bndTo_take (L : List Tsk) (t : Int) (n : Nat) : ∀ {k : Nat}, k ≤ n → bndTo (L.take n) t k = bndTo L t k
  | 0, _ => rfl
  | k + 1, hk => by rw [bndTo, bndTo, bndTo_take L t n (by omega), at_take (by omega)]
theorem bndTo_drop (L : List Tsk) (t : Int) (n : Nat) : ∀ k : Nat, bndTo L t n + bndTo (L.drop n) t k = bndTo L t (n + k)
  | 0 => by rw [bndTo, Nat.add_zero]; omega
  | k + 1 => by
    have := bndTo_drop L t n k
    rw [show n + (k + 1) = (n + k) + 1 from by omega, bndTo, bndTo, at_drop]
    omega
theorem bnd_split (L : List Tsk) (t : Int) {n : Nat} (hn : n ≤ L.length) : bnd (L.take n) t + bnd (L.drop n) t = bnd L t := by
  unfold bnd
  rw [List.length_take, List.length_drop, Nat.min_eq_left hn, bndTo_take L t n (Nat.le_refl _), bndTo_drop, show n + (L.length - n) = L.length from by omega]
theorem all_take {L : List Tsk} (h : allB L = true) (n : Nat) : allB (L.take n) = true := by
  unfold allB at *
  rw [Bool.and_eq_true, decide_eq_true_eq, List.all_eq_true] at *
  refine ⟨?_, fun x hx => h.2 x (List.mem_of_mem_take hx)⟩
  have := h.1
  rw [List.length_take]; omega
theorem all_drop {L : List Tsk} (h : allB L = true) (n : Nat) : allB (L.drop n) = true := by
  unfold allB at *
  rw [Bool.and_eq_true, decide_eq_true_eq, List.all_eq_true] at *
  refine ⟨?_, fun x hx => h.2 x (List.mem_of_mem_drop hx)⟩
  have := h.1
  rw [List.length_drop]; omega
/-- a bound for few ticks is no large number -/
theorem bndT_le {x : Tsk} (h : rightT x = true) {t m : Int} (ht : 0 ≤ t) (hm : t ≤ m) : bndT x t ≤ 200 * m := by
  have hx := right_T h
  have h1 := njobs_le (D := x.2.1) (T := x.2.2.1) (t := t) (by omega) (by omega) ht
  have h0 := njobs_nonneg (D := x.2.1) (T := x.2.2.1) (t := t) (by omega)
  unfold bndT
  have h2 : x.1 * njobs x.2.1 x.2.2.1 t ≤ 200 * njobs x.2.1 x.2.2.1 t := Int.mul_le_mul_of_nonneg_right (by omega) h0
  omega
theorem bndTo_small {L : List Tsk} (h : ∀ j, j < L.length → rightT (at_ L j) = true) {t m : Int} (ht : 0 ≤ t) (hm : t ≤ m) : ∀ {k : Nat}, k ≤ L.length → bndTo L t k ≤ k * (200 * m)
  | 0, _ => by simp [bndTo]
  | k + 1, hk => by
    have h1 := bndTo_small h ht hm (k := k) (by omega)
    have h2 := bndT_le (h k (by omega)) ht hm
    rw [bndTo, show ((k + 1 : Nat) : Int) = (k : Int) + 1 from by omega, Int.add_mul, Int.one_mul]
    omega
theorem bnd_small {L : List Tsk} (h : allB L = true) {t m : Int} (ht : 0 ≤ t) (hm : t ≤ m) : bnd L t ≤ 1600 * m := by
  have h1 := bndTo_small (all_right h) ht hm (Nat.le_refl _)
  have h2 := all_len h
  have h3 : (L.length : Int) * (200 * m) ≤ 8 * (200 * m) := Int.mul_le_mul_of_nonneg_right (by omega) (by omega)
  unfold bnd
  omega

/-- the releases of one task that count -/
def inB (a b D x : Int) : Bool := decide (a ≤ x ∧ x + D ≤ b)
def cntIn (row : List Int) (a b D : Int) : Nat := (row.filter (inB a b D)).length
/-- each release T behind the one ahead -/
def Gaps (T : Int) (row : List Int) : Prop := row.Pairwise fun x y => x + T ≤ y
theorem gaps_len {T lo hi : Int} (hT : 0 < T) : ∀ {l : List Int}, Gaps T l → (∀ x ∈ l, lo ≤ x ∧ x ≤ hi) → ∀ x r, l = x :: r → ((l.length : Int) - 1) * T ≤ hi - x
  | [], _, _ => fun _ _ h => by cases h
  | [y], _, h => fun x r e => by
    injection e with e1 e2
    subst e1
    have := (h y (by simp)).2
    simp; omega
  | y :: z :: l, hg, h => fun x r e => by
    injection e with e1 e2
    subst e1
    subst e2
    have h1 := gaps_len hT (List.pairwise_cons.1 hg).2 (fun a ha => h a (List.mem_cons_of_mem _ ha)) z l rfl
    have h2 := (List.pairwise_cons.1 hg).1 z (by simp)
    simp only [List.length_cons] at h1 ⊢
    rw [show (((l.length + 1 + 1 : Nat) : Int) - 1) * T = (((l.length + 1 : Nat) : Int) - 1) * T + T from by
      rw [show (((l.length + 1 + 1 : Nat) : Int) - 1) = (((l.length + 1 : Nat) : Int) - 1) + 1 from by omega, Int.add_mul, Int.one_mul]]
    omega
/-- P7.3: no row of releases has more jobs in b - a ticks than njobs tells -/
theorem cntIn_le {T D a b : Int} (hT : 0 < T) {row : List Int} (hg : Gaps T row) : (cntIn row a b D : Int) ≤ njobs D T (b - a) := by
  have hf : Gaps T (row.filter (inB a b D)) := hg.filter _
  have hin : ∀ x ∈ row.filter (inB a b D), a ≤ x ∧ x ≤ b - D := fun x hx => by
    have := of_decide_eq_true (List.mem_filter.1 hx).2
    omega
  unfold cntIn
  generalize hl : row.filter (inB a b D) = l at *
  cases l with
  | nil => exact njobs_nonneg hT
  | cons x r =>
    have h1 := gaps_len hT hf hin x r rfl
    have h2 := (hin x (by simp)).1
    have h3 : (((x :: r).length : Int) - 1) < njobs D T (b - a) := (lt_njobs hT _ (by simp)).1 (by omega)
    omega

/-- which rows of releases are legal -/
def rowB (T : Int) (row : List Int) : Bool := decide (row.length ≤ 1000) && (row.all fun x => decide (0 ≤ x ∧ x ≤ 4611686018427387903)) && (List.range row.length).all fun k => decide (k = 0) || decide (at_ row (k - 1) + T ≤ at_ row k)
theorem rowB_iff {T : Int} {row : List Int} : rowB T row = true ↔ row.length ≤ 1000 ∧ (∀ k, k < row.length → 0 ≤ at_ row k ∧ at_ row k ≤ 4611686018427387903) ∧ ∀ k, 0 < k → k < row.length → at_ row (k - 1) + T ≤ at_ row k := by
  unfold rowB
  simp only [Bool.and_eq_true, decide_eq_true_eq, List.all_eq_true, List.mem_range, Bool.or_eq_true, and_assoc]
  constructor
  · rintro ⟨h1, h2, h3⟩
    refine ⟨h1, fun k hk => h2 _ (at_mem hk), fun k h0 hk => ?_⟩
    rcases h3 k hk with h | h
    · omega
    · exact h
  · rintro ⟨h1, h2, h3⟩
    refine ⟨h1, fun x hx => ?_, fun k hk => ?_⟩
    · obtain ⟨j, hj, rfl⟩ := mem_at hx
      exact h2 j hj
    · by_cases h : k = 0
      · exact .inl h
      · exact .inr (h3 k (by omega) hk)
theorem row_gaps {T : Int} (hT : 0 < T) {row : List Int} (h : rowB T row = true) : Gaps T row := by
  have h3 := (rowB_iff.1 h).2.2
  have step : ∀ d i, i + d + 1 < row.length → at_ row i + T ≤ at_ row (i + d + 1) := by
    intro d
    induction d with
    | zero => intro i hi; exact h3 (i + 1) (by omega) hi
    | succ d ih =>
      intro i hi
      have h1 := ih i (by omega)
      have h2 := h3 (i + d + 1 + 1) (by omega) hi
      rw [show i + d + 1 + 1 - 1 = i + d + 1 from by omega] at h2
      rw [show i + (d + 1) + 1 = i + d + 1 + 1 from by omega]
      omega
  unfold Gaps
  rw [List.pairwise_iff_getElem]
  intro i j hi hj hij
  have := step (j - i - 1) i (by omega)
  rw [show i + (j - i - 1) + 1 = j from by omega] at this
  rwa [at_get hi, at_get hj] at this
theorem row_empty (T : Int) : rowB T [] = true := by simp [rowB]

/-- which patterns are legal -/
def legalB (L : List Tsk) (R : List (List Int)) : Bool := allB L && decide (R.length = L.length) && (List.range R.length).all fun i => rowB (at_ L i).2.2.1 (at_ R i)
theorem legal_iff {L : List Tsk} {R : List (List Int)} : legalB L R = true ↔ allB L = true ∧ R.length = L.length ∧ ∀ i, i < R.length → rowB (at_ L i).2.2.1 (at_ R i) = true := by
  unfold legalB
  simp only [Bool.and_eq_true, decide_eq_true_eq, List.all_eq_true, List.mem_range, and_assoc]
theorem legal_false {L : List Tsk} {R : List (List Int)} {i : Nat} (hi : i < R.length) (h : rowB (at_ L i).2.2.1 (at_ R i) = false) : legalB L R = false := by
  rw [← Bool.not_eq_true, legal_iff]
  rintro ⟨_, _, h3⟩
  rw [h3 i hi] at h
  cases h

/-- a pattern's demand, of the first k tasks -/
def demTo (L : List Tsk) (R : List (List Int)) (a b : Int) : Nat → Int
  | 0 => 0
  | k + 1 => demTo L R a b k + (at_ L k).1 * cntIn (at_ R k) a b (at_ L k).2.1
def dem (L : List Tsk) (R : List (List Int)) (a b : Int) : Int := demTo L R a b R.length
theorem demTo_nonneg {L : List Tsk} {R : List (List Int)} (h : ∀ j, j < L.length → rightT (at_ L j) = true) (a b : Int) : ∀ {k : Nat}, k ≤ L.length → 0 ≤ demTo L R a b k
  | 0, _ => Int.le_refl _
  | k + 1, hk => by
    have h1 := demTo_nonneg (R := R) h a b (k := k) (by omega)
    have h2 := right_T (h k (by omega))
    have h3 : 0 ≤ (at_ L k).1 * (cntIn (at_ R k) a b (at_ L k).2.1 : Int) := Int.mul_nonneg (by omega) (by omega)
    rw [demTo]; omega
theorem cntIn_len (row : List Int) (a b D : Int) : cntIn row a b D ≤ row.length := List.length_filter_le _ _
theorem demTo_le {L : List Tsk} {R : List (List Int)} (h : legalB L R = true) (a b : Int) : ∀ {k : Nat}, k ≤ L.length → demTo L R a b k ≤ k * 200000
  | 0, _ => by simp [demTo]
  | k + 1, hk => by
    obtain ⟨h1, h2, h3⟩ := legal_iff.1 h
    have ih := demTo_le h a b (k := k) (by omega)
    have h4 := right_T (all_right h1 k (by omega))
    have h5 := (rowB_iff.1 (h3 k (by omega))).1
    have h6 := cntIn_len (at_ R k) a b (at_ L k).2.1
    have h7 : (at_ L k).1 * (cntIn (at_ R k) a b (at_ L k).2.1 : Int) ≤ 200 * (cntIn (at_ R k) a b (at_ L k).2.1 : Int) := Int.mul_le_mul_of_nonneg_right (by omega) (by omega)
    rw [demTo]; omega
/-- P7.3 -/
theorem demTo_most {L : List Tsk} {R : List (List Int)} (h : legalB L R = true) (a b : Int) : ∀ {k : Nat}, k ≤ L.length → demTo L R a b k ≤ bndTo L (b - a) k
  | 0, _ => Int.le_refl _
  | k + 1, hk => by
    obtain ⟨h1, h2, h3⟩ := legal_iff.1 h
    have ih := demTo_most h a b (k := k) (by omega)
    have h4 := right_T (all_right h1 k (by omega))
    have h5 := cntIn_le (D := (at_ L k).2.1) (a := a) (b := b) (by omega) (row_gaps (by omega) (h3 k (by omega)))
    have h6 : (at_ L k).1 * (cntIn (at_ R k) a b (at_ L k).2.1 : Int) ≤ bndT (at_ L k) (b - a) := Int.mul_le_mul_of_nonneg_left h5 (by omega)
    rw [demTo, bndTo]; omega
theorem dem_most {L : List Tsk} {R : List (List Int)} (h : legalB L R = true) (a b : Int) : dem L R a b ≤ bnd L (b - a) := by
  have h2 := (legal_iff.1 h).2.1
  unfold dem bnd
  rw [h2]
  exact demTo_most h a b (Nat.le_refl _)

/-- the row of releases at 0, T, 2 T .., of n releases -/
def early (T : Int) (n : Nat) : List Int := (List.range n).map fun (k : Nat) => (k : Int) * T
theorem early_len (T : Int) (n : Nat) : (early T n).length = n := by simp [early]
theorem early_at {T : Int} {n k : Nat} (h : k < n) : at_ (early T n) k = (k : Int) * T := by
  rw [at_get (by rw [early_len]; exact h)]
  simp [early]
theorem early_succ (T : Int) (n : Nat) : early T (n + 1) = early T n ++ [(n : Int) * T] := by simp [early, List.range_succ]
theorem early_row {T : Int} (hT : 0 < T) {n : Nat} (hn : n ≤ 1000) (hb : (n : Int) * T ≤ 4611686018427387903) : rowB T (early T n) = true := by
  rw [rowB_iff, early_len]
  refine ⟨hn, fun k hk => ?_, fun k h0 hk => ?_⟩
  · rw [early_at hk]
    have h1 : (k : Int) * T ≤ (n : Int) * T := Int.mul_le_mul_of_nonneg_right (by omega) (by omega)
    have h2 : 0 ≤ (k : Int) * T := Int.mul_nonneg (by omega) (by omega)
    omega
  · rw [early_at hk, early_at (by omega), show ((k - 1 : Nat) : Int) = (k : Int) - 1 from by omega, Int.sub_mul]
    omega
theorem early_cnt {T D t : Int} (hT : 0 < T) : ∀ {n : Nat}, (cntIn (early T n) 0 t D : Int) = if (n : Int) ≤ njobs D T t then (n : Int) else njobs D T t
  | 0 => by
    have := njobs_nonneg (D := D) (t := t) hT
    rw [if_pos (by omega)]
    rfl
  | n + 1 => by
    have ih := early_cnt (D := D) (t := t) hT (n := n)
    have h0 : 0 ≤ (n : Int) * T := Int.mul_nonneg (by omega) (by omega)
    have h1 := lt_njobs (D := D) (t := t) hT (n : Int) (by omega)
    unfold cntIn at *
    rw [early_succ, List.filter_append, List.length_append]
    by_cases hi : D + (n : Int) * T ≤ t
    · have hb : inB 0 t D ((n : Int) * T) = true := by simp [inB]; omega
      have := h1.1 hi
      rw [if_pos (by omega)] at ih
      rw [if_pos (by omega)]
      simp [hb]
      omega
    · have hb : inB 0 t D ((n : Int) * T) = false := by simp [inB]; omega
      have h2 : ¬ (n : Int) < njobs D T t := fun e => hi (h1.2 e)
      rw [if_neg (by omega)]
      simp [hb]
      split at ih <;> omega

theorem task_times {L : List Tsk} (h : allB L = true) {k : Nat} (hk : k < L.length) : 1 ≤ (at_ L k).1 ∧ (at_ L k).1 ≤ (at_ L k).2.1 ∧ (at_ L k).2.1 ≤ (at_ L k).2.2.1 ∧ (at_ L k).2.2.1 ≤ 200 := right_T (all_right h k hk)

end Dm
end Go.Proofs.Ytfhifmpkdnnpmaa

/-
  Layer 7 (demand): the call apart.
-/
namespace Go.Proofs.Ytfhifmpkdnnpmaa
open Go.RowKit Mm Tk
namespace Dm

/-- the releases that are known to be apart -/
def RowTo (T : Int) (row : List Int) (k : Nat) : Prop := (∀ j, j < k → 0 ≤ at_ row j ∧ at_ row j ≤ 4611686018427387903) ∧ ∀ j, 0 < j → j < k → at_ row (j - 1) + T ≤ at_ row j
theorem RowTo.zero (T : Int) (row : List Int) : RowTo T row 0 := ⟨fun j h => by omega, fun j _ h => by omega⟩
theorem RowTo.step {T : Int} {row : List Int} {k : Nat} (h : RowTo T row k) (ha : 0 ≤ at_ row k ∧ at_ row k ≤ 4611686018427387903) (hg : 0 < k → at_ row (k - 1) + T ≤ at_ row k) : RowTo T row (k + 1) := ⟨fun j hj => by
  by_cases e : j = k
  · subst e; exact ha
  · exact h.1 j (by omega), fun j h0 hj => by
  by_cases e : j = k
  · subst e; exact hg h0
  · exact h.2 j h0 (by omega)⟩
theorem RowTo.done {T : Int} {row : List Int} (h : RowTo T row row.length) (hl : row.length ≤ 1000) : rowB T row = true := rowB_iff.2 ⟨hl, h.1, h.2⟩
theorem row_long {T : Int} {row : List Int} (h : 1000 < row.length) : rowB T row = false := by
  rw [← Bool.not_eq_true, rowB_iff]
  rintro ⟨h1, _⟩
  omega
theorem row_out {T : Int} {row : List Int} {k : Nat} (hk : k < row.length) (h : at_ row k < 0 ∨ 4611686018427387903 < at_ row k) : rowB T row = false := by
  rw [← Bool.not_eq_true, rowB_iff]
  rintro ⟨_, h2, _⟩
  have := h2 k hk
  omega
theorem row_near {T : Int} {row : List Int} {k : Nat} (h0 : 0 < k) (hk : k < row.length) (h : at_ row k < at_ row (k - 1) + T) : rowB T row = false := by
  rw [← Bool.not_eq_true, rowB_iff]
  rintro ⟨_, _, h3⟩
  have := h3 k h0 hk
  omega

set_option maxHeartbeats 1600000 in
theorem apart_any (A : Option Addr) (c : Nat) (row : List Int) (T : Int) (w : World) (hT : 1 ≤ T ∧ T ≤ 200) (hbig : row.length ≤ 1000000) (hr : Rd w A c row) :
    Calls Try.prog 27 #[.slice A row.length c, .int .i64 T] w fun e w' => e = .returned (.bool (rowB T row)) ∧ Below w.heap.size w w' := by
  have HR := Lib.hid hr
  clear hr
  by_cases h1000 : 1000 < row.length
  · have HF := Lib.hid (row_long (T := T) h1000)
    have i1 : (1000 : Int) < (row.length : Int) := by omega
    go_enter Try.func27, Try.ntmps27
    go_wp2_with fail
    go_ret
    exact ⟨ret_bool HF.out.symm, Below.refl _ _⟩
  · have i1 : ¬ (1000 : Int) < (row.length : Int) := by omega
    go_enter Try.func27, Try.ntmps27
    go_wp2_with fail
    go_loop [12] (fun i => ∃ k : Nat, i = .int .i64 k ∧ k ≤ row.length ∧ Hid (RowTo T row k)) (fun i => row.length - (intOf i).toNat)
    case atStart => exact ⟨0, rfl, Nat.zero_le _, RowTo.zero T row⟩
    case round =>
      obtain ⟨k, rfl, hk, HH⟩ := hrel
      by_cases hlt : k < row.length
      · obtain ⟨b, off, rfl, hc⟩ := HR.out.int (by omega)
        obtain ⟨x1, f1⟩ := hc k hlt
        by_cases hin : at_ row k < 0 ∨ 4611686018427387903 < at_ row k
        · have HF := Lib.hid (row_out (T := T) hlt hin)
          clear hc
          generalize at_ row k = x at *
          rcases hin with hin | hin
          all_goals
            go_wp2_with fail
            go_ret
            exact ⟨ret_bool HF.out.symm, Below.refl _ _⟩
        · have hin1 : ¬ at_ row k < 0 := by omega
          have hin2 : ¬ 4611686018427387903 < at_ row k := by omega
          by_cases h0 : k = 0
          · subst h0
            rw [Nat.add_zero] at x1
            have HS := Lib.hid (HH.out.step (by omega) (fun h => by omega))
            clear hc hin
            generalize at_ row 0 = x at *
            go_wp2_with fail
            go_round
            case rel => exact ⟨1, by go_num, hlt, HS⟩
            case measure => simp [intOf]; omega
          · obtain ⟨m, rfl⟩ : ∃ m, k = m + 1 := ⟨k - 1, by omega⟩
            obtain ⟨y1, f2⟩ := hc m (by omega)
            have hy := HH.out.1 m (by omega)
            have j1 : (0 : Int) < (m : Int) + 1 := by omega
            have j2 : (0 : Int) < ((m + 1 : Nat) : Int) := by omega
            by_cases hg : at_ row (m + 1) - at_ row m < T
            · have HF := Lib.hid (row_near (T := T) (k := m + 1) (by omega) hlt (by rw [Nat.add_sub_cancel]; omega))
              clear hc hin
              generalize at_ row (m + 1) = x at *
              generalize at_ row m = y at *
              go_wp2_with fail
              go_ret
              exact ⟨ret_bool HF.out.symm, Below.refl _ _⟩
            · have HS := Lib.hid (HH.out.step (by omega) (fun _ => by rw [Nat.add_sub_cancel]; omega))
              clear hc hin
              generalize at_ row (m + 1) = x at *
              generalize at_ row m = y at *
              go_wp2_with fail
              go_round
              case rel => exact ⟨m + 1 + 1, by go_num, hlt, HS⟩
              case measure => simp [intOf]; omega
      · have hkl : k = row.length := by omega
        subst hkl
        have HF := Lib.hid (HH.out.done (by omega))
        go_wp2_with fail
        go_ret
        exact ⟨ret_bool HF.out.symm, Below.refl _ _⟩

end Dm
end Go.Proofs.Ytfhifmpkdnnpmaa

/-
  Layer 7 (demand): Legal.
-/
namespace Go.Proofs.Ytfhifmpkdnnpmaa
open Go.RowKit Mm Tk
namespace Dm

theorem legal_none {L : List Tsk} {R : List (List Int)} (h : allB L = false) : legalB L R = false := by simp [legalB, h]
theorem legal_size {L : List Tsk} {R : List (List Int)} (h : ¬ R.length = L.length) : legalB L R = false := by simp [legalB, h]
theorem legal_of {L : List Tsk} {R : List (List Int)} (h1 : allB L = true) (h2 : R.length = L.length) (h3 : ∀ i, i < R.length → rowB (at_ L i).2.2.1 (at_ R i) = true) : legalB L R = true := legal_iff.2 ⟨h1, h2, h3⟩

set_option maxHeartbeats 1600000 in
theorem legal_any (A : Option Addr) (c : Nat) (L : List Tsk) (A2 : Option Addr) (c2 : Nat) (R : List (List Int)) (w : World) (H : TL w A c L) (H2 : LL w A2 c2 R) :
    Calls Try.prog 18 #[.slice A L.length c, .slice A2 R.length c2] w fun e w' => e = .returned (.bool (legalB L R)) ∧ Below w.heap.size w w' := by
  have hb1 := H.1
  have hb2 := H2.1
  have HT := Lib.hid H
  have HL := Lib.hid H2
  clear H H2
  cases ha : allB L with
  | false =>
    have HF := Lib.hid (legal_none (R := R) ha)
    go_enter Try.func18, Try.ntmps18
    go_wp2_with fail
    refine (all_any A c L _ hb1 HT.out.2.1 HT.out.2.2).mono ?_
    rintro e w1 ⟨rfl, b1⟩
    rw [ha]
    go_wp2_with fail
    go_ret
    exact ⟨ret_bool HF.out.symm, b1⟩
  | true =>
    by_cases hn : R.length = L.length
    · have HA := Lib.hid ha
      have hn1 : ((R.length : Int) == (L.length : Int)) = true := by simp [hn]
      have hn2 : ((R.length : Int) != (L.length : Int)) = false := by simp [hn]
      go_enter Try.func18, Try.ntmps18
      go_wp2_with fail
      refine (all_any A c L _ hb1 HT.out.2.1 HT.out.2.2).mono ?_
      rintro e w1 ⟨rfl, b1⟩
      rw [ha]
      replace HT := Lib.hid (HT.out.below b1)
      replace HL := Lib.hid (HL.out.below b1)
      have B1 := Lib.hid b1
      clear b1
      clear ha
      go_wp2_with fail
      go_loopw [19] (fun i wr => ∃ k : Nat, i = .int .i64 k ∧ k ≤ L.length ∧ Hid (∀ j, j < k → rowB (at_ L j).2.2.1 (at_ R j) = true) ∧ Hid (Below w1.heap.size w1 wr)) (fun i _ => L.length - (intOf i).toNat)
      case atStart => exact ⟨0, rfl, Nat.zero_le _, (fun j h => by omega), Below.refl _ _⟩
      case round =>
        obtain ⟨k, rfl, hk, HH, HB⟩ := hrel
        by_cases hlt : k < L.length
        · obtain ⟨b, off, rfl, hc⟩ := task_at (HT.out.below HB.out).2.2 (by omega)
          obtain ⟨B, d, x1, x2, x3, x4, _, _, _, _⟩ := hc k hlt
          obtain ⟨bb, off2, rfl, hc2⟩ := list_at (HL.out.below HB.out).2.2 (by omega)
          obtain ⟨B2, d2, y1, r2⟩ := hc2 k (by omega)
          have hT := task_times HA.out hlt
          have hrl := (HL.out.2.1 k (by omega))
          have i1 : (0 : Int) ≤ (k : Int) := by omega
          have i2 : (k : Int) < (R.length : Int) := by omega
          have i3 : (k : Int) < (L.length : Int) := by omega
          have HF : Hid (rowB (at_ L k).2.2.1 (at_ R k) = false → legalB L R = false) := fun h => legal_false (by omega) h
          have HN : Hid (rowB (at_ L k).2.2.1 (at_ R k) = true → ∀ j, j < k + 1 → rowB (at_ L j).2.2.1 (at_ R j) = true) := fun h j hj => by
            by_cases e : j = k
            · subst e; exact h
            · exact HH.out j (by omega)
          clear hc hc2
          generalize at_ L k = x at *
          generalize at_ R k = row at *
          obtain ⟨z1, z2, z3, z4⟩ := box_new wr x.1 x.2.1 x.2.2.1 B x.2.2.2.length d
          have bw1 := below_one wr (Obj.cells #[.int .i64 x.1, .int .i64 x.2.1, .int .i64 x.2.2.1, .slice B x.2.2.2.length d] 47)
          have R2 := Lib.hid (r2.rd.below bw1)
          have B2 := Lib.hid (below_step HB.out bw1)
          have y2 := cell_below bw1 y1
          clear r2
          go_wp2_with fail
          clear x1 x2 x3 x4 y1 bw1
          generalize wr.alloc (Obj.cells #[.int .i64 x.1, .int .i64 x.2.1, .int .i64 x.2.2.1, .slice B x.2.2.2.length d] 47) = w2 at *
          replace y2 := cell_bw y2
          replace z1 := cell_bw z1
          replace z2 := cell_bw z2
          replace z3 := cell_bw z3
          replace z4 := cell_bw z4
          refine wp_region_bw (by kernel_rfl) (by kernel_rfl) ?_
          repeat
            (with_reducible refine wpQuiet_step (fun K hK => ?_)
             go_simp
             first
               | (with_reducible refine hK _ ?_
                  clear hK K)
               | (rw [if_neg]
                  rotate_left
                  focus (intro h; cases h; done)
                  with_reducible refine hK _ ?_
                  clear hK K)
               | (apply Exists.intro
                  refine ⟨fun _ => ?_, hK _ ?_⟩
                  (exact Calls.bw (apart_any _ _ row x.2.2.1 _ (by omega) hrl (R2.out.bw _)))
                  clear hK K))
          with_reducible refine wpQuiet_nil ?_
          intro wb hw'
          obtain ⟨⟨wb', lb⟩, hw''⟩ := hw'
          subst hw''
          have B3 := Lib.hid (below_step B2.out lb)
          clear lb
          cases hb : rowB x.2.2.1 row with
          | true =>
            have HC := Lib.hid (HN.out hb)
            go_wp2_with fail
            go_roundw
            case rel => exact ⟨k + 1, by go_num, hlt, HC, B3⟩
            case measure => simp [intOf]; omega
          | false =>
            have HC := Lib.hid (HF.out hb)
            go_wp2_with fail
            go_ret
            exact ⟨ret_bool HC.out.symm, below_step B1.out B3.out⟩
        · have hkl : k = L.length := by omega
          subst hkl
          have HC := Lib.hid (legal_of HA.out hn (fun i hi => HH.out i (by omega)))
          go_wp2_with fail
          go_ret
          exact ⟨ret_bool HC.out.symm, below_step B1.out HB.out⟩
    · have HF := Lib.hid (legal_size (L := L) hn)
      have hn1 : ((R.length : Int) == (L.length : Int)) = false := by simp; omega
      have hn2 : ((R.length : Int) != (L.length : Int)) = true := by simp; omega
      go_enter Try.func18, Try.ntmps18
      go_wp2_with fail
      refine (all_any A c L _ hb1 HT.out.2.1 HT.out.2.2).mono ?_
      rintro e w1 ⟨rfl, b1⟩
      rw [ha]
      go_wp2_with fail
      go_ret
      exact ⟨ret_bool HF.out.symm, b1⟩

end Dm
end Go.Proofs.Ytfhifmpkdnnpmaa

