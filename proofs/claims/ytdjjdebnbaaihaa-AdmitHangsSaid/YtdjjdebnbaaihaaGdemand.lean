/-
  Merged texts: DemandMath, DemandJobs, DemandBound, DemandBnd.
-/
import Derived.Test.YtdjjdebnbaaihaaGtask
import Derived.Test.YtdjjdebnbaaihaaGmem
import Derived.WalkSmall
import Derived.Test.YtdjjdebnbaaihaaGarith
/-
  Layer 7 (demand): plain mathematics: the bound, patterns, their demand.
-/
namespace Go.Proofs.Ytdjjdebnbaaihaa
namespace Dm
open Mm Tk

/-- how many jobs, released as early as may be, are due by t -/
def njobs (D T t : Int) : Int := if t < D then 0 else (t - D) / T + 1
theorem njobs_nonneg {D T t : Int} (hT : 0 < T) : 0 ≤ njobs D T t := by
  unfold njobs
  split
  · omega
  · have := Int.ediv_nonneg (show 0 ≤ t - D by omega) (show 0 ≤ T by omega)
    omega
theorem njobs_zero {D T t : Int} (h : t < D) : njobs D T t = 0 := by simp [njobs, h]
theorem njobs_pos {D T t : Int} (hT : 0 < T) (h : D ≤ t) : 1 ≤ njobs D T t := by
  unfold njobs
  rw [if_neg (by omega)]
  have := Int.ediv_nonneg (show 0 ≤ t - D by omega) (show 0 ≤ T by omega)
  omega
theorem njobs_eq {D T t : Int} (h : D ≤ t) : njobs D T t = (t - D) / T + 1 := by
  unfold njobs
  rw [if_neg (by omega)]
theorem njobs_step {D T t : Int} (hT : 0 < T) (h : D ≤ t) : njobs D T (t + T) = njobs D T t + 1 := by
  rw [njobs_eq h, njobs_eq (by omega), show t + T - D = (t - D) + T * 1 from by omega, Int.add_mul_ediv_left _ _ (by omega)]
theorem lt_njobs {D T t : Int} (hT : 0 < T) (k : Int) (hk : 0 ≤ k) : D + k * T ≤ t ↔ k < njobs D T t := by
  have hkT : 0 ≤ k * T := Int.mul_nonneg hk (by omega)
  unfold njobs
  split
  · constructor
    · intro h; omega
    · intro h; omega
  · rw [Int.lt_add_one_iff, Int.le_ediv_iff_mul_le hT]
    omega
theorem njobs_mono {D T t u : Int} (hT : 0 < T) (h : t ≤ u) : njobs D T t ≤ njobs D T u := by
  rcases Int.lt_or_le (njobs D T u) (njobs D T t) with h' | h'
  · have h0 := njobs_nonneg (D := D) (t := u) hT
    have := (lt_njobs (D := D) (t := t) hT _ h0).2 h'
    have := (lt_njobs (D := D) (t := u) hT _ h0).1 (by omega)
    omega
  · exact h'
theorem njobs_le {D T t : Int} (hT : 0 < T) (hD : 0 < D) (ht : 0 ≤ t) : njobs D T t ≤ t := by
  have h0 := njobs_nonneg (D := D) (t := t) hT
  rcases Int.lt_or_le t (njobs D T t) with h | h
  · have := (lt_njobs (D := D) (t := t) hT t ht).2 h
    have h1 : t * 1 ≤ t * T := Int.mul_le_mul_of_nonneg_left (by omega) ht
    omega
  · exact h

/-- the bound of one task, of the first k, of all -/
def bndT (x : Tsk) (t : Int) : Int := x.1 * njobs x.2.1 x.2.2.1 t
def bndTo (L : List Tsk) (t : Int) : Nat → Int
  | 0 => 0
  | k + 1 => bndTo L t k + bndT (at_ L k) t
def bnd (L : List Tsk) (t : Int) : Int := bndTo L t L.length
theorem bnd_nil (t : Int) : bnd [] t = 0 := rfl
theorem right_T {t : Tsk} (h : rightT t = true) : 1 ≤ t.1 ∧ t.1 ≤ t.2.1 ∧ t.2.1 ≤ t.2.2.1 ∧ t.2.2.1 ≤ 200 := times_iff.1 (rightB_iff.1 h).1
theorem all_right {L : List Tsk} (h : allB L = true) : ∀ j, j < L.length → rightT (at_ L j) = true := by
  unfold allB at h
  rw [Bool.and_eq_true, List.all_eq_true] at h
  exact fun j hj => h.2 _ (at_mem hj)
theorem all_len {L : List Tsk} (h : allB L = true) : L.length ≤ 8 := by
  unfold allB at h
  rw [Bool.and_eq_true, decide_eq_true_eq] at h
  exact h.1
theorem bndT_nonneg {x : Tsk} (h : rightT x = true) (t : Int) : 0 ≤ bndT x t := by
  have := right_T h
  exact Int.mul_nonneg (by omega) (njobs_nonneg (by omega))
theorem bndT_mono {x : Tsk} (h : rightT x = true) {t u : Int} (htu : t ≤ u) : bndT x t ≤ bndT x u := by
  have := right_T h
  exact Int.mul_le_mul_of_nonneg_left (njobs_mono (by omega) htu) (by omega)
theorem bndTo_nonneg {L : List Tsk} (h : ∀ j, j < L.length → rightT (at_ L j) = true) (t : Int) : ∀ {k : Nat}, k ≤ L.length → 0 ≤ bndTo L t k
  | 0, _ => Int.le_refl _
  | k + 1, hk => by
    have := bndTo_nonneg h t (k := k) (by omega)
    have := bndT_nonneg (h k (by omega)) t
    rw [bndTo]; omega
theorem bndTo_le {L : List Tsk} (h : ∀ j, j < L.length → rightT (at_ L j) = true) (t : Int) {i k : Nat} (hik : i ≤ k) (hk : k ≤ L.length) : bndTo L t i ≤ bndTo L t k := by
  induction k with
  | zero => have : i = 0 := by omega
            subst this; exact Int.le_refl _
  | succ k ih =>
    by_cases e : i = k + 1
    · subst e; exact Int.le_refl _
    · have := ih (by omega) (by omega)
      have := bndT_nonneg (h k (by omega)) t
      rw [bndTo]; omega
theorem bndTo_mono {L : List Tsk} (h : ∀ j, j < L.length → rightT (at_ L j) = true) {t u : Int} (htu : t ≤ u) : ∀ {k : Nat}, k ≤ L.length → bndTo L t k ≤ bndTo L u k
  | 0, _ => Int.le_refl _
  | k + 1, hk => by
    have := bndTo_mono h htu (k := k) (by omega)
    have := bndT_mono (h k (by omega)) htu
    rw [bndTo, bndTo]; omega
/-- P7.4 -/
theorem bnd_mono {L : List Tsk} (h : allB L = true) {t u : Int} (htu : t ≤ u) : bnd L t ≤ bnd L u := bndTo_mono (all_right h) htu (Nat.le_refl _)
theorem bnd_nonneg {L : List Tsk} (h : allB L = true) (t : Int) : 0 ≤ bnd L t := bndTo_nonneg (all_right h) t (Nat.le_refl _)
theorem bndTo_take (L : List Tsk) (t : Int) (n : Nat) : ∀ {k : Nat}, k ≤ n → bndTo (L.take n) t k = bndTo L t k
  | 0, _ => rfl
  | k + 1, hk => by rw [bndTo, bndTo, bndTo_take L t n (by omega), at_take (by omega)]
theorem bndTo_drop (L : List Tsk) (t : Int) (n : Nat) : ∀ k : Nat, bndTo L t n + bndTo (L.drop n) t k = bndTo L t (n + k)
  | 0 => by rw [bndTo, Nat.add_zero]; omega
  | k + 1 => by
    have := bndTo_drop L t n k
    rw [show n + (k + 1) = (n + k) + 1 from by omega, bndTo, bndTo, at_drop]
    omega
theorem bnd_split (L : List Tsk) (t : Int) {n : Nat} (hn : n ≤ L.length) : bnd (L.take n) t + bnd (L.drop n) t = bnd L t := by
  unfold bnd
  rw [List.length_take, List.length_drop, Nat.min_eq_left hn, bndTo_take L t n (Nat.le_refl _), bndTo_drop, show n + (L.length - n) = L.length from by omega]
theorem all_take {L : List Tsk} (h : allB L = true) (n : Nat) : allB (L.take n) = true := by
  unfold allB at *
  rw [Bool.and_eq_true, decide_eq_true_eq, List.all_eq_true] at *
  refine ⟨?_, fun x hx => h.2 x (List.mem_of_mem_take hx)⟩
  have := h.1
  rw [List.length_take]; omega
theorem all_drop {L : List Tsk} (h : allB L = true) (n : Nat) : allB (L.drop n) = true := by
  unfold allB at *
  rw [Bool.and_eq_true, decide_eq_true_eq, List.all_eq_true] at *
  refine ⟨?_, fun x hx => h.2 x (List.mem_of_mem_drop hx)⟩
  have := h.1
  rw [List.length_drop]; omega
/-- a bound for few ticks is no large number -/
theorem bndT_le {x : Tsk} (h : rightT x = true) {t m : Int} (ht : 0 ≤ t) (hm : t ≤ m) : bndT x t ≤ 200 * m := by
  have hx := right_T h
  have h1 := njobs_le (D := x.2.1) (T := x.2.2.1) (t := t) (by omega) (by omega) ht
  have h0 := njobs_nonneg (D := x.2.1) (T := x.2.2.1) (t := t) (by omega)
  unfold bndT
  have h2 : x.1 * njobs x.2.1 x.2.2.1 t ≤ 200 * njobs x.2.1 x.2.2.1 t := Int.mul_le_mul_of_nonneg_right (by omega) h0
  omega
theorem bndTo_small {L : List Tsk} (h : ∀ j, j < L.length → rightT (at_ L j) = true) {t m : Int} (ht : 0 ≤ t) (hm : t ≤ m) : ∀ {k : Nat}, k ≤ L.length → bndTo L t k ≤ k * (200 * m)
  | 0, _ => by simp [bndTo]
  | k + 1, hk => by
    have h1 := bndTo_small h ht hm (k := k) (by omega)
    have h2 := bndT_le (h k (by omega)) ht hm
    rw [bndTo, show ((k + 1 : Nat) : Int) = (k : Int) + 1 from by omega, Int.add_mul, Int.one_mul]
    omega
theorem bnd_small {L : List Tsk} (h : allB L = true) {t m : Int} (ht : 0 ≤ t) (hm : t ≤ m) : bnd L t ≤ 1600 * m := by
  have h1 := bndTo_small (all_right h) ht hm (Nat.le_refl _)
  have h2 := all_len h
  have h3 : (L.length : Int) * (200 * m) ≤ 8 * (200 * m) := Int.mul_le_mul_of_nonneg_right (by omega) (by omega)
  unfold bnd
  omega

/-- the releases of one task that count -/
def inB (a b D x : Int) : Bool := decide (a ≤ x ∧ x + D ≤ b)
def cntIn (row : List Int) (a b D : Int) : Nat := (row.filter (inB a b D)).length
/-- each release T behind the one ahead -/
def Gaps (T : Int) (row : List Int) : Prop := row.Pairwise fun x y => x + T ≤ y
theorem gaps_len {T lo hi : Int} (hT : 0 < T) : ∀ {l : List Int}, Gaps T l → (∀ x ∈ l, lo ≤ x ∧ x ≤ hi) → ∀ x r, l = x :: r → ((l.length : Int) - 1) * T ≤ hi - x
  | [], _, _ => fun _ _ h => by cases h
  | [y], _, h => fun x r e => by
    injection e with e1 e2
    subst e1
    have := (h y (by simp)).2
    simp; omega
  | y :: z :: l, hg, h => fun x r e => by
    injection e with e1 e2
    subst e1
    subst e2
    have h1 := gaps_len hT (List.pairwise_cons.1 hg).2 (fun a ha => h a (List.mem_cons_of_mem _ ha)) z l rfl
    have h2 := (List.pairwise_cons.1 hg).1 z (by simp)
    simp only [List.length_cons] at h1 ⊢
    rw [show (((l.length + 1 + 1 : Nat) : Int) - 1) * T = (((l.length + 1 : Nat) : Int) - 1) * T + T from by
      rw [show (((l.length + 1 + 1 : Nat) : Int) - 1) = (((l.length + 1 : Nat) : Int) - 1) + 1 from by omega, Int.add_mul, Int.one_mul]]
    omega
/-- P7.3: no row of releases has more jobs in b - a ticks than njobs tells -/
theorem cntIn_le {T D a b : Int} (hT : 0 < T) {row : List Int} (hg : Gaps T row) : (cntIn row a b D : Int) ≤ njobs D T (b - a) := by
  have hf : Gaps T (row.filter (inB a b D)) := hg.filter _
  have hin : ∀ x ∈ row.filter (inB a b D), a ≤ x ∧ x ≤ b - D := fun x hx => by
    have := of_decide_eq_true (List.mem_filter.1 hx).2
    omega
  unfold cntIn
  generalize hl : row.filter (inB a b D) = l at *
  cases l with
  | nil => exact njobs_nonneg hT
  | cons x r =>
    have h1 := gaps_len hT hf hin x r rfl
    have h2 := (hin x (by simp)).1
    have h3 : (((x :: r).length : Int) - 1) < njobs D T (b - a) := (lt_njobs hT _ (by simp)).1 (by omega)
    omega

/-- which rows of releases are legal -/
def rowB (T : Int) (row : List Int) : Bool := decide (row.length ≤ 1000) && (row.all fun x => decide (0 ≤ x ∧ x ≤ 4611686018427387903)) && (List.range row.length).all fun k => decide (k = 0) || decide (at_ row (k - 1) + T ≤ at_ row k)
theorem rowB_iff {T : Int} {row : List Int} : rowB T row = true ↔ row.length ≤ 1000 ∧ (∀ k, k < row.length → 0 ≤ at_ row k ∧ at_ row k ≤ 4611686018427387903) ∧ ∀ k, 0 < k → k < row.length → at_ row (k - 1) + T ≤ at_ row k := by
  unfold rowB
  simp only [Bool.and_eq_true, decide_eq_true_eq, List.all_eq_true, List.mem_range, Bool.or_eq_true, and_assoc]
  constructor
  · rintro ⟨h1, h2, h3⟩
    refine ⟨h1, fun k hk => h2 _ (at_mem hk), fun k h0 hk => ?_⟩
    rcases h3 k hk with h | h
    · omega
    · exact h
  · rintro ⟨h1, h2, h3⟩
    refine ⟨h1, fun x hx => ?_, fun k hk => ?_⟩
    · obtain ⟨j, hj, rfl⟩ := mem_at hx
      exact h2 j hj
    · by_cases h : k = 0
      · exact .inl h
      · exact .inr (h3 k (by omega) hk)
theorem row_gaps {T : Int} (hT : 0 < T) {row : List Int} (h : rowB T row = true) : Gaps T row := by
  have h3 := (rowB_iff.1 h).2.2
  have step : ∀ d i, i + d + 1 < row.length → at_ row i + T ≤ at_ row (i + d + 1) := by
    intro d
    induction d with
    | zero => intro i hi; exact h3 (i + 1) (by omega) hi
    | succ d ih =>
      intro i hi
      have h1 := ih i (by omega)
      have h2 := h3 (i + d + 1 + 1) (by omega) hi
      rw [show i + d + 1 + 1 - 1 = i + d + 1 from by omega] at h2
      rw [show i + (d + 1) + 1 = i + d + 1 + 1 from by omega]
      omega
  unfold Gaps
  rw [List.pairwise_iff_getElem]
  intro i j hi hj hij
  have := step (j - i - 1) i (by omega)
  rw [show i + (j - i - 1) + 1 = j from by omega] at this
  rwa [at_get hi, at_get hj] at this
theorem row_empty (T : Int) : rowB T [] = true := by simp [rowB]

/-- which patterns are legal -/
def legalB (L : List Tsk) (R : List (List Int)) : Bool := allB L && decide (R.length = L.length) && (List.range R.length).all fun i => rowB (at_ L i).2.2.1 (at_ R i)
theorem legal_iff {L : List Tsk} {R : List (List Int)} : legalB L R = true ↔ allB L = true ∧ R.length = L.length ∧ ∀ i, i < R.length → rowB (at_ L i).2.2.1 (at_ R i) = true := by
  unfold legalB
  simp only [Bool.and_eq_true, decide_eq_true_eq, List.all_eq_true, List.mem_range, and_assoc]
theorem legal_false {L : List Tsk} {R : List (List Int)} {i : Nat} (hi : i < R.length) (h : rowB (at_ L i).2.2.1 (at_ R i) = false) : legalB L R = false := by
  rw [← Bool.not_eq_true, legal_iff]
  rintro ⟨_, _, h3⟩
  rw [h3 i hi] at h
  cases h

/-- a pattern's demand, of the first k tasks -/
def demTo (L : List Tsk) (R : List (List Int)) (a b : Int) : Nat → Int
  | 0 => 0
  | k + 1 => demTo L R a b k + (at_ L k).1 * cntIn (at_ R k) a b (at_ L k).2.1
def dem (L : List Tsk) (R : List (List Int)) (a b : Int) : Int := demTo L R a b R.length
theorem demTo_nonneg {L : List Tsk} {R : List (List Int)} (h : ∀ j, j < L.length → rightT (at_ L j) = true) (a b : Int) : ∀ {k : Nat}, k ≤ L.length → 0 ≤ demTo L R a b k
  | 0, _ => Int.le_refl _
  | k + 1, hk => by
    have h1 := demTo_nonneg (R := R) h a b (k := k) (by omega)
    have h2 := right_T (h k (by omega))
    have h3 : 0 ≤ (at_ L k).1 * (cntIn (at_ R k) a b (at_ L k).2.1 : Int) := Int.mul_nonneg (by omega) (by omega)
    rw [demTo]; omega
theorem cntIn_len (row : List Int) (a b D : Int) : cntIn row a b D ≤ row.length := List.length_filter_le _ _
theorem demTo_le {L : List Tsk} {R : List (List Int)} (h : legalB L R = true) (a b : Int) : ∀ {k : Nat}, k ≤ L.length → demTo L R a b k ≤ k * 200000
  | 0, _ => by simp [demTo]
  | k + 1, hk => by
    obtain ⟨h1, h2, h3⟩ := legal_iff.1 h
    have ih := demTo_le h a b (k := k) (by omega)
    have h4 := right_T (all_right h1 k (by omega))
    have h5 := (rowB_iff.1 (h3 k (by omega))).1
    have h6 := cntIn_len (at_ R k) a b (at_ L k).2.1
    have h7 : (at_ L k).1 * (cntIn (at_ R k) a b (at_ L k).2.1 : Int) ≤ 200 * (cntIn (at_ R k) a b (at_ L k).2.1 : Int) := Int.mul_le_mul_of_nonneg_right (by omega) (by omega)
    rw [demTo]; omega
/-- P7.3 -/
theorem demTo_most {L : List Tsk} {R : List (List Int)} (h : legalB L R = true) (a b : Int) : ∀ {k : Nat}, k ≤ L.length → demTo L R a b k ≤ bndTo L (b - a) k
  | 0, _ => Int.le_refl _
  | k + 1, hk => by
    obtain ⟨h1, h2, h3⟩ := legal_iff.1 h
    have ih := demTo_most h a b (k := k) (by omega)
    have h4 := right_T (all_right h1 k (by omega))
    have h5 := cntIn_le (D := (at_ L k).2.1) (a := a) (b := b) (by omega) (row_gaps (by omega) (h3 k (by omega)))
    have h6 : (at_ L k).1 * (cntIn (at_ R k) a b (at_ L k).2.1 : Int) ≤ bndT (at_ L k) (b - a) := Int.mul_le_mul_of_nonneg_left h5 (by omega)
    rw [demTo, bndTo]; omega
theorem dem_most {L : List Tsk} {R : List (List Int)} (h : legalB L R = true) (a b : Int) : dem L R a b ≤ bnd L (b - a) := by
  have h2 := (legal_iff.1 h).2.1
  unfold dem bnd
  rw [h2]
  exact demTo_most h a b (Nat.le_refl _)

/-- the row of releases at 0, T, 2 T .., of n releases -/
def early (T : Int) (n : Nat) : List Int := (List.range n).map fun (k : Nat) => (k : Int) * T
theorem early_len (T : Int) (n : Nat) : (early T n).length = n := by simp [early]
theorem early_at {T : Int} {n k : Nat} (h : k < n) : at_ (early T n) k = (k : Int) * T := by
  rw [at_get (by rw [early_len]; exact h)]
  simp [early]
theorem early_succ (T : Int) (n : Nat) : early T (n + 1) = early T n ++ [(n : Int) * T] := by simp [early, List.range_succ]
theorem early_row {T : Int} (hT : 0 < T) {n : Nat} (hn : n ≤ 1000) (hb : (n : Int) * T ≤ 4611686018427387903) : rowB T (early T n) = true := by
  rw [rowB_iff, early_len]
  refine ⟨hn, fun k hk => ?_, fun k h0 hk => ?_⟩
  · rw [early_at hk]
    have h1 : (k : Int) * T ≤ (n : Int) * T := Int.mul_le_mul_of_nonneg_right (by omega) (by omega)
    have h2 : 0 ≤ (k : Int) * T := Int.mul_nonneg (by omega) (by omega)
    omega
  · rw [early_at hk, early_at (by omega), show ((k - 1 : Nat) : Int) = (k : Int) - 1 from by omega, Int.sub_mul]
    omega
theorem early_cnt {T D t : Int} (hT : 0 < T) : ∀ {n : Nat}, (cntIn (early T n) 0 t D : Int) = if (n : Int) ≤ njobs D T t then (n : Int) else njobs D T t
  | 0 => by
    have := njobs_nonneg (D := D) (t := t) hT
    rw [if_pos (by omega)]
    rfl
  | n + 1 => by
    have ih := early_cnt (D := D) (t := t) hT (n := n)
    have h0 : 0 ≤ (n : Int) * T := Int.mul_nonneg (by omega) (by omega)
    have h1 := lt_njobs (D := D) (t := t) hT (n : Int) (by omega)
    unfold cntIn at *
    rw [early_succ, List.filter_append, List.length_append]
    by_cases hi : D + (n : Int) * T ≤ t
    · have hb : inB 0 t D ((n : Int) * T) = true := by simp [inB]; omega
      have := h1.1 hi
      rw [if_pos (by omega)] at ih
      rw [if_pos (by omega)]
      simp [hb]
      omega
    · have hb : inB 0 t D ((n : Int) * T) = false := by simp [inB]; omega
      have h2 : ¬ (n : Int) < njobs D T t := fun e => hi (h1.2 e)
      rw [if_neg (by omega)]
      simp [hb]
      split at ih <;> omega

theorem task_times {L : List Tsk} (h : allB L = true) {k : Nat} (hk : k < L.length) : 1 ≤ (at_ L k).1 ∧ (at_ L k).1 ≤ (at_ L k).2.1 ∧ (at_ L k).2.1 ≤ (at_ L k).2.2.1 ∧ (at_ L k).2.2.1 ≤ 200 := right_T (all_right h k hk)

end Dm
end Go.Proofs.Ytdjjdebnbaaihaa

/-
  Layer 7 (demand): the call jobs.
-/
namespace Go.Proofs.Ytdjjdebnbaaihaa
open Go.RowKit Mm Tk
namespace Dm

set_option maxHeartbeats 800000 in
theorem jobs_any (C D T : Int) (A : Option Addr) (n c : Nat) (t : Int) (w : World) (hD : 0 ≤ D ∧ D ≤ 200) (hT : 1 ≤ T ∧ T ≤ 200) (ht : 0 ≤ t ∧ t ≤ 4611686018427387903) :
    Calls Try.prog 89 #[.agg #[.int .i64 C, .int .i64 D, .int .i64 T, .slice A n c], .int .i64 t] w fun e w' => e = .returned (.int .i64 (njobs D T t)) ∧ Below w.heap.size w w' := by
  obtain ⟨t1, t2, t3, t4⟩ := box_new w C D T A n c
  have b0 := below_one w (Obj.cells #[.int .i64 C, .int .i64 D, .int .i64 T, .slice A n c] 33)
  by_cases h : t < D
  · have HV : Hid (njobs D T t = 0) := njobs_zero h
    go_enter Try.func89, Try.ntmps89
    go_wp2_with fail
    go_ret
    exact ⟨ret_int HV.out.symm, b0⟩
  · have HV : Hid (njobs D T t = (t - D) / T + 1) := njobs_eq (by omega)
    have q := IntWalk.tdiv_le (t - D) T (by omega) hT.1
    have e0 : IntKind.i64.wrap (t - D) = t - D := IntWalk.i64_in _ (by omega)
    have e1 : IntKind.i64.wrap ((t - D).tdiv T) = (t - D) / T := IntWalk.i64_quo _ _ ⟨by omega, by omega, hT.1⟩
    have e2 : IntKind.i64.wrap ((t - D) / T + 1) = (t - D) / T + 1 := IntWalk.i64_in _ (by omega)
    go_enter Try.func89, Try.ntmps89
    go_wp2_with fail
    go_ret
    exact ⟨ret_int HV.out.symm, b0⟩

end Dm
end Go.Proofs.Ytdjjdebnbaaihaa

/-
  Layer 7 (demand): the closure that adds, checked; Bound.
-/
namespace Go.Proofs.Ytdjjdebnbaaihaa
open Go.RowKit Mm Tk
namespace Dm

/-- the sum, and the error, that stand for a number from 0 on -/
def sumV (v : Int) : Int := if v ≤ 4611686018427387903 then v else 0
def errV (v : Int) : Int := if v ≤ 4611686018427387903 then 0 else 5
/-- what Bound answers -/
def bndZ (L : List Tsk) (t : Int) : Int := if allB L = true ∧ 0 ≤ t ∧ t ≤ 4611686018427387903 then sumV (bnd L t) else 0
def bndE (L : List Tsk) (t : Int) : Int := if allB L = true ∧ 0 ≤ t ∧ t ≤ 4611686018427387903 then errV (bnd L t) else 1

/-- blocks X and E have the sum and the error -/
def Acc (w : World) (X E : Nat) (v : Int) : Prop := w.cell? ⟨X, 0, none⟩ = some (.int .i64 (sumV v)) ∧ w.cell? ⟨E, 0, none⟩ = some (.int .i64 (errV v)) ∧ w.frozen? ⟨X, 0, none⟩ = false ∧ w.frozen? ⟨E, 0, none⟩ = false
theorem Acc.below {w w' : World} {X E : Nat} {v : Int} (h : Acc w X E v) (b : Below w.heap.size w w') : Acc w' X E v :=
  ⟨cell_below b h.1, cell_below b h.2.1, frozen_below b h.1 h.2.2.1, frozen_below b h.2.1 h.2.2.2⟩
theorem Acc.put {w : World} {X E : Nat} {v u : Int} (h : Acc w X E v) (hne : X ≠ E) : Acc ((w.setCell ⟨X, 0, none⟩ (.int .i64 (sumV u))).setCell ⟨E, 0, none⟩ (.int .i64 (errV u))) X E u := by
  have n1 : (⟨E, 0, none⟩ : Addr) ≠ ⟨X, 0, none⟩ := fun e => by injection e with e; exact hne e.symm
  have n2 : (⟨X, 0, none⟩ : Addr) ≠ ⟨E, 0, none⟩ := fun e => by injection e with e; exact hne e
  refine ⟨?_, ?_, ?_, ?_⟩
  · rw [World.cell?_setCell_other _ _ _ _ n1]
    exact World.cell?_setCell_same _ _ _ h.1
  · exact World.cell?_setCell_same _ _ _ ((World.cell?_setCell_other _ _ _ _ n2).trans h.2.1)
  · rw [World.frozen?_setCell, World.frozen?_setCell]; exact h.2.2.1
  · rw [World.frozen?_setCell, World.frozen?_setCell]; exact h.2.2.2

theorem sum_small {v : Int} (h : v ≤ 4611686018427387903) : sumV v = v ∧ errV v = 0 := by simp [sumV, errV, h]
theorem sum_great {v : Int} (h : ¬ v ≤ 4611686018427387903) : sumV v = 0 ∧ errV v = 5 := by simp [sumV, errV, h]

/-- what the closure does -/
def Added (w : World) (base X E : Nat) (u : Int) (e : Ending) (w' : World) : Prop := e = .returned (.tuple #[]) ∧ Acc w' X E u ∧ Below base w w' ∧ (∀ i, i < w.heap.size → i ≠ X → i ≠ E → w'.heap[i]? = w.heap[i]?)

theorem perm_of {v : Int} (h0 : 0 ≤ v) (h : v ≤ 4611686018427387903) : Ar.perm v = true := Ar.perm_iff.2 (by omega)
theorem perm_not {v : Int} (h : ¬ v ≤ 4611686018427387903) : Ar.perm v = false := Ar.perm_no.2 (by omega)

theorem added {w w1 : World} {base X E : Nat} {v u : Int} (hX : base ≤ X) (hE : base ≤ E) (hne : X ≠ E) (h : Acc w X E v) (b : Below w.heap.size w w1) :
    Added w base X E u (.returned (.tuple #[])) ((w1.setCell ⟨X, 0, none⟩ (.int .i64 (sumV u))).setCell ⟨E, 0, none⟩ (.int .i64 (errV u))) := by
  have hX' := lt_of_cell h.1
  simp only at hX'
  refine ⟨rfl, (h.below b).put hne, ((b.mono (by omega)).setCell (by exact hX) _).setCell (by exact hE) _, fun i hi h1 h2 => ?_⟩
  rw [Below.heap_setCell _ _ _ _ h2, Below.heap_setCell _ _ _ _ h1]
  exact b.block i hi

set_option maxHeartbeats 1600000 in
theorem add_closure (base X E : Nat) (v n : Int) (w : World) (hX : base ≤ X) (hE : base ≤ E) (hne : X ≠ E) (hv : 0 ≤ v) (hn : 0 ≤ n ∧ n ≤ 4611686018427387903) (h : Acc w X E v) :
    Calls Try.prog 88 #[.int .i64 n, .pointer (some ⟨E, 0, none⟩), .pointer (some ⟨X, 0, none⟩)] w (Added w base X E (v + n)) := by
  obtain ⟨x1, x2, x3, x4⟩ := id h
  have HA := Lib.hid h
  clear h
  by_cases hvm : v ≤ 4611686018427387903
  · obtain ⟨s1, s2⟩ := sum_small hvm
    rw [s1] at x1
    rw [s2] at x2
    have n2 : (⟨X, 0, none⟩ : Addr) ≠ ⟨E, 0, none⟩ := fun e => by injection e with e; exact hne e
    clear s1 s2
    by_cases hs : v + n ≤ 4611686018427387903
    · obtain ⟨u1, u2⟩ := sum_small hs
      have U1 := Lib.hid u1
      have U2 := Lib.hid u2
      clear u1 u2
      go_enter Try.func88, Try.ntmps88
      go_wp2_with fail
      refine (Ar.add_ok v n _ (perm_of hv hvm) (perm_of hn.1 hn.2) (perm_of (by omega) hs)).mono ?_
      rintro e w1 ⟨rfl, b1⟩
      have y2 := (World.cell?_setCell_other w1 ⟨X, 0, none⟩ ⟨E, 0, none⟩ (.int .i64 (v + n)) n2).trans (cell_below b1 x2)
      replace x3 := frozen_below b1 x1 x3
      replace x4 := frozen_below b1 x2 x4
      replace x1 := cell_below b1 x1
      replace x2 := cell_below b1 x2
      have B1 := Lib.hid b1
      clear b1
      go_wp2_with fail
      go_end0
      have := added (u := v + n) hX hE hne HA.out B1.out
      rwa [U1.out, U2.out] at this
    · obtain ⟨u1, u2⟩ := sum_great hs
      have U1 := Lib.hid u1
      have U2 := Lib.hid u2
      clear u1 u2
      go_enter Try.func88, Try.ntmps88
      go_wp2_with fail
      refine (Ar.add_large v n _ (perm_of hv hvm) (perm_of hn.1 hn.2) (perm_not (by omega))).mono ?_
      rintro e w1 ⟨rfl, b1⟩
      have y2 := (World.cell?_setCell_other w1 ⟨X, 0, none⟩ ⟨E, 0, none⟩ (.int .i64 0) n2).trans (cell_below b1 x2)
      replace x3 := frozen_below b1 x1 x3
      replace x4 := frozen_below b1 x2 x4
      replace x1 := cell_below b1 x1
      replace x2 := cell_below b1 x2
      have B1 := Lib.hid b1
      clear b1
      go_wp2_with fail
      go_end0
      have := added (u := v + n) hX hE hne HA.out B1.out
      rwa [U1.out, U2.out] at this
  · obtain ⟨s1, s2⟩ := sum_great hvm
    obtain ⟨u1, u2⟩ := sum_great (v := v + n) (by omega)
    rw [s1] at x1
    rw [s2] at x2
    have HX : Hid (Acc w X E (v + n)) := by
      obtain ⟨y1, y2, y3, y4⟩ := HA.out
      refine ⟨?_, ?_, y3, y4⟩
      · rw [u1]; exact x1
      · rw [u2]; exact x2
    clear s1 s2 u1 u2
    go_enter Try.func88, Try.ntmps88
    go_wp2_with fail
    go_end0
    exact ⟨rfl, HX.out, Below.refl _ _, fun _ _ _ _ => rfl⟩

end Dm
end Go.Proofs.Ytdjjdebnbaaihaa

/-
  Layer 7 (demand): Bound.
-/
namespace Go.Proofs.Ytdjjdebnbaaihaa
open Go.RowKit Mm Tk
namespace Dm

theorem addEnters : ∀ args w, (callFunc 88 args).run Try.prog w = .ok (.enter 88 args) w := enters_of Try.func88 (by kernel_rfl) rfl
theorem bnd_bad {L : List Tsk} {t : Int} (h : ¬ (allB L = true ∧ 0 ≤ t ∧ t ≤ 4611686018427387903)) : bndZ L t = 0 ∧ bndE L t = 1 := by
  unfold bndZ bndE
  rw [if_neg h, if_neg h]
  exact ⟨rfl, rfl⟩
theorem bnd_good {L : List Tsk} {t : Int} (h : allB L = true) (h0 : 0 ≤ t) (ht : t ≤ 4611686018427387903) : bndZ L t = sumV (bnd L t) ∧ bndE L t = errV (bnd L t) := by
  unfold bndZ bndE
  rw [if_pos ⟨h, h0, ht⟩, if_pos ⟨h, h0, ht⟩]
  exact ⟨rfl, rfl⟩
/-- one task asks for at most as many ticks as there are -/
theorem one_le {x : Tsk} (h : rightT x = true) {t : Int} (h0 : 0 ≤ t) : 0 ≤ x.1 * njobs x.2.1 x.2.2.1 t ∧ x.1 * njobs x.2.1 x.2.2.1 t ≤ t := by
  have hx := right_T h
  have hn := njobs_nonneg (D := x.2.1) (T := x.2.2.1) (t := t) (by omega)
  refine ⟨Int.mul_nonneg (by omega) hn, ?_⟩
  by_cases hz : njobs x.2.1 x.2.2.1 t = 0
  · rw [hz]; omega
  · have h1 := (lt_njobs (D := x.2.1) (T := x.2.2.1) (t := t) (by omega) (njobs x.2.1 x.2.2.1 t - 1) (by omega)).2 (by omega)
    generalize njobs x.2.1 x.2.2.1 t = n at *
    have h2 : x.1 * (n - 1) ≤ (n - 1) * x.2.2.1 := by
      rw [Int.mul_comm]
      exact Int.mul_le_mul_of_nonneg_left (by omega) (by omega)
    rw [Int.mul_sub, Int.mul_one] at h2
    omega

theorem cell_kept {w w' : World} {X E Y j : Nat} (hk : ∀ i, i < w.heap.size → i ≠ X → i ≠ E → w'.heap[i]? = w.heap[i]?) (h1 : Y ≠ X) (h2 : Y ≠ E) {v : Value} (h : w.cell? ⟨Y, j, none⟩ = some v) : w'.cell? ⟨Y, j, none⟩ = some v :=
  (World.cell?_of_block (w := w) (hk Y (lt_of_cell h) h1 h2)).trans h
theorem fresh_frozen (w : World) (c : Array Value) {t : TypeId} : (w.alloc (.cells c t)).frozen? ⟨w.heap.size, 0, none⟩ = false := by simp
theorem acc_new (w : World) : Acc ((w.alloc (.cells #[.int .i64 0] 3)).alloc (.cells #[.int .i64 0] 39)) w.heap.size (w.heap.size + 1) 0 := by
  obtain ⟨u1, u2⟩ := sum_small (v := 0) (by decide)
  have x1 : (w.alloc (.cells #[.int .i64 0] 3)).cell? ⟨w.heap.size, 0, none⟩ = some (.int .i64 0) := by simp
  have x2 : (w.alloc (.cells #[.int .i64 0] 3)).frozen? ⟨w.heap.size, 0, none⟩ = false := by simp
  have y1 : ((w.alloc (.cells #[.int .i64 0] 3)).alloc (.cells #[.int .i64 0] 39)).cell? ⟨(w.alloc (.cells #[.int .i64 0] 3)).heap.size, 0, none⟩ = some (.int .i64 0) := by simp only [World.cell?_alloc_new]; rfl
  have y2 : ((w.alloc (.cells #[.int .i64 0] 3)).alloc (.cells #[.int .i64 0] 39)).frozen? ⟨(w.alloc (.cells #[.int .i64 0] 3)).heap.size, 0, none⟩ = false := fresh_frozen _ _
  rw [World.size_alloc] at y1 y2
  unfold Acc
  rw [u1, u2]
  exact ⟨cell_new x1 _, y1, frozen_below (below_one _ _) x1 x2, y2⟩

set_option maxHeartbeats 1600000 in
theorem bound_any (A : Option Addr) (c : Nat) (L : List Tsk) (t : Int) (w : World) (H : TL w A c L) :
    Calls Try.prog 84 #[.slice A L.length c, .int .i64 t] w fun e w' => e = .returned (.tuple #[.int .i64 (bndZ L t), .int .i64 (bndE L t)]) ∧ Below w.heap.size w w' := by
  have hb1 := H.1
  have HT := Lib.hid H
  clear H
  by_cases hok : allB L = true ∧ 0 ≤ t ∧ t ≤ 4611686018427387903
  · obtain ⟨ha, h0, h1⟩ := hok
    have HZ := Lib.hid (bnd_good ha h0 h1)
    have HA := Lib.hid ha
    have h0' : ¬ t < 0 := by omega
    have h1' : ¬ 4611686018427387903 < t := by omega
    go_enter Try.func84, Try.ntmps84
    go_wp2_with fail
    refine (all_any A c L _ hb1 HT.out.2.1 HT.out.2.2).mono ?_
    rintro e w1 ⟨rfl, b1⟩
    rw [ha]
    replace HT := Lib.hid (HT.out.below b1)
    have B1 := Lib.hid b1
    clear b1
    clear ha
    go_wp2_with fail
    go_loopw [25] (fun i wr => ∃ k : Nat, i = .int .i64 k ∧ k ≤ L.length ∧ Hid (Acc wr w1.heap.size (w1.heap.size + 1) (bndTo L t k)) ∧ Hid (Below w1.heap.size w1 wr)) (fun i _ => L.length - (intOf i).toNat)
    case atStart => exact ⟨0, rfl, Nat.zero_le _, acc_new w1, below_two _ _ _⟩
    case round =>
      obtain ⟨k, rfl, hk, HC, HB⟩ := hrel
      by_cases hlt : k < L.length
      · obtain ⟨bb, off, rfl, hc⟩ := task_at (HT.out.below HB.out).2.2 (by omega)
        obtain ⟨B, d, x1, x2, x3, x4, _, _, _, _⟩ := hc k hlt
        have hR := all_right HA.out k hlt
        have hT := right_T hR
        have hO0 := one_le hR h0
        have hv : 0 ≤ bndTo L t k := bndTo_nonneg (all_right HA.out) t hk
        have HN : Hid (bndTo L t k + (at_ L k).1 * njobs (at_ L k).2.1 (at_ L k).2.2.1 t = bndTo L t (k + 1)) := rfl
        clear hc hR
        generalize at_ L k = x at *
        generalize bndTo L t k = v at *
        obtain ⟨p, hp⟩ : ∃ p, x.1 * njobs x.2.1 x.2.2.1 t = p := ⟨_, rfl⟩
        rw [hp] at hO0 HN
        have hO : 0 ≤ p ∧ p ≤ 4611686018427387903 := by omega
        have e1 : IntKind.i64.wrap (x.1 * njobs x.2.1 x.2.2.1 t) = p := by rw [hp]; exact IntWalk.i64_in _ (by omega)
        have HP := Lib.hid hp
        clear hp
        have hne : w1.heap.size ≠ w1.heap.size + 1 := by omega
        obtain ⟨z1, z2, z3, z4⟩ := box_new wr x.1 x.2.1 x.2.2.1 B x.2.2.2.length d
        have bw1 := below_one wr (Obj.cells #[.int .i64 x.1, .int .i64 x.2.1, .int .i64 x.2.2.1, .slice B x.2.2.2.length d] 33)
        have C2 := Lib.hid (HC.out.below bw1.drew)
        have B2 := Lib.hid (below_step HB.out bw1)
        have hYX : w1.heap.size ≤ wr.heap.size ∧ w1.heap.size + 1 < wr.heap.size := by
          have := lt_of_cell HC.out.2.1
          simp only at this
          omega
        have hY2 : wr.heap.size < (wr.alloc (Obj.cells #[.int .i64 x.1, .int .i64 x.2.1, .int .i64 x.2.2.1, .slice B x.2.2.2.length d] 33)).heap.size := by simp
        go_wp2_with fail
        clear x1 x2 x3 x4 bw1
        generalize wr.alloc (Obj.cells #[.int .i64 x.1, .int .i64 x.2.1, .int .i64 x.2.2.1, .slice B x.2.2.2.length d] 33) = w2 at *
        generalize wr.heap.size = Y at *
        have hY1 : Y ≠ w1.heap.size := by omega
        have hY2' : Y ≠ w1.heap.size + 1 := by omega
        go_region_held3 (fun w' => w'.cell? ⟨Y, 0, none⟩ = some (.int .i64 x.1) ∧ w'.cell? ⟨Y, 1, none⟩ = some (.int .i64 x.2.1) ∧ w'.cell? ⟨Y, 2, none⟩ = some (.int .i64 x.2.2.1) ∧ w'.cell? ⟨Y, 3, none⟩ = some (.slice B x.2.2.2.length d))
          (first
            | (go_split_ands; exact ⟨cell_kept hk6 hY1 hY2' (by assumption), cell_kept hk6 hY1 hY2' (by assumption), cell_kept hk6 hY1 hY2' (by assumption), cell_kept hk6 hY1 hY2' (by assumption)⟩)
            | (go_split_ands; exact ⟨cell_below b5 (by assumption), cell_below b5 (by assumption), cell_below b5 (by assumption), cell_below b5 (by assumption)⟩)
            | (exact ⟨z1, z2, z3, z4⟩))
          (first
            | (go_at_call 89; refine (jobs_any x.1 x.2.1 x.2.2.1 B x.2.2.2.length d t _ (by omega) (by omega) (by omega)).mono ?_; rintro e w5 ⟨rfl, b5⟩)
            | (go_at_call 88; refine (add_closure w1.heap.size w1.heap.size (w1.heap.size + 1) v p _ (by omega) (by omega) hne hv hO (C2.out.below b5)).mono ?_; rintro e w6 ⟨rfl, ha6, hb6, hk6⟩))
        go_split_ands
        have B6 := Lib.hid ((below_step (below_step B2.out (Below.refl _ _).drew) b5).trans hb6)
        have C6 : Hid (Acc w6 w1.heap.size (w1.heap.size + 1) (bndTo L t (k + 1))) := by
          have := HN.out
          rw [← this]
          exact ha6
        go_wp2_with fail
        go_roundw
        case rel =>
          exact ⟨k + 1, by go_num, hlt, C6, B6⟩
        case measure => simp [intOf]; omega
      · have hkl : k = L.length := by omega
        subst hkl
        have B2 := Lib.hid (below_step B1.out HB.out)
        obtain ⟨c1, c2, c3, c4⟩ := HC.out
        have HF : Hid (bndZ L t = sumV (bndTo L t L.length) ∧ bndE L t = errV (bndTo L t L.length)) := HZ.out
        generalize sumV (bndTo L t L.length) = sv at *
        generalize errV (bndTo L t L.length) = ev at *
        clear HC HZ
        go_wp2_with fail
        replace c1 := cell_bw c1
        replace c2 := cell_bw c2
        refine wp_region_bw (by kernel_rfl) (by kernel_rfl) ?_
        repeat
          (with_reducible refine wpQuiet_step (fun K hK => ?_)
           go_simp
           first
             | (with_reducible refine hK _ ?_
                clear hK K)
             | (rw [if_neg]
                rotate_left
                focus (intro h; cases h; done)
                with_reducible refine hK _ ?_
                clear hK K)
             | (apply Exists.intro
                refine ⟨fun _ => ?_, hK _ ?_⟩
                (fail)
                clear hK K))
        with_reducible refine wpQuiet_nil ?_
        intro wb hw'
        obtain ⟨⟨wb', lb⟩, hw''⟩ := hw'
        subst hw''
        have B3 := Lib.hid (below_step B2.out lb)
        clear lb
        go_wp2_with fail
        go_ret2
        exact ⟨by rw [HF.out.1, HF.out.2]; rfl, B3.out⟩
  · obtain ⟨z1, z2⟩ := bnd_bad hok
    have Z1 := Lib.hid z1
    have Z2 := Lib.hid z2
    clear z1 z2
    cases ha : allB L with
    | false =>
      go_enter Try.func84, Try.ntmps84
      go_wp2_with fail
      refine (all_any A c L _ hb1 HT.out.2.1 HT.out.2.2).mono ?_
      rintro e w1 ⟨rfl, b1⟩
      rw [ha]
      have B1 := Lib.hid b1
      clear b1
      go_wp2_with fail
      go_ret2
      exact ⟨by rw [Z1.out, Z2.out]; rfl, B1.out⟩
    | true =>
      have hcase : t < 0 ∨ 4611686018427387903 < t := by
        by_cases h : t < 0
        · exact .inl h
        · exact .inr (by
            by_cases h2 : t ≤ 4611686018427387903
            · exact absurd ⟨ha, by omega, h2⟩ hok
            · omega)
      rcases hcase with h | h
      · clear hok
        go_enter Try.func84, Try.ntmps84
        go_wp2_with fail
        refine (all_any A c L _ hb1 HT.out.2.1 HT.out.2.2).mono ?_
        rintro e w1 ⟨rfl, b1⟩
        rw [ha]
        have B1 := Lib.hid b1
        clear b1
        go_wp2_with fail
        go_ret2
        exact ⟨by rw [Z1.out, Z2.out]; rfl, B1.out⟩
      · clear hok
        have h' : ¬ t < 0 := by omega
        go_enter Try.func84, Try.ntmps84
        go_wp2_with fail
        refine (all_any A c L _ hb1 HT.out.2.1 HT.out.2.2).mono ?_
        rintro e w1 ⟨rfl, b1⟩
        rw [ha]
        have B1 := Lib.hid b1
        clear b1
        go_wp2_with fail
        go_ret2
        exact ⟨by rw [Z1.out, Z2.out]; rfl, B1.out⟩

end Dm
end Go.Proofs.Ytdjjdebnbaaihaa

