/-
  Merged texts: LevelMath.
-/
import Derived.Test.YtdjjdebnbaaihaaGtask
/-
  Layer 6 (level): plain mathematics: levels, ceilings, who passes.
-/
namespace Go.Proofs.Ytdjjdebnbaaihaa
namespace Lv
open Mm Tk

/-- how many of the first k tasks have a greater D -/
def moreTo (L : List Tsk) (D : Int) (k : Nat) : Nat := ((L.take k).filter fun t => decide (D < t.2.1)).length
theorem moreTo_zero (L : List Tsk) (D : Int) : moreTo L D 0 = 0 := rfl
theorem moreTo_yes {L : List Tsk} {D : Int} {k : Nat} (h : k < L.length) (hd : D < (at_ L k).2.1) : moreTo L D (k + 1) = moreTo L D k + 1 := by
  unfold moreTo
  rw [take_succ_at h, List.filter_append, List.length_append]
  simp [hd]
theorem moreTo_no {L : List Tsk} {D : Int} {k : Nat} (h : k < L.length) (hd : ¬ D < (at_ L k).2.1) : moreTo L D (k + 1) = moreTo L D k := by
  unfold moreTo
  rw [take_succ_at h, List.filter_append, List.length_append]
  simp [hd]
theorem moreTo_le (L : List Tsk) (D : Int) (k : Nat) : moreTo L D k ≤ k := by
  unfold moreTo
  exact Nat.le_trans (List.length_filter_le _ _) (by simp; omega)
/-- the number of tasks with a greater D -/
def more (L : List Tsk) (D : Int) : Nat := (L.filter fun t => decide (D < t.2.1)).length
theorem more_eq (L : List Tsk) (D : Int) : moreTo L D L.length = more L D := by unfold moreTo more; rw [List.take_length]
theorem more_le (L : List Tsk) (D : Int) : more L D ≤ L.length := List.length_filter_le _ _
theorem more_anti (L : List Tsk) {D E : Int} (h : D ≤ E) : more L E ≤ more L D := by
  unfold more
  induction L with
  | nil => simp
  | cons t l ih =>
    simp only [List.filter_cons]
    by_cases h1 : E < t.2.1
    · have h2 : D < t.2.1 := by omega
      simp [h1, h2]; exact ih
    · by_cases h2 : D < t.2.1
      · simp [h1, h2]; omega
      · simp [h1, h2]; exact ih
theorem more_lt {L : List Tsk} {D E : Int} {t : Tsk} (ht : t ∈ L) (h1 : t.2.1 = E) (h : D < E) : more L E < more L D := by
  unfold more
  induction L with
  | nil => simp at ht
  | cons x l ih =>
    have ha := more_anti l (show D ≤ E by omega)
    unfold more at ha
    simp only [List.filter_cons]
    rcases List.mem_cons.1 ht with e | e
    · subst e
      have h2 : ¬ E < t.2.1 := by omega
      have h3 : D < t.2.1 := by omega
      simp [h2, h3]; omega
    · have := ih e
      by_cases h4 : E < x.2.1
      · have h5 : D < x.2.1 := by omega
        simp [h4, h5]; exact this
      · by_cases h5 : D < x.2.1
        · simp [h4, h5]; omega
        · simp [h4, h5]; exact this

/-- the level of task i -/
def lvl (L : List Tsk) (i : Nat) : Nat := more L (at_ L i).2.1 + 1
theorem lvl_pos (L : List Tsk) (i : Nat) : 1 ≤ lvl L i := by unfold lvl; omega
theorem lvl_le {L : List Tsk} {i : Nat} (h : i < L.length) : lvl L i ≤ L.length := by
  unfold lvl
  have : more L (at_ L i).2.1 < L.length := by
    unfold more
    rcases Nat.lt_or_ge (L.filter fun t => decide ((at_ L i).2.1 < t.2.1)).length L.length with h' | h'
    · exact h'
    · have e := List.filter_sublist.eq_of_length (Nat.le_antisymm (List.length_filter_le (fun t : Tsk => decide ((at_ L i).2.1 < t.2.1)) L) h')
      have := List.filter_eq_self.1 e _ (at_mem h)
      simp at this
  omega
/-- P6.2 -/
theorem lvl_lt {L : List Tsk} {i k : Nat} (hk : k < L.length) : lvl L k < lvl L i ↔ (at_ L i).2.1 < (at_ L k).2.1 := by
  unfold lvl
  constructor
  · intro h
    rcases Int.lt_or_le (at_ L i).2.1 (at_ L k).2.1 with h' | h'
    · exact h'
    · have := more_anti L h'
      omega
  · intro h
    have := more_lt (at_mem hk) rfl h
    omega

/-- does a task use a resource (as far as its sections say) -/
def usesT (t : Tsk) (r : Int) : Bool := t.2.2.2.any fun x => decide (x.1 = r)
/-- the ceiling of a resource, among the first k tasks -/
def ceilTo (L : List Tsk) (r : Int) : Nat → Nat
  | 0 => 0
  | k + 1 => if usesT (at_ L k) r then max (ceilTo L r k) (lvl L k) else ceilTo L r k
def ceil (L : List Tsk) (r : Int) : Nat := ceilTo L r L.length
theorem ceilTo_le {L : List Tsk} {r : Int} {k : Nat} (hk : k ≤ L.length) : ceilTo L r k ≤ L.length := by
  induction k with
  | zero => simp [ceilTo]
  | succ k ih =>
    have := ih (by omega)
    have := lvl_le (show k < L.length by omega)
    unfold ceilTo
    split <;> omega
theorem ceilTo_ge {L : List Tsk} {r : Int} {i k : Nat} (hi : i < k) (hu : usesT (at_ L i) r = true) : lvl L i ≤ ceilTo L r k := by
  induction k with
  | zero => omega
  | succ k ih =>
    unfold ceilTo
    by_cases e : i = k
    · subst e; rw [hu, if_pos rfl]; omega
    · have := ih (by omega)
      split <;> omega
theorem ceil_ge {L : List Tsk} {r : Int} {i : Nat} (hi : i < L.length) (hu : usesT (at_ L i) r = true) : lvl L i ≤ ceil L r := ceilTo_ge hi hu
theorem ceil_le (L : List Tsk) (r : Int) : ceil L r ≤ L.length := ceilTo_le (Nat.le_refl _)
/-- the ceiling of held resources -/
def heldTo (L : List Tsk) (h : List Int) : Nat → Nat
  | 0 => 0
  | k + 1 => max (heldTo L h k) (ceil L (at_ h k))
def heldC (L : List Tsk) : List Int → Nat
  | [] => 0
  | r :: h => max (ceil L r) (heldC L h)
theorem heldC_le (L : List Tsk) (h : List Int) : heldC L h ≤ L.length := by
  induction h with
  | nil => simp [heldC]
  | cons r h ih => have := ceil_le L r; unfold heldC; omega
theorem heldC_ge {L : List Tsk} {h : List Int} {r : Int} (hr : r ∈ h) : ceil L r ≤ heldC L h := by
  induction h with
  | nil => simp at hr
  | cons q h ih =>
    unfold heldC
    rcases List.mem_cons.1 hr with e | e
    · subst e; omega
    · have := ih e; omega
theorem heldC_app (L : List Tsk) (a b : List Int) : heldC L (a ++ b) = max (heldC L a) (heldC L b) := by
  induction a with
  | nil => simp [heldC]
  | cons r a ih => simp only [List.cons_append, heldC, ih]; omega
theorem heldC_one (L : List Tsk) (r : Int) : heldC L [r] = ceil L r := by simp [heldC]
theorem heldTo_eq {L : List Tsk} {h : List Int} {k : Nat} (hk : k ≤ h.length) : heldTo L h k = heldC L (h.take k) := by
  induction k with
  | zero => simp [heldTo, heldC]
  | succ k ih =>
    unfold heldTo
    rw [ih (by omega), take_succ_at (by omega), heldC_app, heldC_one]
/-- P6.3: who passes uses nothing that is held -/
theorem passes_none {L : List Tsk} {h : List Int} {i : Nat} (hi : i < L.length) (hp : heldC L h < lvl L i) {r : Int} (hr : r ∈ h) : usesT (at_ L i) r = false := by
  rw [← Bool.not_eq_true]
  intro hu
  have h1 := ceil_ge hi hu
  have h2 := heldC_ge (L := L) hr
  omega
/-- the order of what is held, and how often it is told, makes no difference -/
theorem heldC_turn (L : List Tsk) (h : List Int) (k : Nat) : heldC L (h.drop k ++ h) = heldC L h := by
  have e : heldC L h = max (heldC L (h.take k)) (heldC L (h.drop k)) := by rw [← heldC_app, List.take_append_drop]
  rw [heldC_app]
  omega

end Lv
end Go.Proofs.Ytdjjdebnbaaihaa

