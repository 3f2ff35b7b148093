/-
  Layer 5 (task): plain mathematics: valid sections, valid tasks, what is held.
-/
import Derived.Test.YtldiplnccgoeiaaMem
namespace Go.Proofs.Ytldiplnccgoeiaa
namespace Tk
open Mm

/-- a section: its resource, where it begins, its length -/
abbrev Sc := Int × Int × Int
/-- a task: C, D, T, sections -/
abbrev Tsk := Int × Int × Int × List Sc
def timesB (C D T : Int) : Bool := decide (1 ≤ C ∧ C ≤ D ∧ D ≤ T ∧ T ≤ 200)
def secB (C : Int) (x : Sc) : Bool := decide (0 ≤ x.1 ∧ x.1 < 4 ∧ 0 ≤ x.2.1 ∧ 1 ≤ x.2.2 ∧ x.2.1 + x.2.2 ≤ C)
def ordB (a s : Sc) : Bool := decide (a.2.1 < s.2.1 ∨ a.2.1 = s.2.1 ∧ s.2.2 ≤ a.2.2)
def apartB (a s : Sc) : Bool := decide (a.2.1 + a.2.2 ≤ s.2.1)
def nestB (a s : Sc) : Bool := decide (s.2.1 + s.2.2 ≤ a.2.1 + a.2.2 ∧ s.1 ≠ a.1)
def pairB (a s : Sc) : Bool := ordB a s && (apartB a s || nestB a s)
def secsB (C : Int) (l : List Sc) : Bool := l.all (secB C)
def pairsB (l : List Sc) : Bool := (List.range l.length).all fun j => (List.range j).all fun k => pairB (at_ l k) (at_ l j)
def rightB (C D T : Int) (l : List Sc) : Bool := timesB C D T && decide (l.length ≤ 4) && secsB C l && pairsB l
def rightT (t : Tsk) : Bool := rightB t.1 t.2.1 t.2.2.1 t.2.2.2

theorem secsB_iff {C : Int} {l : List Sc} : secsB C l = true ↔ ∀ j, j < l.length → secB C (at_ l j) = true := by
  unfold secsB
  rw [List.all_eq_true]
  constructor
  · intro h j hj
    exact h _ (at_mem hj)
  · intro h x hx
    obtain ⟨j, hj, rfl⟩ := mem_at hx
    exact h j hj
theorem secsB_false {C : Int} {l : List Sc} {j : Nat} (hj : j < l.length) (h : secB C (at_ l j) = false) : secsB C l = false := by
  rw [← Bool.not_eq_true, secsB_iff]
  intro hh
  rw [hh j hj] at h
  cases h
theorem pairsB_iff {l : List Sc} : pairsB l = true ↔ ∀ j k, k < j → j < l.length → pairB (at_ l k) (at_ l j) = true := by
  unfold pairsB
  simp only [List.all_eq_true, List.mem_range]
  exact ⟨fun h j k hk hj => h j hj k hk, fun h j hj k hk => h j k hk hj⟩
theorem pairsB_false {l : List Sc} {k j : Nat} (hk : k < j) (hj : j < l.length) (h : pairB (at_ l k) (at_ l j) = false) : pairsB l = false := by
  rw [← Bool.not_eq_true, pairsB_iff]
  intro hh
  rw [hh j k hk hj] at h
  cases h
theorem rightB_iff {C D T : Int} {l : List Sc} : rightB C D T l = true ↔ timesB C D T = true ∧ l.length ≤ 4 ∧ secsB C l = true ∧ pairsB l = true := by
  unfold rightB
  simp only [Bool.and_eq_true, decide_eq_true_eq, and_assoc]
theorem rightB_times {C D T : Int} {l : List Sc} (h : timesB C D T = false) : rightB C D T l = false := by simp [rightB, h]
theorem rightB_long {C D T : Int} {l : List Sc} (h : ¬ l.length ≤ 4) : rightB C D T l = false := by simp [rightB, h]
theorem rightB_secs {C D T : Int} {l : List Sc} (h : secsB C l = false) : rightB C D T l = false := by simp [rightB, h]
theorem rightB_pairs {C D T : Int} {l : List Sc} (h : pairsB l = false) : rightB C D T l = false := by simp [rightB, h]
theorem times_iff {C D T : Int} : timesB C D T = true ↔ 1 ≤ C ∧ C ≤ D ∧ D ≤ T ∧ T ≤ 200 := by simp [timesB]
theorem sec_iff {C : Int} {x : Sc} : secB C x = true ↔ 0 ≤ x.1 ∧ x.1 < 4 ∧ 0 ≤ x.2.1 ∧ 1 ≤ x.2.2 ∧ x.2.1 + x.2.2 ≤ C := by simp [secB]
theorem ord_iff {a s : Sc} : ordB a s = true ↔ (a.2.1 < s.2.1 ∨ a.2.1 = s.2.1 ∧ s.2.2 ≤ a.2.2) := by simp [ordB]
theorem pair_iff {a s : Sc} : pairB a s = true ↔ (a.2.1 < s.2.1 ∨ a.2.1 = s.2.1 ∧ s.2.2 ≤ a.2.2) ∧ (a.2.1 + a.2.2 ≤ s.2.1 ∨ s.2.1 + s.2.2 ≤ a.2.1 + a.2.2 ∧ s.1 ≠ a.1) := by
  simp [pairB, ordB, apartB, nestB]

/-- a section that is held -/
def holdB (had : Int) (x : Sc) : Bool := decide (x.2.1 < had) && decide (had < x.2.1 + x.2.2)
theorem hold_iff {had : Int} {x : Sc} : holdB had x = true ↔ x.2.1 < had ∧ had < x.2.1 + x.2.2 := by simp [holdB]
/-- what is held -/
def heldL (l : List Sc) (had : Int) : List Int := (l.filter (holdB had)).map (·.1)
theorem heldL_step {l : List Sc} {k : Nat} {had : Int} (h : k < l.length) : heldL (l.take (k + 1)) had = heldL (l.take k) had ++ (if holdB had (at_ l k) then [(at_ l k).1] else []) := by
  rw [take_succ_at h]
  unfold heldL
  rw [List.filter_append, List.map_append]
  congr 1
  cases hb : holdB had (at_ l k) <;> simp [hb]
theorem heldL_yes {l : List Sc} {k : Nat} {had : Int} (h : k < l.length) (hb : holdB had (at_ l k) = true) : heldL (l.take (k + 1)) had = heldL (l.take k) had ++ [(at_ l k).1] := by
  rw [heldL_step h, hb]; rfl
theorem heldL_no {l : List Sc} {k : Nat} {had : Int} (h : k < l.length) (hb : holdB had (at_ l k) = false) : heldL (l.take (k + 1)) had = heldL (l.take k) had := by
  rw [heldL_step h, hb]; simp
theorem heldL_length (l : List Sc) (had : Int) : (heldL l had).length ≤ l.length := by
  simp [heldL]; exact List.length_filter_le _ _

/-- a task that is valid, as facts -/
def Ok (C : Int) (l : List Sc) : Prop := (∀ x ∈ l, secB C x = true) ∧ l.Pairwise fun a s => pairB a s = true
theorem ok_of {C D T : Int} {l : List Sc} (h : rightB C D T l = true) : Ok C l := by
  obtain ⟨_, _, h3, h4⟩ := rightB_iff.1 h
  refine ⟨by simpa [secsB] using h3, ?_⟩
  rw [List.pairwise_iff_getElem]
  intro i j hi hj hij
  have := pairsB_iff.1 h4 j i hij hj
  rwa [at_get hi, at_get hj] at this

/-- P5.3 -/
theorem held_nodup {C : Int} {l : List Sc} (h : Ok C l) (had : Int) : (heldL l had).Pairwise fun a s => s ≠ a := by
  unfold heldL
  rw [List.pairwise_map]
  refine (h.2.filter (holdB had)).imp_of_mem ?_
  intro a s ha hs hp
  rw [List.mem_filter, hold_iff] at ha hs
  have := pair_iff.1 hp
  rcases this.2 with h1 | h1
  · exact absurd ha.2 (by omega)
  · exact h1.2
theorem held_uses {l : List Sc} {had : Int} {r : Int} (h : r ∈ heldL l had) : l.any (fun x => x.1 == r) = true := by
  obtain ⟨x, hx, rfl⟩ := List.mem_map.1 h
  rw [List.any_eq_true]
  exact ⟨x, (List.mem_filter.1 hx).1, by simp⟩
theorem held_none {C : Int} {l : List Sc} (h : Ok C l) {had : Int} (hh : had ≤ 0 ∨ C ≤ had) : heldL l had = [] := by
  unfold heldL
  rw [List.map_eq_nil_iff, List.filter_eq_nil_iff]
  intro x hx hb
  have h1 := sec_iff.1 (h.1 x hx)
  have h2 := hold_iff.1 hb
  omega

/-- P5.4 -/
def keptB (had : Int) (x : Sc) : Bool := holdB had x && holdB (had + 1) x
def endsB (had : Int) (x : Sc) : Bool := holdB had x && decide (x.2.1 + x.2.2 = had + 1)
def beganB (had : Int) (x : Sc) : Bool := holdB (had + 1) x && decide (x.2.1 = had)
theorem kept_iff {had : Int} {x : Sc} : keptB had x = true ↔ x.2.1 < had ∧ had + 1 < x.2.1 + x.2.2 := by
  simp [keptB, holdB]; omega
theorem ends_iff {had : Int} {x : Sc} : endsB had x = true ↔ x.2.1 < had ∧ x.2.1 + x.2.2 = had + 1 := by
  simp [endsB, holdB]; omega
theorem began_iff {had : Int} {x : Sc} : beganB had x = true ↔ x.2.1 = had ∧ had + 1 < x.2.1 + x.2.2 := by
  simp [beganB, holdB]; omega

theorem split_ahead {l : List Sc} {had : Int} (h : l.Pairwise fun a s => pairB a s = true) : l.filter (holdB had) = l.filter (keptB had) ++ l.filter (endsB had) := by
  induction l with
  | nil => rfl
  | cons x r ih =>
    obtain ⟨hx, hr⟩ := List.pairwise_cons.1 h
    have ih := ih hr
    cases hh : holdB had x with
    | false =>
      have h1 : keptB had x = false := by simp [keptB, hh]
      have h2 : endsB had x = false := by simp [endsB, hh]
      simp only [List.filter_cons, hh, h1, h2, Bool.false_eq_true, if_false]
      exact ih
    | true =>
      cases hk : keptB had x with
      | true =>
        have h2 : endsB had x = false := by
          rw [← Bool.not_eq_true, ends_iff]
          have := kept_iff.1 hk
          omega
        simp only [List.filter_cons, hh, hk, h2, Bool.false_eq_true, if_false, if_true, List.cons_append]
        rw [ih]
      | false =>
        have h1 := hold_iff.1 hh
        have hk' : ¬ (x.2.1 < had ∧ had + 1 < x.2.1 + x.2.2) := fun e => by rw [kept_iff.2 e] at hk; cases hk
        have h2 : endsB had x = true := ends_iff.2 (by omega)
        have h3 : r.filter (keptB had) = [] := by
          rw [List.filter_eq_nil_iff]
          intro y hy hb
          have h4 := kept_iff.1 hb
          have h5 := pair_iff.1 (hx y hy)
          omega
        simp only [List.filter_cons, hh, hk, h2, Bool.false_eq_true, if_false, if_true]
        rw [ih, h3]
        rfl
theorem split_behind {l : List Sc} {had : Int} (h : l.Pairwise fun a s => pairB a s = true) : l.filter (holdB (had + 1)) = l.filter (keptB had) ++ l.filter (beganB had) := by
  induction l with
  | nil => rfl
  | cons x r ih =>
    obtain ⟨hx, hr⟩ := List.pairwise_cons.1 h
    have ih := ih hr
    cases hh : holdB (had + 1) x with
    | false =>
      have h1 : keptB had x = false := by simp [keptB, hh]
      have h2 : beganB had x = false := by simp [beganB, hh]
      simp only [List.filter_cons, hh, h1, h2, Bool.false_eq_true, if_false]
      exact ih
    | true =>
      cases hk : keptB had x with
      | true =>
        have h2 : beganB had x = false := by
          rw [← Bool.not_eq_true, began_iff]
          have := kept_iff.1 hk
          omega
        simp only [List.filter_cons, hh, hk, h2, Bool.false_eq_true, if_false, if_true, List.cons_append]
        rw [ih]
      | false =>
        have h1 := hold_iff.1 hh
        have hk' : ¬ (x.2.1 < had ∧ had + 1 < x.2.1 + x.2.2) := fun e => by rw [kept_iff.2 e] at hk; cases hk
        have h2 : beganB had x = true := began_iff.2 (by omega)
        have h3 : r.filter (keptB had) = [] := by
          rw [List.filter_eq_nil_iff]
          intro y hy hb
          have h4 := kept_iff.1 hb
          have h5 := pair_iff.1 (hx y hy)
          omega
        simp only [List.filter_cons, hh, hk, h2, Bool.false_eq_true, if_false, if_true]
        rw [ih, h3]
        rfl

/-- behind the common beginning of two lists that begin alike -/
theorem behind_prefix {k e b : List Int} {n : Nat} (hx : (k ++ e).length ≤ n ∨ (k ++ b).length ≤ n ∨ (k ++ e).getD n 0 ≠ (k ++ b).getD n 0) : k.length ≤ n := by
  rcases hx with h | h | h
  · simp at h; omega
  · simp at h; omega
  · refine Nat.le_of_not_lt fun hlt => h ?_
    simp [List.getD_eq_getElem?_getD, List.getElem?_append_left hlt]
theorem getD_behind {k e : List Int} {i : Nat} (h : k.length ≤ i) (hi : i < (k ++ e).length) : (k ++ e).getD i 0 ∈ e := by
  rw [List.getD_eq_getElem?_getD, List.getElem?_append_right h]
  have : i - k.length < e.length := by simp at hi; omega
  rw [List.getElem?_eq_getElem this]
  exact List.getElem_mem this
theorem nests {l : List Sc} {had : Int} {n : Nat} (h : l.Pairwise fun a s => pairB a s = true)
    (hx : (heldL l had).length ≤ n ∨ (heldL l (had + 1)).length ≤ n ∨ (heldL l had).getD n 0 ≠ (heldL l (had + 1)).getD n 0) :
    (∀ i, n ≤ i → i < (heldL l (had + 1)).length → ∃ j, j < l.length ∧ (at_ l j).1 = (heldL l (had + 1)).getD i 0 ∧ (at_ l j).2.1 = had) ∧
    (∀ i, n ≤ i → i < (heldL l had).length → ∃ j, j < l.length ∧ (at_ l j).1 = (heldL l had).getD i 0 ∧ (at_ l j).2.1 + (at_ l j).2.2 = had + 1) := by
  have e1 : heldL l had = (l.filter (keptB had)).map (·.1) ++ (l.filter (endsB had)).map (·.1) := by
    unfold heldL; rw [split_ahead h, List.map_append]
  have e2 : heldL l (had + 1) = (l.filter (keptB had)).map (·.1) ++ (l.filter (beganB had)).map (·.1) := by
    unfold heldL; rw [split_behind h, List.map_append]
  rw [e1, e2] at hx
  have hk := behind_prefix hx
  constructor
  · intro i hi hl
    rw [e2] at hl ⊢
    have := getD_behind (by omega) hl
    obtain ⟨x, hx, he⟩ := List.mem_map.1 this
    obtain ⟨hm, hb⟩ := List.mem_filter.1 hx
    obtain ⟨j, hj, rfl⟩ := mem_at hm
    exact ⟨j, hj, he, (began_iff.1 hb).1⟩
  · intro i hi hl
    rw [e1] at hl ⊢
    have := getD_behind (by omega) hl
    obtain ⟨x, hx, he⟩ := List.mem_map.1 this
    obtain ⟨hm, hb⟩ := List.mem_filter.1 hx
    obtain ⟨j, hj, rfl⟩ := mem_at hm
    exact ⟨j, hj, he, (ends_iff.1 hb).2⟩

def allB (L : List Tsk) : Bool := decide (L.length ≤ 8) && L.all rightT
def sameB (a b : Tsk) : Bool := decide (a.1 = b.1 ∧ a.2.1 = b.2.1 ∧ a.2.2.1 = b.2.2.1 ∧ a.2.2.2 = b.2.2.2)

end Tk
end Go.Proofs.Ytldiplnccgoeiaa
