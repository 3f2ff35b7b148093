/-
  Merged texts: TaskMath, TaskMem, TaskLit, TaskOwn, TaskList, TaskWalks, TaskValid, TaskPairs, TaskRight, TaskSec, TaskAll, TaskGen, TaskUses.
-/
import Derived.Test.YtdjjdebnbaaihaaGmem
import Derived.Shelf.Lay
/-
  Layer 5 (task): plain mathematics: valid sections, valid tasks, what is held.
-/
namespace Go.Proofs.Ytdjjdebnbaaihaa
namespace Tk
open Mm

/-- a section: its resource, where it begins, its length -/
abbrev Sc := Int × Int × Int
/-- a task: C, D, T, sections -/
abbrev Tsk := Int × Int × Int × List Sc
def timesB (C D T : Int) : Bool := decide (1 ≤ C ∧ C ≤ D ∧ D ≤ T ∧ T ≤ 200)
def secB (C : Int) (x : Sc) : Bool := decide (0 ≤ x.1 ∧ x.1 < 4 ∧ 0 ≤ x.2.1 ∧ 1 ≤ x.2.2 ∧ x.2.1 + x.2.2 ≤ C)
def ordB (a s : Sc) : Bool := decide (a.2.1 < s.2.1 ∨ a.2.1 = s.2.1 ∧ s.2.2 ≤ a.2.2)
def apartB (a s : Sc) : Bool := decide (a.2.1 + a.2.2 ≤ s.2.1)
def nestB (a s : Sc) : Bool := decide (s.2.1 + s.2.2 ≤ a.2.1 + a.2.2 ∧ s.1 ≠ a.1)
def pairB (a s : Sc) : Bool := ordB a s && (apartB a s || nestB a s)
def secsB (C : Int) (l : List Sc) : Bool := l.all (secB C)
def pairsB (l : List Sc) : Bool := (List.range l.length).all fun j => (List.range j).all fun k => pairB (at_ l k) (at_ l j)
def rightB (C D T : Int) (l : List Sc) : Bool := timesB C D T && decide (l.length ≤ 4) && secsB C l && pairsB l
def rightT (t : Tsk) : Bool := rightB t.1 t.2.1 t.2.2.1 t.2.2.2

theorem secsB_iff {C : Int} {l : List Sc} : secsB C l = true ↔ ∀ j, j < l.length → secB C (at_ l j) = true := by
  unfold secsB
  rw [List.all_eq_true]
  constructor
  · intro h j hj
    exact h _ (at_mem hj)
  · intro h x hx
    obtain ⟨j, hj, rfl⟩ := mem_at hx
    exact h j hj
theorem secsB_false {C : Int} {l : List Sc} {j : Nat} (hj : j < l.length) (h : secB C (at_ l j) = false) : secsB C l = false := by
  rw [← Bool.not_eq_true, secsB_iff]
  intro hh
  rw [hh j hj] at h
  cases h
theorem pairsB_iff {l : List Sc} : pairsB l = true ↔ ∀ j k, k < j → j < l.length → pairB (at_ l k) (at_ l j) = true := by
  unfold pairsB
  simp only [List.all_eq_true, List.mem_range]
  exact ⟨fun h j k hk hj => h j hj k hk, fun h j hj k hk => h j k hk hj⟩
theorem pairsB_false {l : List Sc} {k j : Nat} (hk : k < j) (hj : j < l.length) (h : pairB (at_ l k) (at_ l j) = false) : pairsB l = false := by
  rw [← Bool.not_eq_true, pairsB_iff]
  intro hh
  rw [hh j k hk hj] at h
  cases h
theorem rightB_iff {C D T : Int} {l : List Sc} : rightB C D T l = true ↔ timesB C D T = true ∧ l.length ≤ 4 ∧ secsB C l = true ∧ pairsB l = true := by
  unfold rightB
  simp only [Bool.and_eq_true, decide_eq_true_eq, and_assoc]
theorem rightB_times {C D T : Int} {l : List Sc} (h : timesB C D T = false) : rightB C D T l = false := by simp [rightB, h]
theorem rightB_long {C D T : Int} {l : List Sc} (h : ¬ l.length ≤ 4) : rightB C D T l = false := by simp [rightB, h]
theorem rightB_secs {C D T : Int} {l : List Sc} (h : secsB C l = false) : rightB C D T l = false := by simp [rightB, h]
theorem rightB_pairs {C D T : Int} {l : List Sc} (h : pairsB l = false) : rightB C D T l = false := by simp [rightB, h]
theorem times_iff {C D T : Int} : timesB C D T = true ↔ 1 ≤ C ∧ C ≤ D ∧ D ≤ T ∧ T ≤ 200 := by simp [timesB]
theorem sec_iff {C : Int} {x : Sc} : secB C x = true ↔ 0 ≤ x.1 ∧ x.1 < 4 ∧ 0 ≤ x.2.1 ∧ 1 ≤ x.2.2 ∧ x.2.1 + x.2.2 ≤ C := by simp [secB]
theorem ord_iff {a s : Sc} : ordB a s = true ↔ (a.2.1 < s.2.1 ∨ a.2.1 = s.2.1 ∧ s.2.2 ≤ a.2.2) := by simp [ordB]
theorem pair_iff {a s : Sc} : pairB a s = true ↔ (a.2.1 < s.2.1 ∨ a.2.1 = s.2.1 ∧ s.2.2 ≤ a.2.2) ∧ (a.2.1 + a.2.2 ≤ s.2.1 ∨ s.2.1 + s.2.2 ≤ a.2.1 + a.2.2 ∧ s.1 ≠ a.1) := by
  simp [pairB, ordB, apartB, nestB]

/-- a section that is held -/
def holdB (had : Int) (x : Sc) : Bool := decide (x.2.1 < had) && decide (had < x.2.1 + x.2.2)
theorem hold_iff {had : Int} {x : Sc} : holdB had x = true ↔ x.2.1 < had ∧ had < x.2.1 + x.2.2 := by simp [holdB]
/-- what is held -/
def heldL (l : List Sc) (had : Int) : List Int := (l.filter (holdB had)).map (·.1)
theorem heldL_step {l : List Sc} {k : Nat} {had : Int} (h : k < l.length) : heldL (l.take (k + 1)) had = heldL (l.take k) had ++ (if holdB had (at_ l k) then [(at_ l k).1] else []) := by
  rw [take_succ_at h]
  unfold heldL
  rw [List.filter_append, List.map_append]
  congr 1
  cases hb : holdB had (at_ l k) <;> simp [hb]
theorem heldL_yes {l : List Sc} {k : Nat} {had : Int} (h : k < l.length) (hb : holdB had (at_ l k) = true) : heldL (l.take (k + 1)) had = heldL (l.take k) had ++ [(at_ l k).1] := by
  rw [heldL_step h, hb]; rfl
theorem heldL_no {l : List Sc} {k : Nat} {had : Int} (h : k < l.length) (hb : holdB had (at_ l k) = false) : heldL (l.take (k + 1)) had = heldL (l.take k) had := by
  rw [heldL_step h, hb]; simp
theorem heldL_length (l : List Sc) (had : Int) : (heldL l had).length ≤ l.length := by
  simp [heldL]; exact List.length_filter_le _ _

/-- a task that is valid, as facts -/
def Ok (C : Int) (l : List Sc) : Prop := (∀ x ∈ l, secB C x = true) ∧ l.Pairwise fun a s => pairB a s = true
theorem ok_of {C D T : Int} {l : List Sc} (h : rightB C D T l = true) : Ok C l := by
  obtain ⟨_, _, h3, h4⟩ := rightB_iff.1 h
  refine ⟨by simpa [secsB] using h3, ?_⟩
  rw [List.pairwise_iff_getElem]
  intro i j hi hj hij
  have := pairsB_iff.1 h4 j i hij hj
  rwa [at_get hi, at_get hj] at this

/-- P5.3 -/
theorem held_nodup {C : Int} {l : List Sc} (h : Ok C l) (had : Int) : (heldL l had).Pairwise fun a s => s ≠ a := by
  unfold heldL
  rw [List.pairwise_map]
  refine (h.2.filter (holdB had)).imp_of_mem ?_
  intro a s ha hs hp
  rw [List.mem_filter, hold_iff] at ha hs
  have := pair_iff.1 hp
  rcases this.2 with h1 | h1
  · exact absurd ha.2 (by omega)
  · exact h1.2
theorem held_uses {l : List Sc} {had : Int} {r : Int} (h : r ∈ heldL l had) : l.any (fun x => x.1 == r) = true := by
  obtain ⟨x, hx, rfl⟩ := List.mem_map.1 h
  rw [List.any_eq_true]
  exact ⟨x, (List.mem_filter.1 hx).1, by simp⟩
theorem held_none {C : Int} {l : List Sc} (h : Ok C l) {had : Int} (hh : had ≤ 0 ∨ C ≤ had) : heldL l had = [] := by
  unfold heldL
  rw [List.map_eq_nil_iff, List.filter_eq_nil_iff]
  intro x hx hb
  have h1 := sec_iff.1 (h.1 x hx)
  have h2 := hold_iff.1 hb
  omega

/-- P5.4 -/
def keptB (had : Int) (x : Sc) : Bool := holdB had x && holdB (had + 1) x
def endsB (had : Int) (x : Sc) : Bool := holdB had x && decide (x.2.1 + x.2.2 = had + 1)
def beganB (had : Int) (x : Sc) : Bool := holdB (had + 1) x && decide (x.2.1 = had)
theorem kept_iff {had : Int} {x : Sc} : keptB had x = true ↔ x.2.1 < had ∧ had + 1 < x.2.1 + x.2.2 := by
  simp [keptB, holdB]; omega
theorem ends_iff {had : Int} {x : Sc} : endsB had x = true ↔ x.2.1 < had ∧ x.2.1 + x.2.2 = had + 1 := by
  simp [endsB, holdB]; omega
theorem began_iff {had : Int} {x : Sc} : beganB had x = true ↔ x.2.1 = had ∧ had + 1 < x.2.1 + x.2.2 := by
  simp [beganB, holdB]; omega

theorem split_ahead {l : List Sc} {had : Int} (h : l.Pairwise fun a s => pairB a s = true) : l.filter (holdB had) = l.filter (keptB had) ++ l.filter (endsB had) := by
  induction l with
  | nil => rfl
  | cons x r ih =>
    obtain ⟨hx, hr⟩ := List.pairwise_cons.1 h
    have ih := ih hr
    cases hh : holdB had x with
    | false =>
      have h1 : keptB had x = false := by simp [keptB, hh]
      have h2 : endsB had x = false := by simp [endsB, hh]
      simp only [List.filter_cons, hh, h1, h2, Bool.false_eq_true, if_false]
      exact ih
    | true =>
      cases hk : keptB had x with
      | true =>
        have h2 : endsB had x = false := by
          rw [← Bool.not_eq_true, ends_iff]
          have := kept_iff.1 hk
          omega
        simp only [List.filter_cons, hh, hk, h2, Bool.false_eq_true, if_false, if_true, List.cons_append]
        rw [ih]
      | false =>
        have h1 := hold_iff.1 hh
        have hk' : ¬ (x.2.1 < had ∧ had + 1 < x.2.1 + x.2.2) := fun e => by rw [kept_iff.2 e] at hk; cases hk
        have h2 : endsB had x = true := ends_iff.2 (by omega)
        have h3 : r.filter (keptB had) = [] := by
          rw [List.filter_eq_nil_iff]
          intro y hy hb
          have h4 := kept_iff.1 hb
          have h5 := pair_iff.1 (hx y hy)
          omega
        simp only [List.filter_cons, hh, hk, h2, Bool.false_eq_true, if_false, if_true]
        rw [ih, h3]
        rfl
theorem split_behind {l : List Sc} {had : Int} (h : l.Pairwise fun a s => pairB a s = true) : l.filter (holdB (had + 1)) = l.filter (keptB had) ++ l.filter (beganB had) := by
  induction l with
  | nil => rfl
  | cons x r ih =>
    obtain ⟨hx, hr⟩ := List.pairwise_cons.1 h
    have ih := ih hr
    cases hh : holdB (had + 1) x with
    | false =>
      have h1 : keptB had x = false := by simp [keptB, hh]
      have h2 : beganB had x = false := by simp [beganB, hh]
      simp only [List.filter_cons, hh, h1, h2, Bool.false_eq_true, if_false]
      exact ih
    | true =>
      cases hk : keptB had x with
      | true =>
        have h2 : beganB had x = false := by
          rw [← Bool.not_eq_true, began_iff]
          have := kept_iff.1 hk
          omega
        simp only [List.filter_cons, hh, hk, h2, Bool.false_eq_true, if_false, if_true, List.cons_append]
        rw [ih]
      | false =>
        have h1 := hold_iff.1 hh
        have hk' : ¬ (x.2.1 < had ∧ had + 1 < x.2.1 + x.2.2) := fun e => by rw [kept_iff.2 e] at hk; cases hk
        have h2 : beganB had x = true := began_iff.2 (by omega)
        have h3 : r.filter (keptB had) = [] := by
          rw [List.filter_eq_nil_iff]
          intro y hy hb
          have h4 := kept_iff.1 hb
          have h5 := pair_iff.1 (hx y hy)
          omega
        simp only [List.filter_cons, hh, hk, h2, Bool.false_eq_true, if_false, if_true]
        rw [ih, h3]
        rfl

/-- behind the common beginning of two lists that begin alike -/
theorem behind_prefix {k e b : List Int} {n : Nat} (hx : (k ++ e).length ≤ n ∨ (k ++ b).length ≤ n ∨ (k ++ e).getD n 0 ≠ (k ++ b).getD n 0) : k.length ≤ n := by
  rcases hx with h | h | h
  · simp at h; omega
  · simp at h; omega
  · refine Nat.le_of_not_lt fun hlt => h ?_
    simp [List.getD_eq_getElem?_getD, List.getElem?_append_left hlt]
theorem getD_behind {k e : List Int} {i : Nat} (h : k.length ≤ i) (hi : i < (k ++ e).length) : (k ++ e).getD i 0 ∈ e := by
  rw [List.getD_eq_getElem?_getD, List.getElem?_append_right h]
  have : i - k.length < e.length := by simp at hi; omega
  rw [List.getElem?_eq_getElem this]
  exact List.getElem_mem this
theorem nests {l : List Sc} {had : Int} {n : Nat} (h : l.Pairwise fun a s => pairB a s = true)
    (hx : (heldL l had).length ≤ n ∨ (heldL l (had + 1)).length ≤ n ∨ (heldL l had).getD n 0 ≠ (heldL l (had + 1)).getD n 0) :
    (∀ i, n ≤ i → i < (heldL l (had + 1)).length → ∃ j, j < l.length ∧ (at_ l j).1 = (heldL l (had + 1)).getD i 0 ∧ (at_ l j).2.1 = had) ∧
    (∀ i, n ≤ i → i < (heldL l had).length → ∃ j, j < l.length ∧ (at_ l j).1 = (heldL l had).getD i 0 ∧ (at_ l j).2.1 + (at_ l j).2.2 = had + 1) := by
  have e1 : heldL l had = (l.filter (keptB had)).map (·.1) ++ (l.filter (endsB had)).map (·.1) := by
    unfold heldL; rw [split_ahead h, List.map_append]
  have e2 : heldL l (had + 1) = (l.filter (keptB had)).map (·.1) ++ (l.filter (beganB had)).map (·.1) := by
    unfold heldL; rw [split_behind h, List.map_append]
  rw [e1, e2] at hx
  have hk := behind_prefix hx
  constructor
  · intro i hi hl
    rw [e2] at hl ⊢
    have := getD_behind (by omega) hl
    obtain ⟨x, hx, he⟩ := List.mem_map.1 this
    obtain ⟨hm, hb⟩ := List.mem_filter.1 hx
    obtain ⟨j, hj, rfl⟩ := mem_at hm
    exact ⟨j, hj, he, (began_iff.1 hb).1⟩
  · intro i hi hl
    rw [e1] at hl ⊢
    have := getD_behind (by omega) hl
    obtain ⟨x, hx, he⟩ := List.mem_map.1 this
    obtain ⟨hm, hb⟩ := List.mem_filter.1 hx
    obtain ⟨j, hj, rfl⟩ := mem_at hm
    exact ⟨j, hj, he, (ends_iff.1 hb).2⟩

def allB (L : List Tsk) : Bool := decide (L.length ≤ 8) && L.all rightT
def sameB (a b : Tsk) : Bool := decide (a.1 = b.1 ∧ a.2.1 = b.2.1 ∧ a.2.2.1 = b.2.2.1 ∧ a.2.2.2 = b.2.2.2)

end Tk
end Go.Proofs.Ytdjjdebnbaaihaa

/-
  Layer 5 (task): sections and tasks in memory: the cells of a slice's elements; a section or a task in a block of its own.
-/
namespace Go.Proofs.Ytdjjdebnbaaihaa
open Go.RowKit Mm
namespace Tk

/-- the cells of a section -/
theorem rd_sec {w : World} {S : Nat → Prop} {vs : List Value} {x : Sc} : Dat.rd w S vs x ↔ vs = [.int .i64 x.1, .int .i64 x.2.1, .int .i64 x.2.2] ∧ Fit x.1 ∧ Fit x.2.1 ∧ Fit x.2.2 := by
  constructor
  · rintro ⟨v, r, rfl, ⟨rfl, h1⟩, v2, r2, rfl, ⟨rfl, h2⟩, rfl, h3⟩
    exact ⟨rfl, h1, h2, h3⟩
  · rintro ⟨rfl, h1, h2, h3⟩
    exact ⟨[.int .i64 x.1], [.int .i64 x.2.1, .int .i64 x.2.2], rfl, ⟨rfl, h1⟩, [.int .i64 x.2.1], [.int .i64 x.2.2], rfl, ⟨rfl, h2⟩, rfl, h3⟩
theorem k_sec : Dat.k Sc = 3 := rfl
theorem sec_at {w : World} {S : Nat → Prop} {A : Option Addr} {c : Nat} {l : List Sc} (h : RdS w S A c l) (h0 : 0 < l.length) : ∃ b off, A = some ⟨b, off, none⟩ ∧ ∀ j, j < l.length →
    w.cell? ⟨b, off + j * 3, none⟩ = some (.int .i64 (at_ l j).1) ∧ w.cell? ⟨b, off + j * 3 + 1, none⟩ = some (.int .i64 (at_ l j).2.1) ∧ w.cell? ⟨b, off + j * 3 + 2, none⟩ = some (.int .i64 (at_ l j).2.2) ∧ Fit (at_ l j).1 ∧ Fit (at_ l j).2.1 ∧ Fit (at_ l j).2.2 := by
  obtain ⟨b, off, e, hc⟩ := h.cells h0
  refine ⟨b, off, e, fun j hj => ?_⟩
  obtain ⟨vs, h1, h2⟩ := hc j hj
  obtain ⟨rfl, f1, f2, f3⟩ := rd_sec.1 h1
  exact ⟨h2 0 _ rfl, h2 1 _ rfl, h2 2 _ rfl, f1, f2, f3⟩
theorem sec_fit {w : World} {S : Nat → Prop} {A : Option Addr} {c : Nat} {l : List Sc} (h : RdS w S A c l) {j : Nat} (hj : j < l.length) : Fit (at_ l j).1 ∧ Fit (at_ l j).2.1 ∧ Fit (at_ l j).2.2 := by
  obtain ⟨b, off, _, hc⟩ := sec_at h (by omega)
  exact (hc j hj).2.2.2
/-- the cells of a task -/
theorem rd_task {w : World} {S : Nat → Prop} {vs : List Value} {x : Tsk} : Dat.rd w S vs x ↔ ∃ B d, vs = [.int .i64 x.1, .int .i64 x.2.1, .int .i64 x.2.2.1, .slice B x.2.2.2.length d] ∧ Fit x.1 ∧ Fit x.2.1 ∧ Fit x.2.2.1 ∧ RdS w S B d x.2.2.2 := by
  constructor
  · rintro ⟨v, r, rfl, ⟨rfl, h1⟩, v2, r2, rfl, ⟨rfl, h2⟩, v3, r3, rfl, ⟨rfl, h3⟩, B, d, rfl, h4⟩
    exact ⟨B, d, rfl, h1, h2, h3, h4⟩
  · rintro ⟨B, d, rfl, h1, h2, h3, h4⟩
    exact ⟨[.int .i64 x.1], [.int .i64 x.2.1, .int .i64 x.2.2.1, .slice B x.2.2.2.length d], rfl, ⟨rfl, h1⟩, [.int .i64 x.2.1], [.int .i64 x.2.2.1, .slice B x.2.2.2.length d], rfl, ⟨rfl, h2⟩, [.int .i64 x.2.2.1], [.slice B x.2.2.2.length d], rfl, ⟨rfl, h3⟩, B, d, rfl, h4⟩
theorem k_task : Dat.k Tsk = 4 := rfl
theorem task_at {w : World} {S : Nat → Prop} {A : Option Addr} {c : Nat} {l : List Tsk} (h : RdS w S A c l) (h0 : 0 < l.length) : ∃ b off, A = some ⟨b, off, none⟩ ∧ ∀ j, j < l.length → ∃ B d,
    w.cell? ⟨b, off + j * 4, none⟩ = some (.int .i64 (at_ l j).1) ∧ w.cell? ⟨b, off + j * 4 + 1, none⟩ = some (.int .i64 (at_ l j).2.1) ∧ w.cell? ⟨b, off + j * 4 + 2, none⟩ = some (.int .i64 (at_ l j).2.2.1) ∧
      w.cell? ⟨b, off + j * 4 + 3, none⟩ = some (.slice B (at_ l j).2.2.2.length d) ∧ Fit (at_ l j).1 ∧ Fit (at_ l j).2.1 ∧ Fit (at_ l j).2.2.1 ∧ RdS w S B d (at_ l j).2.2.2 := by
  obtain ⟨b, off, e, hc⟩ := h.cells h0
  refine ⟨b, off, e, fun j hj => ?_⟩
  obtain ⟨vs, h1, h2⟩ := hc j hj
  obtain ⟨B, d, rfl, f1, f2, f3, r⟩ := rd_task.1 h1
  exact ⟨B, d, h2 0 _ rfl, h2 1 _ rfl, h2 2 _ rfl, h2 3 _ rfl, f1, f2, f3, r⟩

/-- a task in a block of its own -/
def Box (w : World) (X : Nat) (C D T : Int) (A : Option Addr) (n c : Nat) : Prop :=
  w.cell? ⟨X, 0, none⟩ = some (.int .i64 C) ∧ w.cell? ⟨X, 1, none⟩ = some (.int .i64 D) ∧ w.cell? ⟨X, 2, none⟩ = some (.int .i64 T) ∧ w.cell? ⟨X, 3, none⟩ = some (.slice A n c)
theorem Box.below {w w' : World} {X : Nat} {C D T : Int} {A : Option Addr} {n c : Nat} (h : Box w X C D T A n c) (hb : Below w.heap.size w w') : Box w' X C D T A n c :=
  ⟨cell_below hb h.1, cell_below hb h.2.1, cell_below hb h.2.2.1, cell_below hb h.2.2.2⟩
theorem box_new (w : World) (C D T : Int) (A : Option Addr) (n c : Nat) : Box (w.alloc (.cells #[.int .i64 C, .int .i64 D, .int .i64 T, .slice A n c] 33)) w.heap.size C D T A n c := by
  refine ⟨?_, ?_, ?_, ?_⟩ <;> simp
/-- a section in a block of its own -/
def Bx (w : World) (X : Nat) (x : Sc) : Prop :=
  w.cell? ⟨X, 0, none⟩ = some (.int .i64 x.1) ∧ w.cell? ⟨X, 1, none⟩ = some (.int .i64 x.2.1) ∧ w.cell? ⟨X, 2, none⟩ = some (.int .i64 x.2.2)
theorem Bx.below {w w' : World} {X : Nat} {x : Sc} (h : Bx w X x) (hb : Below w.heap.size w w') : Bx w' X x :=
  ⟨cell_below hb h.1, cell_below hb h.2.1, cell_below hb h.2.2⟩
theorem bx_new (w : World) (x : Sc) : Bx (w.alloc (.cells #[.int .i64 x.1, .int .i64 x.2.1, .int .i64 x.2.2] 80)) w.heap.size x := by
  refine ⟨?_, ?_, ?_⟩ <;> simp
theorem bx_at (w : World) (x : Sc) (X : Nat) (h : w.heap.size = X) : Bx (w.alloc (.cells #[.int .i64 x.1, .int .i64 x.2.1, .int .i64 x.2.2] 80)) X x := h ▸ bx_new w x
theorem box_at (w : World) (C D T : Int) (A : Option Addr) (n c : Nat) (X : Nat) (h : w.heap.size = X) : Box (w.alloc (.cells #[.int .i64 C, .int .i64 D, .int .i64 T, .slice A n c] 33)) X C D T A n c := h ▸ box_new w C D T A n c

end Tk
end Go.Proofs.Ytdjjdebnbaaihaa

/-
  Tasks and sections written as literals, in new memory.
-/
namespace Go.Proofs.Ytdjjdebnbaaihaa
open Go.RowKit Mm
namespace Tk

theorem rows_none {α : Type} [Dat α] {w : World} {S : Nat → Prop} : Mm.Rows w S [] ([] : List α) := rfl
theorem rows_sec {w : World} {S : Nat → Prop} {r : List Value} {l : List Sc} (x : Sc) (f1 : Fit x.1) (f2 : Fit x.2.1) (f3 : Fit x.2.2) (h : Mm.Rows w S r l) : Mm.Rows w S (.int .i64 x.1 :: .int .i64 x.2.1 :: .int .i64 x.2.2 :: r) (x :: l) :=
  ⟨[.int .i64 x.1, .int .i64 x.2.1, .int .i64 x.2.2], r, rfl, rd_sec.2 ⟨rfl, f1, f2, f3⟩, h⟩
theorem rows_task {w : World} {S : Nat → Prop} {r : List Value} {l : List Tsk} (x : Tsk) {n : Nat} (hn : x.2.2.2.length = n) {B : Option Addr} {d : Nat} (f1 : Fit x.1) (f2 : Fit x.2.1) (f3 : Fit x.2.2.1) (hs : RdS w S B d x.2.2.2) (h : Mm.Rows w S r l) : Mm.Rows w S (.int .i64 x.1 :: .int .i64 x.2.1 :: .int .i64 x.2.2.1 :: .slice B n d :: r) (x :: l) := by
  subst hn
  exact ⟨[.int .i64 x.1, .int .i64 x.2.1, .int .i64 x.2.2.1, .slice B x.2.2.2.length d], r, rfl, rd_task.2 ⟨B, d, rfl, f1, f2, f3, hs⟩, h⟩
theorem rd_lit {α : Type} [Inhabited α] [Dat α] (w : World) (l : List α) (n : Nat) (hn : l.length = n) (cs : Array Value) (e : TypeId) (hm : n ≤ 1000000) (h : Mm.Rows (w.alloc (.cells cs e)) (fun _ => True) cs.toList l) : Rd (w.alloc (.cells cs e)) (some ⟨w.heap.size, 0, none⟩) n l := by
  subst hn
  exact (ow_lit w (fun _ => True) w.heap.size e cs (Nat.le_refl _) hm h).rd
theorem fit_small {x : Int} (h : decide (0 ≤ x ∧ x ≤ 1000000) = true) : Fit x := by
  have := of_decide_eq_true h
  exact ⟨by omega, by omega⟩

end Tk
end Go.Proofs.Ytdjjdebnbaaihaa

/-
  Tasks in a slice of the call's own: append, a literal of one task.
-/
namespace Go.Proofs.Ytdjjdebnbaaihaa
open Go.RowKit Mm
namespace Tk

theorem slTask : SlT Try.prog 22 33 (Dat.k Tsk) := slT_of Try.underlying22 (show _ = some (some (.agg #[.int .i64 0, .int .i64 0, .int .i64 0, .slice none 0 0]), 4, 48) by kernel_rfl) rfl (by omega)
theorem slTaskB : SlB Try.prog 22 33 (Dat.k Tsk) 48 := slB_of Try.underlying22 (show _ = some (some (.agg #[.int .i64 0, .int .i64 0, .int .i64 0, .slice none 0 0]), 4, 48) by kernel_rfl) rfl
/-- a literal of one task, told by its cells, in another block than a slice -/
theorem lit_else {w : World} {A1 : Option Addr} {Y : Nat} {x : Tsk} {B : Option Addr} {d : Nat} (f1 : Fit x.1) (f2 : Fit x.2.1) (f3 : Fit x.2.2.1) (hb : Box w Y x.1 x.2.1 x.2.2.1 B x.2.2.2.length d) (hne : A1 ≠ some ⟨Y, 0, none⟩) (hr : RdS w (Else w A1) B d x.2.2.2) :
    RdS w (Else w A1) (some ⟨Y, 0, none⟩) 1 [x] := by
  refine ⟨fun h => (by cases h), ⟨Nat.le_refl _, by decide⟩, fun _ => ⟨Y, 0, rfl, ⟨lt_of_cell hb.1, hne⟩, fun j hj => ?_⟩⟩
  have : j = 0 := by simpa using hj
  subst this
  refine ⟨_, rd_task.2 ⟨B, d, rfl, f1, f2, f3, hr⟩, fun i v hv => ?_⟩
  obtain ⟨h1, h2, h3, h4⟩ := hb
  match i, hv with
  | 0, hv => injection hv with hv; subst hv; exact h1
  | 1, hv => injection hv with hv; subst hv; exact h2
  | 2, hv => injection hv with hv; subst hv; exact h3
  | 3, hv => injection hv with hv; subst hv; exact h4
  | i + 4, hv => simp at hv
theorem Box.gb {w w' : World} {X : Nat} {C D T : Int} {A : Option Addr} {n c : Nat} {row : Option Nat} (h : Box w X C D T A n c) (hg : w.grownBy w' row) (hne : some X ≠ row) : Box w' X C D T A n c :=
  ⟨gb_cell hg h.1 hne, gb_cell hg h.2.1 hne, gb_cell hg h.2.2.1 hne, gb_cell hg h.2.2.2 hne⟩

end Tk
end Go.Proofs.Ytdjjdebnbaaihaa

/-
  Tasks as an argument.
-/
namespace Go.Proofs.Ytdjjdebnbaaihaa
open Go.RowKit Mm
namespace Tk

/-- tasks as an argument: as many as may be, each of as many sections as may be -/
def TL (w : World) (A : Option Addr) (c : Nat) (L : List Tsk) : Prop := L.length ≤ 1000000 ∧ (∀ j, j < L.length → (at_ L j).2.2.2.length ≤ 1000000) ∧ Rd w A c L
theorem TL.below {w w' : World} {A : Option Addr} {c : Nat} {L : List Tsk} (H : TL w A c L) (b : Below w.heap.size w w') : TL w' A c L := ⟨H.1, H.2.1, H.2.2.below b⟩
theorem TL.bw {w : World} {A : Option Addr} {c : Nat} {L : List Tsk} (H : TL w A c L) (p : BW w) : TL p.to A c L := H.below p.low
theorem TL.take {w : World} {A : Option Addr} {c : Nat} {L : List Tsk} (H : TL w A c L) (k : Nat) : TL w A c (L.take k) := ⟨by have := H.1; rw [List.length_take]; omega, fun j hj => by
  rw [List.length_take] at hj
  rw [at_take (by omega)]
  exact H.2.1 j (by omega), H.2.2.front k⟩
theorem tl_nil (w : World) (A : Option Addr) (c : Nat) (h : A = none → c = 0) (hm : c ≤ maxLen) : TL w A c [] := ⟨by simp, fun j hj => by simp at hj, rd_nil h hm⟩
theorem TL.drop {w : World} {b off c : Nat} {L : List Tsk} (H : TL w (some ⟨b, off, none⟩) c L) (k : Nat) (hk : k ≤ L.length) : TL w (some ⟨b, off + k * 4, none⟩) (c - k) (L.drop k) := ⟨by have := H.1; rw [List.length_drop]; omega, fun j hj => by
  rw [List.length_drop] at hj
  rw [at_drop]
  exact H.2.1 (k + j) (by omega), by
  have h1 := H.2.2.le
  have h2 := H.2.2.max
  exact RdS.back H.2.2 k (c - k) (by omega) (by omega)⟩

end Tk
end Go.Proofs.Ytdjjdebnbaaihaa

/-
  Layer 5 (task): what the small calls answer: end, inOrder, apart, nested, validTimes.
-/
namespace Go.Proofs.Ytdjjdebnbaaihaa
open Go.RowKit Mm
namespace Tk

theorem end_any (x : Sc) (w : World) (h0 : 0 ≤ x.2.1) (h1 : 0 ≤ x.2.2) (h2 : x.2.1 + x.2.2 ≤ 200) :
    Calls Try.prog 69 #[.agg #[.int .i64 x.1, .int .i64 x.2.1, .int .i64 x.2.2]] w fun e w' => e = .returned (.int .i64 (x.2.1 + x.2.2)) ∧ Below w.heap.size w w' := by
  go_enter Try.func69, Try.ntmps69
  go_wp2
  go_ret
  refine ⟨ret_int ?_, below_one _ _⟩
  go_num

theorem end_n (r a n : Int) (w : World) (h0 : 0 ≤ a) (h1 : 0 ≤ n) (h2 : a + n ≤ 200) :
    Calls Try.prog 69 #[.agg #[.int .i64 r, .int .i64 a, .int .i64 n]] w fun e w' => e = .returned (.int .i64 (a + n)) ∧ Below w.heap.size w w' := end_any (r, a, n) w h0 h1 h2

theorem inOrder_any (x y : Sc) (w : World) :
    Calls Try.prog 61 #[.agg #[.int .i64 x.1, .int .i64 x.2.1, .int .i64 x.2.2], .agg #[.int .i64 y.1, .int .i64 y.2.1, .int .i64 y.2.2]] w fun e w' => e = .returned (.bool (ordB x y)) ∧ Below w.heap.size w w' := by
  go_enter Try.func61, Try.ntmps61
  go_wp2
  all_goals
    go_ret
    refine ⟨ret_bool ?_, below_two _ _ _⟩
    rw [Bool.eq_iff_iff]; simp [ordB]; omega

theorem validTimes_any (C D T : Int) (V : Value) (w : World) :
    Calls Try.prog 46 #[.agg #[.int .i64 C, .int .i64 D, .int .i64 T, V]] w fun e w' => e = .returned (.bool (timesB C D T)) ∧ Below w.heap.size w w' := by
  go_enter Try.func46, Try.ntmps46
  go_wp2
  all_goals
    go_ret
    refine ⟨ret_bool ?_, below_one _ _⟩
    rw [Bool.eq_iff_iff]; simp [timesB]; omega

theorem apart_any (x y : Sc) (w : World) (h0 : 0 ≤ x.2.1) (h1 : 0 ≤ x.2.2) (h2 : x.2.1 + x.2.2 ≤ 200) :
    Calls Try.prog 62 #[.agg #[.int .i64 x.1, .int .i64 x.2.1, .int .i64 x.2.2], .agg #[.int .i64 y.1, .int .i64 y.2.1, .int .i64 y.2.2]] w fun e w' => e = .returned (.bool (apartB x y)) ∧ Below w.heap.size w w' := by
  go_enter Try.func62, Try.ntmps62
  go_wp2_with fail
  have B0 := Lib.hid (below_two w (Obj.cells #[.int .i64 x.1, .int .i64 x.2.1, .int .i64 x.2.2] 80) (Obj.cells #[.int .i64 y.1, .int .i64 y.2.1, .int .i64 y.2.2] 80))
  obtain ⟨x1, x2, x3⟩ := (bx_new w x).below (below_one _ (Obj.cells #[.int .i64 y.1, .int .i64 y.2.1, .int .i64 y.2.2] 80))
  obtain ⟨y1, y2, y3⟩ := bx_at (w.alloc (Obj.cells #[.int .i64 x.1, .int .i64 x.2.1, .int .i64 x.2.2] 80)) y (w.heap.size + 1) (by simp)
  generalize (w.alloc (Obj.cells #[.int .i64 x.1, .int .i64 x.2.1, .int .i64 x.2.2] 80)).alloc (Obj.cells #[.int .i64 y.1, .int .i64 y.2.1, .int .i64 y.2.2] 80) = w0 at *
  replace x1 := cell_bw x1
  replace x2 := cell_bw x2
  replace x3 := cell_bw x3
  replace y1 := cell_bw y1
  replace y2 := cell_bw y2
  replace y3 := cell_bw y3
  refine wp_region_bw (by kernel_rfl) (by kernel_rfl) ?_
  repeat
    (with_reducible refine wpQuiet_step (fun K hK => ?_)
     go_simp
     first
       | (with_reducible refine hK _ ?_
          clear hK K)
       | (rw [if_neg]
          rotate_left
          focus (intro h; cases h; done)
          with_reducible refine hK _ ?_
          clear hK K)
       | (apply Exists.intro
          refine ⟨fun _ => ?_, hK _ ?_⟩
          (exact Calls.bw (end_any x _ h0 h1 h2))
          clear hK K))
  with_reducible refine wpQuiet_nil ?_
  intro wb hw'
  obtain ⟨⟨wb', lb⟩, hw''⟩ := hw'
  subst hw''
  go_wp2_with fail
  go_ret
  exact ⟨rfl, below_step B0.out lb⟩

theorem nested_any (x y : Sc) (w : World) (h0 : 0 ≤ x.2.1) (h1 : 0 ≤ x.2.2) (h2 : x.2.1 + x.2.2 ≤ 200) (k0 : 0 ≤ y.2.1) (k1 : 0 ≤ y.2.2) (k2 : y.2.1 + y.2.2 ≤ 200) :
    Calls Try.prog 63 #[.agg #[.int .i64 x.1, .int .i64 x.2.1, .int .i64 x.2.2], .agg #[.int .i64 y.1, .int .i64 y.2.1, .int .i64 y.2.2]] w fun e w' => e = .returned (.bool (nestB x y)) ∧ Below w.heap.size w w' := by
  cases hle : decide (y.2.1 + y.2.2 ≤ x.2.1 + x.2.2)
  all_goals
    go_enter Try.func63, Try.ntmps63
    go_wp2_with fail
    have B0 := Lib.hid (below_two w (Obj.cells #[.int .i64 x.1, .int .i64 x.2.1, .int .i64 x.2.2] 80) (Obj.cells #[.int .i64 y.1, .int .i64 y.2.1, .int .i64 y.2.2] 80))
    obtain ⟨x1, x2, x3⟩ := (bx_new w x).below (below_one _ (Obj.cells #[.int .i64 y.1, .int .i64 y.2.1, .int .i64 y.2.2] 80))
    obtain ⟨y1, y2, y3⟩ := bx_at (w.alloc (Obj.cells #[.int .i64 x.1, .int .i64 x.2.1, .int .i64 x.2.2] 80)) y (w.heap.size + 1) (by simp)
    generalize (w.alloc (Obj.cells #[.int .i64 x.1, .int .i64 x.2.1, .int .i64 x.2.2] 80)).alloc (Obj.cells #[.int .i64 y.1, .int .i64 y.2.1, .int .i64 y.2.2] 80) = w0 at *
    replace x1 := cell_bw x1
    replace x2 := cell_bw x2
    replace x3 := cell_bw x3
    replace y1 := cell_bw y1
    replace y2 := cell_bw y2
    replace y3 := cell_bw y3
    refine wp_region_bw (by kernel_rfl) (by kernel_rfl) ?_
    repeat
      (with_reducible refine wpQuiet_step (fun K hK => ?_)
       go_simp
       first
         | (with_reducible refine hK _ ?_
            clear hK K)
         | (rw [if_neg]
            rotate_left
            focus (intro h; cases h; done)
            with_reducible refine hK _ ?_
            clear hK K)
         | (apply Exists.intro
            refine ⟨fun _ => ?_, hK _ ?_⟩
            (exact Calls.bw (end_n _ _ _ _ (by omega) (by omega) (by omega)))
            clear hK K))
    with_reducible refine wpQuiet_nil ?_
    intro wb hw'
    obtain ⟨⟨wb', lb⟩, hw''⟩ := hw'
    subst hw''
    go_wp2_with fail
    go_ret
    exact ⟨ret_bool (by have hle := hle; simp at hle; rw [Bool.eq_iff_iff]; simp [nestB]; omega), below_step B0.out lb⟩

end Tk
end Go.Proofs.Ytdjjdebnbaaihaa

/-
  Layer 5 (task): validSecs.
-/
namespace Go.Proofs.Ytdjjdebnbaaihaa
open Go.RowKit Mm
namespace Tk

set_option maxHeartbeats 800000 in
theorem validSecs_any (C D T : Int) (A : Option Addr) (c : Nat) (l : List Sc) (w : World) (hC0 : 1 ≤ C) (hC1 : C ≤ 200) (hbig : l.length ≤ 1000000) (hr : Rd w A c l) :
    Calls Try.prog 47 #[.agg #[.int .i64 C, .int .i64 D, .int .i64 T, .slice A l.length c]] w fun e w' => e = .returned (.bool (secsB C l)) ∧ Below w.heap.size w w' := by
  have hR := hr.alloc (Obj.cells #[.int .i64 C, .int .i64 D, .int .i64 T, .slice A l.length c] 33)
  obtain ⟨t1, t2, t3, t4⟩ := box_new w C D T A l.length c
  have b0 := below_one w (Obj.cells #[.int .i64 C, .int .i64 D, .int .i64 T, .slice A l.length c] 33)
  clear hr
  go_enter Try.func47, Try.ntmps47
  go_wp2_with fail
  have HR := Lib.hid hR
  have B0 := Lib.hid b0
  clear hR b0
  generalize w.alloc (Obj.cells #[.int .i64 C, .int .i64 D, .int .i64 T, .slice A l.length c] 33) = w0 at *
  go_loopw [8] (fun i wr => ∃ k : Nat, i = .int .i64 k ∧ k ≤ l.length ∧ Hid (∀ j, j < k → secB C (at_ l j) = true) ∧ Hid (Below w0.heap.size w0 wr)) (fun i _ => l.length - (intOf i).toNat)
  case atStart => exact ⟨0, rfl, Nat.zero_le _, (fun j h1 => by omega), Below.refl _ _⟩
  case round =>
    obtain ⟨k, rfl, hk, HH, HB⟩ := hrel
    have t1 := cell_below HB.out t1
    by_cases hlt : k < l.length
    · obtain ⟨b, off, rfl, hc⟩ := sec_at (HR.out.below HB.out) (by omega)
      obtain ⟨x1, x2, x3, f1, f2, f3⟩ := hc k hlt
      have B1 := Lib.hid (below_step HB.out (below_one wr (Obj.cells #[.int .i64 (at_ l k).1, .int .i64 (at_ l k).2.1, .int .i64 (at_ l k).2.2] 80)))
      have y1 := cell_new t1 (Obj.cells #[.int .i64 (at_ l k).1, .int .i64 (at_ l k).2.1, .int .i64 (at_ l k).2.2] 80)
      clear hc t2 t3 t4
      unfold Fit at f1 f2 f3
      cases hs : secB C (at_ l k) with
      | false =>
        have HF := Lib.hid (secsB_false hlt hs)
        have HS : Hid ¬ (0 ≤ (at_ l k).1 ∧ (at_ l k).1 < 4 ∧ 0 ≤ (at_ l k).2.1 ∧ 1 ≤ (at_ l k).2.2 ∧ (at_ l k).2.1 + (at_ l k).2.2 ≤ C) := fun h => by rw [sec_iff.2 h] at hs; cases hs
        clear hs
        generalize at_ l k = x at *
        go_wp2
        all_goals first
          | (go_ret; exact ⟨ret_bool HF.out.symm, below_step B0.out B1.out⟩)
          | (exfalso; have := HS.out; omega)
      | true =>
        obtain ⟨s1, s2, s3, s4, s5⟩ := sec_iff.1 hs
        have HS := Lib.hid hs
        clear hs
        generalize hx : at_ l k = x at *
        have HX := Lib.hid hx
        clear hx
        go_wp2
        go_roundw
        case rel =>
          refine ⟨k + 1, by go_num, hlt, ?_, B1⟩
          intro j hj
          by_cases e : j = k
          · subst e; rw [HX.out]; exact HS.out
          · exact HH.out j (by omega)
        case measure => simp [intOf]; omega
    · go_wp2
      go_ret
      exact ⟨ret_bool (secsB_iff.2 fun j hj => HH.out j (by omega)).symm, below_step B0.out HB.out⟩

end Tk
end Go.Proofs.Ytdjjdebnbaaihaa

/-
  Layer 5 (task): validPairs.
-/
namespace Go.Proofs.Ytdjjdebnbaaihaa
open Go.RowKit Mm
namespace Tk

theorem inOrder_r (x y : Sc) (r : Bool) (h : ordB x y = r) (w : World) :
    Calls Try.prog 61 #[.agg #[.int .i64 x.1, .int .i64 x.2.1, .int .i64 x.2.2], .agg #[.int .i64 y.1, .int .i64 y.2.1, .int .i64 y.2.2]] w fun e w' => e = .returned (.bool r) ∧ Below w.heap.size w w' := by
  subst h; exact inOrder_any x y w
theorem apart_r (x y : Sc) (r : Bool) (h : apartB x y = r) (w : World) (h0 : 0 ≤ x.2.1) (h1 : 0 ≤ x.2.2) (h2 : x.2.1 + x.2.2 ≤ 200) :
    Calls Try.prog 62 #[.agg #[.int .i64 x.1, .int .i64 x.2.1, .int .i64 x.2.2], .agg #[.int .i64 y.1, .int .i64 y.2.1, .int .i64 y.2.2]] w fun e w' => e = .returned (.bool r) ∧ Below w.heap.size w w' := by
  subst h; exact apart_any x y w h0 h1 h2
theorem nested_r (x y : Sc) (r : Bool) (h : nestB x y = r) (w : World) (h0 : 0 ≤ x.2.1) (h1 : 0 ≤ x.2.2) (h2 : x.2.1 + x.2.2 ≤ 200) (k0 : 0 ≤ y.2.1) (k1 : 0 ≤ y.2.2) (k2 : y.2.1 + y.2.2 ≤ 200) :
    Calls Try.prog 63 #[.agg #[.int .i64 x.1, .int .i64 x.2.1, .int .i64 x.2.2], .agg #[.int .i64 y.1, .int .i64 y.2.1, .int .i64 y.2.2]] w fun e w' => e = .returned (.bool r) ∧ Below w.heap.size w w' := by
  subst h; exact nested_any x y w h0 h1 h2 k0 k1 k2

/-- the sections that are known to be in order: those ahead of k with all behind them; that at k with m of them -/
def Upto (l : List Sc) (k m : Nat) : Prop := (∀ i j, i < k → i < j → j < l.length → pairB (at_ l i) (at_ l j) = true) ∧ ∀ j, j < m → pairB (at_ l k) (at_ l (k + 1 + j)) = true
theorem Upto.step {l : List Sc} {k m : Nat} (h : Upto l k m) (hp : pairB (at_ l k) (at_ l (k + 1 + m)) = true) : Upto l k (m + 1) := ⟨h.1, fun j hj => by
  by_cases e : j = m
  · subst e; exact hp
  · exact h.2 j (by omega)⟩
theorem Upto.next {l : List Sc} {k m : Nat} (h : Upto l k m) (hm : l.length ≤ k + 1 + m) : Upto l (k + 1) 0 := ⟨fun i j hi hij hj => by
  by_cases e : i = k
  · subst e
    have := h.2 (j - (i + 1)) (by omega)
    rwa [show i + 1 + (j - (i + 1)) = j from by omega] at this
  · exact h.1 i j (by omega) hij hj, fun j hj => by omega⟩
theorem Upto.all {l : List Sc} {k : Nat} (h : Upto l k 0) (hk : l.length ≤ k) : pairsB l = true := pairsB_iff.2 fun j i hij hj => h.1 i j (by omega) hij hj

set_option maxHeartbeats 1600000 in
theorem validPairs_any (A : Option Addr) (c : Nat) (l : List Sc) (w : World) (hbig : l.length ≤ 1000000) (hr : Rd w A c l) (ht : ∀ j, j < l.length → 0 ≤ (at_ l j).2.1 ∧ 0 ≤ (at_ l j).2.2 ∧ (at_ l j).2.1 + (at_ l j).2.2 ≤ 200) :
    Calls Try.prog 48 #[.slice A l.length c] w fun e w' => e = .returned (.bool (pairsB l)) ∧ Below w.heap.size w w' := by
  have hlc := hr.le
  have HR := Lib.hid hr
  have HT := Lib.hid ht
  clear hr ht
  go_enter Try.func48, Try.ntmps48
  go_wp2
  go_step3
  go_wp2
  go_step3
  go_wp2
  go_loopg [3, 10] l.length (fun g v i wr => ∃ k : Nat, v = .bool true ∧ i = .int .i64 k ∧ k + g = l.length ∧ Hid (Upto l k 0) ∧ Hid (Below w.heap.size w wr))
  case atStart => exact ⟨0, rfl, rfl, by omega, ⟨fun i j h => by omega, fun j h => by omega⟩, Below.refl _ _⟩
  case round =>
    obtain ⟨k, rfl, rfl, hk, HH, HB⟩ := hrel
    generalize gk = G at *
    by_cases hlt : k < l.length
    · obtain ⟨b, off, rfl, hc⟩ := sec_at (HR.out.below HB.out) (by omega)
      obtain ⟨x1, x2, x3, f1, f2, f3⟩ := hc k hlt
      have B1 := Lib.hid (below_step HB.out (below_one wr (Obj.cells #[.int .i64 (at_ l k).1, .int .i64 (at_ l k).2.1, .int .i64 (at_ l k).2.2] 80)))
      obtain ⟨y1, y2, y3⟩ := bx_new wr (at_ l k)
      have hRk := HR.out.below B1.out
      clear hc
      by_cases hlast : k + 1 < l.length
      · go_wp2_with fail
        have HRK := Lib.hid hRk
        clear hRk
        generalize wr.alloc (Obj.cells #[.int .i64 (at_ l k).1, .int .i64 (at_ l k).2.1, .int .i64 (at_ l k).2.2] 80) = w1 at *
        generalize wr.heap.size = X at *
        clear x1 x2 x3 HB
        go_loopg [3, 20] (l.length - (k + 1)) (fun g v i wy => ∃ m : Nat, v = .bool true ∧ i = .int .i64 m ∧ k + 1 + m + g = l.length ∧ Hid (Upto l k m) ∧ Hid (Below w1.heap.size w1 wy))
        case atStart => exact ⟨0, rfl, rfl, by omega, HH.out, Below.refl _ _⟩
        case round =>
          rename_i gi _ _ _
          obtain ⟨m, rfl, rfl, hm, HU, HY⟩ := hrel
          by_cases hmt : k + 1 + m < l.length
          · obtain ⟨b', off', e, hc⟩ := sec_at (HRK.out.below HY.out) (by omega)
            injection e with e
            injection e with e1 e2
            subst e1
            subst e2
            obtain ⟨z1, z2, z3, _, _, _⟩ := hc (k + 1 + m) hmt
            rw [show off + (k + 1 + m) * 3 = off + (k + 1) * 3 + m * 3 from by omega] at z1 z2 z3
            obtain ⟨g1, g2, g3⟩ := HT.out k hlt
            obtain ⟨g4, g5, g6⟩ := HT.out (k + 1 + m) hmt
            have B2 := Lib.hid (below_step HY.out (below_one wr (Obj.cells #[.int .i64 (at_ l (k + 1 + m)).1, .int .i64 (at_ l (k + 1 + m)).2.1, .int .i64 (at_ l (k + 1 + m)).2.2] 80)))
            have p1 := cell_new (cell_below HY.out y1) (Obj.cells #[.int .i64 (at_ l (k + 1 + m)).1, .int .i64 (at_ l (k + 1 + m)).2.1, .int .i64 (at_ l (k + 1 + m)).2.2] 80)
            have p2 := cell_new (cell_below HY.out y2) (Obj.cells #[.int .i64 (at_ l (k + 1 + m)).1, .int .i64 (at_ l (k + 1 + m)).2.1, .int .i64 (at_ l (k + 1 + m)).2.2] 80)
            have p3 := cell_new (cell_below HY.out y3) (Obj.cells #[.int .i64 (at_ l (k + 1 + m)).1, .int .i64 (at_ l (k + 1 + m)).2.1, .int .i64 (at_ l (k + 1 + m)).2.2] 80)
            obtain ⟨v1, v2, v3⟩ := bx_new wr (at_ l (k + 1 + m))
            have HS : Hid (Upto l k m → pairB (at_ l k) (at_ l (k + 1 + m)) = true → Upto l k (m + 1)) := fun h h' => h.step h'
            have HF : Hid (pairB (at_ l k) (at_ l (k + 1 + m)) = false → pairsB l = false) := fun h => pairsB_false (by omega) hmt h
            have hm2 : m + 1 ≤ l.length - (k + 1) := by omega
            clear hc f1 f2 f3 y1 y2 y3
            generalize at_ l k = x at *
            generalize at_ l (k + 1 + m) = y at *
            cases ho : ordB x y with
            | false =>
              have HP : Hid (pairB x y = false) := by show pairB x y = false; simp [pairB, ho]
              have HO := Lib.hid ho
              clear ho
              go_wp2_with fail
              generalize wr.alloc (Obj.cells #[.int .i64 y.1, .int .i64 y.2.1, .int .i64 y.2.2] 80) = w2 at *
              generalize wr.heap.size = Y at *
              refine (inOrder_r _ _ _ HO.out _).mono ?_
              rintro e w3 ⟨rfl, b3⟩
              replace p1 := cell_below b3 p1
              replace p2 := cell_below b3 p2
              replace p3 := cell_below b3 p3
              replace v1 := cell_below b3 v1
              replace v2 := cell_below b3 v2
              replace v3 := cell_below b3 v3
              have B3 := Lib.hid (below_step B2.out b3)
              clear b3
              go_wp2_with fail
              try rw [Exit.noGoto_ret]
              go_ret
              exact ⟨ret_bool (HF.out HP.out).symm, below_step B1.out B3.out⟩
            | true =>
              cases ha : apartB x y with
              | true =>
                have HP : Hid (pairB x y = true) := by show pairB x y = true; simp [pairB, ho, ha]
                have HO := Lib.hid ho
                have HA := Lib.hid ha
                clear ho ha
                go_wp2_with fail
                generalize wr.alloc (Obj.cells #[.int .i64 y.1, .int .i64 y.2.1, .int .i64 y.2.2] 80) = w2 at *
                generalize wr.heap.size = Y at *
                refine (inOrder_r _ _ _ HO.out _).mono ?_
                rintro e w3 ⟨rfl, b3⟩
                replace p1 := cell_below b3 p1
                replace p2 := cell_below b3 p2
                replace p3 := cell_below b3 p3
                replace v1 := cell_below b3 v1
                replace v2 := cell_below b3 v2
                replace v3 := cell_below b3 v3
                have B3 := Lib.hid (below_step B2.out b3)
                clear b3
                go_wp2_with fail
                refine (apart_r _ _ _ HA.out _ (by omega) (by omega) (by omega)).mono ?_
                rintro e w4 ⟨rfl, b4⟩
                replace p1 := cell_below b4 p1
                replace p2 := cell_below b4 p2
                replace p3 := cell_below b4 p3
                replace v1 := cell_below b4 v1
                replace v2 := cell_below b4 v2
                replace v3 := cell_below b4 v3
                have B4 := Lib.hid (below_step B3.out b4)
                clear b4
                go_wp2_with fail
                go_roundg (gk - 1)
                case measure => omega
                case rel => exact ⟨m + 1, rfl, by go_num, by omega, HS.out HU.out HP.out, B4.out⟩
              | false =>
                cases hn : nestB x y with
                | false =>
                  have HP : Hid (pairB x y = false) := by show pairB x y = false; simp [pairB, ho, ha, hn]
                  have HO := Lib.hid ho
                  have HA := Lib.hid ha
                  have HN := Lib.hid hn
                  clear ho ha hn
                  go_wp2_with fail
                  generalize wr.alloc (Obj.cells #[.int .i64 y.1, .int .i64 y.2.1, .int .i64 y.2.2] 80) = w2 at *
                  generalize wr.heap.size = Y at *
                  refine (inOrder_r _ _ _ HO.out _).mono ?_
                  rintro e w3 ⟨rfl, b3⟩
                  replace p1 := cell_below b3 p1
                  replace p2 := cell_below b3 p2
                  replace p3 := cell_below b3 p3
                  replace v1 := cell_below b3 v1
                  replace v2 := cell_below b3 v2
                  replace v3 := cell_below b3 v3
                  have B3 := Lib.hid (below_step B2.out b3)
                  clear b3
                  go_wp2_with fail
                  refine (apart_r _ _ _ HA.out _ (by omega) (by omega) (by omega)).mono ?_
                  rintro e w4 ⟨rfl, b4⟩
                  replace p1 := cell_below b4 p1
                  replace p2 := cell_below b4 p2
                  replace p3 := cell_below b4 p3
                  replace v1 := cell_below b4 v1
                  replace v2 := cell_below b4 v2
                  replace v3 := cell_below b4 v3
                  have B4 := Lib.hid (below_step B3.out b4)
                  clear b4
                  go_wp2_with fail
                  refine (nested_r _ _ _ HN.out _ (by omega) (by omega) (by omega) (by omega) (by omega) (by omega)).mono ?_
                  rintro e w5 ⟨rfl, b5⟩
                  replace p1 := cell_below b5 p1
                  replace p2 := cell_below b5 p2
                  replace p3 := cell_below b5 p3
                  replace v1 := cell_below b5 v1
                  replace v2 := cell_below b5 v2
                  replace v3 := cell_below b5 v3
                  have B5 := Lib.hid (below_step B4.out b5)
                  clear b5
                  go_wp2_with fail
                  try rw [Exit.noGoto_ret]
                  go_ret
                  exact ⟨ret_bool (HF.out HP.out).symm, below_step B1.out B5.out⟩
                | true =>
                  have HP : Hid (pairB x y = true) := by show pairB x y = true; simp [pairB, ho, ha, hn]
                  have HO := Lib.hid ho
                  have HA := Lib.hid ha
                  have HN := Lib.hid hn
                  clear ho ha hn
                  go_wp2_with fail
                  generalize wr.alloc (Obj.cells #[.int .i64 y.1, .int .i64 y.2.1, .int .i64 y.2.2] 80) = w2 at *
                  generalize wr.heap.size = Y at *
                  refine (inOrder_r _ _ _ HO.out _).mono ?_
                  rintro e w3 ⟨rfl, b3⟩
                  replace p1 := cell_below b3 p1
                  replace p2 := cell_below b3 p2
                  replace p3 := cell_below b3 p3
                  replace v1 := cell_below b3 v1
                  replace v2 := cell_below b3 v2
                  replace v3 := cell_below b3 v3
                  have B3 := Lib.hid (below_step B2.out b3)
                  clear b3
                  go_wp2_with fail
                  refine (apart_r _ _ _ HA.out _ (by omega) (by omega) (by omega)).mono ?_
                  rintro e w4 ⟨rfl, b4⟩
                  replace p1 := cell_below b4 p1
                  replace p2 := cell_below b4 p2
                  replace p3 := cell_below b4 p3
                  replace v1 := cell_below b4 v1
                  replace v2 := cell_below b4 v2
                  replace v3 := cell_below b4 v3
                  have B4 := Lib.hid (below_step B3.out b4)
                  clear b4
                  go_wp2_with fail
                  refine (nested_r _ _ _ HN.out _ (by omega) (by omega) (by omega) (by omega) (by omega) (by omega)).mono ?_
                  rintro e w5 ⟨rfl, b5⟩
                  replace p1 := cell_below b5 p1
                  replace p2 := cell_below b5 p2
                  replace p3 := cell_below b5 p3
                  replace v1 := cell_below b5 v1
                  replace v2 := cell_below b5 v2
                  replace v3 := cell_below b5 v3
                  have B5 := Lib.hid (below_step B4.out b5)
                  clear b5
                  go_wp2_with fail
                  go_roundg (gk - 1)
                  case measure => omega
                  case rel => exact ⟨m + 1, rfl, by go_num, by omega, HS.out HU.out HP.out, B5.out⟩
          · go_wp2_with fail
            go_roundg (G - 1)
            case measure => omega
            case rel => exact ⟨k + 1, rfl, by go_num, by omega, HU.out.next (by omega), below_step B1.out HY.out⟩
      · by_cases hcap : k + 1 = c
        all_goals
          go_wp2_with fail
          have HRK := Lib.hid hRk
          clear hRk
          generalize wr.alloc (Obj.cells #[.int .i64 (at_ l k).1, .int .i64 (at_ l k).2.1, .int .i64 (at_ l k).2.2] 80) = w1 at *
          refine wp_loop_rounds 1 ?_
          rw [rounds_succ]
          go_wp2_with fail
          go_roundg (G - 1)
          case measure => omega
          case rel => exact ⟨k + 1, rfl, by go_num, by omega, HH.out.next (by omega), B1.out⟩
    · go_wp2
      try rw [Exit.noGoto_ret]
      go_ret
      exact ⟨ret_bool (HH.out.all (by omega)).symm, HB.out⟩

end Tk
end Go.Proofs.Ytdjjdebnbaaihaa

/-
  Layer 5 (task): Right.
-/
namespace Go.Proofs.Ytdjjdebnbaaihaa
open Go.RowKit Mm
namespace Tk

theorem ticks_of {C : Int} {l : List Sc} (hC : C ≤ 200) (h : secsB C l = true) : ∀ j, j < l.length → 0 ≤ (at_ l j).2.1 ∧ 0 ≤ (at_ l j).2.2 ∧ (at_ l j).2.1 + (at_ l j).2.2 ≤ 200 := fun j hj => by
  have := sec_iff.1 (secsB_iff.1 h j hj)
  omega

set_option maxHeartbeats 800000 in
theorem right_any (C D T : Int) (A : Option Addr) (c : Nat) (l : List Sc) (w : World) (hbig : l.length ≤ 1000000) (hr : Rd w A c l) :
    Calls Try.prog 23 #[.agg #[.int .i64 C, .int .i64 D, .int .i64 T, .slice A l.length c]] w fun e w' => e = .returned (.bool (rightB C D T l)) ∧ Below w.heap.size w w' := by
  obtain ⟨t1, t2, t3, t4⟩ := box_new w C D T A l.length c
  have b0 := below_one w (Obj.cells #[.int .i64 C, .int .i64 D, .int .i64 T, .slice A l.length c] 33)
  cases ht : timesB C D T with
  | false =>
    have HF := Lib.hid (rightB_times (l := l) ht)
    go_enter Try.func23, Try.ntmps23
    go_wp2_with fail
    have HR := Lib.hid hr
    have B0 := Lib.hid b0
    clear hr b0
    generalize w.alloc (Obj.cells #[.int .i64 C, .int .i64 D, .int .i64 T, .slice A l.length c] 33) = w0 at *
    refine (validTimes_any C D T _ _).mono ?_
    rintro e w1 ⟨rfl, b1⟩
    have B1 := Lib.hid (below_step B0.out b1)
    clear b1
    go_wp2_with fail
    go_ret
    exact ⟨ret_bool HF.out.symm, B1.out⟩
  | true =>
    obtain ⟨hC0, _, _, _⟩ := times_iff.1 ht
    by_cases hl : l.length ≤ 4
    · cases hs : secsB C l with
      | false =>
        have HF := Lib.hid (rightB_secs (D := D) (T := T) hs)
        go_enter Try.func23, Try.ntmps23
        go_wp2_with fail
        have HR := Lib.hid hr
        have B0 := Lib.hid b0
        clear hr b0
        generalize w.alloc (Obj.cells #[.int .i64 C, .int .i64 D, .int .i64 T, .slice A l.length c] 33) = w0 at *
        refine (validTimes_any C D T _ _).mono ?_
        rintro e w1 ⟨rfl, b1⟩
        replace t1 := cell_below b1 t1
        replace t2 := cell_below b1 t2
        replace t3 := cell_below b1 t3
        replace t4 := cell_below b1 t4
        have B1 := Lib.hid (below_step B0.out b1)
        clear b1
        go_wp2_with fail
        refine (validSecs_any C D T A c l _ (by omega) (by omega) hbig (HR.out.below B1.out)).mono ?_
        rintro e w2 ⟨rfl, b2⟩
        replace t1 := cell_below b2 t1
        replace t2 := cell_below b2 t2
        replace t3 := cell_below b2 t3
        replace t4 := cell_below b2 t4
        have B2 := Lib.hid (below_step B1.out b2)
        clear b2
        go_wp2_with fail
        go_ret
        exact ⟨ret_bool HF.out.symm, B2.out⟩
      | true =>
        have HT := Lib.hid (ticks_of (by omega) hs)
        have HF : Hid (pairsB l = rightB C D T l) := by show pairsB l = rightB C D T l; simp [rightB, ht, hl, hs]
        go_enter Try.func23, Try.ntmps23
        go_wp2_with fail
        have HR := Lib.hid hr
        have B0 := Lib.hid b0
        clear hr b0
        generalize w.alloc (Obj.cells #[.int .i64 C, .int .i64 D, .int .i64 T, .slice A l.length c] 33) = w0 at *
        refine (validTimes_any C D T _ _).mono ?_
        rintro e w1 ⟨rfl, b1⟩
        replace t1 := cell_below b1 t1
        replace t2 := cell_below b1 t2
        replace t3 := cell_below b1 t3
        replace t4 := cell_below b1 t4
        have B1 := Lib.hid (below_step B0.out b1)
        clear b1
        go_wp2_with fail
        refine (validSecs_any C D T A c l _ (by omega) (by omega) hbig (HR.out.below B1.out)).mono ?_
        rintro e w2 ⟨rfl, b2⟩
        replace t1 := cell_below b2 t1
        replace t2 := cell_below b2 t2
        replace t3 := cell_below b2 t3
        replace t4 := cell_below b2 t4
        have B2 := Lib.hid (below_step B1.out b2)
        clear b2
        go_wp2_with fail
        refine (validPairs_any A c l _ hbig (HR.out.below B2.out) HT.out).mono ?_
        rintro e w3 ⟨rfl, b3⟩
        have B3 := Lib.hid (below_step B2.out b3)
        clear b3
        go_wp2_with fail
        go_ret
        exact ⟨ret_bool HF.out, B3.out⟩
    · have HF := Lib.hid (rightB_long (C := C) (D := D) (T := T) hl)
      go_enter Try.func23, Try.ntmps23
      go_wp2_with fail
      have HR := Lib.hid hr
      have B0 := Lib.hid b0
      clear hr b0
      generalize w.alloc (Obj.cells #[.int .i64 C, .int .i64 D, .int .i64 T, .slice A l.length c] 33) = w0 at *
      refine (validTimes_any C D T _ _).mono ?_
      rintro e w1 ⟨rfl, b1⟩
      replace t1 := cell_below b1 t1
      replace t2 := cell_below b1 t2
      replace t3 := cell_below b1 t3
      replace t4 := cell_below b1 t4
      have B1 := Lib.hid (below_step B0.out b1)
      clear b1
      go_wp2_with fail
      go_ret
      exact ⟨ret_bool HF.out.symm, B1.out⟩

end Tk
end Go.Proofs.Ytdjjdebnbaaihaa

/-
  Layer 5 (task): two sections, two tasks, held against each other.
-/
namespace Go.Proofs.Ytdjjdebnbaaihaa
open Go.RowKit Mm
namespace Tk

theorem sec_ext {x y : Sc} (h1 : x.1 = y.1) (h2 : x.2.1 = y.2.1) (h3 : x.2.2 = y.2.2) : x = y := by
  obtain ⟨a, b, c⟩ := x
  obtain ⟨d, e, f⟩ := y
  simp only at h1 h2 h3
  rw [h1, h2, h3]
theorem sec_one {a b : List Sc} {j : Nat} (_hj : j < a.length) (h : at_ a j ≠ at_ b j) : decide (a = b) = false := by
  rw [decide_eq_false_iff_not]
  rintro rfl
  exact h rfl

theorem neqSec (a b c d e f : Int) (w : World) : (binOp .neq 80 (.agg #[.int .i64 a, .int .i64 b, .int .i64 c]) (.agg #[.int .i64 d, .int .i64 e, .int .i64 f])).run Try.prog w = .ok (.bool (!decide ([a, b, c] = [d, e, f]))) w :=
  run_neq_ints 3 Try.underlying3 (by kernel_rfl) (by kernel_rfl) (by kernel_rfl) w [a, b, c] [d, e, f] rfl rfl
theorem ne_parts {x y : Sc} (h : x ≠ y) : (!decide (x.1 = y.1) || (!decide (x.2.1 = y.2.1) || !decide (x.2.2 = y.2.2))) = true := by
  by_cases h1 : x.1 = y.1
  · by_cases h2 : x.2.1 = y.2.1
    · by_cases h3 : x.2.2 = y.2.2
      · exact absurd (sec_ext h1 h2 h3) h
      · simp [h3]
    · simp [h2]
  · simp [h1]
theorem same_parts {a b : Tsk} : sameB a b = (decide (a.1 = b.1) && (decide (a.2.1 = b.2.1) && (decide (a.2.2.1 = b.2.2.1) && decide (a.2.2.2 = b.2.2.2)))) := by
  simp [sameB, Bool.decide_and]

end Tk
end Go.Proofs.Ytdjjdebnbaaihaa

/-
  Layer 5 (task): the library's IndexFunc, ContainsFunc at tasks; All.
-/
namespace Go.Proofs.Ytdjjdebnbaaihaa
open Go.RowKit Mm Go.Shelf
namespace Tk

theorem any_take_yes {α : Type} [Inhabited α] {l : List α} {p : α → Bool} {k : Nat} (hk : k < l.length) (h : p (at_ l k) = true) : l.any p = true := List.any_eq_true.2 ⟨_, at_mem hk, h⟩
theorem any_take_no {α : Type} [Inhabited α] {l : List α} {p : α → Bool} (h : ∀ j, j < l.length → p (at_ l j) = false) : l.any p = false := by
  rw [List.any_eq_false]
  intro x hx
  obtain ⟨j, hj, rfl⟩ := mem_at hx
  rw [h j hj]
  simp

/-- an index, or -1: whether there is one -/
def IdxOf (w : World) (r : Bool) (e : Ending) (w' : World) : Prop := ∃ n : Int, e = .returned (.int .i64 n) ∧ (r = true → 0 ≤ n) ∧ (r = false → n = -1) ∧ Below w.heap.size w w'

/-- what is asked of a closure over tasks -/
def PredTask (g : Nat) (lb : Array Value) (pb : Tsk → Bool) (w : World) : Prop := ∀ (W : World) (x : Tsk) (B : Option Addr) (d : Nat), Below w.heap.size w W → Rd W B d x.2.2.2 → x.2.2.2.length ≤ 1000000 →
  Calls Try.prog g (#[.agg #[.int .i64 x.1, .int .i64 x.2.1, .int .i64 x.2.2.1, .slice B x.2.2.2.length d]] ++ lb) W fun e w' => e = .returned (.bool (pb x)) ∧ Below W.heap.size W w'

set_option maxHeartbeats 800000 in
theorem indexTask (g : Nat) (lb : Array Value) (pb : Tsk → Bool) (eg : ∀ args w, (callFunc g args).run Try.prog w = .ok (.enter g args) w) (A : Option Addr) (c : Nat) (l : List Tsk) (w : World) (hbig : l.length ≤ 1000000) (hin : ∀ j, j < l.length → (at_ l j).2.2.2.length ≤ 1000000) (hp : PredTask g lb pb w) (hr : Rd w A c l) :
    Calls Try.prog 55 #[.slice A l.length c, .func (.func g) #[] lb] w (IdxOf w (l.any pb)) := by
  have HR := Lib.hid hr
  have HP := Lib.hid hp
  have HIN := Lib.hid hin
  clear hr hp hin
  go_enter Try.func55, Try.ntmps55
  go_wp2_with fail
  go_loopw [8] (fun i wr => ∃ k : Nat, i = .int .i64 k ∧ k ≤ l.length ∧ Hid (∀ j, j < k → pb (at_ l j) = false) ∧ Hid (Below w.heap.size w wr)) (fun i _ => l.length - (intOf i).toNat)
  case atStart => exact ⟨0, rfl, Nat.zero_le _, (fun j h => by omega), Below.refl _ _⟩
  case round =>
    obtain ⟨k, rfl, hk, HH, HB⟩ := hrel
    by_cases hlt : k < l.length
    · obtain ⟨b, off, rfl, hc⟩ := task_at (HR.out.below HB.out) (by omega)
      obtain ⟨B, d, x1, x2, x3, x4, _, _, _, r⟩ := hc k hlt
      have hcall := HP.out wr (at_ l k) B d HB.out r.rd (HIN.out k hlt)
      clear hc r
      cases hb : pb (at_ l k) with
      | true =>
        rw [hb] at hcall
        have HY := Lib.hid (any_take_yes hlt hb)
        clear hb
        generalize at_ l k = x at *
        go_wp2_with (go_at_fn g; refine hcall.mono ?_; rintro e w1 ⟨rfl, b2⟩; have HB2 := Lib.hid (below_step HB.out b2); clear b2 hcall)
        go_ret
        exact ⟨k, rfl, (fun _ => by omega), (fun h => by rw [HY.out] at h; cases h), HB2.out⟩
      | false =>
        rw [hb] at hcall
        have HN := Lib.hid hb
        clear hb
        generalize hx : at_ l k = x at *
        have HX := Lib.hid hx
        clear hx
        go_wp2_with (go_at_fn g; refine hcall.mono ?_; rintro e w1 ⟨rfl, b2⟩; have HB2 := Lib.hid (below_step HB.out b2); clear b2 hcall)
        go_roundw
        case rel =>
          refine ⟨k + 1, by go_num, hlt, fun j hj => ?_, HB2⟩
          by_cases e : j = k
          · subst e; rw [HX.out]; exact HN.out
          · exact HH.out j (by omega)
        case measure => simp [intOf]; omega
    · go_wp2_with fail
      go_ret
      have hn := any_take_no (p := pb) (l := l) fun j hj => HH.out j (by omega)
      exact ⟨-1, rfl, (fun h => by rw [hn] at h; cases h), (fun _ => rfl), HB.out⟩

theorem hasTask (g : Nat) (lb : Array Value) (pb : Tsk → Bool) (eg : ∀ args w, (callFunc g args).run Try.prog w = .ok (.enter g args) w) (A : Option Addr) (c : Nat) (l : List Tsk) (w : World) (hbig : l.length ≤ 1000000) (hin : ∀ j, j < l.length → (at_ l j).2.2.2.length ≤ 1000000) (hp : PredTask g lb pb w) (hr : Rd w A c l) :
    Calls Try.prog 35 #[.slice A l.length c, .func (.func g) #[] lb] w fun e w' => e = .returned (.bool (l.any pb)) ∧ Below w.heap.size w w' := by
  have HR := Lib.hid hr
  have HP := Lib.hid hp
  have HIN := Lib.hid hin
  clear hr hp hin
  go_enter Try.func35, Try.ntmps35
  go_wp2_with fail
  refine (indexTask g lb pb eg A c l _ hbig HIN.out HP.out HR.out).mono ?_
  rintro e w1 ⟨n, rfl, h1, h2, b1⟩
  have B1 := Lib.hid b1
  have H1 := Lib.hid h1
  have H2 := Lib.hid h2
  clear b1 h1 h2
  cases ha : l.any pb with
  | true =>
    have h := H1.out ha
    have HA := Lib.hid ha
    clear ha
    go_wp2_with fail
    go_ret
    exact ⟨ret_bool (by rw [HA.out]), B1.out⟩
  | false =>
    have h := H2.out ha
    subst h
    have HA := Lib.hid ha
    clear ha
    go_wp2_with fail
    go_ret
    exact ⟨ret_bool (by rw [HA.out]), B1.out⟩

theorem all_closure (w : World) : PredTask 36 #[] (fun t => !rightT t) w := fun W x B d _ hr hl => by
  obtain ⟨t1, t2, t3, t4⟩ := box_new W x.1 x.2.1 x.2.2.1 B x.2.2.2.length d
  have b0 := below_one W (Obj.cells #[.int .i64 x.1, .int .i64 x.2.1, .int .i64 x.2.2.1, .slice B x.2.2.2.length d] 33)
  show Calls Try.prog 36 #[.agg #[.int .i64 x.1, .int .i64 x.2.1, .int .i64 x.2.2.1, .slice B x.2.2.2.length d]] W _
  have HQ : Hid (rightT x = rightB x.1 x.2.1 x.2.2.1 x.2.2.2) := rfl
  go_enter Try.func36, Try.ntmps36
  go_wp2_with fail
  have HR := Lib.hid hr
  have B0 := Lib.hid b0
  clear hr b0
  generalize W.alloc (Obj.cells #[.int .i64 x.1, .int .i64 x.2.1, .int .i64 x.2.2.1, .slice B x.2.2.2.length d] 33) = w0 at *
  refine (right_any x.1 x.2.1 x.2.2.1 B d x.2.2.2 _ hl (HR.out.below B0.out)).mono ?_
  rintro e w1 ⟨rfl, b1⟩
  replace t1 := cell_below b1 t1
  replace t2 := cell_below b1 t2
  replace t3 := cell_below b1 t3
  replace t4 := cell_below b1 t4
  have B1 := Lib.hid (below_step B0.out b1)
  clear b1
  go_wp2_with fail
  go_ret
  exact ⟨ret_bool (by rw [HQ.out]), B1.out⟩
theorem allEnters : ∀ args w, (callFunc 36 args).run Try.prog w = .ok (.enter 36 args) w := enters_of Try.func36 (by kernel_rfl) rfl
theorem any_not (L : List Tsk) : L.any (fun t => !rightT t) = !L.all rightT := by
  induction L with
  | nil => rfl
  | cons x l ih => simp [ih]

set_option maxHeartbeats 800000 in
theorem all_any (A : Option Addr) (c : Nat) (L : List Tsk) (w : World) (hbig : L.length ≤ 1000000) (hin : ∀ j, j < L.length → (at_ L j).2.2.2.length ≤ 1000000) (hr : Rd w A c L) :
    Calls Try.prog 14 #[.slice A L.length c] w fun e w' => e = .returned (.bool (allB L)) ∧ Below w.heap.size w w' := by
  by_cases h8 : 8 < L.length
  · have HH : Hid (allB L = false) := by show _ = _; simp [allB]; omega
    go_enter Try.func14, Try.ntmps14
    go_wp2_with fail
    go_ret
    exact ⟨ret_bool HH.out.symm, Below.refl _ _⟩
  · have HH : Hid (allB L = !(L.any (fun t => !rightT t))) := by show _ = _; rw [any_not]; simp [allB]; omega
    go_enter Try.func14, Try.ntmps14
    have HR := Lib.hid hr
    have HIN := Lib.hid hin
    clear hr hin
    go_wp2_with fail
    refine (hasTask _ _ _ allEnters A c L _ hbig HIN.out (all_closure _) HR.out).mono ?_
    rintro e w1 ⟨rfl, b1⟩
    have B1 := Lib.hid b1
    clear b1
    go_wp2_with fail
    go_ret
    exact ⟨ret_bool HH.out.symm, B1.out⟩

end Tk
end Go.Proofs.Ytdjjdebnbaaihaa

/-
  Layer 5 (task): the library's IndexFunc, ContainsFunc at sections.
-/
namespace Go.Proofs.Ytdjjdebnbaaihaa
open Go.RowKit Mm Go.Shelf
namespace Tk

/-- what is asked of a closure over sections -/
def PredSec (g : Nat) (lb : Array Value) (pb : Sc → Bool) (w : World) : Prop := ∀ (W : World) (x : Sc), Below w.heap.size w W →
  Calls Try.prog g (#[.agg #[.int .i64 x.1, .int .i64 x.2.1, .int .i64 x.2.2]] ++ lb) W fun e w' => e = .returned (.bool (pb x)) ∧ Below W.heap.size W w'

set_option maxHeartbeats 800000 in
theorem indexSec (g : Nat) (lb : Array Value) (pb : Sc → Bool) (eg : ∀ args w, (callFunc g args).run Try.prog w = .ok (.enter g args) w) (A : Option Addr) (c : Nat) (l : List Sc) (w : World) (hbig : l.length ≤ 1000000) (hp : PredSec g lb pb w) (hr : Rd w A c l) :
    Calls Try.prog 96 #[.slice A l.length c, .func (.func g) #[] lb] w (IdxOf w (l.any pb)) := by
  have HR := Lib.hid hr
  have HP := Lib.hid hp
  clear hr hp
  go_enter Try.func96, Try.ntmps96
  go_wp2_with fail
  go_loopw [8] (fun i wr => ∃ k : Nat, i = .int .i64 k ∧ k ≤ l.length ∧ Hid (∀ j, j < k → pb (at_ l j) = false) ∧ Hid (Below w.heap.size w wr)) (fun i _ => l.length - (intOf i).toNat)
  case atStart => exact ⟨0, rfl, Nat.zero_le _, (fun j h => by omega), Below.refl _ _⟩
  case round =>
    obtain ⟨k, rfl, hk, HH, HB⟩ := hrel
    by_cases hlt : k < l.length
    · obtain ⟨b, off, rfl, hc⟩ := sec_at (HR.out.below HB.out) (by omega)
      obtain ⟨x1, x2, x3, _, _, _⟩ := hc k hlt
      have hcall := HP.out wr (at_ l k) HB.out
      clear hc
      cases hb : pb (at_ l k) with
      | true =>
        rw [hb] at hcall
        have HY := Lib.hid (any_take_yes hlt hb)
        clear hb
        generalize at_ l k = x at *
        go_wp2_with (go_at_fn g; refine hcall.mono ?_; rintro e w1 ⟨rfl, b2⟩; have HB2 := Lib.hid (below_step HB.out b2); clear b2 hcall)
        go_ret
        exact ⟨k, rfl, (fun _ => by omega), (fun h => by rw [HY.out] at h; cases h), HB2.out⟩
      | false =>
        rw [hb] at hcall
        have HN := Lib.hid hb
        clear hb
        generalize hx : at_ l k = x at *
        have HX := Lib.hid hx
        clear hx
        go_wp2_with (go_at_fn g; refine hcall.mono ?_; rintro e w1 ⟨rfl, b2⟩; have HB2 := Lib.hid (below_step HB.out b2); clear b2 hcall)
        go_roundw
        case rel =>
          refine ⟨k + 1, by go_num, hlt, fun j hj => ?_, HB2⟩
          by_cases e : j = k
          · subst e; rw [HX.out]; exact HN.out
          · exact HH.out j (by omega)
        case measure => simp [intOf]; omega
    · go_wp2_with fail
      go_ret
      have hn := any_take_no (p := pb) (l := l) fun j hj => HH.out j (by omega)
      exact ⟨-1, rfl, (fun h => by rw [hn] at h; cases h), (fun _ => rfl), HB.out⟩

theorem hasSec (g : Nat) (lb : Array Value) (pb : Sc → Bool) (eg : ∀ args w, (callFunc g args).run Try.prog w = .ok (.enter g args) w) (A : Option Addr) (c : Nat) (l : List Sc) (w : World) (hbig : l.length ≤ 1000000) (hp : PredSec g lb pb w) (hr : Rd w A c l) :
    Calls Try.prog 94 #[.slice A l.length c, .func (.func g) #[] lb] w fun e w' => e = .returned (.bool (l.any pb)) ∧ Below w.heap.size w w' := by
  have HR := Lib.hid hr
  have HP := Lib.hid hp
  clear hr hp
  go_enter Try.func94, Try.ntmps94
  go_wp2_with fail
  refine (indexSec g lb pb eg A c l _ hbig HP.out HR.out).mono ?_
  rintro e w1 ⟨n, rfl, h1, h2, b1⟩
  have B1 := Lib.hid b1
  have H1 := Lib.hid h1
  have H2 := Lib.hid h2
  clear b1 h1 h2
  cases ha : l.any pb with
  | true =>
    have h := H1.out ha
    have HA := Lib.hid ha
    clear ha
    go_wp2_with fail
    go_ret
    exact ⟨ret_bool (by rw [HA.out]), B1.out⟩
  | false =>
    have h := H2.out ha
    subst h
    have HA := Lib.hid ha
    clear ha
    go_wp2_with fail
    go_ret
    exact ⟨ret_bool (by rw [HA.out]), B1.out⟩

end Tk
end Go.Proofs.Ytdjjdebnbaaihaa

/-
  Layer 5 (task): Uses.
-/
namespace Go.Proofs.Ytdjjdebnbaaihaa
open Go.RowKit Mm Go.Shelf
namespace Tk

/-- does a task use a resource -/
def usesB (C D T : Int) (l : List Sc) (r : Int) : Bool := rightB C D T l && l.any (fun x => decide (x.1 = r))

theorem uses_closure (r : Int) (X : Nat) (w : World) (hX : w.cell? ⟨X, 0, none⟩ = some (.int .i64 r)) :
    PredSec 95 #[.pointer (some ⟨X, 0, none⟩)] (fun x => decide (x.1 = r)) w := fun W x hb => by
  have hc := cell_new (cell_below hb hX) (.cells #[.int .i64 x.1, .int .i64 x.2.1, .int .i64 x.2.2] 80)
  show Calls Try.prog 95 #[.agg #[.int .i64 x.1, .int .i64 x.2.1, .int .i64 x.2.2], .pointer (some ⟨X, 0, none⟩)] W _
  clear hX hb
  go_enter Try.func95, Try.ntmps95
  go_wp2
  go_ret
  exact ⟨rfl, below_one _ _⟩
theorem usesEnters : ∀ args w, (callFunc 95 args).run Try.prog w = .ok (.enter 95 args) w := enters_of Try.func95 (by kernel_rfl) rfl

set_option maxHeartbeats 800000 in
theorem uses_any (C D T : Int) (A : Option Addr) (c : Nat) (l : List Sc) (r : Int) (w : World) (hbig : l.length ≤ 1000000) (hr : Rd w A c l) :
    Calls Try.prog 93 #[.agg #[.int .i64 C, .int .i64 D, .int .i64 T, .slice A l.length c], .int .i64 r] w fun e w' => e = .returned (.bool (usesB C D T l r)) ∧ Below w.heap.size w w' := by
  obtain ⟨t1, t2, t3, t4⟩ := (box_new w C D T A l.length c).below (below_one _ (Obj.cells #[.int .i64 r] 3))
  have r1 : ((w.alloc (Obj.cells #[.int .i64 C, .int .i64 D, .int .i64 T, .slice A l.length c] 33)).alloc (Obj.cells #[.int .i64 r] 3)).cell? ⟨w.heap.size + 1, 0, none⟩ = some (.int .i64 r) := by simp
  have b0 := below_two w (Obj.cells #[.int .i64 C, .int .i64 D, .int .i64 T, .slice A l.length c] 33) (Obj.cells #[.int .i64 r] 3)
  cases ht : rightB C D T l with
  | false =>
    have HH : Hid (usesB C D T l r = false) := by show _ = _; simp [usesB, ht]
    go_enter Try.func93, Try.ntmps93
    go_wp2_with fail
    have HR := Lib.hid hr
    have B0 := Lib.hid b0
    clear hr b0
    generalize (w.alloc (Obj.cells #[.int .i64 C, .int .i64 D, .int .i64 T, .slice A l.length c] 33)).alloc (Obj.cells #[.int .i64 r] 3) = w0 at *
    refine (right_any C D T A c l _ hbig (HR.out.below B0.out)).mono ?_
    rintro e w1 ⟨rfl, b1⟩
    have B1 := Lib.hid (below_step B0.out b1)
    clear b1
    go_wp2_with fail
    go_ret
    exact ⟨ret_bool HH.out.symm, B1.out⟩
  | true =>
    have HH : Hid (usesB C D T l r = l.any (fun x => decide (x.1 = r))) := by show _ = _; simp [usesB, ht]
    go_enter Try.func93, Try.ntmps93
    go_wp2_with fail
    have HR := Lib.hid hr
    have B0 := Lib.hid b0
    clear hr b0
    generalize (w.alloc (Obj.cells #[.int .i64 C, .int .i64 D, .int .i64 T, .slice A l.length c] 33)).alloc (Obj.cells #[.int .i64 r] 3) = w0 at *
    refine (right_any C D T A c l _ hbig (HR.out.below B0.out)).mono ?_
    rintro e w1 ⟨rfl, b1⟩
    replace t1 := cell_below b1 t1
    replace t2 := cell_below b1 t2
    replace t3 := cell_below b1 t3
    replace t4 := cell_below b1 t4
    replace r1 := cell_below b1 r1
    have B1 := Lib.hid (below_step B0.out b1)
    clear b1
    go_wp2_with fail
    refine (hasSec _ _ _ usesEnters A c l _ hbig (uses_closure r _ _ r1) (HR.out.below B1.out)).mono ?_
    rintro e w2 ⟨rfl, b2⟩
    have B2 := Lib.hid (below_step B1.out b2)
    clear b2
    go_wp2_with fail
    go_ret
    exact ⟨ret_bool HH.out.symm, B2.out⟩

end Tk
end Go.Proofs.Ytdjjdebnbaaihaa

