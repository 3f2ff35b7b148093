/-
  Merged texts: JobMath, JobSortMath, JobMem, JobSl, JobRight, JobAll, JobTwice, JobAllP, JobAhead, JobFirst.
-/
import Derived.Test.YtdjjdebnbaaihaaGtask
import Derived.Shelf.Lay
import Derived.Test.YtdjjdebnbaaihaaGmem
/-
  Layer 14 (job): plain mathematics: jobs, their order, what they hold.
-/
namespace Go.Proofs.Ytdjjdebnbaaihaa
namespace Pm
open Mm Tk

/-- a job: its task, when it was released, when it is due, what it wants, what it has had, whether it began -/
abbrev Jb := Int × Int × Int × Int × Int × Bool
abbrev tkJ (j : Jb) : Int := j.1
abbrev atJ (j : Jb) : Int := j.2.1
abbrev dueJ (j : Jb) : Int := j.2.2.1
abbrev wantJ (j : Jb) : Int := j.2.2.2.1
abbrev hadJ (j : Jb) : Int := j.2.2.2.2.1
abbrev begJ (j : Jb) : Bool := j.2.2.2.2.2
/-- its task -/
abbrev ofJ (L : List Tsk) (j : Jb) : Tsk := at_ L (tkJ j).toNat
/-- a precedes b -/
def aheadB (a b : Jb) : Bool := decide (dueJ a < dueJ b ∨ dueJ a = dueJ b ∧ (tkJ a < tkJ b ∨ tkJ a = tkJ b ∧ atJ a < atJ b))
theorem ahead_iff {a b : Jb} : aheadB a b = true ↔ dueJ a < dueJ b ∨ dueJ a = dueJ b ∧ (tkJ a < tkJ b ∨ tkJ a = tkJ b ∧ atJ a < atJ b) := by unfold aheadB; exact decide_eq_true_iff
theorem ahead_no {a b : Jb} : aheadB a b = false ↔ ¬ (dueJ a < dueJ b ∨ dueJ a = dueJ b ∧ (tkJ a < tkJ b ∨ tkJ a = tkJ b ∧ atJ a < atJ b)) := by unfold aheadB; exact decide_eq_false_iff_not
/-- two jobs are unlike -/
def unlike (a b : Jb) : Prop := ¬ (tkJ a = tkJ b ∧ atJ a = atJ b)
theorem unlike.symm {a b : Jb} (h : unlike a b) : unlike b a := fun e => h ⟨e.1.symm, e.2.symm⟩
/-- P14.3 -/
theorem ahead_or {a b : Jb} (h : unlike a b) (h1 : aheadB a b = false) : aheadB b a = true := by
  have := ahead_no.1 h1
  unfold unlike at h
  rw [ahead_iff]
  omega
theorem ahead_not {a b : Jb} (h : aheadB a b = true) : aheadB b a = false := by
  have := ahead_iff.1 h
  rw [ahead_no]
  omega
theorem ahead_trans {a b c : Jb} (h : aheadB a b = true) (h' : aheadB b c = true) : aheadB a c = true := by
  have := ahead_iff.1 h
  have := ahead_iff.1 h'
  rw [ahead_iff]
  omega
theorem ahead_self (a : Jb) : aheadB a a = false := by rw [ahead_no]; omega

/-- what a job holds -/
def heldJ (L : List Tsk) (j : Jb) : List Int := heldL (ofJ L j).2.2.2 (hadJ j)
def heldAll (L : List Tsk) : List Jb → List Int
  | [] => []
  | j :: l => (if begJ j then heldJ L j else []) ++ heldAll L l
theorem mem_heldAll {L : List Tsk} {r : Int} : ∀ {l : List Jb}, r ∈ heldAll L l ↔ ∃ x ∈ l, begJ x = true ∧ r ∈ heldJ L x
  | [] => by simp [heldAll]
  | j :: l => by
    rw [heldAll, List.mem_append, mem_heldAll]
    cases h : begJ j with
    | true =>
      constructor
      · rintro (h1 | ⟨x, hx, h2⟩)
        · exact ⟨j, by simp, h, by simpa using h1⟩
        · exact ⟨x, List.mem_cons_of_mem _ hx, h2⟩
      · rintro ⟨x, hx, h1, h2⟩
        rcases List.mem_cons.1 hx with rfl | hx
        · exact .inl (by simpa using h2)
        · exact .inr ⟨x, hx, h1, h2⟩
    | false =>
      constructor
      · rintro (h1 | ⟨x, hx, h2⟩)
        · simp at h1
        · exact ⟨x, List.mem_cons_of_mem _ hx, h2⟩
      · rintro ⟨x, hx, h1, h2⟩
        rcases List.mem_cons.1 hx with rfl | hx
        · rw [h] at h1; cases h1
        · exact .inr ⟨x, hx, h1, h2⟩


/-- the first of some -/
theorem first_of (p : Jb → Bool) : ∀ {l : List Jb} {x : Jb}, x ∈ l → p x = true → ∃ f ∈ l, p f = true ∧ (∀ y ∈ l, p y = true → aheadB y f = false) ∧ dueJ f ≤ dueJ x
  | [], _, h, _ => by simp at h
  | j :: l, x, hx, hp => by
    have key : ∀ z, z ∈ l → p z = true → ∃ f ∈ j :: l, p f = true ∧ (∀ y ∈ j :: l, p y = true → aheadB y f = false) ∧ dueJ f ≤ dueJ z := fun z hz hpz => by
      obtain ⟨f, hf, h1, h2, h3⟩ := first_of p hz hpz
      cases hj : p j && aheadB j f with
      | true =>
        rw [Bool.and_eq_true] at hj
        have h4 := ahead_iff.1 hj.2
        refine ⟨j, by simp, hj.1, fun y hy hpy => ?_, by omega⟩
        rcases List.mem_cons.1 hy with rfl | hy
        · exact ahead_self _
        · have := h2 y hy hpy
          rw [← Bool.not_eq_true]
          intro e
          rw [ahead_trans e hj.2] at this
          cases this
      | false =>
        refine ⟨f, List.mem_cons_of_mem _ hf, h1, fun y hy hpy => ?_, h3⟩
        rcases List.mem_cons.1 hy with rfl | hy
        · rw [hpy, Bool.true_and] at hj
          exact hj
        · exact h2 y hy hpy
    rcases List.mem_cons.1 hx with rfl | hx
    · by_cases he : ∃ z ∈ l, p z = true
      · obtain ⟨z, hz, hpz⟩ := he
        obtain ⟨f, hf, h1, h2, _⟩ := key z hz hpz
        refine ⟨f, hf, h1, h2, ?_⟩
        have := ahead_no.1 (h2 x (by simp) hp)
        omega
      · refine ⟨x, by simp, hp, fun y hy hpy => ?_, Int.le_refl _⟩
        rcases List.mem_cons.1 hy with rfl | hy
        · exact ahead_self _
        · exact absurd ⟨y, hy, hpy⟩ he
    · exact key x hx hp

/-! ### which jobs may be -/
def rightJ (L : List Tsk) (j : Jb) : Bool :=
  decide (0 ≤ tkJ j ∧ tkJ j < L.length ∧ 0 ≤ atJ j ∧ atJ j ≤ 4611686018427387703 ∧ dueJ j = atJ j + (ofJ L j).2.1 ∧ 1 ≤ wantJ j ∧ wantJ j ≤ 200 ∧ 0 ≤ hadJ j ∧ hadJ j < wantJ j ∧ hadJ j < (ofJ L j).1 ∧ (begJ j = true ∨ hadJ j < 1))
theorem rightJ_iff {L : List Tsk} {j : Jb} : rightJ L j = true ↔ 0 ≤ tkJ j ∧ tkJ j < L.length ∧ 0 ≤ atJ j ∧ atJ j ≤ 4611686018427387703 ∧ dueJ j = atJ j + (ofJ L j).2.1 ∧ 1 ≤ wantJ j ∧ wantJ j ≤ 200 ∧ 0 ≤ hadJ j ∧ hadJ j < wantJ j ∧ hadJ j < (ofJ L j).1 ∧ (begJ j = true ∨ hadJ j < 1) := by
  unfold rightJ; exact decide_eq_true_iff
instance : DecidableRel unlike := fun _ _ => inferInstanceAs (Decidable (¬ _))
def allJ (L : List Tsk) (l : List Jb) : Bool := allB L && (decide (l.length ≤ 32) && (decide (l.Pairwise unlike) && l.all (rightJ L)))
theorem allJ_iff {L : List Tsk} {l : List Jb} : allJ L l = true ↔ allB L = true ∧ l.length ≤ 32 ∧ l.Pairwise unlike ∧ ∀ j ∈ l, rightJ L j = true := by
  unfold allJ
  rw [Bool.and_eq_true, Bool.and_eq_true, Bool.and_eq_true, decide_eq_true_iff, decide_eq_true_iff, List.all_eq_true]
theorem unlike_at {l : List Jb} : l.Pairwise unlike ↔ ∀ i k, i < l.length → k < l.length → i ≠ k → unlike (at_ l i) (at_ l k) := by
  rw [List.pairwise_iff_getElem]
  constructor
  · intro h i k hi hk hne
    rcases Nat.lt_or_gt_of_ne hne with e | e
    · rw [at_get hi, at_get hk]; exact h i k hi hk e
    · rw [at_get hi, at_get hk]; exact (h k i hk hi e).symm
  · intro h i k hi hk hik
    have := h i k hi hk (by omega)
    rwa [at_get hi, at_get hk] at this

/-! ### the first one of those that began, or didn't -/
def isFirst (l : List Jb) (b : Bool) (i : Nat) : Bool := (begJ (at_ l i) == b) && l.all fun x => !((begJ x == b) && aheadB x (at_ l i))
theorem isFirst_iff {l : List Jb} {b : Bool} {i : Nat} : isFirst l b i = true ↔ begJ (at_ l i) = b ∧ ∀ x ∈ l, begJ x = b → aheadB x (at_ l i) = false := by
  unfold isFirst
  rw [Bool.and_eq_true, beq_iff_eq, List.all_eq_true]
  constructor
  · rintro ⟨h1, h2⟩
    refine ⟨h1, fun x hx hb => ?_⟩
    have := h2 x hx
    cases h : aheadB x (at_ l i) with
    | false => rfl
    | true => rw [h, hb] at this; simp at this
  · rintro ⟨h1, h2⟩
    refine ⟨h1, fun x hx => ?_⟩
    cases hb : (begJ x == b) with
    | false => rfl
    | true => rw [h2 x hx (beq_iff_eq.1 hb)]; rfl
/-- x is the index of the first one, or -1 -/
def FirstJ (l : List Jb) (b : Bool) (x : Int) : Prop := (x = -1 ∧ ∀ j ∈ l, begJ j ≠ b) ∨ ∃ i : Nat, x = i ∧ i < l.length ∧ isFirst l b i = true ∧ ∀ k, k < i → isFirst l b k = false
theorem FirstJ.same {l : List Jb} {b : Bool} {x y : Int} (h : FirstJ l b x) (h' : FirstJ l b y) : x = y := by
  rcases h with ⟨rfl, h⟩ | ⟨i, rfl, h1, h2, h3⟩
  · rcases h' with ⟨rfl, _⟩ | ⟨k, rfl, g1, g2, _⟩
    · rfl
    · exact absurd (isFirst_iff.1 g2).1 (h _ (at_mem g1))
  · rcases h' with ⟨rfl, g⟩ | ⟨k, rfl, g1, g2, g3⟩
    · exact absurd (isFirst_iff.1 h2).1 (g _ (at_mem h1))
    · rcases Nat.lt_trichotomy i k with e | e | e
      · rw [g3 i e] at h2; cases h2
      · rw [e]
      · rw [h3 k e] at g2; cases g2
def firstI (l : List Jb) (b : Bool) : Int := match (List.range l.length).find? (isFirst l b) with | some i => (i : Int) | none => -1
theorem least_nat (p : Nat → Bool) : ∀ {n i : Nat}, i < n → p i = true → ∃ k, k < n ∧ p k = true ∧ ∀ q, q < k → p q = false
  | 0, _, h, _ => by omega
  | n + 1, i, hi, hp => by
    by_cases he : ∃ k, k < n ∧ p k = true
    · obtain ⟨k, hk, hpk⟩ := he
      obtain ⟨q, h1, h2, h3⟩ := least_nat p hk hpk
      exact ⟨q, by omega, h2, h3⟩
    · have : i = n := by
        rcases Nat.lt_or_ge i n with h | h
        · exact absurd ⟨i, h, hp⟩ he
        · omega
      subst this
      refine ⟨i, by omega, hp, fun q hq => ?_⟩
      cases h : p q with
      | false => rfl
      | true => exact absurd ⟨q, hq, h⟩ he
theorem firstI_of (l : List Jb) (b : Bool) : FirstJ l b (firstI l b) := by
  unfold firstI
  cases h : (List.range l.length).find? (isFirst l b) with
  | none =>
    refine .inl ⟨rfl, fun j hj hb => ?_⟩
    obtain ⟨f, hf, h1, h2, _⟩ := first_of (fun x => begJ x == b) hj (beq_iff_eq.2 hb)
    obtain ⟨i, hi, rfl⟩ := mem_at hf
    rw [List.find?_eq_none] at h
    exact h i (List.mem_range.2 hi) (isFirst_iff.2 ⟨beq_iff_eq.1 h1, fun x hx hxb => h2 x hx (beq_iff_eq.2 hxb)⟩)
  | some i =>
    rw [List.find?_eq_some_iff_append] at h
    obtain ⟨h1, ps, qs, h2, h3⟩ := h
    have hi : i < l.length := by
      have : i ∈ List.range l.length := by rw [h2]; simp
      simpa using this
    refine .inr ⟨i, rfl, hi, h1, fun k hk => ?_⟩
    have hlen : ps.length = i := by
      have h4 : (List.range l.length)[ps.length]? = some i := by rw [h2]; simp
      have h5 : ps.length < l.length := by
        have := congrArg List.length h2
        simp at this
        omega
      rw [List.getElem?_eq_getElem (by simpa using h5)] at h4
      simpa using h4
    have h6 : ps[k]? = some k := by
      have h7 : (List.range l.length)[k]? = ps[k]? := by rw [h2, List.getElem?_append_left (by omega)]
      rw [← h7, List.getElem?_range (by omega)]
    have := h3 k (List.mem_of_getElem? h6)
    simpa using this

/-! ### in order -/
theorem sorted_unique : ∀ {a b : List Jb}, a.Perm b → a.Pairwise (fun x y => aheadB x y = true) → b.Pairwise (fun x y => aheadB x y = true) → a = b
  | [], b, h, _, _ => (List.Perm.nil_eq h)
  | x :: a, [], h, _, _ => by have := h.length_eq; simp at this
  | x :: a, y :: b, h, ha, hb => by
    obtain ⟨ha1, ha2⟩ := List.pairwise_cons.1 ha
    obtain ⟨hb1, hb2⟩ := List.pairwise_cons.1 hb
    have e : x = y := by
      rcases List.mem_cons.1 (h.subset (show x ∈ x :: a by simp)) with e | h1
      · exact e
      · rcases List.mem_cons.1 (h.symm.subset (show y ∈ y :: b by simp)) with e | h2
        · exact e.symm
        · have h3 := ahead_not (hb1 x h1)
          rw [ha1 y h2] at h3
          cases h3
    subst e
    rw [sorted_unique (List.Perm.cons_inv h) ha2 hb2]
theorem sorted_ahead {a : List Jb} (hu : a.Pairwise unlike) (hs : a.Pairwise (fun x y => aheadB y x = false)) : a.Pairwise (fun x y => aheadB x y = true) := by
  rw [List.pairwise_iff_getElem] at *
  exact fun i j hi hj hij => ahead_or (hu i j hi hj hij).symm (hs i j hi hj hij)
theorem unlike_perm {a b : List Jb} (h : a.Perm b) (hu : a.Pairwise unlike) : b.Pairwise unlike := h.pairwise hu fun h => h.symm
/-- P14.4 -/
theorem sorted_turn {a b s t : List Jb} (hu : a.Pairwise unlike) (hab : a.Perm b) (h1 : a.Perm s) (h2 : b.Perm t) (hs : s.Pairwise (fun x y => aheadB y x = false)) (ht : t.Pairwise (fun x y => aheadB y x = false)) : s = t :=
  sorted_unique ((h1.symm.trans hab).trans h2) (sorted_ahead (unlike_perm h1 hu) hs) (sorted_ahead (unlike_perm (hab.trans h2) hu) ht)
theorem sorted_first {a s : List Jb} {x : Jb} (hu : a.Pairwise unlike) (h1 : a.Perm (x :: s)) (hs : (x :: s).Pairwise (fun x y => aheadB y x = false)) : ∃ i : Nat, firstI a (begJ x) = i ∧ i < a.length ∧ at_ a i = x := by
  have hx : x ∈ a := h1.symm.subset (by simp)
  obtain ⟨hs1, _⟩ := List.pairwise_cons.1 (sorted_ahead (unlike_perm h1 hu) hs)
  rcases firstI_of a (begJ x) with ⟨_, h⟩ | ⟨i, h, hi, hf, _⟩
  · exact absurd rfl (h x hx)
  · refine ⟨i, h, hi, ?_⟩
    obtain ⟨g1, g2⟩ := isFirst_iff.1 hf
    have g3 := g2 x hx rfl
    rcases List.mem_cons.1 (h1.subset (at_mem hi)) with e | e
    · exact e
    · rw [hs1 _ e] at g3; cases g3

end Pm
end Go.Proofs.Ytdjjdebnbaaihaa

/-
  Layer 14 (job): plain mathematics: sorting by exchanges: insertion, merging in place by turns, the blocks of a stable sort.
-/
namespace Go.Proofs.Ytdjjdebnbaaihaa
namespace Pm
open Mm Tk

/-! ### exchanges -/
def swp (l : List Jb) (i j : Nat) : List Jb := (l.set i (at_ l j)).set j (at_ l i)
theorem swp_length (l : List Jb) (i j : Nat) : (swp l i j).length = l.length := by simp [swp]
theorem at_swp {l : List Jb} {i j : Nat} (hi : i < l.length) (hj : j < l.length) (k : Nat) : at_ (swp l i j) k = if k = j then at_ l i else if k = i then at_ l j else at_ l k := by
  by_cases h1 : k = j
  · subst h1
    rw [if_pos rfl, swp, at_set_same _ (by simpa using hj)]
  · rw [if_neg h1, swp, at_set_other _ h1]
    by_cases h2 : k = i
    · subst h2
      rw [if_pos rfl, at_set_same _ hi]
    · rw [if_neg h2, at_set_other _ h2]
theorem swp_perm {l : List Jb} {i j : Nat} (hi : i < l.length) (hj : j < l.length) : (swp l i j).Perm l := by
  have := List.set_set_perm hi hj
  simpa [swp, at_, List.getD_eq_getElem?_getD, hi, hj] using this

/-- nothing but what lies from a on and below b has turned, and it among itself -/
structure Stays (a b : Nat) (l l' : List Jb) : Prop where
  len : l'.length = l.length
  perm : l.Perm l'
  out : ∀ k, k < a ∨ b ≤ k → at_ l' k = at_ l k
  inn : ∀ k, a ≤ k → k < b → ∃ j, a ≤ j ∧ j < b ∧ at_ l' k = at_ l j
theorem Stays.refl (a b : Nat) (l : List Jb) : Stays a b l l := ⟨rfl, List.Perm.refl _, fun _ _ => rfl, fun k h1 h2 => ⟨k, h1, h2, rfl⟩⟩
theorem Stays.trans {a b : Nat} {l m r : List Jb} (h : Stays a b l m) (h' : Stays a b m r) : Stays a b l r :=
  ⟨h'.len.trans h.len, h.perm.trans h'.perm, fun k hk => (h'.out k hk).trans (h.out k hk), fun k h1 h2 => by
    obtain ⟨j, g1, g2, e⟩ := h'.inn k h1 h2
    obtain ⟨i, g3, g4, e'⟩ := h.inn j g1 g2
    exact ⟨i, g3, g4, e.trans e'⟩⟩
theorem Stays.wide {a b a' b' : Nat} {l r : List Jb} (h : Stays a b l r) (h1 : a' ≤ a) (h2 : b ≤ b') : Stays a' b' l r :=
  ⟨h.len, h.perm, fun k hk => h.out k (by omega), fun k g1 g2 => by
    by_cases hk : a ≤ k ∧ k < b
    · obtain ⟨j, g3, g4, e⟩ := h.inn k hk.1 hk.2
      exact ⟨j, by omega, by omega, e⟩
    · exact ⟨k, g1, g2, h.out k (by omega)⟩⟩
theorem Stays.swp {a b i j : Nat} {l : List Jb} (hb : b ≤ l.length) (h1 : a ≤ i) (h2 : i < b) (h3 : a ≤ j) (h4 : j < b) : Stays a b l (swp l i j) := by
  have hi : i < l.length := by omega
  have hj : j < l.length := by omega
  refine ⟨swp_length _ _ _, (swp_perm hi hj).symm, fun k hk => ?_, fun k g1 g2 => ?_⟩
  · rw [at_swp hi hj, if_neg (by omega), if_neg (by omega)]
  · rw [at_swp hi hj]
    by_cases e1 : k = j
    · rw [if_pos e1]; exact ⟨i, h1, h2, rfl⟩
    · rw [if_neg e1]
      by_cases e2 : k = i
      · rw [if_pos e2]; exact ⟨j, h3, h4, rfl⟩
      · rw [if_neg e2]; exact ⟨k, g1, g2, rfl⟩

/-! ### in order -/
/-- b does not precede a -/
def le (a b : Jb) : Prop := aheadB b a = false
theorem le_refl (a : Jb) : le a a := ahead_self a
theorem le_trans {a b c : Jb} (h : le a b) (h' : le b c) : le a c := by
  unfold le at *
  rw [ahead_no] at *
  omega
theorem le_of {a b : Jb} (h : aheadB a b = true) : le a b := ahead_not h
theorem lt_le {a b c : Jb} (h : aheadB a b = true) (h' : le b c) : aheadB a c = true := by
  unfold le at *
  rw [ahead_no] at *
  rw [ahead_iff] at *
  omega
theorem le_lt {a b c : Jb} (h : le a b) (h' : aheadB b c = true) : aheadB a c = true := by
  unfold le at *
  rw [ahead_no] at *
  rw [ahead_iff] at *
  omega
/-- in order from a on, below b -/
def Srt (l : List Jb) (a b : Nat) : Prop := ∀ p q, a ≤ p → p < q → q < b → le (at_ l p) (at_ l q)
theorem Srt.same {l r : List Jb} {a b : Nat} (h : Srt l a b) (e : ∀ k, a ≤ k → k < b → at_ r k = at_ l k) : Srt r a b := fun p q h1 h2 h3 => by
  rw [e p h1 (by omega), e q (by omega) h3]
  exact h p q h1 h2 h3
theorem Srt.sub {l : List Jb} {a b a' b' : Nat} (h : Srt l a b) (h1 : a ≤ a') (h2 : b' ≤ b) : Srt l a' b' := fun p q g1 g2 g3 => h p q (by omega) g2 (by omega)
theorem Srt.few {l : List Jb} {a b : Nat} (h : b ≤ a + 1) : Srt l a b := fun p q h1 h2 h3 => by omega
theorem Srt.le {l : List Jb} {a b p q : Nat} (h : Srt l a b) (h1 : a ≤ p) (h2 : p ≤ q) (h3 : q < b) : le (at_ l p) (at_ l q) := by
  rcases Nat.lt_or_eq_of_le h2 with e | e
  · exact h p q h1 e h3
  · rw [e]; exact le_refl _
/-- two rows in order, the one not behind the other -/
theorem Srt.join {l : List Jb} {a m b : Nat} (h1 : Srt l a m) (h2 : Srt l m b) (h : ∀ p q, a ≤ p → p < m → m ≤ q → q < b → Pm.le (at_ l p) (at_ l q)) : Srt l a b := fun p q g1 g2 g3 => by
  by_cases hq : q < m
  · exact h1 p q g1 g2 hq
  · by_cases hp : p < m
    · exact h p q g1 hp (by omega) g3
    · exact h2 p q (by omega) g2 g3
theorem srt_pairwise {l : List Jb} (h : Srt l 0 l.length) : l.Pairwise (fun x y => aheadB y x = false) := by
  rw [List.pairwise_iff_getElem]
  intro i j hi hj hij
  have := h i j (Nat.zero_le _) hij hj
  unfold Pm.le at this
  rwa [at_get hi, at_get hj] at this

/-! ### insertion -/
/-- in order up to i, but for who lies at j -/
def Ins (l : List Jb) (a i j : Nat) : Prop := ∀ p q, a ≤ p → p < q → q ≤ i → q ≠ j → le (at_ l p) (at_ l q)
theorem Ins.start {l : List Jb} {a i : Nat} (h : Srt l a i) : Ins l a i i := fun p q h1 h2 h3 h4 => h p q h1 h2 (by omega)
theorem Ins.done {l : List Jb} {a i j : Nat} (h : Ins l a i j) (h2 : j = a ∨ a < j ∧ aheadB (at_ l j) (at_ l (j - 1)) = false) (h3 : j ≤ i) : Srt l a (i + 1) := fun p q g1 g2 g3 => by
  by_cases e : q = j
  · subst e
    rcases h2 with h2 | ⟨h2, h4⟩
    · omega
    · by_cases e2 : p = q - 1
      · rw [e2]; exact h4
      · exact le_trans (h p (q - 1) g1 (by omega) (by omega) (by omega)) h4
  · exact h p q g1 g2 (by omega) e
theorem Ins.step {l : List Jb} {a i j : Nat} (h : Ins l a i j) (h1 : a < j) (h2 : j ≤ i) (hi : i < l.length) (hl : aheadB (at_ l j) (at_ l (j - 1)) = true) : Ins (swp l j (j - 1)) a i (j - 1) := fun p q g1 g2 g3 g4 => by
  rw [at_swp (by omega) (by omega), at_swp (by omega) (by omega)]
  rw [if_neg g4]
  by_cases e1 : q = j
  · rw [if_pos e1]
    by_cases e2 : p = j - 1
    · rw [if_pos e2]; exact le_of hl
    · rw [if_neg e2, if_neg (by omega)]
      exact h p (j - 1) g1 (by omega) (by omega) (by omega)
  · rw [if_neg e1]
    by_cases e2 : p = j - 1
    · rw [if_pos e2]
      exact h j q (by omega) (by omega) g3 e1
    · rw [if_neg e2]
      by_cases e3 : p = j
      · rw [if_pos e3]
        exact h (j - 1) q (by omega) (by omega) g3 e1
      · rw [if_neg e3]
        exact h p q g1 g2 g3 e1

/-! ### searching -/
/-- what is asked is false below i, and true from j on -/
def Cut (Q : Nat → Bool) (lo hi i j : Nat) : Prop := (∀ q, lo ≤ q → q < i → Q q = false) ∧ ∀ q, j ≤ q → q < hi → Q q = true
/-- it rises -/
def Up (Q : Nat → Bool) (lo hi : Nat) : Prop := ∀ p q, lo ≤ p → p ≤ q → q < hi → Q p = true → Q q = true
theorem Cut.start (Q : Nat → Bool) (lo hi : Nat) : Cut Q lo hi lo hi := ⟨fun q h1 h2 => by omega, fun q h1 h2 => by omega⟩
theorem Cut.no {Q : Nat → Bool} {lo hi i j h : Nat} (H : Cut Q lo hi i j) (hu : Up Q lo hi) (_ : i ≤ h) (h2 : h < j) (h3 : j ≤ hi) (hq : Q h = false) : Cut Q lo hi (h + 1) j :=
  ⟨fun q g1 g2 => by
    cases e : Q q with
    | false => rfl
    | true => (rw [hu q h g1 (by omega) (by omega) e] at hq; cases hq), H.2⟩
theorem Cut.yes {Q : Nat → Bool} {lo hi i j h : Nat} (H : Cut Q lo hi i j) (hu : Up Q lo hi) (h1 : i ≤ h) (h0 : lo ≤ i) (hq : Q h = true) : Cut Q lo hi i h :=
  ⟨H.1, fun q g1 g2 => hu h q (by omega) g1 g2 hq⟩

/-! ### one is put into the others -/
/-- who lay at a has come to k, those between have moved down -/
structure Right1 (l r : List Jb) (a k : Nat) : Prop where
  len : r.length = l.length
  down : ∀ q, a ≤ q → q < k → at_ r q = at_ l (q + 1)
  here : at_ r k = at_ l a
  out : ∀ q, q < a ∨ k < q → at_ r q = at_ l q
theorem Right1.start (l : List Jb) (a : Nat) : Right1 l l a a := ⟨rfl, fun q h1 h2 => by omega, rfl, fun _ _ => rfl⟩
theorem Right1.step {l r : List Jb} {a k : Nat} (h : Right1 l r a k) (h1 : a ≤ k) (h2 : k + 1 < l.length) : Right1 l (swp r k (k + 1)) a (k + 1) := by
  have hl := h.len
  have hs := at_swp (l := r) (i := k) (j := k + 1) (by omega) (by omega)
  refine ⟨by rw [swp_length]; exact hl, fun q g1 g2 => ?_, ?_, fun q hq => ?_⟩
  · rw [hs, if_neg (by omega)]
    by_cases e : q = k
    · rw [if_pos e, e]; exact h.out _ (by omega)
    · rw [if_neg e]; exact h.down q g1 (by omega)
  · rw [hs, if_pos rfl]; exact h.here
  · rw [hs, if_neg (by omega), if_neg (by omega)]
    exact h.out q (by omega)
theorem Right1.done {l r : List Jb} {a i b : Nat} (h : Right1 l r a (i - 1)) (h1 : a + 1 ≤ i) (h2 : i ≤ b) (hs : Srt l (a + 1) b) (hc : Cut (fun q => !aheadB (at_ l q) (at_ l a)) (a + 1) b i i) : Srt r a b := fun p q g1 g2 g3 => by
  have hA : ∀ q, a + 1 ≤ q → q < i → le (at_ l q) (at_ l a) := fun q g1 g2 => le_of (by simpa using hc.1 q g1 g2)
  have hB : ∀ q, i ≤ q → q < b → le (at_ l a) (at_ l q) := fun q g1 g2 => (by have := hc.2 q g1 g2; simpa using this : aheadB (at_ l q) (at_ l a) = false)
  by_cases e1 : q < i - 1
  · rw [h.down p g1 (by omega), h.down q (by omega) e1]
    exact hs _ _ (by omega) (by omega) (by omega)
  · by_cases e2 : q = i - 1
    · rw [e2, h.here, h.down p g1 (by omega)]
      exact hA _ (by omega) (by omega)
    · rw [h.out q (by omega)]
      by_cases e3 : p < i - 1
      · rw [h.down p g1 e3]
        exact hs _ _ (by omega) (by omega) g3
      · by_cases e4 : p = i - 1
        · rw [e4, h.here]
          exact hB q (by omega) g3
        · rw [h.out p (by omega)]
          exact hs _ _ (by omega) g2 g3
/-- who lay at m has come to k, those between have moved up -/
structure Left1 (l r : List Jb) (m k : Nat) : Prop where
  len : r.length = l.length
  up : ∀ q, k < q → q ≤ m → at_ r q = at_ l (q - 1)
  here : at_ r k = at_ l m
  out : ∀ q, q < k ∨ m < q → at_ r q = at_ l q
theorem Left1.start (l : List Jb) (m : Nat) : Left1 l l m m := ⟨rfl, fun q h1 h2 => by omega, rfl, fun _ _ => rfl⟩
theorem Left1.step {l r : List Jb} {m k : Nat} (h : Left1 l r m k) (h1 : k ≤ m) (h2 : m < l.length) (h3 : 0 < k) : Left1 l (swp r k (k - 1)) m (k - 1) := by
  have hl := h.len
  have hs := at_swp (l := r) (i := k) (j := k - 1) (by omega) (by omega)
  refine ⟨by rw [swp_length]; exact hl, fun q g1 g2 => ?_, ?_, fun q hq => ?_⟩
  · rw [hs, if_neg (by omega)]
    by_cases e : q = k
    · rw [if_pos e, e]; exact h.out _ (by omega)
    · rw [if_neg e]; exact h.up q (by omega) g2
  · rw [hs, if_pos rfl]; exact h.here
  · rw [hs, if_neg (by omega), if_neg (by omega)]
    exact h.out q (by omega)
theorem Left1.done {l r : List Jb} {a i m : Nat} (h : Left1 l r m i) (h1 : a ≤ i) (h2 : i ≤ m) (hs : Srt l a m) (hc : Cut (fun q => aheadB (at_ l m) (at_ l q)) a m i i) : Srt r a (m + 1) := fun p q g1 g2 g3 => by
  have hA : ∀ q, a ≤ q → q < i → le (at_ l q) (at_ l m) := fun q g1 g2 => hc.1 q g1 g2
  have hB : ∀ q, i ≤ q → q < m → le (at_ l m) (at_ l q) := fun q g1 g2 => le_of (hc.2 q g1 g2)
  by_cases e1 : q < i
  · rw [h.out p (by omega), h.out q (by omega)]
    exact hs _ _ g1 g2 (by omega)
  · by_cases e2 : q = i
    · rw [e2, h.here, h.out p (by omega)]
      exact hA _ g1 (by omega)
    · rw [h.up q (by omega) (by omega)]
      by_cases e3 : p < i
      · rw [h.out p (by omega)]
        exact hs _ _ g1 (by omega) (by omega)
      · by_cases e4 : p = i
        · rw [e4, h.here]
          exact hB _ (by omega) (by omega)
        · rw [h.up p (by omega) (by omega)]
          exact hs _ _ (by omega) (by omega) (by omega)

/-! ### two rows of one length are exchanged -/
def Swr (l r : List Jb) (a b n : Nat) : Prop := ∀ k, at_ r k = if a ≤ k ∧ k < a + n then at_ l (b + (k - a)) else if b ≤ k ∧ k < b + n then at_ l (a + (k - b)) else at_ l k
theorem Swr.start (l : List Jb) (a b : Nat) : Swr l l a b 0 := fun k => by rw [if_neg (by omega), if_neg (by omega)]
theorem Swr.step {l r : List Jb} {a b n : Nat} (h : Swr l r a b n) (hlen : r.length = l.length) (h1 : a + n < b) (h2 : b + n < l.length) : Swr l (swp r (a + n) (b + n)) a b (n + 1) := fun k => by
  rw [at_swp (by omega) (by omega)]
  by_cases e1 : k = b + n
  · rw [if_pos e1, if_neg (by omega), if_pos (by omega), h, if_neg (by omega), if_neg (by omega)]
    congr 1; omega
  · rw [if_neg e1]
    by_cases e2 : k = a + n
    · rw [if_pos e2, if_pos (by omega), h, if_neg (by omega), if_neg (by omega)]
      congr 1; omega
    · rw [if_neg e2, h]
      by_cases e3 : a ≤ k ∧ k < a + n
      · rw [if_pos e3, if_pos (by omega)]
      · by_cases e4 : b ≤ k ∧ k < b + n
        · rw [if_neg e3, if_pos e4, if_neg (by omega), if_pos (by omega)]
        · rw [if_neg e3, if_neg e4, if_neg (by omega), if_neg (by omega)]

/-! ### two rows change their places -/
/-- r is l with the i behind lo and the j behind these turned -/
def Rot (l r : List Jb) (lo i j : Nat) : Prop := ∀ k, at_ r k = if lo ≤ k ∧ k < lo + j then at_ l (k + i) else if lo + j ≤ k ∧ k < lo + j + i then at_ l (k - j) else at_ l k
theorem Rot.left {l r s : List Jb} {m i j : Nat} (h : Rot r s (m - (i - j)) (i - j) j) (hw : Swr l r (m - i) m j) (h1 : j < i) (h2 : i ≤ m) : Rot l s (m - i) i j := fun k => by
  rw [h]
  by_cases e1 : m - (i - j) ≤ k ∧ k < m - (i - j) + j
  · rw [if_pos e1, hw]
    by_cases e2 : m - i ≤ k + (i - j) ∧ k + (i - j) < m - i + j
    · omega
    · rw [if_neg e2]
      by_cases e3 : m ≤ k + (i - j) ∧ k + (i - j) < m + j
      · rw [if_pos e3, if_neg (by omega), if_pos (by omega)]
        congr 1; omega
      · omega
  · rw [if_neg e1]
    by_cases e2 : m - (i - j) + j ≤ k ∧ k < m - (i - j) + j + (i - j)
    · rw [if_pos e2, hw]
      by_cases e3 : m - i ≤ k - j ∧ k - j < m - i + j
      · rw [if_pos e3, if_neg (by omega), if_pos (by omega)]
        congr 1; omega
      · rw [if_neg e3, if_neg (by omega), if_neg (by omega), if_pos (by omega)]
    · rw [if_neg e2, hw]
      by_cases e3 : m - i ≤ k ∧ k < m - i + j
      · rw [if_pos e3, if_pos (by omega)]
        congr 1; omega
      · rw [if_neg e3, if_neg (by omega), if_neg (by omega), if_neg (by omega)]
theorem Rot.right {l r s : List Jb} {m i j : Nat} (h : Rot r s (m - i) i (j - i)) (hw : Swr l r (m - i) (m + j - i) i) (h1 : i < j) (h2 : i ≤ m) : Rot l s (m - i) i j := fun k => by
  rw [h]
  by_cases e1 : m - i ≤ k ∧ k < m - i + (j - i)
  · rw [if_pos e1, if_pos (by omega), hw, if_neg (by omega), if_neg (by omega)]
  · rw [if_neg e1]
    by_cases e2 : m - i + (j - i) ≤ k ∧ k < m - i + (j - i) + i
    · rw [if_pos e2, hw]
      rw [if_pos (by omega), if_pos (by omega)]
      congr 1; omega
    · rw [if_neg e2, hw]
      by_cases e3 : m + j - i ≤ k ∧ k < m + j - i + i
      · rw [if_neg (by omega), if_pos e3, if_neg (by omega), if_pos (by omega)]
        congr 1; omega
      · rw [if_neg (by omega), if_neg e3, if_neg (by omega), if_neg (by omega)]
theorem Rot.last {l r : List Jb} {m i : Nat} (hw : Swr l r (m - i) m i) (h2 : i ≤ m) : Rot l r (m - i) i i := fun k => by
  rw [hw]
  by_cases e1 : m - i ≤ k ∧ k < m - i + i
  · rw [if_pos e1, if_pos e1]; congr 1; omega
  · rw [if_neg e1, if_neg e1]
    by_cases e2 : m ≤ k ∧ k < m + i
    · rw [if_pos e2, if_pos (by omega)]; congr 1; omega
    · rw [if_neg e2, if_neg (by omega)]

end Pm
end Go.Proofs.Ytdjjdebnbaaihaa

/-
  Layer 14 (job): jobs in memory: the cells of a slice's elements; a job in a block of its own; a job written into a slice of the call's own.
-/
namespace Go.Proofs.Ytdjjdebnbaaihaa
open Go.RowKit Mm Tk
namespace Pm

/-- the numbers of a job are such that an int holds -/
def FitJ (x : Jb) : Prop := Fit x.1 ∧ Fit x.2.1 ∧ Fit x.2.2.1 ∧ Fit x.2.2.2.1 ∧ Fit x.2.2.2.2.1
/-- the cells of a job -/
theorem rd_job {w : World} {S : Nat → Prop} {vs : List Value} {x : Jb} : Dat.rd w S vs x ↔ vs = [.int .i64 x.1, .int .i64 x.2.1, .int .i64 x.2.2.1, .int .i64 x.2.2.2.1, .int .i64 x.2.2.2.2.1, .bool x.2.2.2.2.2] ∧ FitJ x := by
  constructor
  · rintro ⟨v, r, rfl, ⟨rfl, h1⟩, v2, r2, rfl, ⟨rfl, h2⟩, v3, r3, rfl, ⟨rfl, h3⟩, v4, r4, rfl, ⟨rfl, h4⟩, v5, r5, rfl, ⟨rfl, h5⟩, rfl⟩
    exact ⟨rfl, h1, h2, h3, h4, h5⟩
  · rintro ⟨rfl, h1, h2, h3, h4, h5⟩
    exact ⟨[.int .i64 x.1], _, rfl, ⟨rfl, h1⟩, [.int .i64 x.2.1], _, rfl, ⟨rfl, h2⟩, [.int .i64 x.2.2.1], _, rfl, ⟨rfl, h3⟩, [.int .i64 x.2.2.2.1], _, rfl, ⟨rfl, h4⟩, [.int .i64 x.2.2.2.2.1], _, rfl, ⟨rfl, h5⟩, rfl⟩
theorem k_job : Dat.k Jb = 6 := rfl
/-- the cells of the job at p -/
structure CJ (w : World) (b o : Nat) (x : Jb) : Prop where
  c0 : w.cell? ⟨b, o, none⟩ = some (.int .i64 x.1)
  c1 : w.cell? ⟨b, o + 1, none⟩ = some (.int .i64 x.2.1)
  c2 : w.cell? ⟨b, o + 2, none⟩ = some (.int .i64 x.2.2.1)
  c3 : w.cell? ⟨b, o + 3, none⟩ = some (.int .i64 x.2.2.2.1)
  c4 : w.cell? ⟨b, o + 4, none⟩ = some (.int .i64 x.2.2.2.2.1)
  c5 : w.cell? ⟨b, o + 5, none⟩ = some (.bool x.2.2.2.2.2)
theorem CJ.below {w w' : World} {b o : Nat} {x : Jb} (h : CJ w b o x) (hb : Below w.heap.size w w') : CJ w' b o x :=
  ⟨cell_below hb h.c0, cell_below hb h.c1, cell_below hb h.c2, cell_below hb h.c3, cell_below hb h.c4, cell_below hb h.c5⟩
theorem job_at {w : World} {S : Nat → Prop} {A : Option Addr} {c : Nat} {l : List Jb} (h : RdS w S A c l) (h0 : 0 < l.length) : ∃ b off, A = some ⟨b, off, none⟩ ∧ ∀ j, j < l.length → CJ w b (off + j * 6) (at_ l j) ∧ FitJ (at_ l j) := by
  obtain ⟨b, off, e, hc⟩ := h.cells h0
  refine ⟨b, off, e, fun j hj => ?_⟩
  obtain ⟨vs, h1, h2⟩ := hc j hj
  obtain ⟨rfl, f⟩ := rd_job.1 h1
  exact ⟨⟨h2 0 _ rfl, h2 1 _ rfl, h2 2 _ rfl, h2 3 _ rfl, h2 4 _ rfl, h2 5 _ rfl⟩, f⟩
theorem job_fit {w : World} {S : Nat → Prop} {A : Option Addr} {c : Nat} {l : List Jb} (h : RdS w S A c l) : ∀ x ∈ l, FitJ x := fun x hx => by
  obtain ⟨j, hj, rfl⟩ := mem_at hx
  obtain ⟨b, off, _, hc⟩ := job_at h (by omega)
  exact (hc j hj).2
/-- a job in a block of its own -/
theorem cj_new (w : World) (x : Jb) (X : Nat) (h : w.heap.size = X) : CJ (w.alloc (.cells #[(.int .i64 x.1), (.int .i64 x.2.1), (.int .i64 x.2.2.1), (.int .i64 x.2.2.2.1), (.int .i64 x.2.2.2.2.1), (.bool x.2.2.2.2.2)] 60)) X 0 x := by
  subst h
  refine ⟨?_, ?_, ?_, ?_, ?_, ?_⟩ <;> simp

/-- jobs in a slice of the call's own, at block g -/
abbrev Oj (w : World) (base g c : Nat) (l : List Jb) : Prop := Ow w base 60 (some ⟨g, 0, none⟩) c l
theorem Oj.cell {w : World} {base g c : Nat} {l : List Jb} (h : Oj w base g c l) {j : Nat} (hj : j < l.length) : CJ w g (j * 6) (at_ l j) ∧ FitJ (at_ l j) := by
  obtain ⟨b, off, e, hc⟩ := job_at (Ow.rd h) (by omega)
  injection e with e
  injection e with e1 e2
  subst e1
  subst e2
  have := hc j hj
  rwa [Nat.zero_add] at this
theorem Oj.free {w : World} {base g c : Nat} {l : List Jb} (h : Oj w base g c l) (o : Nat) : w.frozen? ⟨g, o, none⟩ = false := by
  obtain ⟨cs, h1, _⟩ := h
  exact World.ownsRow.frozenAt h1 o
theorem Oj.one {w : World} {base g c : Nat} {l : List Jb} (h : Oj w base g c l) (j f : Nat) (v : Value) (y : Jb) (hj : j < l.length) (hf : f < 6) (hy : ∀ vs, Dat.rd w (fun _ => False) vs (at_ l j) → Dat.rd w (fun _ => False) (vs.set f v) y) :
    Oj (w.setCell ⟨g, j * 6 + f, none⟩ v) base g c (l.set j y) ∧ w.grownBy (w.setCell ⟨g, j * 6 + f, none⟩ v) (some g) := OwS.put h (fun h => h) j f v y hj hf hy
/-- the world with a job written at block g, from cell o on -/
def putW (w : World) (g o : Nat) (x : Jb) : World :=
  (((((w.setCell ⟨g, o, none⟩ (.int .i64 x.1)).setCell ⟨g, o + 1, none⟩ (.int .i64 x.2.1)).setCell ⟨g, o + 2, none⟩ (.int .i64 x.2.2.1)).setCell ⟨g, o + 3, none⟩ (.int .i64 x.2.2.2.1)).setCell ⟨g, o + 4, none⟩ (.int .i64 x.2.2.2.2.1)).setCell ⟨g, o + 5, none⟩ (.bool x.2.2.2.2.2)
theorem Oj.put {w : World} {base g c : Nat} {l : List Jb} (h : Oj w base g c l) {j : Nat} (hj : j < l.length) {x : Jb} (hx : FitJ x) : Oj (putW w g (j * 6) x) base g c (l.set j x) ∧ w.grownBy (putW w g (j * 6) x) (some g) := by
  obtain ⟨f0, f1, f2, f3, f4⟩ := hx
  obtain ⟨_, o0, o1, o2, o3, o4⟩ := h.cell hj
  generalize hy : at_ l j = y at *
  obtain ⟨h1, g1⟩ := h.one j 0 (.int .i64 x.1) (x.1, y.2) hj (by omega) (fun vs hv => by rw [hy] at hv; obtain ⟨rfl, _⟩ := rd_job.1 hv; exact rd_job.2 ⟨rfl, f0, o1, o2, o3, o4⟩)
  obtain ⟨h2, g2⟩ := h1.one j 1 (.int .i64 x.2.1) (x.1, x.2.1, y.2.2) (by simpa using hj) (by omega) (fun vs hv => by rw [at_set_same _ hj] at hv; obtain ⟨rfl, _⟩ := rd_job.1 hv; exact rd_job.2 ⟨rfl, f0, f1, o2, o3, o4⟩)
  rw [List.set_set] at h2
  obtain ⟨h3, g3⟩ := h2.one j 2 (.int .i64 x.2.2.1) (x.1, x.2.1, x.2.2.1, y.2.2.2) (by simpa using hj) (by omega) (fun vs hv => by rw [at_set_same _ hj] at hv; obtain ⟨rfl, _⟩ := rd_job.1 hv; exact rd_job.2 ⟨rfl, f0, f1, f2, o3, o4⟩)
  rw [List.set_set] at h3
  obtain ⟨h4, g4⟩ := h3.one j 3 (.int .i64 x.2.2.2.1) (x.1, x.2.1, x.2.2.1, x.2.2.2.1, y.2.2.2.2) (by simpa using hj) (by omega) (fun vs hv => by rw [at_set_same _ hj] at hv; obtain ⟨rfl, _⟩ := rd_job.1 hv; exact rd_job.2 ⟨rfl, f0, f1, f2, f3, o4⟩)
  rw [List.set_set] at h4
  obtain ⟨h5, g5⟩ := h4.one j 4 (.int .i64 x.2.2.2.2.1) (x.1, x.2.1, x.2.2.1, x.2.2.2.1, x.2.2.2.2.1, y.2.2.2.2.2) (by simpa using hj) (by omega) (fun vs hv => by rw [at_set_same _ hj] at hv; obtain ⟨rfl, _⟩ := rd_job.1 hv; exact rd_job.2 ⟨rfl, f0, f1, f2, f3, f4⟩)
  rw [List.set_set] at h5
  obtain ⟨h6, g6⟩ := h5.one j 5 (.bool x.2.2.2.2.2) x (by simpa using hj) (by omega) (fun vs hv => by rw [at_set_same _ hj] at hv; obtain ⟨rfl, _⟩ := rd_job.1 hv; exact rd_job.2 ⟨rfl, f0, f1, f2, f3, f4⟩)
  rw [List.set_set] at h6
  exact ⟨h6, gb_trans (gb_trans (gb_trans (gb_trans (gb_trans g1 g2) g3) g4) g5) g6⟩
theorem gb_draw {w w' : World} {row : Option Nat} (h : w.grownBy w' row) : w.grownBy w'.drew row := gb_trans h (gb_below ((Below.refl w'.heap.size w').drew) (Nat.le_refl _) row)
/-- two jobs exchanged -/
theorem Oj.swap {w : World} {base g c : Nat} {l : List Jb} (h : Oj w base g c l) {i j : Nat} (hi : i < l.length) (hj : j < l.length) :
    Oj (putW (putW w g (i * 6) (at_ l j)) g (j * 6) (at_ l i)) base g c (swp l i j) ∧ w.grownBy (putW (putW w g (i * 6) (at_ l j)) g (j * 6) (at_ l i)) (some g) := by
  obtain ⟨h1, g1⟩ := h.put hi (h.cell hj).2
  obtain ⟨h2, g2⟩ := h1.put (j := j) (by simpa using hj) (h.cell hi).2
  exact ⟨h2, gb_trans g1 g2⟩
theorem Oj.draw {w : World} {base g c : Nat} {l : List Jb} (h : Oj w base g c l) : Oj w.drew base g c l := Ow.below h ((Below.refl w.heap.size w).drew) (Nat.le_refl _)

end Pm
end Go.Proofs.Ytdjjdebnbaaihaa

/-
  Layer 14 (job): the type of slices of jobs.
-/
namespace Go.Proofs.Ytdjjdebnbaaihaa
open Go.RowKit Mm Tk
namespace Pm

theorem slJ : SlT Try.prog 25 60 (Dat.k Jb) := slT_of Try.underlying25 (show _ = some (some (.agg #[.int .i64 0, .int .i64 0, .int .i64 0, .int .i64 0, .int .i64 0, .bool false]), 6, 48) by kernel_rfl) rfl (by omega)

end Pm
end Go.Proofs.Ytdjjdebnbaaihaa

/-
  Layer 14 (job): validTimes, validTicks, Right.
-/
namespace Go.Proofs.Ytdjjdebnbaaihaa
open Go.RowKit Mm Tk
namespace Pm

def timesJ (x : Jb) (d : Int) : Bool := decide (0 ≤ x.2.1 ∧ x.2.1 ≤ 4611686018427387703 ∧ x.2.2.1 = x.2.1 + d)
def ticksJ (x : Jb) (c : Int) : Bool := decide (1 ≤ x.2.2.2.1 ∧ x.2.2.2.1 ≤ 200 ∧ 0 ≤ x.2.2.2.2.1 ∧ x.2.2.2.2.1 < c ∧ x.2.2.2.2.1 < x.2.2.2.1 ∧ (x.2.2.2.2.2 = true ∨ x.2.2.2.2.1 = 0))
theorem rightJ_parts {L : List Tsk} {x : Jb} : rightJ L x = true ↔ 0 ≤ x.1 ∧ x.1 < (L.length : Int) ∧ timesJ x (at_ L x.1.toNat).2.1 = true ∧ ticksJ x (at_ L x.1.toNat).1 = true := by
  rw [rightJ_iff]
  unfold timesJ ticksJ
  rw [decide_eq_true_iff, decide_eq_true_iff]
  simp only [tkJ, atJ, dueJ, wantJ, hadJ, begJ, ofJ]
  generalize x.2.2.2.2.2 = bb
  cases bb <;> simp <;> omega

set_option maxHeartbeats 1600000 in
theorem validTimes_any (x : Jb) (d : Int) (w : World) (h0 : 0 ≤ d) (h1 : d ≤ 200) :
    Calls Try.prog 58 #[(.agg #[(.int .i64 x.1), (.int .i64 x.2.1), (.int .i64 x.2.2.1), (.int .i64 x.2.2.2.1), (.int .i64 x.2.2.2.2.1), (.bool x.2.2.2.2.2)]), .int .i64 d] w fun e w' => e = .returned (.bool (timesJ x d)) ∧ Below w.heap.size w w' := by
  have B0 := Lib.hid (below_one w (Obj.cells #[(.int .i64 x.1), (.int .i64 x.2.1), (.int .i64 x.2.2.1), (.int .i64 x.2.2.2.1), (.int .i64 x.2.2.2.2.1), (.bool x.2.2.2.2.2)] 60))
  by_cases c1 : 0 ≤ x.2.1
  · have d1 : decide (0 ≤ x.2.1) = true := decide_eq_true c1
    by_cases c2 : x.2.1 ≤ 4611686018427387703
    · have d2 : decide (x.2.1 ≤ 4611686018427387703) = true := decide_eq_true c2
      have HV : Hid (∀ u : Bool, u = decide (x.2.2.1 = x.2.1 + d) → timesJ x d = u) := fun u hu => by
        rw [hu]; unfold timesJ; rw [decide_eq_decide]; omega
      by_cases c3 : x.2.2.1 = x.2.1 + d
      · have HE : Hid (timesJ x d = true) := HV.out true (decide_eq_true c3).symm
        have d3 : (x.2.2.1 == x.2.1 + d) = true := beq_iff_eq.2 c3
        clear c3
        go_enter Try.func58, Try.ntmps58
        go_wp2_with fail
        go_ret
        exact ⟨ret_bool HE.out.symm, B0.out⟩
      · have HE : Hid (timesJ x d = false) := HV.out false (decide_eq_false c3).symm
        go_enter Try.func58, Try.ntmps58
        go_wp2_with fail
        go_ret
        exact ⟨ret_bool (by rw [HE.out]; first | rfl | (rw [beq_eq_false_iff_ne]; exact c3) | simp), B0.out⟩
    · have d2 : decide (x.2.1 ≤ 4611686018427387703) = false := decide_eq_false c2
      have HE : Hid (timesJ x d = false) := by show _ = _; unfold timesJ; rw [decide_eq_false_iff_not]; omega
      go_enter Try.func58, Try.ntmps58
      go_wp2_with fail
      go_ret
      exact ⟨ret_bool HE.out.symm, B0.out⟩
  · have d1 : decide (0 ≤ x.2.1) = false := decide_eq_false c1
    have HE : Hid (timesJ x d = false) := by show _ = _; unfold timesJ; rw [decide_eq_false_iff_not]; omega
    go_enter Try.func58, Try.ntmps58
    go_wp2_with fail
    go_ret
    exact ⟨ret_bool HE.out.symm, B0.out⟩

set_option maxHeartbeats 1600000 in
theorem validTicks_any (x : Jb) (c : Int) (w : World) :
    Calls Try.prog 59 #[(.agg #[(.int .i64 x.1), (.int .i64 x.2.1), (.int .i64 x.2.2.1), (.int .i64 x.2.2.2.1), (.int .i64 x.2.2.2.2.1), (.bool x.2.2.2.2.2)]), .int .i64 c] w fun e w' => e = .returned (.bool (ticksJ x c)) ∧ Below w.heap.size w w' := by
  have B0 := Lib.hid (below_one w (Obj.cells #[(.int .i64 x.1), (.int .i64 x.2.1), (.int .i64 x.2.2.1), (.int .i64 x.2.2.2.1), (.int .i64 x.2.2.2.2.1), (.bool x.2.2.2.2.2)] 60))
  by_cases c1 : x.2.2.2.1 < 1
  · have d1 : decide (x.2.2.2.1 < 1) = true := decide_eq_true c1
    have HE : Hid (ticksJ x c = false) := by show _ = _; unfold ticksJ; rw [decide_eq_false_iff_not]; omega
    go_enter Try.func59, Try.ntmps59
    go_wp2_with fail
    go_ret
    exact ⟨ret_bool HE.out.symm, B0.out⟩
  · have d1 : decide (x.2.2.2.1 < 1) = false := decide_eq_false c1
    by_cases c2 : 200 < x.2.2.2.1
    · have d2 : decide (200 < x.2.2.2.1) = true := decide_eq_true c2
      have HE : Hid (ticksJ x c = false) := by show _ = _; unfold ticksJ; rw [decide_eq_false_iff_not]; omega
      go_enter Try.func59, Try.ntmps59
      go_wp2_with fail
      go_ret
      exact ⟨ret_bool HE.out.symm, B0.out⟩
    · have d2 : decide (200 < x.2.2.2.1) = false := decide_eq_false c2
      by_cases c3 : x.2.2.2.2.1 < 0
      · have d3 : decide (x.2.2.2.2.1 < 0) = true := decide_eq_true c3
        have HE : Hid (ticksJ x c = false) := by show _ = _; unfold ticksJ; rw [decide_eq_false_iff_not]; omega
        go_enter Try.func59, Try.ntmps59
        go_wp2_with fail
        go_ret
        exact ⟨ret_bool HE.out.symm, B0.out⟩
      · have d3 : decide (x.2.2.2.2.1 < 0) = false := decide_eq_false c3
        by_cases cm : c ≤ x.2.2.2.1
        all_goals
          have hmn : (c ≤ x.2.2.2.1 → min c x.2.2.2.1 = c) ∧ (¬ c ≤ x.2.2.2.1 → min c x.2.2.2.1 = x.2.2.2.1) := ⟨fun h => Int.min_eq_left h, fun h => Int.min_eq_right (by omega)⟩
          have hmm : min c x.2.2.2.1 = c ∧ c ≤ x.2.2.2.1 ∨ min c x.2.2.2.1 = x.2.2.2.1 ∧ ¬ c ≤ x.2.2.2.1 := by
            by_cases h : c ≤ x.2.2.2.1
            · exact .inl ⟨hmn.1 h, h⟩
            · exact .inr ⟨hmn.2 h, h⟩
          clear hmn
          by_cases c4 : c ≤ x.2.2.2.2.1 ∨ x.2.2.2.1 ≤ x.2.2.2.2.1
          · have d4 : decide (min c x.2.2.2.1 ≤ x.2.2.2.2.1) = true := decide_eq_true (by rcases hmm with ⟨h, _⟩ | ⟨h, _⟩ <;> rw [h] <;> omega)
            have d5 : min c x.2.2.2.1 ≤ x.2.2.2.2.1 := of_decide_eq_true d4
            clear hmm
            have HE : Hid (ticksJ x c = false) := by show _ = _; unfold ticksJ; rw [decide_eq_false_iff_not]; omega
            go_enter Try.func59, Try.ntmps59
            go_wp2_with fail
            go_ret
            exact ⟨ret_bool HE.out.symm, B0.out⟩
          · have d4 : decide (min c x.2.2.2.1 ≤ x.2.2.2.2.1) = false := decide_eq_false (by rcases hmm with ⟨h, _⟩ | ⟨h, _⟩ <;> rw [h] <;> omega)
            clear hmm
            have d5 : ¬ min c x.2.2.2.1 ≤ x.2.2.2.2.1 := of_decide_eq_false d4
            have d6 : ¬ c ≤ x.2.2.2.2.1 := by omega
            have d7 : ¬ x.2.2.2.1 ≤ x.2.2.2.2.1 := by omega
            cases hb : x.2.2.2.2.2 with
            | true =>
              have HE : Hid (ticksJ x c = true) := by show _ = _; unfold ticksJ; rw [decide_eq_true_iff]; exact ⟨by omega, by omega, by omega, by omega, by omega, .inl hb⟩
              go_enter Try.func59, Try.ntmps59
              go_wp2_with fail
              go_ret
              rw [hb] at B0
              exact ⟨ret_bool HE.out.symm, B0.out⟩
            | false =>
              by_cases c5 : x.2.2.2.2.1 = 0
              · have HE : Hid (ticksJ x c = true) := by show _ = _; unfold ticksJ; rw [decide_eq_true_iff]; exact ⟨by omega, by omega, by omega, by omega, by omega, .inr c5⟩
                go_enter Try.func59, Try.ntmps59
                go_wp2_with fail
                go_ret
                rw [hb] at B0
                exact ⟨ret_bool HE.out.symm, by first | exact B0.out | (rw [c5] at B0; exact B0.out)⟩
              · have HE : Hid (ticksJ x c = false) := by show _ = _; unfold ticksJ; rw [decide_eq_false_iff_not, hb]; simp; omega
                have d8 : (x.2.2.2.2.1 == 0) = false := beq_eq_false_iff_ne.2 c5
                go_enter Try.func59, Try.ntmps59
                go_wp2_with fail
                go_ret
                rw [hb] at B0
                exact ⟨ret_bool HE.out.symm, B0.out⟩

end Pm
end Go.Proofs.Ytdjjdebnbaaihaa

/-
  Layer 14 (job): Right; the library's IndexFunc, ContainsFunc at jobs; twice; All.
-/
namespace Go.Proofs.Ytdjjdebnbaaihaa
open Go.RowKit Mm Tk Go.Shelf
namespace Pm

theorem rightJ_eq {L : List Tsk} {x : Jb} (h0 : 0 ≤ x.1) (h1 : x.1 < (L.length : Int)) : rightJ L x = (timesJ x (at_ L x.1.toNat).2.1 && ticksJ x (at_ L x.1.toNat).1) := by
  rw [Bool.eq_iff_iff, rightJ_parts, Bool.and_eq_true]
  exact ⟨fun h => h.2.2, fun h => ⟨h0, h1, h⟩⟩
theorem rightJ_no {L : List Tsk} {x : Jb} (h : x.1 < 0 ∨ (L.length : Int) ≤ x.1) : rightJ L x = false := by
  cases e : rightJ L x with
  | false => rfl
  | true => have := rightJ_parts.1 e; omega
theorem allB_at {L : List Tsk} (h : allB L = true) {j : Nat} (hj : j < L.length) : L.length ≤ 8 ∧ 1 ≤ (at_ L j).1 ∧ (at_ L j).1 ≤ (at_ L j).2.1 ∧ (at_ L j).2.1 ≤ (at_ L j).2.2.1 ∧ (at_ L j).2.2.1 ≤ 200 ∧ (at_ L j).2.2.2.length ≤ 4 := by
  unfold allB at h
  rw [Bool.and_eq_true, decide_eq_true_iff, List.all_eq_true] at h
  have h2 : rightB (at_ L j).1 (at_ L j).2.1 (at_ L j).2.2.1 (at_ L j).2.2.2 = true := h.2 _ (at_mem hj)
  obtain ⟨ht, hl, _⟩ := rightB_iff.1 h2
  obtain ⟨a1, a2, a3, a4⟩ := times_iff.1 ht
  exact ⟨h.1, a1, a2, a3, a4, hl⟩

set_option maxHeartbeats 3200000 in
theorem jobRight_any (A : Option Addr) (c : Nat) (L : List Tsk) (x : Jb) (w : World) (HL : TL w A c L) :
    Calls Try.prog 41 #[.slice A L.length c, (.agg #[(.int .i64 x.1), (.int .i64 x.2.1), (.int .i64 x.2.2.1), (.int .i64 x.2.2.2.1), (.int .i64 x.2.2.2.2.1), (.bool x.2.2.2.2.2)])] w fun e w' => e = .returned (.bool (allB L && rightJ L x)) ∧ Below w.heap.size w w' := by
  have B0 := Lib.hid (below_one w (Obj.cells #[(.int .i64 x.1), (.int .i64 x.2.1), (.int .i64 x.2.2.1), (.int .i64 x.2.2.2.1), (.int .i64 x.2.2.2.2.1), (.bool x.2.2.2.2.2)] 60))
  have hx0 := cj_new w x _ rfl
  have HT := Lib.hid (HL.below B0.out)
  clear HL
  go_enter Try.func41, Try.ntmps41
  go_wp2_with fail
  generalize w.alloc (Obj.cells #[(.int .i64 x.1), (.int .i64 x.2.1), (.int .i64 x.2.2.1), (.int .i64 x.2.2.2.1), (.int .i64 x.2.2.2.2.1), (.bool x.2.2.2.2.2)] 60) = w0 at *
  refine (all_any A c L w0 HT.out.1 HT.out.2.1 HT.out.2.2).mono ?_
  rintro e w1 ⟨rfl, b1⟩
  have hx1 := hx0.below b1
  have B1 := Lib.hid (below_step B0.out b1)
  have HT1 := Lib.hid (HT.out.below b1)
  clear hx0 b1
  cases ha : allB L with
  | false =>
    have HA := Lib.hid ha
    clear ha
    clear hx1
    go_wp2_with fail
    go_ret
    exact ⟨ret_bool (by rw [HA.out]; rfl), B1.out⟩
  | true =>
    have HAT := Lib.hid (fun j => allB_at (j := j) ha)
    have HA := Lib.hid ha
    clear ha
    have x0 := hx1.c0
    by_cases h0 : x.1 < 0
    · have d0 : decide (x.1 < 0) = true := decide_eq_true h0
      have HE := Lib.hid (rightJ_no (L := L) (.inl h0))
      clear hx1
      go_wp2_with fail
      go_ret
      exact ⟨ret_bool (by rw [HE.out, Bool.and_false]), B1.out⟩
    · have d0 : decide (x.1 < 0) = false := decide_eq_false h0
      by_cases h1 : (L.length : Int) ≤ x.1
      · have d1 : decide ((L.length : Int) ≤ x.1) = true := decide_eq_true h1
        have HE := Lib.hid (rightJ_no (L := L) (.inr h1))
        clear hx1
        go_wp2_with fail
        go_ret
        exact ⟨ret_bool (by rw [HE.out, Bool.and_false]), B1.out⟩
      · have d1 : decide ((L.length : Int) ≤ x.1) = false := decide_eq_false h1
        have h2 : 0 ≤ x.1 := by omega
        have h3 : x.1 < (L.length : Int) := by omega
        have h4 : x.1.toNat < L.length := by omega
        have HE := Lib.hid (rightJ_eq (L := L) h2 h3)
        obtain ⟨a0, a1, a2, a3, a4, _⟩ := HAT.out _ h4
        obtain ⟨b, off, rfl, hc⟩ := task_at HT1.out.2.2 (by omega)
        obtain ⟨B, d, t1, t2, t3, t4, _, _, _, _⟩ := hc _ h4
        clear hc
        have HX2 := Lib.hid (hx1.below (below_one w1 (Obj.cells #[.int .i64 (at_ L x.1.toNat).1, .int .i64 (at_ L x.1.toNat).2.1, .int .i64 (at_ L x.1.toNat).2.2.1, .slice B (at_ L x.1.toNat).2.2.2.length d] 33)))
        have B2 := Lib.hid (below_step B1.out (below_one w1 (Obj.cells #[.int .i64 (at_ L x.1.toNat).1, .int .i64 (at_ L x.1.toNat).2.1, .int .i64 (at_ L x.1.toNat).2.2.1, .slice B (at_ L x.1.toNat).2.2.2.length d] 33)))
        obtain ⟨u1, u2, u3, u4⟩ := box_new w1 (at_ L x.1.toNat).1 (at_ L x.1.toNat).2.1 (at_ L x.1.toNat).2.2.1 B (at_ L x.1.toNat).2.2.2.length d
        have HW : Hid (∀ W, timesJ x (at_ L x.1.toNat).2.1 = false → Calls Try.prog 58 #[(.agg #[(.int .i64 x.1), (.int .i64 x.2.1), (.int .i64 x.2.2.1), (.int .i64 x.2.2.2.1), (.int .i64 x.2.2.2.2.1), (.bool x.2.2.2.2.2)]), .int .i64 (at_ L x.1.toNat).2.1] W fun e w' => e = .returned (.bool false) ∧ Below W.heap.size W w') := fun W h => h ▸ validTimes_any x _ W (by omega) (by omega)
        have HW2 : Hid (∀ W, timesJ x (at_ L x.1.toNat).2.1 = true → Calls Try.prog 58 #[(.agg #[(.int .i64 x.1), (.int .i64 x.2.1), (.int .i64 x.2.2.1), (.int .i64 x.2.2.2.1), (.int .i64 x.2.2.2.2.1), (.bool x.2.2.2.2.2)]), .int .i64 (at_ L x.1.toNat).2.1] W fun e w' => e = .returned (.bool true) ∧ Below W.heap.size W w') := fun W h => h ▸ validTimes_any x _ W (by omega) (by omega)
        have HW3 : Hid (∀ W, Calls Try.prog 59 #[(.agg #[(.int .i64 x.1), (.int .i64 x.2.1), (.int .i64 x.2.2.1), (.int .i64 x.2.2.2.1), (.int .i64 x.2.2.2.2.1), (.bool x.2.2.2.2.2)]), .int .i64 (at_ L x.1.toNat).1] W fun e w' => e = .returned (.bool (ticksJ x (at_ L x.1.toNat).1)) ∧ Below W.heap.size W w') := fun W => validTicks_any x _ W
        generalize at_ L x.1.toNat = y at *
        cases hv : timesJ x y.2.1 with
        | false =>
          have HV := Lib.hid hv
          clear hv
          have z0 := HX2.out.c0
          have z0_1 := HX2.out.c1
          have z0_2 := HX2.out.c2
          have z0_3 := HX2.out.c3
          have z0_4 := HX2.out.c4
          have z0_5 := HX2.out.c5
          go_wp2_with fail
          generalize w1.alloc (Obj.cells #[.int .i64 y.1, .int .i64 y.2.1, .int .i64 y.2.2.1, .slice B y.2.2.2.length d] 33) = w2 at *
          refine (HW.out w2 HV.out).mono ?_
          rintro e w3 ⟨rfl, b3⟩
          have B3 := Lib.hid (below_step B2.out b3)
          clear b3
          go_wp2_with fail
          go_ret
          exact ⟨ret_bool (by rw [HE.out, HV.out, Bool.false_and, Bool.and_false]), B3.out⟩
        | true =>
          have HV := Lib.hid hv
          clear hv
          have z0 := HX2.out.c0
          have z0_1 := HX2.out.c1
          have z0_2 := HX2.out.c2
          have z0_3 := HX2.out.c3
          have z0_4 := HX2.out.c4
          have z0_5 := HX2.out.c5
          go_wp2_with fail
          generalize w1.alloc (Obj.cells #[.int .i64 y.1, .int .i64 y.2.1, .int .i64 y.2.2.1, .slice B y.2.2.2.length d] 33) = w2 at *
          refine (HW2.out w2 HV.out).mono ?_
          rintro e w3 ⟨rfl, b3⟩
          clear z0 z0_1 z0_2 z0_3 z0_4 z0_5
          have hx3 := HX2.out.below b3
          have z0 := hx3.c0
          have z0_1 := hx3.c1
          have z0_2 := hx3.c2
          have z0_3 := hx3.c3
          have z0_4 := hx3.c4
          have z0_5 := hx3.c5
          replace u1 := (cell_below b3) u1
          replace u2 := (cell_below b3) u2
          replace u3 := (cell_below b3) u3
          replace u4 := (cell_below b3) u4
          have B3 := Lib.hid (below_step B2.out b3)
          clear b3 hx3
          go_wp2_with fail
          refine (HW3.out w3).mono ?_
          rintro e w4 ⟨rfl, b4⟩
          have B4 := Lib.hid (below_step B3.out b4)
          clear b4
          go_wp2_with fail
          go_ret
          exact ⟨ret_bool (by rw [HA.out, HE.out, HV.out, Bool.true_and, Bool.true_and]), B4.out⟩

end Pm
end Go.Proofs.Ytdjjdebnbaaihaa

/-
  Layer 14 (job): the library's IndexFunc, ContainsFunc at jobs; twice; All.
-/
namespace Go.Proofs.Ytdjjdebnbaaihaa
open Go.RowKit Mm Tk Go.Shelf
namespace Pm

/-- what is asked of a closure over jobs -/
def PredJob (g : Nat) (lb : Array Value) (pb : Jb → Bool) (w : World) : Prop := ∀ (W : World) (x : Jb), Below w.heap.size w W →
  Calls Try.prog g (#[(.agg #[(.int .i64 x.1), (.int .i64 x.2.1), (.int .i64 x.2.2.1), (.int .i64 x.2.2.2.1), (.int .i64 x.2.2.2.2.1), (.bool x.2.2.2.2.2)])] ++ lb) W fun e w' => e = .returned (.bool (pb x)) ∧ Below W.heap.size W w'

set_option maxHeartbeats 800000 in
theorem indexJob (g : Nat) (lb : Array Value) (pb : Jb → Bool) (eg : ∀ args w, (callFunc g args).run Try.prog w = .ok (.enter g args) w) (A : Option Addr) (c : Nat) (l : List Jb) (w : World) (hbig : l.length ≤ 1000000) (hp : PredJob g lb pb w) (hr : Rd w A c l) :
    Calls Try.prog 57 #[.slice A l.length c, .func (.func g) #[] lb] w (IdxOf w (l.any pb)) := by
  have HR := Lib.hid hr
  have HP := Lib.hid hp
  clear hr hp
  go_enter Try.func57, Try.ntmps57
  go_wp2_with fail
  go_loopw [8] (fun i wr => ∃ k : Nat, i = .int .i64 k ∧ k ≤ l.length ∧ Hid (∀ j, j < k → pb (at_ l j) = false) ∧ Hid (Below w.heap.size w wr)) (fun i _ => l.length - (intOf i).toNat)
  case atStart => exact ⟨0, rfl, Nat.zero_le _, (fun j h => by omega), Below.refl _ _⟩
  case round =>
    obtain ⟨k, rfl, hk, HH, HB⟩ := hrel
    by_cases hlt : k < l.length
    · obtain ⟨b, off, rfl, hc⟩ := job_at (HR.out.below HB.out) (by omega)
      have hx := (hc k hlt).1
      have hcall := HP.out wr (at_ l k) HB.out
      clear hc
      cases hb : pb (at_ l k) with
      | true =>
        rw [hb] at hcall
        have HY := Lib.hid (any_take_yes hlt hb)
        clear hb
        generalize at_ l k = x at *
        have x0 := hx.c0
        have x0_1 := hx.c1
        have x0_2 := hx.c2
        have x0_3 := hx.c3
        have x0_4 := hx.c4
        have x0_5 := hx.c5
        clear hx
        go_wp2_with (go_at_fn g; refine hcall.mono ?_; rintro e w1 ⟨rfl, b2⟩; have HB2 := Lib.hid (below_step HB.out b2); clear b2 hcall)
        go_ret
        exact ⟨k, rfl, (fun _ => by omega), (fun h => by rw [HY.out] at h; cases h), HB2.out⟩
      | false =>
        rw [hb] at hcall
        have HN := Lib.hid hb
        clear hb
        generalize hx' : at_ l k = x at *
        have HX := Lib.hid hx'
        clear hx'
        have x0 := hx.c0
        have x0_1 := hx.c1
        have x0_2 := hx.c2
        have x0_3 := hx.c3
        have x0_4 := hx.c4
        have x0_5 := hx.c5
        clear hx
        go_wp2_with (go_at_fn g; refine hcall.mono ?_; rintro e w1 ⟨rfl, b2⟩; have HB2 := Lib.hid (below_step HB.out b2); clear b2 hcall)
        go_roundw
        case rel =>
          refine ⟨k + 1, by go_num, hlt, fun j hj => ?_, HB2⟩
          by_cases e : j = k
          · subst e; rw [HX.out]; exact HN.out
          · exact HH.out j (by omega)
        case measure => simp [intOf]; omega
    · go_wp2_with fail
      go_ret
      have hn := any_take_no (p := pb) (l := l) fun j hj => HH.out j (by omega)
      exact ⟨-1, rfl, (fun h => by rw [hn] at h; cases h), (fun _ => rfl), HB.out⟩

theorem hasJob (g : Nat) (lb : Array Value) (pb : Jb → Bool) (eg : ∀ args w, (callFunc g args).run Try.prog w = .ok (.enter g args) w) (A : Option Addr) (c : Nat) (l : List Jb) (w : World) (hbig : l.length ≤ 1000000) (hp : PredJob g lb pb w) (hr : Rd w A c l) :
    Calls Try.prog 39 #[.slice A l.length c, .func (.func g) #[] lb] w fun e w' => e = .returned (.bool (l.any pb)) ∧ Below w.heap.size w w' := by
  have HR := Lib.hid hr
  have HP := Lib.hid hp
  clear hr hp
  go_enter Try.func39, Try.ntmps39
  go_wp2_with fail
  refine (indexJob g lb pb eg A c l _ hbig HP.out HR.out).mono ?_
  rintro e w1 ⟨n, rfl, h1, h2, b1⟩
  have B1 := Lib.hid b1
  have H1 := Lib.hid h1
  have H2 := Lib.hid h2
  clear b1 h1 h2
  cases ha : l.any pb with
  | true =>
    have h := H1.out ha
    have HA := Lib.hid ha
    clear ha
    go_wp2_with fail
    go_ret
    exact ⟨ret_bool (by rw [HA.out]), B1.out⟩
  | false =>
    have h := H2.out ha
    subst h
    have HA := Lib.hid ha
    clear ha
    go_wp2_with fail
    go_ret
    exact ⟨ret_bool (by rw [HA.out]), B1.out⟩

/-- those of which it is known that they are unlike all behind them; and that at k those of the next m -/
def Upto (l : List Jb) (k m : Nat) : Prop := (∀ i j, i < k → i < j → j < l.length → unlike (at_ l i) (at_ l j)) ∧ ∀ j, j < m → unlike (at_ l k) (at_ l (k + 1 + j))
theorem Upto.step {l : List Jb} {k m : Nat} (h : Upto l k m) (hp : unlike (at_ l k) (at_ l (k + 1 + m))) : Upto l k (m + 1) := ⟨h.1, fun j hj => by
  by_cases e : j = m
  · subst e; exact hp
  · exact h.2 j (by omega)⟩
theorem Upto.next {l : List Jb} {k m : Nat} (h : Upto l k m) (hm : l.length ≤ k + 1 + m) : Upto l (k + 1) 0 := ⟨fun i j hi hij hj => by
  by_cases e : i = k
  · subst e
    have := h.2 (j - (i + 1)) (by omega)
    rwa [show i + 1 + (j - (i + 1)) = j from by omega] at this
  · exact h.1 i j (by omega) hij hj, fun j hj => by omega⟩
theorem Upto.all {l : List Jb} {k : Nat} (h : Upto l k 0) (hk : l.length ≤ k) : decide (l.Pairwise unlike) = true := decide_eq_true (unlike_at.2 fun i j hi hj hne => by
  rcases Nat.lt_or_gt_of_ne hne with e | e
  · exact h.1 i j (by omega) e hj
  · exact (h.1 j i (by omega) e hi).symm)
theorem alike_false {l : List Jb} {i k : Nat} (h1 : i < k) (h2 : k < l.length) (h : ¬ unlike (at_ l i) (at_ l k)) : decide (l.Pairwise unlike) = false := decide_eq_false fun hp => h (unlike_at.1 hp i k (by omega) h2 (by omega))

set_option maxRecDepth 20000 in
set_option maxHeartbeats 1600000 in
theorem twice_any (A : Option Addr) (c : Nat) (l : List Jb) (w : World) (hbig : l.length ≤ 1000000) (hr : Rd w A c l) :
    Calls Try.prog 42 #[.slice A l.length c] w fun e w' => e = .returned (.bool (!decide (l.Pairwise unlike))) ∧ Below w.heap.size w w' := by
  have hlc := hr.le
  have HR := Lib.hid hr
  clear hr
  go_enter Try.func42, Try.ntmps42
  go_wp2_with fail
  go_loopw [9] (fun i wr => ∃ k : Nat, i = .int .i64 k ∧ k ≤ l.length ∧ Hid (Upto l k 0) ∧ Hid (Below w.heap.size w wr)) (fun i _ => l.length - (intOf i).toNat)
  case atStart => exact ⟨0, rfl, Nat.zero_le _, ⟨fun i j h => by omega, fun j h => by omega⟩, Below.refl _ _⟩
  case round =>
    obtain ⟨k, rfl, hk, HH, HB⟩ := hrel
    by_cases hlt : k < l.length
    · obtain ⟨b, off, rfl, hc⟩ := job_at (HR.out.below HB.out) (by omega)
      have hx := (hc k hlt).1
      have HC := Lib.hid (fun j hj => (hc j hj).1)
      clear hc
      have HX : Hid (at_ l k = at_ l k) := rfl
      generalize hxx : at_ l k = x at *
      have HXX := Lib.hid hxx
      clear hxx HX
      have HB1 := Lib.hid (below_one wr (Obj.cells #[(.int .i64 x.1), (.int .i64 x.2.1), (.int .i64 x.2.2.1), (.int .i64 x.2.2.2.1), (.int .i64 x.2.2.2.2.1), (.bool x.2.2.2.2.2)] 60))
      have B1 := Lib.hid (below_step HB.out HB1.out)
      have HC1 := Lib.hid (fun j hj => (HC.out j hj).below HB1.out)
      have HY := Lib.hid (cj_new wr x _ rfl)
      have x0 := hx.c0
      have x0_1 := hx.c1
      have x0_2 := hx.c2
      have x0_3 := hx.c3
      have x0_4 := hx.c4
      have x0_5 := hx.c5
      clear hx
      by_cases hlast : k + 1 = c
      · have hle : k + 1 = l.length := by omega
        go_wp2_with fail
        generalize wr.alloc (Obj.cells #[(.int .i64 x.1), (.int .i64 x.2.1), (.int .i64 x.2.2.1), (.int .i64 x.2.2.2.1), (.int .i64 x.2.2.2.2.1), (.bool x.2.2.2.2.2)] 60) = w1 at *
        go_loopw [19] (fun i wy => i = .int .i64 0 ∧ wy = w1) (fun _ _ => 0)
        case atStart => exact ⟨rfl, rfl⟩
        case round =>
          obtain ⟨rfl, rfl⟩ := hrel
          go_wp2_with fail
          go_roundw
          case rel => exact ⟨k + 1, by go_num, hlt, HH.out.next (by omega), B1⟩
          case measure => simp [intOf]; omega
      · have hlc2 : k + 1 ≤ c := by omega
        go_wp2_with fail
        generalize wr.alloc (Obj.cells #[(.int .i64 x.1), (.int .i64 x.2.1), (.int .i64 x.2.2.1), (.int .i64 x.2.2.2.1), (.int .i64 x.2.2.2.2.1), (.bool x.2.2.2.2.2)] 60) = w1 at *
        generalize wr.heap.size = X at *
        clear x0 x0_1 x0_2 x0_3 x0_4 x0_5
        generalize wr = wi at *
        go_loopw [19] (fun i wy => ∃ m : Nat, i = .int .i64 m ∧ k + 1 + m ≤ l.length ∧ Hid (Upto l k m) ∧ Hid (Below w1.heap.size w1 wy)) (fun i _ => l.length - (intOf i).toNat)
        case atStart => exact ⟨0, rfl, by omega, HH.out, Below.refl _ _⟩
        case round =>
          obtain ⟨m, rfl, hm, HU, HW⟩ := hrel
          by_cases hmt : k + 1 + m < l.length
          · have hy := (HC1.out _ hmt).below HW.out
            rw [show off + (k + 1 + m) * 6 = off + (k + 1) * 6 + m * 6 from by omega] at hy
            have HS : Hid (unlike (at_ l k) (at_ l (k + 1 + m)) → Upto l k (m + 1)) := fun h => HU.out.step h
            have HNO : Hid (¬ unlike (at_ l k) (at_ l (k + 1 + m)) → decide (l.Pairwise unlike) = false) := fun h => alike_false (by omega) hmt h
            rw [HXX.out] at HS HNO
            have hm2 : m < l.length - (k + 1) := by omega
            have hm3 : (m : Int) < ((l.length - (k + 1) : Nat) : Int) := by omega
            generalize at_ l (k + 1 + m) = y at *
            have hx2 := (HY.out.below HW.out).below (below_one wr (Obj.cells #[(.int .i64 y.1), (.int .i64 y.2.1), (.int .i64 y.2.2.1), (.int .i64 y.2.2.2.1), (.int .i64 y.2.2.2.2.1), (.bool y.2.2.2.2.2)] 60))
            have hy2 := cj_new wr y _ rfl
            have B2 := Lib.hid (below_step HW.out (below_one wr (Obj.cells #[(.int .i64 y.1), (.int .i64 y.2.1), (.int .i64 y.2.2.1), (.int .i64 y.2.2.2.1), (.int .i64 y.2.2.2.2.1), (.bool y.2.2.2.2.2)] 60)))
            have y0 := hy.c0
            have y0_1 := hy.c1
            have y0_2 := hy.c2
            have y0_3 := hy.c3
            have y0_4 := hy.c4
            have y0_5 := hy.c5
            have z0 := hx2.c0
            have z1 := hx2.c1
            have v0 := hy2.c0
            have v1 := hy2.c1
            clear hy hx2 hy2
            by_cases t1 : x.1 = y.1
            · have d1 : (x.1 == y.1) = true := beq_iff_eq.2 t1
              by_cases t2 : x.2.1 = y.2.1
              · have d2 : (x.2.1 == y.2.1) = true := beq_iff_eq.2 t2
                have HE := Lib.hid (HNO.out (fun h => h ⟨t1, t2⟩))
                clear t1 t2
                go_wp2_with fail
                try rw [Exit.noGoto_ret]
                go_ret
                exact ⟨ret_bool (by rw [HE.out]; rfl), below_step B1.out B2.out⟩
              · have d2 : (x.2.1 == y.2.1) = false := beq_eq_false_iff_ne.2 t2
                have HU2 := Lib.hid (HS.out (fun h => t2 h.2))
                clear t1 t2
                go_wp2_with fail
                go_roundw
                case rel => exact ⟨m + 1, by go_num, by omega, HU2, B2⟩
                case measure => simp [intOf]; omega
            · have d1 : (x.1 == y.1) = false := beq_eq_false_iff_ne.2 t1
              have HU2 := Lib.hid (HS.out (fun h => t1 h.1))
              clear t1
              go_wp2_with fail
              go_roundw
              case rel => exact ⟨m + 1, by go_num, by omega, HU2, B2⟩
              case measure => simp [intOf]; omega
          · have hm2 : ¬ m < l.length - (k + 1) := by omega
            have hm3 : ¬ (m : Int) < ((l.length - (k + 1) : Nat) : Int) := by omega
            go_wp2_with fail
            go_roundw
            case rel => exact ⟨k + 1, by go_num, hlt, HU.out.next (by omega), below_step B1.out HW.out⟩
            case measure => simp [intOf]; omega
    · go_wp2_with fail
      try rw [Exit.noGoto_ret]
      go_ret
      exact ⟨ret_bool (by rw [HH.out.all (by omega)]; rfl), HB.out⟩

end Pm
end Go.Proofs.Ytdjjdebnbaaihaa

/-
  Layer 14 (job): All.
-/
namespace Go.Proofs.Ytdjjdebnbaaihaa
open Go.RowKit Mm Tk Go.Shelf
namespace Pm

/-- what All answers: of no jobs it does not ask whether the tasks are right -/
def allP (L : List Tsk) (l : List Jb) : Bool := decide (l.length ≤ 32) && (l.all (fun x => allB L && rightJ L x) && decide (l.Pairwise unlike))
theorem allP_iff {L : List Tsk} {l : List Jb} : allP L l = true ↔ l.length ≤ 32 ∧ (∀ x ∈ l, allB L = true ∧ rightJ L x = true) ∧ l.Pairwise unlike := by
  unfold allP
  rw [Bool.and_eq_true, Bool.and_eq_true, decide_eq_true_iff, decide_eq_true_iff, List.all_eq_true]
  simp only [Bool.and_eq_true]
theorem allJ_allP {L : List Tsk} {l : List Jb} (h : allJ L l = true) : allP L l = true := by
  obtain ⟨h1, h2, h3, h4⟩ := allJ_iff.1 h
  exact allP_iff.2 ⟨h2, fun x hx => ⟨h1, h4 x hx⟩, h3⟩
theorem allP_allJ {L : List Tsk} {l : List Jb} (h : allP L l = true) (h0 : l ≠ [] ∨ allB L = true) : allJ L l = true := by
  obtain ⟨h1, h2, h3⟩ := allP_iff.1 h
  refine allJ_iff.2 ⟨?_, h1, h3, fun x hx => (h2 x hx).2⟩
  rcases h0 with h0 | h0
  · cases l with
    | nil => exact absurd rfl h0
    | cons x l => exact (h2 x (by simp)).1
  · exact h0

theorem all1_closure (X : Nat) (A : Option Addr) (c : Nat) (L : List Tsk) (w : World) (hx : w.cell? ⟨X, 0, none⟩ = some (.slice A L.length c)) (HL : TL w A c L) :
    PredJob 40 #[.pointer (some ⟨X, 0, none⟩)] (fun x => !(allB L && rightJ L x)) w := fun W x hb => by
  have B0 := Lib.hid (below_one W (Obj.cells #[(.int .i64 x.1), (.int .i64 x.2.1), (.int .i64 x.2.2.1), (.int .i64 x.2.2.2.1), (.int .i64 x.2.2.2.2.1), (.bool x.2.2.2.2.2)] 60))
  have hx0 := cj_new W x _ rfl
  have x1 := cell_below B0.out (cell_below hb hx)
  have HT := Lib.hid ((HL.below hb).below B0.out)
  clear HL hx hb
  show Calls Try.prog 40 #[(.agg #[(.int .i64 x.1), (.int .i64 x.2.1), (.int .i64 x.2.2.1), (.int .i64 x.2.2.2.1), (.int .i64 x.2.2.2.2.1), (.bool x.2.2.2.2.2)]), .pointer (some ⟨X, 0, none⟩)] W _
  go_enter Try.func40, Try.ntmps40
  have z0 := hx0.c0
  have z0_1 := hx0.c1
  have z0_2 := hx0.c2
  have z0_3 := hx0.c3
  have z0_4 := hx0.c4
  have z0_5 := hx0.c5
  clear hx0
  go_wp2_with fail
  generalize W.alloc (Obj.cells #[(.int .i64 x.1), (.int .i64 x.2.1), (.int .i64 x.2.2.1), (.int .i64 x.2.2.2.1), (.int .i64 x.2.2.2.2.1), (.bool x.2.2.2.2.2)] 60) = w0 at *
  refine (jobRight_any A c L x w0 HT.out).mono ?_
  rintro e w1 ⟨rfl, b1⟩
  have B1 := Lib.hid (below_step B0.out b1)
  clear b1
  go_wp2_with fail
  go_ret
  exact ⟨ret_bool (by cases allB L <;> cases rightJ L x <;> rfl), B1.out⟩
theorem all1Enters : ∀ args w, (callFunc 40 args).run Try.prog w = .ok (.enter 40 args) w := enters_of Try.func40 (by kernel_rfl) rfl
theorem anyJ_not (L : List Tsk) (l : List Jb) : l.any (fun x => !(allB L && rightJ L x)) = !l.all (fun x => allB L && rightJ L x) := by
  induction l with
  | nil => rfl
  | cons x l ih => rw [List.any_cons, List.all_cons, ih]; cases (allB L && rightJ L x) <;> rfl

set_option maxHeartbeats 1600000 in
theorem allJobs_any (A B : Option Addr) (c d : Nat) (L : List Tsk) (l : List Jb) (w : World) (HL : TL w A c L) (hbig : l.length ≤ 1000000) (hr : Rd w B d l) :
    Calls Try.prog 16 #[.slice A L.length c, .slice B l.length d] w fun e w' => e = .returned (.bool (allP L l)) ∧ Below w.heap.size w w' := by
  have B0 := Lib.hid (below_one w (Obj.cells #[.slice A L.length c] 22))
  have HT := Lib.hid (HL.below B0.out)
  have HR := Lib.hid (hr.below B0.out)
  have HX : Hid ((w.alloc (Obj.cells #[.slice A L.length c] 22)).cell? ⟨w.heap.size, 0, none⟩ = some (.slice A L.length c)) := by show _ = _; simp
  clear HL hr
  by_cases h32 : 32 < l.length
  · have HE : Hid (allP L l = false) := by
      show _ = _
      cases e : allP L l with
      | false => rfl
      | true => have := (allP_iff.1 e).1; omega
    have i1 : (32 : Int) < (l.length : Int) := by omega
    go_enter Try.func16, Try.ntmps16
    go_wp2_with fail
    go_ret
    exact ⟨ret_bool HE.out.symm, B0.out⟩
  · have i1 : ¬ (32 : Int) < (l.length : Int) := by omega
    have HE : Hid (allP L l = (!(l.any (fun x => !(allB L && rightJ L x))) && decide (l.Pairwise unlike))) := by
      show _ = _
      unfold allP
      rw [anyJ_not, Bool.not_not, decide_eq_true (by omega : l.length ≤ 32), Bool.true_and]
    go_enter Try.func16, Try.ntmps16
    go_wp2_with fail
    generalize w.alloc (Obj.cells #[.slice A L.length c] 22) = w0 at *
    refine (hasJob _ _ _ all1Enters B d l w0 hbig (all1_closure w.heap.size A c L w0 HX.out HT.out) HR.out).mono ?_
    rintro e w1 ⟨rfl, b1⟩
    have B1 := Lib.hid (below_step B0.out b1)
    have HR1 := Lib.hid (HR.out.below b1)
    clear b1
    cases ha : l.any (fun x => !(allB L && rightJ L x)) with
    | true =>
      rw [ha] at HE
      have HA := Lib.hid ha
      clear ha
      go_wp2_with fail
      go_ret
      exact ⟨ret_bool HE.out.symm, B1.out⟩
    | false =>
      rw [ha] at HE
      have HA := Lib.hid ha
      clear ha
      go_wp2_with fail
      refine (twice_any B d l w1 hbig HR1.out).mono ?_
      rintro e w2 ⟨rfl, b2⟩
      have B2 := Lib.hid (below_step B1.out b2)
      clear b2
      go_wp2_with fail
      go_ret
      exact ⟨ret_bool (by rw [HE.out]; rfl), B2.out⟩

/-- append as a step of a region that draws, the lengths named -/
theorem step_app_n {α : Type} [Inhabited α] [Dat α] [Flat α] {P : Program} {t e : TypeId} (hT : SlT P t e (Dat.k α)) {w : World} {ops : Array Oper} {o : Oper} {a : Act} {K : Act → World → Prop} {Q : Exit → Act → World → Prop} {E : Prop} (hg : o.guard = none) (s x : Operand) (ho : o.op = .call { callee := .builtin .append, args := #[s, x], argTypes := #[t, t] })
    {base : Nat} {A B : Option Addr} {c d : Nat} {l r : List α} {n m : Nat} (hn : l.length = n) (hm : r.length = m) (h1 : a.eval s = .slice A n c) (h2 : a.eval x = .slice B m d) (h : Ow w base e A c l) (hr : Rd w B d r) (hbig : n + m ≤ 1000000) (hbase : base ≤ w.heap.size)
    (hK : ∀ A' c' w', Ow w' base e A' c' (l ++ r) → Below base w w' → w.grownBy w' (Value.slice A n c).ownBlock → K (a.put o.dst (.slice A' (n + m) c')) w') :
    if Region.wanted o (yielded ops a.tmps) = true then Oper.wp P o a w K Q else E := by
  subst hn; subst hm
  exact step_app_flat hT hg s x ho h1 h2 h hr hbig hbase hK
theorem Ow.own_lt {α : Type} [Inhabited α] [Dat α] {w : World} {base : Nat} {e : TypeId} {A : Option Addr} {c n : Nat} {l : List α} (h : Ow w base e A c l) (hn : l.length = n) : ∀ k, (Value.slice A n c).ownBlock = some k → base ≤ k ∧ k < w.heap.size := by
  subst hn
  obtain ⟨cs, h1, _⟩ := h
  exact World.ownsRow.lt h1

end Pm
end Go.Proofs.Ytdjjdebnbaaihaa

/-
  Layer 14 (job): Ahead.
-/
namespace Go.Proofs.Ytdjjdebnbaaihaa
open Go.RowKit Mm Tk
namespace Pm

theorem ahead_any (x y : Jb) (w : World) :
    Calls Try.prog 51 #[(.agg #[(.int .i64 x.1), (.int .i64 x.2.1), (.int .i64 x.2.2.1), (.int .i64 x.2.2.2.1), (.int .i64 x.2.2.2.2.1), (.bool x.2.2.2.2.2)]), (.agg #[(.int .i64 y.1), (.int .i64 y.2.1), (.int .i64 y.2.2.1), (.int .i64 y.2.2.2.1), (.int .i64 y.2.2.2.2.1), (.bool y.2.2.2.2.2)])] w fun e w' => e = .returned (.bool (aheadB x y)) ∧ Below w.heap.size w w' := by
  by_cases h1 : x.2.2.1 = y.2.2.1
  · by_cases h2 : x.1 = y.1
    · have HV : Hid (decide (x.2.1 < y.2.1) = aheadB x y) := by show _ = _; rw [Bool.eq_iff_iff, ahead_iff]; simp only [dueJ, tkJ, atJ, decide_eq_true_eq]; omega
      go_enter Try.func51, Try.ntmps51
      go_wp2_with fail
      go_ret
      exact ⟨ret_bool HV.out, below_two _ _ _⟩
    · have HV : Hid (decide (x.1 < y.1) = aheadB x y) := by show _ = _; rw [Bool.eq_iff_iff, ahead_iff]; simp only [dueJ, tkJ, atJ, decide_eq_true_eq]; omega
      go_enter Try.func51, Try.ntmps51
      go_wp2_with fail
      go_ret
      exact ⟨ret_bool HV.out, below_two _ _ _⟩
  · have HV : Hid (decide (x.2.2.1 < y.2.2.1) = aheadB x y) := by show _ = _; rw [Bool.eq_iff_iff, ahead_iff]; simp only [dueJ, tkJ, atJ, decide_eq_true_eq]; omega
    go_enter Try.func51, Try.ntmps51
    go_wp2_with fail
    go_ret
    exact ⟨ret_bool HV.out, below_two _ _ _⟩

end Pm
end Go.Proofs.Ytdjjdebnbaaihaa

/-
  Layer 14 (job): First.
-/
namespace Go.Proofs.Ytdjjdebnbaaihaa
open Go.RowKit Mm Tk
namespace Pm


/-! ### one job more -/
theorem at_one {m : List Jb} {y : Jb} {i : Nat} (hi : i < m.length) : at_ (m ++ [y]) i = at_ m i := at_left hi
theorem at_last {m : List Jb} {y : Jb} : at_ (m ++ [y]) m.length = y := by rw [at_right (Nat.le_refl _), Nat.sub_self]; rfl
theorem FirstJ.other {m : List Jb} {b : Bool} {q : Int} {y : Jb} (h : FirstJ m b q) (hy : begJ y ≠ b) : FirstJ (m ++ [y]) b q := by
  rcases h with ⟨rfl, h⟩ | ⟨i, rfl, h1, h2, h3⟩
  · refine .inl ⟨rfl, fun j hj => ?_⟩
    rcases List.mem_append.1 hj with hj | hj
    · exact h j hj
    · rw [List.mem_singleton] at hj; rw [hj]; exact hy
  · refine .inr ⟨i, rfl, by simp; omega, ?_, fun k hk => ?_⟩
    · obtain ⟨g1, g2⟩ := isFirst_iff.1 h2
      refine isFirst_iff.2 ⟨by rw [at_one h1]; exact g1, fun x hx hb => ?_⟩
      rw [at_one h1]
      rcases List.mem_append.1 hx with hx | hx
      · exact g2 x hx hb
      · rw [List.mem_singleton] at hx; rw [hx] at hb; exact absurd hb hy
    · cases e : isFirst (m ++ [y]) b k with
      | false => rfl
      | true =>
        obtain ⟨g1, g2⟩ := isFirst_iff.1 e
        rw [at_one (by omega)] at g1 g2
        have := h3 k hk
        rw [isFirst_iff.2 ⟨g1, fun x hx hb => g2 x (List.mem_append.2 (.inl hx)) hb⟩] at this
        cases this
theorem FirstJ.none {m : List Jb} {b : Bool} {y : Jb} (h : FirstJ m b (-1)) (hy : begJ y = b) : FirstJ (m ++ [y]) b (m.length : Int) := by
  rcases h with ⟨_, h⟩ | ⟨i, e, _⟩
  · refine .inr ⟨m.length, rfl, by simp, isFirst_iff.2 ⟨by rw [at_last]; exact hy, fun x hx hb => ?_⟩, fun k hk => ?_⟩
    · rw [at_last]
      rcases List.mem_append.1 hx with hx | hx
      · exact absurd hb (h x hx)
      · rw [List.mem_singleton] at hx; rw [hx]; exact ahead_self _
    · cases e : isFirst (m ++ [y]) b k with
      | false => rfl
      | true =>
        have g1 := (isFirst_iff.1 e).1
        rw [at_one hk] at g1
        exact absurd g1 (h _ (at_mem hk))
  · omega
theorem FirstJ.ahead {m : List Jb} {b : Bool} {i : Nat} {y : Jb} (h : FirstJ m b (i : Int)) (hi : i < m.length) (hy : begJ y = b) (ha : aheadB y (at_ m i) = true) : FirstJ (m ++ [y]) b (m.length : Int) := by
  rcases h with ⟨e, _⟩ | ⟨i', e, h1, h2, h3⟩
  · omega
  · have e2 : i' = i := by omega
    subst e2
    obtain ⟨g1, g2⟩ := isFirst_iff.1 h2
    have hlow : ∀ x ∈ m, begJ x = b → aheadB y x = true := fun x hx hb => lt_le ha (g2 x hx hb)
    refine .inr ⟨m.length, rfl, by simp, isFirst_iff.2 ⟨by rw [at_last]; exact hy, fun x hx hb => ?_⟩, fun k hk => ?_⟩
    · rw [at_last]
      rcases List.mem_append.1 hx with hx | hx
      · exact ahead_not (hlow x hx hb)
      · rw [List.mem_singleton] at hx; rw [hx]; exact ahead_self _
    · cases e : isFirst (m ++ [y]) b k with
      | false => rfl
      | true =>
        obtain ⟨k1, k2⟩ := isFirst_iff.1 e
        rw [at_one hk] at k1 k2
        have := k2 y (List.mem_append.2 (.inr (by simp))) hy
        rw [hlow _ (at_mem hk) k1] at this
        cases this
theorem FirstJ.stay {m : List Jb} {b : Bool} {i : Nat} {y : Jb} (h : FirstJ m b (i : Int)) (hi : i < m.length) (ha : aheadB y (at_ m i) = false) : FirstJ (m ++ [y]) b (i : Int) := by
  rcases h with ⟨e, _⟩ | ⟨i', e, h1, h2, h3⟩
  · omega
  · have e2 : i' = i := by omega
    subst e2
    obtain ⟨g1, g2⟩ := isFirst_iff.1 h2
    refine .inr ⟨i', rfl, by simp; omega, isFirst_iff.2 ⟨by rw [at_one h1]; exact g1, fun x hx hb => ?_⟩, fun k hk => ?_⟩
    · rw [at_one h1]
      rcases List.mem_append.1 hx with hx | hx
      · exact g2 x hx hb
      · rw [List.mem_singleton] at hx; rw [hx]; exact ha
    · cases e : isFirst (m ++ [y]) b k with
      | false => rfl
      | true =>
        obtain ⟨k1, k2⟩ := isFirst_iff.1 e
        rw [at_one (by omega)] at k1 k2
        have := h3 k hk
        rw [isFirst_iff.2 ⟨k1, fun x hx hb => k2 x (List.mem_append.2 (.inl hx)) hb⟩] at this
        cases this

/-- the closure that counts: whether a job began, or didn't -/
theorem began_any (X : Nat) (b : Bool) (x : Jb) (w : World) (hx : w.cell? ⟨X, 0, none⟩ = some (.bool b)) :
    Calls Try.prog 50 #[(.agg #[(.int .i64 x.1), (.int .i64 x.2.1), (.int .i64 x.2.2.1), (.int .i64 x.2.2.2.1), (.int .i64 x.2.2.2.2.1), (.bool x.2.2.2.2.2)]), .pointer (some ⟨X, 0, none⟩)] w fun e w' => e = .returned (.bool (x.2.2.2.2.2 == b)) ∧ Below w.heap.size w w' := by
  have B0 := Lib.hid (below_one w (Obj.cells #[(.int .i64 x.1), (.int .i64 x.2.1), (.int .i64 x.2.2.1), (.int .i64 x.2.2.2.1), (.int .i64 x.2.2.2.2.1), (.bool x.2.2.2.2.2)] 60))
  have hx0 := cj_new w x _ rfl
  have x1 := cell_below B0.out hx
  clear hx
  go_enter Try.func50, Try.ntmps50
  have x5 := hx0.c5
  clear hx0
  go_wp2_with fail
  go_ret
  exact ⟨rfl, B0.out⟩

theorem began_v (X : Nat) (b : Bool) (x : Jb) (v : Bool) (w : World) (hv : (x.2.2.2.2.2 == b) = v) (hx : w.cell? ⟨X, 0, none⟩ = some (.bool b)) :
    Calls Try.prog 50 #[(.agg #[(.int .i64 x.1), (.int .i64 x.2.1), (.int .i64 x.2.2.1), (.int .i64 x.2.2.2.1), (.int .i64 x.2.2.2.2.1), (.bool x.2.2.2.2.2)]), .pointer (some ⟨X, 0, none⟩)] w fun e w' => e = .returned (.bool v) ∧ Below w.heap.size w w' := hv ▸ began_any X b x w hx
theorem ahead_v (x y : Jb) (v : Bool) (w : World) (hv : aheadB x y = v) :
    Calls Try.prog 51 #[(.agg #[(.int .i64 x.1), (.int .i64 x.2.1), (.int .i64 x.2.2.1), (.int .i64 x.2.2.2.1), (.int .i64 x.2.2.2.2.1), (.bool x.2.2.2.2.2)]), (.agg #[(.int .i64 y.1), (.int .i64 y.2.1), (.int .i64 y.2.2.1), (.int .i64 y.2.2.2.1), (.int .i64 y.2.2.2.2.1), (.bool y.2.2.2.2.2)])] w fun e w' => e = .returned (.bool v) ∧ Below w.heap.size w w' := hv ▸ ahead_any x y w


set_option maxRecDepth 20000 in
set_option maxHeartbeats 1600000 in
theorem firstOf_any (X : Nat) (b : Bool) (A : Option Addr) (c : Nat) (l : List Jb) (w : World) (hbig : l.length ≤ 1000000) (hr : Rd w A c l) (hx : w.cell? ⟨X, 0, none⟩ = some (.bool b)) :
    Calls Try.prog 49 #[.slice A l.length c, .func (.func 50) #[] #[.pointer (some ⟨X, 0, none⟩)], .func (.func 51) #[] #[]] w fun e w' => e = .returned (.int .i64 (firstI l b)) ∧ Below w.heap.size w w' := by
  have HR := Lib.hid hr
  have HX := Lib.hid hx
  have HF := Lib.hid (firstI_of l b)
  clear hr hx
  go_enter Try.func49, Try.ntmps49
  go_wp2_with fail
  go_loopw [7, 12] (fun s7 s12 wr => ∃ (q : Int) (k : Nat), s7 = .int .i64 q ∧ s12 = .int .i64 k ∧ k ≤ l.length ∧ -1 ≤ q ∧ q < k ∧ Hid (FirstJ (l.take k) b q) ∧ Hid (Below w.heap.size w wr)) (fun _ s12 _ => l.length - (intOf s12).toNat)
  case atStart => exact ⟨-1, 0, rfl, rfl, Nat.zero_le _, Int.le_refl _, by omega, .inl ⟨rfl, fun j hj => by simp at hj⟩, Below.refl _ _⟩
  case round =>
    obtain ⟨q, k, rfl, rfl, hk, hq1, hq2, HI, HB⟩ := hrel
    by_cases hlt : k < l.length
    · obtain ⟨bb, off, rfl, hc⟩ := job_at (HR.out.below HB.out) (by omega)
      have HC := Lib.hid (fun j hj => (hc j hj).1)
      have hx := HC.out k hlt
      have HT := Lib.hid (take_succ_at hlt)
      have HK : Hid ((l.take k).length = k) := by show _ = _; simp; omega
      have i1 : (k : Int) < (l.length : Int) := by omega
      generalize at_ l k = x at *
      have y0 := hx.c0
      have y0_1 := hx.c1
      have y0_2 := hx.c2
      have y0_3 := hx.c3
      have y0_4 := hx.c4
      have y0_5 := hx.c5
      clear hc hx
      cases hb : (x.2.2.2.2.2 == b) with
      | false =>
        have HI2 : Hid (FirstJ (l.take (k + 1)) b q) := by
          show FirstJ _ _ _
          rw [HT.out]
          exact HI.out.other (fun e => by rw [beq_eq_false_iff_ne] at hb; exact hb e)
        have HB_ := Lib.hid hb
        clear hb
        have HC2 := Lib.hid (cj_new wr x _ rfl)
        have B2 := Lib.hid (below_step HB.out (below_one wr (Obj.cells #[(.int .i64 x.1), (.int .i64 x.2.1), (.int .i64 x.2.2.1), (.int .i64 x.2.2.2.1), (.int .i64 x.2.2.2.2.1), (.bool x.2.2.2.2.2)] 60)))
        go_wp2_with fail
        generalize wr.alloc (Obj.cells #[(.int .i64 x.1), (.int .i64 x.2.1), (.int .i64 x.2.2.1), (.int .i64 x.2.2.2.1), (.int .i64 x.2.2.2.2.1), (.bool x.2.2.2.2.2)] 60) = w2 at *
        generalize wr.heap.size = Z at *
        have x0 := HC2.out.c0
        have x0_1 := HC2.out.c1
        have x0_2 := HC2.out.c2
        have x0_3 := HC2.out.c3
        have x0_4 := HC2.out.c4
        have x0_5 := HC2.out.c5
        replace x0 := cell_bw x0
        replace x0_1 := cell_bw x0_1
        replace x0_2 := cell_bw x0_2
        replace x0_3 := cell_bw x0_3
        replace x0_4 := cell_bw x0_4
        replace x0_5 := cell_bw x0_5
        have xb := cell_bw (cell_below B2.out HX.out)
        clear y0 y0_1 y0_2 y0_3 y0_4 y0_5
        refine wp_region_bw (by kernel_rfl) (by kernel_rfl) ?_
        repeat
          (with_reducible refine wpQuiet_step (fun K hK => ?_)
           go_simp
           first
             | (with_reducible refine hK _ ?_
                clear hK K)
             | (rw [if_neg]
                rotate_left
                focus (intro h; cases h; done)
                with_reducible refine hK _ ?_
                clear hK K)
             | (apply Exists.intro
                refine ⟨fun _ => ?_, hK _ ?_⟩
                (exact Calls.bw (began_v X b x false _ HB_.out (xb _)))
                clear hK K))
        with_reducible refine wpQuiet_nil ?_
        intro wb hw'
        obtain ⟨⟨wb', lb⟩, hw''⟩ := hw'
        subst hw''
        clear x0 x0_1 x0_2 x0_3 x0_4 x0_5
        clear xb
        have B3 := Lib.hid (below_step B2.out lb)
        clear lb
        go_wp2_with fail
        go_roundw
        case rel => exact ⟨q, k + 1, rfl, by go_num, hlt, hq1, by omega, HI2, B3⟩
        case measure => simp [intOf]; omega
      | true =>
        have hbe : begJ x = b := beq_iff_eq.1 hb
        by_cases hq : q = -1
        · subst hq
          have HI2 : Hid (FirstJ (l.take (k + 1)) b (k : Int)) := by
            show FirstJ _ _ _
            rw [HT.out]
            have := HI.out.none hbe
            rwa [HK.out] at this
          have HB_ := Lib.hid hb
          clear hb
          clear hbe
          have HC2 := Lib.hid (cj_new wr x _ rfl)
          have B2 := Lib.hid (below_step HB.out (below_one wr (Obj.cells #[(.int .i64 x.1), (.int .i64 x.2.1), (.int .i64 x.2.2.1), (.int .i64 x.2.2.2.1), (.int .i64 x.2.2.2.2.1), (.bool x.2.2.2.2.2)] 60)))
          go_wp2_with fail
          generalize wr.alloc (Obj.cells #[(.int .i64 x.1), (.int .i64 x.2.1), (.int .i64 x.2.2.1), (.int .i64 x.2.2.2.1), (.int .i64 x.2.2.2.2.1), (.bool x.2.2.2.2.2)] 60) = w2 at *
          generalize wr.heap.size = Z at *
          have x0 := HC2.out.c0
          have x0_1 := HC2.out.c1
          have x0_2 := HC2.out.c2
          have x0_3 := HC2.out.c3
          have x0_4 := HC2.out.c4
          have x0_5 := HC2.out.c5
          replace x0 := cell_bw x0
          replace x0_1 := cell_bw x0_1
          replace x0_2 := cell_bw x0_2
          replace x0_3 := cell_bw x0_3
          replace x0_4 := cell_bw x0_4
          replace x0_5 := cell_bw x0_5
          have xb := cell_bw (cell_below B2.out HX.out)
          clear y0 y0_1 y0_2 y0_3 y0_4 y0_5
          refine wp_region_bw (by kernel_rfl) (by kernel_rfl) ?_
          repeat
            (with_reducible refine wpQuiet_step (fun K hK => ?_)
             go_simp
             first
               | (with_reducible refine hK _ ?_
                  clear hK K)
               | (rw [if_neg]
                  rotate_left
                  focus (intro h; cases h; done)
                  with_reducible refine hK _ ?_
                  clear hK K)
               | (apply Exists.intro
                  refine ⟨fun _ => ?_, hK _ ?_⟩
                  (exact Calls.bw (began_v X b x true _ HB_.out (xb _)))
                  clear hK K))
          with_reducible refine wpQuiet_nil ?_
          intro wb hw'
          obtain ⟨⟨wb', lb⟩, hw''⟩ := hw'
          subst hw''
          clear x0 x0_1 x0_2 x0_3 x0_4 x0_5
          clear xb
          have B3 := Lib.hid (below_step B2.out lb)
          clear lb
          go_wp2_with fail
          go_roundw
          case rel => exact ⟨k, k + 1, rfl, by go_num, hlt, by omega, by omega, HI2, B3⟩
          case measure => simp [intOf]; omega
        · obtain ⟨i, rfl⟩ : ∃ i : Nat, q = i := ⟨q.toNat, by omega⟩
          have hik : i < k := by omega
          have hil : i < l.length := by omega
          have i2 : ((i : Int) == -1) = false := beq_eq_false_iff_ne.2 hq
          have i3 : (i : Int) < (l.length : Int) := by omega
          have hz := HC.out i hil
          have HTI : Hid (at_ (l.take k) i = at_ l i) := at_take hik
          cases ha : aheadB x (at_ l i) with
          | true =>
            have HI2 : Hid (FirstJ (l.take (k + 1)) b (k : Int)) := by
              show FirstJ _ _ _
              rw [HT.out]
              have := HI.out.ahead (by rw [HK.out]; exact hik) hbe (by rw [HTI.out]; exact ha)
              rwa [HK.out] at this
            have hz2 := hz.below (below_one wr (Obj.cells #[(.int .i64 x.1), (.int .i64 x.2.1), (.int .i64 x.2.2.1), (.int .i64 x.2.2.2.1), (.int .i64 x.2.2.2.2.1), (.bool x.2.2.2.2.2)] 60))
            generalize at_ l i = z at *
            have HB_ := Lib.hid hb
            have HA := Lib.hid ha
            clear ha
            clear hb
            clear hbe hz
            have HC2 := Lib.hid (cj_new wr x _ rfl)
            have B2 := Lib.hid (below_step HB.out (below_one wr (Obj.cells #[(.int .i64 x.1), (.int .i64 x.2.1), (.int .i64 x.2.2.1), (.int .i64 x.2.2.2.1), (.int .i64 x.2.2.2.2.1), (.bool x.2.2.2.2.2)] 60)))
            go_wp2_with fail
            generalize wr.alloc (Obj.cells #[(.int .i64 x.1), (.int .i64 x.2.1), (.int .i64 x.2.2.1), (.int .i64 x.2.2.2.1), (.int .i64 x.2.2.2.2.1), (.bool x.2.2.2.2.2)] 60) = w2 at *
            generalize wr.heap.size = Z at *
            have x0 := HC2.out.c0
            have x0_1 := HC2.out.c1
            have x0_2 := HC2.out.c2
            have x0_3 := HC2.out.c3
            have x0_4 := HC2.out.c4
            have x0_5 := HC2.out.c5
            replace x0 := cell_bw x0
            replace x0_1 := cell_bw x0_1
            replace x0_2 := cell_bw x0_2
            replace x0_3 := cell_bw x0_3
            replace x0_4 := cell_bw x0_4
            replace x0_5 := cell_bw x0_5
            have xb := cell_bw (cell_below B2.out HX.out)
            clear y0 y0_1 y0_2 y0_3 y0_4 y0_5
            have z0 := hz2.c0
            have z0_1 := hz2.c1
            have z0_2 := hz2.c2
            have z0_3 := hz2.c3
            have z0_4 := hz2.c4
            have z0_5 := hz2.c5
            replace z0 := cell_bw z0
            replace z0_1 := cell_bw z0_1
            replace z0_2 := cell_bw z0_2
            replace z0_3 := cell_bw z0_3
            replace z0_4 := cell_bw z0_4
            replace z0_5 := cell_bw z0_5
            refine wp_region_bw (by kernel_rfl) (by kernel_rfl) ?_
            repeat
              (with_reducible refine wpQuiet_step (fun K hK => ?_)
               go_simp
               first
                 | (with_reducible refine hK _ ?_
                    clear hK K)
                 | (rw [if_neg]
                    rotate_left
                    focus (intro h; cases h; done)
                    with_reducible refine hK _ ?_
                    clear hK K)
                 | (apply Exists.intro
                    refine ⟨fun _ => ?_, hK _ ?_⟩
                    (first | (with_reducible exact Calls.bw (began_v X b x true _ HB_.out (xb _))) | (with_reducible exact Calls.bw (ahead_v x z true _ HA.out)))
                    clear hK K))
            with_reducible refine wpQuiet_nil ?_
            intro wb hw'
            obtain ⟨⟨wb', lb⟩, hw''⟩ := hw'
            subst hw''
            clear z0 z0_1 z0_2 z0_3 z0_4 z0_5
            clear hz2
            clear x0 x0_1 x0_2 x0_3 x0_4 x0_5
            clear xb
            have B3 := Lib.hid (below_step B2.out lb)
            clear lb
            go_wp2_with fail
            go_roundw
            case rel => exact ⟨k, k + 1, rfl, by go_num, hlt, by omega, by omega, HI2, B3⟩
            case measure => simp [intOf]; omega
          | false =>
            have HI2 : Hid (FirstJ (l.take (k + 1)) b (i : Int)) := by
              show FirstJ _ _ _
              rw [HT.out]
              exact HI.out.stay (by rw [HK.out]; exact hik) (by rw [HTI.out]; exact ha)
            have hz2 := hz.below (below_one wr (Obj.cells #[(.int .i64 x.1), (.int .i64 x.2.1), (.int .i64 x.2.2.1), (.int .i64 x.2.2.2.1), (.int .i64 x.2.2.2.2.1), (.bool x.2.2.2.2.2)] 60))
            generalize at_ l i = z at *
            have HB_ := Lib.hid hb
            have HA := Lib.hid ha
            clear ha
            clear hb
            clear hbe hz
            have HC2 := Lib.hid (cj_new wr x _ rfl)
            have B2 := Lib.hid (below_step HB.out (below_one wr (Obj.cells #[(.int .i64 x.1), (.int .i64 x.2.1), (.int .i64 x.2.2.1), (.int .i64 x.2.2.2.1), (.int .i64 x.2.2.2.2.1), (.bool x.2.2.2.2.2)] 60)))
            go_wp2_with fail
            generalize wr.alloc (Obj.cells #[(.int .i64 x.1), (.int .i64 x.2.1), (.int .i64 x.2.2.1), (.int .i64 x.2.2.2.1), (.int .i64 x.2.2.2.2.1), (.bool x.2.2.2.2.2)] 60) = w2 at *
            generalize wr.heap.size = Z at *
            have x0 := HC2.out.c0
            have x0_1 := HC2.out.c1
            have x0_2 := HC2.out.c2
            have x0_3 := HC2.out.c3
            have x0_4 := HC2.out.c4
            have x0_5 := HC2.out.c5
            replace x0 := cell_bw x0
            replace x0_1 := cell_bw x0_1
            replace x0_2 := cell_bw x0_2
            replace x0_3 := cell_bw x0_3
            replace x0_4 := cell_bw x0_4
            replace x0_5 := cell_bw x0_5
            have xb := cell_bw (cell_below B2.out HX.out)
            clear y0 y0_1 y0_2 y0_3 y0_4 y0_5
            have z0 := hz2.c0
            have z0_1 := hz2.c1
            have z0_2 := hz2.c2
            have z0_3 := hz2.c3
            have z0_4 := hz2.c4
            have z0_5 := hz2.c5
            replace z0 := cell_bw z0
            replace z0_1 := cell_bw z0_1
            replace z0_2 := cell_bw z0_2
            replace z0_3 := cell_bw z0_3
            replace z0_4 := cell_bw z0_4
            replace z0_5 := cell_bw z0_5
            refine wp_region_bw (by kernel_rfl) (by kernel_rfl) ?_
            repeat
              (with_reducible refine wpQuiet_step (fun K hK => ?_)
               go_simp
               first
                 | (with_reducible refine hK _ ?_
                    clear hK K)
                 | (rw [if_neg]
                    rotate_left
                    focus (intro h; cases h; done)
                    with_reducible refine hK _ ?_
                    clear hK K)
                 | (apply Exists.intro
                    refine ⟨fun _ => ?_, hK _ ?_⟩
                    (first | (with_reducible exact Calls.bw (began_v X b x true _ HB_.out (xb _))) | (with_reducible exact Calls.bw (ahead_v x z false _ HA.out)))
                    clear hK K))
            with_reducible refine wpQuiet_nil ?_
            intro wb hw'
            obtain ⟨⟨wb', lb⟩, hw''⟩ := hw'
            subst hw''
            clear z0 z0_1 z0_2 z0_3 z0_4 z0_5
            clear hz2
            clear x0 x0_1 x0_2 x0_3 x0_4 x0_5
            clear xb
            have B3 := Lib.hid (below_step B2.out lb)
            clear lb
            go_wp2_with fail
            go_roundw
            case rel => exact ⟨i, k + 1, rfl, by go_num, hlt, by omega, by omega, HI2, B3⟩
            case measure => simp [intOf]; omega
    · have hkl : k = l.length := by omega
      have HE : Hid (q = firstI l b) := by
        have h1 := HI.out
        rw [hkl, List.take_length] at h1
        exact h1.same HF.out
      go_wp2_with fail
      go_ret
      exact ⟨ret_int HE.out, HB.out⟩

set_option maxHeartbeats 1600000 in
theorem first_any (A : Option Addr) (c : Nat) (l : List Jb) (b : Bool) (w : World) (hbig : l.length ≤ 1000000) (hr : Rd w A c l) :
    Calls Try.prog 26 #[.slice A l.length c, .bool b] w fun e w' => e = .returned (.int .i64 (firstI l b)) ∧ Below w.heap.size w w' := by
  have HB0 := Lib.hid (below_one w (Obj.cells #[.bool b] 4))
  have HI := Lib.hid (firstOf_any w.heap.size b A c l _ hbig (hr.below HB0.out) (by simp))
  clear hr
  go_enter Try.func26, Try.ntmps26
  go_wp2_with fail
  refine HI.out.mono ?_
  rintro e w1 ⟨rfl, b1⟩
  have B1 := Lib.hid (below_step HB0.out b1)
  clear b1
  go_wp2_with fail
  go_ret
  exact ⟨rfl, B1.out⟩

theorem first_v (A : Option Addr) (c : Nat) (l : List Jb) (b : Bool) (v : Int) (hv : firstI l b = v) (w : World) (hbig : l.length ≤ 1000000) (hr : Rd w A c l) :
    Calls Try.prog 26 #[.slice A l.length c, .bool b] w fun e w' => e = .returned (.int .i64 v) ∧ Below w.heap.size w w' := hv ▸ first_any A c l b w hbig hr

end Pm
end Go.Proofs.Ytdjjdebnbaaihaa

