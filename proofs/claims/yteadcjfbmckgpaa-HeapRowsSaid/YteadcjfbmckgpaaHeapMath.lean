/-
  Layer 2 (heap), the plain mathematics: items are pairs of ints in their order; what a heap is; what moving an item down and up comes to; sorted lists.
-/
namespace Go.Proofs.Yteadcjfbmckgpaa.Hp

abbrev It := Int × Int
/-- a is lower than b -/
def low (a b : It) : Bool := decide (a.1 < b.1) || (decide (a.1 = b.1) && decide (a.2 < b.2))
theorem low_iff {a b : It} : low a b = true ↔ a.1 < b.1 ∨ (a.1 = b.1 ∧ a.2 < b.2) := by simp [low]
theorem low_no {a b : It} : low a b = false ↔ b.1 < a.1 ∨ (b.1 = a.1 ∧ b.2 ≤ a.2) := by
  rw [← Bool.not_eq_true, low_iff]; omega
/-- not above: the order that is not strict -/
def le (a b : It) : Prop := low b a = false
theorem le_refl (a : It) : le a a := by unfold le; rw [low_no]; omega
theorem le_trans {a b c : It} (h : le a b) (k : le b c) : le a c := by unfold le at *; rw [low_no] at *; omega
theorem le_of_low {a b : It} (h : low a b = true) : le a b := by unfold le; rw [low_no]; rw [low_iff] at h; omega
theorem le_antisymm {a b : It} (h : le a b) (k : le b a) : a = b := by
  unfold le at *; rw [low_no] at *
  obtain ⟨x, y⟩ := a; obtain ⟨u, v⟩ := b
  simp only [Prod.mk.injEq] at *; omega
theorem le_total (a b : It) : le a b ∨ le b a := by unfold le; rw [low_no, low_no]; omega

/-- the item at a place -/
def at_ (l : List It) (i : Nat) : It := l.getD i (0, 0)
/-- the heap's order, of all places whose place above is k at least -/
def HeapFrom (k : Nat) (l : List It) : Prop := ∀ i, 0 < i → i < l.length → k ≤ (i - 1) / 2 → le (at_ l ((i - 1) / 2)) (at_ l i)
def IsHeap (l : List It) : Prop := HeapFrom 0 l

/-- two items exchanged -/
def swp (l : List It) (i j : Nat) : List It := (l.set i (at_ l j)).set j (at_ l i)
theorem swp_length (l : List It) (i j : Nat) : (swp l i j).length = l.length := by simp [swp]
theorem at_swp {l : List It} {i j : Nat} (hi : i < l.length) (hj : j < l.length) (k : Nat) : at_ (swp l i j) k = if k = j then at_ l i else if k = i then at_ l j else at_ l k := by
  simp only [at_, swp, List.getD_eq_getElem?_getD, List.getElem?_set, List.length_set]
  by_cases h1 : j = k
  · subst h1; simp [hj]
  · rw [if_neg h1, if_neg (Ne.symm h1)]
    by_cases h2 : i = k
    · subst h2; simp [hi]
    · rw [if_neg h2, if_neg (Ne.symm h2)]
theorem swp_perm {l : List It} {i j : Nat} (hi : i < l.length) (hj : j < l.length) : (swp l i j).Perm l := by
  have := List.set_set_perm (as := l) hi hj
  simpa [swp, at_, List.getD_eq_getElem?_getD, hi, hj] using this

/-- an item that goes down from k: it is at p now -/
structure Sinks (k p : Nat) (l : List It) : Prop where
  kp : k ≤ p
  pl : p < l.length
  all : ∀ i, 0 < i → i < l.length → k ≤ (i - 1) / 2 → (i - 1) / 2 ≠ p → le (at_ l ((i - 1) / 2)) (at_ l i)
  two : ∀ i, 0 < i → i < l.length → (i - 1) / 2 = p → 0 < p → k ≤ (p - 1) / 2 → le (at_ l ((p - 1) / 2)) (at_ l i)

theorem Sinks.start {k : Nat} {l : List It} (h : HeapFrom (k + 1) l) (hk : k < l.length) : Sinks k k l :=
  ⟨Nat.le_refl _, hk, fun i h0 hi hki hne => h i h0 hi (by omega), fun i h0 hi he hp hk' => by omega⟩

/-- the lower one of the two below p -/
def below (l : List It) (p : Nat) : Nat := if 2 * p + 2 < l.length ∧ low (at_ l (2 * p + 2)) (at_ l (2 * p + 1)) = true then 2 * p + 2 else 2 * p + 1
theorem below_or (l : List It) (p : Nat) : below l p = 2 * p + 1 ∨ below l p = 2 * p + 2 := by unfold below; split <;> simp
theorem below_le {l : List It} {p i : Nat} (h0 : 0 < i) (hi : i < l.length) (hp : (i - 1) / 2 = p) : below l p < l.length ∧ le (at_ l (below l p)) (at_ l i) := by
  have : i = 2 * p + 1 ∨ i = 2 * p + 2 := by omega
  unfold below
  split
  · rename_i h
    refine ⟨h.1, ?_⟩
    rcases this with rfl | rfl
    · exact le_of_low h.2
    · exact le_refl _
  · rename_i h
    refine ⟨by omega, ?_⟩
    rcases this with rfl | rfl
    · exact le_refl _
    · have : low (at_ l (2 * p + 2)) (at_ l (2 * p + 1)) = false := by
        cases hl : low (at_ l (2 * p + 2)) (at_ l (2 * p + 1)) with
        | false => rfl
        | true => exact (h ⟨hi, hl⟩).elim
      exact this

theorem Sinks.done {k p : Nat} {l : List It} (h : Sinks k p l) (hd : l.length ≤ below l p ∨ low (at_ l (below l p)) (at_ l p) = false) : HeapFrom k l := by
  intro i h0 hi hki
  by_cases hp : (i - 1) / 2 = p
  · obtain ⟨h1, h2⟩ := below_le h0 hi hp
    rcases hd with hd | hd
    · omega
    · rw [hp]; exact le_trans hd h2
  · exact h.all i h0 hi hki hp

theorem Sinks.step {k p : Nat} {l : List It} (h : Sinks k p l) (hb : below l p < l.length) (hl : low (at_ l (below l p)) (at_ l p) = true) : Sinks k (below l p) (swp l p (below l p)) := by
  have hpl := h.pl
  have hkp := h.kp
  have hor := below_or l p
  have hsib := fun i h0 hi hp => (below_le (l := l) (p := p) (i := i) h0 hi hp).2
  generalize below l p = q at *
  have hA := at_swp hpl hb
  refine ⟨by omega, by rw [swp_length]; exact hb, ?_, ?_⟩
  · intro i h0 hi hki hne
    rw [swp_length] at hi
    rw [hA, hA, if_neg hne]
    by_cases e1 : i = q
    · -- the item that went up is above the one that went down
      have : (i - 1) / 2 = p := by omega
      rw [if_pos e1, if_pos this]
      exact le_of_low hl
    · rw [if_neg e1]
      by_cases e2 : (i - 1) / 2 = p
      · rw [if_pos e2, if_neg (by omega)]
        exact hsib i h0 hi e2
      · rw [if_neg e2]
        by_cases e3 : i = p
        · rw [if_pos e3]
          subst e3
          exact h.two q (by omega) hb (by omega) (by omega) hki
        · rw [if_neg e3]
          exact h.all i h0 hi hki e2
  · intro i h0 hi he hq hk'
    rw [swp_length] at hi
    have hqp : (q - 1) / 2 = p := by omega
    rw [hA, hA, hqp, if_neg (by omega), if_pos rfl, if_neg (by omega), if_neg (by omega)]
    have := h.all i h0 hi (by omega) (by omega)
    rw [he] at this
    exact this

/-- an item that goes up: it is at p now -/
structure Rises (p : Nat) (l : List It) : Prop where
  pl : p < l.length
  all : ∀ i, 0 < i → i < l.length → i ≠ p → le (at_ l ((i - 1) / 2)) (at_ l i)
  two : ∀ i, 0 < i → i < l.length → (i - 1) / 2 = p → 0 < p → le (at_ l ((p - 1) / 2)) (at_ l i)

theorem Rises.start {l : List It} {x : It} (h : IsHeap l) : Rises l.length (l ++ [x]) := by
  have hg : ∀ i, i < l.length → at_ (l ++ [x]) i = at_ l i := fun i hi => by simp [at_, List.getD_eq_getElem?_getD, List.getElem?_append, hi]
  refine ⟨by simp, ?_, ?_⟩
  · intro i h0 hi hne
    have hil : i < l.length := by simp at hi; omega
    rw [hg _ (by omega), hg _ hil]
    exact h i h0 hil (by omega)
  · intro i h0 hi he hp
    simp at hi
    omega
theorem Rises.done {p : Nat} {l : List It} (h : Rises p l) (hd : p = 0 ∨ low (at_ l p) (at_ l ((p - 1) / 2)) = false) : IsHeap l := by
  intro i h0 hi _
  by_cases e : i = p
  · subst e
    rcases hd with hd | hd
    · omega
    · exact hd
  · exact h.all i h0 hi e
theorem Rises.step {p : Nat} {l : List It} (h : Rises p l) (h0 : 0 < p) (hl : low (at_ l p) (at_ l ((p - 1) / 2)) = true) : Rises ((p - 1) / 2) (swp l p ((p - 1) / 2)) := by
  have hpl := h.pl
  generalize hq : (p - 1) / 2 = q at *
  have hql : q < l.length := by omega
  have hA := at_swp hpl hql
  refine ⟨by rw [swp_length]; exact hql, ?_, ?_⟩
  · intro i hi0 hi hne
    rw [swp_length] at hi
    rw [hA, hA, if_neg hne]
    by_cases e1 : i = p
    · rw [if_pos e1, if_pos (by omega)]
      exact le_of_low hl
    · rw [if_neg e1]
      by_cases e2 : (i - 1) / 2 = q
      · -- the sibling: the item that went up is lower than what was above both
        rw [if_pos e2]
        have := h.all i hi0 hi e1
        rw [e2] at this
        exact le_trans (le_of_low hl) this
      · rw [if_neg e2]
        by_cases e3 : (i - 1) / 2 = p
        · rw [if_pos e3]
          have := h.two i hi0 hi e3 h0
          rw [hq] at this
          exact this
        · rw [if_neg e3]
          exact h.all i hi0 hi e1
  · intro i hi0 hi he hq0
    rw [swp_length] at hi
    rw [hA, hA, if_neg (by omega), if_neg (by omega), if_neg (by omega)]
    have hup := h.all q hq0 hql (by omega)
    by_cases e1 : i = p
    · rw [if_pos e1]; exact hup
    · rw [if_neg e1]
      have := h.all i hi0 hi e1
      rw [he] at this
      exact le_trans hup this

/-- the first item of a heap is not above any -/
theorem IsHeap.first {l : List It} (h : IsHeap l) : ∀ i, i < l.length → le (at_ l 0) (at_ l i) := by
  intro i
  induction i using Nat.strongRecOn with
  | _ i ih =>
    intro hi
    by_cases h0 : i = 0
    · subst h0; exact le_refl _
    · exact le_trans (ih ((i - 1) / 2) (by omega) (by omega)) (h i (by omega) hi (by omega))

/-- the first half has the others below it: from there on there is nothing to ask -/
theorem heapFrom_half (l : List It) : HeapFrom (l.length / 2) l := by
  intro i h0 hi hk; omega

/-- what is left in front, where an item is taken off the end -/
theorem heapFrom_drop {l : List It} {x : It} (h : IsHeap l) (hl : 0 < l.length) : HeapFrom 1 ((l.set 0 x).take (l.length - 1)) := by
  intro i h0 hi hk
  have hi' : i < l.length - 1 := by simp at hi; omega
  have hg : ∀ j, 0 < j → j < l.length - 1 → at_ ((l.set 0 x).take (l.length - 1)) j = at_ l j := fun j hj hjl => by
    simp only [at_, List.getD_eq_getElem?_getD, List.getElem?_take, List.getElem?_set, if_pos hjl]
    rw [if_neg (by omega)]
  rw [hg _ (by omega) (by omega), hg i h0 hi']
  exact h i h0 (by omega) (by omega)

/-- rising, each not above the next -/
def Sorted (l : List It) : Prop := l.Pairwise le
theorem sorted_unique {l m : List It} (h : l.Perm m) (hl : Sorted l) (hm : Sorted m) : l = m :=
  h.eq_of_pairwise (fun _ _ _ _ h1 h2 => le_antisymm h1 h2) hl hm

/-- one item laid in its place: behind all that are not above it -/
def put (x : It) : List It → List It
  | [] => [x]
  | a :: r => if low x a = true then x :: a :: r else a :: put x r
def place (x : It) : List It → Nat
  | [] => 0
  | a :: r => if low x a = true then 0 else place x r + 1
theorem place_le (x : It) (l : List It) : place x l ≤ l.length := by
  induction l with
  | nil => simp [place]
  | cons a r ih => simp only [place]; split <;> simp <;> omega
theorem put_eq (x : It) (l : List It) : put x l = l.take (place x l) ++ x :: l.drop (place x l) := by
  induction l with
  | nil => simp [put, place]
  | cons a r ih =>
    simp only [put, place]
    split
    · simp
    · simp [ih]
theorem place_stop {x : It} {l : List It} {k : Nat} (hk : k < l.length) (hb : k ≤ place x l) (h : low x (at_ l k) = true) : place x l = k := by
  induction l generalizing k with
  | nil => simp at hk
  | cons a r ih =>
    cases k with
    | zero =>
      simp only [place]
      have : low x a = true := by simpa [at_] using h
      rw [if_pos this]
    | succ k =>
      simp only [place] at hb ⊢
      split at hb
      · omega
      · rename_i hn
        rw [if_neg hn, ih (by simpa using hk) (by omega) (by simpa [at_] using h)]
theorem place_go {x : It} {l : List It} {k : Nat} (hk : k < l.length) (hb : k ≤ place x l) (h : low x (at_ l k) = false) : k + 1 ≤ place x l := by
  induction l generalizing k with
  | nil => simp at hk
  | cons a r ih =>
    cases k with
    | zero =>
      simp only [place]
      have : low x a = false := by simpa [at_] using h
      rw [if_neg (by simp [this])]; omega
    | succ k =>
      simp only [place] at hb ⊢
      split at hb
      · omega
      · rename_i hn
        rw [if_neg hn]
        have := ih (k := k) (by simpa using hk) (by omega) (by simpa [at_] using h)
        omega
theorem put_perm (x : It) (l : List It) : (put x l).Perm (x :: l) := by
  induction l with
  | nil => simp [put]
  | cons a r ih =>
    simp only [put]
    split
    · exact .refl _
    · exact (ih.cons a).trans (.swap x a r)
theorem put_sorted {x : It} {l : List It} (h : Sorted l) : Sorted (put x l) := by
  induction l with
  | nil => simp [put, Sorted]
  | cons a r ih =>
    simp only [put]
    have ha := List.pairwise_cons.1 h
    split
    · rename_i hx
      refine List.pairwise_cons.2 ⟨?_, h⟩
      intro b hb
      rcases List.mem_cons.1 hb with rfl | hb
      · exact le_of_low hx
      · exact le_trans (le_of_low hx) (ha.1 b hb)
    · rename_i hx
      refine List.pairwise_cons.2 ⟨?_, ih ha.2⟩
      intro b hb
      rcases List.mem_cons.1 ((put_perm x r).mem_iff.1 hb) with rfl | hb
      · have : low b a = false := by simpa using hx
        exact this
      · exact ha.1 b hb

/-- the sorted list: each one laid in its place -/
def srt (l : List It) : List It := l.foldl (fun s x => put x s) []
theorem srt_snoc (l : List It) (x : It) : srt (l ++ [x]) = put x (srt l) := by simp [srt, List.foldl_append]
theorem srt_take (l : List It) (k : Nat) (h : k < l.length) : srt (l.take (k + 1)) = put (at_ l k) (srt (l.take k)) := by
  rw [List.take_succ_eq_append_getElem h, srt_snoc]
  simp [at_, List.getD_eq_getElem?_getD, h]
theorem srt_perm (l : List It) : (srt l).Perm l := by
  suffices ∀ (l s : List It), (l.foldl (fun s x => put x s) s).Perm (l ++ s) by simpa [srt] using this l []
  intro l
  induction l with
  | nil => intro s; simp
  | cons a r ih =>
    intro s
    refine (ih (put a s)).trans ?_
    refine (List.Perm.append_left r (put_perm a s)).trans ?_
    simp
theorem srt_sorted (l : List It) : Sorted (srt l) := by
  suffices ∀ (l s : List It), Sorted s → Sorted (l.foldl (fun s x => put x s) s) from this l [] (by simp [Sorted])
  intro l
  induction l with
  | nil => intro s h; exact h
  | cons a r ih => intro s h; exact ih _ (put_sorted h)
theorem srt_length (l : List It) : (srt l).length = l.length := (srt_perm l).length_eq
theorem srt_of_perm {l m : List It} (h : l.Perm m) : srt l = srt m := sorted_unique ((srt_perm l).trans (h.trans (srt_perm m).symm)) (srt_sorted l) (srt_sorted m)
theorem srt_of_sorted {l : List It} (h : Sorted l) : srt l = l := sorted_unique (srt_perm l) (srt_sorted l) h
/-- the lowest one and the others: sorted, the lowest one is in front -/
theorem srt_cons {x : It} {r : List It} (h : ∀ y ∈ r, le x y) : srt (x :: r) = x :: srt r := by
  refine sorted_unique ((srt_perm _).trans ((srt_perm r).symm.cons x)) (srt_sorted _) ?_
  exact List.pairwise_cons.2 ⟨fun y hy => h y ((srt_perm r).mem_iff.1 hy), srt_sorted r⟩
theorem IsHeap.sorted {l : List It} (h : Sorted l) : IsHeap l := by
  intro i h0 hi _
  have := List.pairwise_iff_getElem.1 h ((i - 1) / 2) i (by omega) hi (by omega)
  simpa [at_, List.getD_eq_getElem?_getD, hi, show (i - 1) / 2 < l.length by omega] using this
theorem mem_at {l : List It} {y : It} (h : y ∈ l) : ∃ i, i < l.length ∧ at_ l i = y := by
  obtain ⟨i, hi, rfl⟩ := List.mem_iff_getElem.1 h
  exact ⟨i, hi, by simp [at_, List.getD_eq_getElem?_getD, hi]⟩

/-- the last item laid in front, and one less: with the first one these are all -/
theorem drop_perm {l : List It} (h : 0 < l.length) : (at_ l 0 :: (l.set 0 (at_ l (l.length - 1))).take (l.length - 1)).Perm l := by
  rcases l with _ | ⟨x, r⟩
  · simp at h
  · rcases List.eq_nil_or_concat r with rfl | ⟨m, y, rfl⟩
    · simp [at_]
    · have e : at_ (x :: (m ++ [y])) ((x :: (m ++ [y])).length - 1) = y := by simp [at_, List.getD_eq_getElem?_getD]
      rw [List.concat_eq_append, e]
      simp only [List.set_cons_zero, List.length_cons, List.length_append, List.length_nil, Nat.add_sub_cancel, List.take_succ_cons, Nat.zero_add]
      rw [List.take_append_of_le_length (by simp), List.take_length]
      simp only [at_, List.getD_cons_zero]
      exact (List.perm_append_comm (l₁ := [y]) (l₂ := m)).cons x
theorem low_first {l r : List It} (h : IsHeap l) (hp : (at_ l 0 :: r).Perm l) : srt l = at_ l 0 :: srt r := by
  rw [← srt_of_perm hp]
  refine srt_cons fun y hy => ?_
  obtain ⟨i, hi, rfl⟩ := mem_at (hp.mem_iff.1 (List.mem_cons_of_mem _ hy))
  exact h.first i hi

/-- is it a heap? -/
def rightB (l : List It) : Bool := (List.range l.length).all fun i => decide (i = 0) || !low (at_ l i) (at_ l ((i - 1) / 2))
theorem rightB_iff {l : List It} : rightB l = true ↔ IsHeap l := by
  unfold rightB
  rw [List.all_eq_true]
  constructor
  · intro h i h0 hi _
    have := h i (List.mem_range.2 hi)
    simp only [Bool.or_eq_true, decide_eq_true_eq, Bool.not_eq_true'] at this
    rcases this with e | e
    · omega
    · exact e
  · intro h i hi
    have hi := List.mem_range.1 hi
    simp only [Bool.or_eq_true, decide_eq_true_eq, Bool.not_eq_true']
    by_cases e : i = 0
    · exact .inl e
    · exact .inr (h i (by omega) hi (by omega))
theorem rightB_no {l : List It} {i : Nat} (h0 : 0 < i) (hi : i < l.length) (hl : low (at_ l i) (at_ l ((i - 1) / 2)) = true) : rightB l = false := by
  cases h : rightB l with
  | false => rfl
  | true =>
    have := rightB_iff.1 h i h0 hi (by omega)
    unfold le at this
    rw [this] at hl
    cases hl

end Go.Proofs.Yteadcjfbmckgpaa.Hp
