/-
  Layer 4 (span), the plain mathematics: spans are pairs of ints; ticks in spans; normal spans; what adding a piece comes to; normal spans with the same ticks are the same.
-/
namespace Go.Proofs.Ytdgemmhaddnbdaa.Hp

abbrev It := Int × Int
/-- the span at a place -/
def at_ (l : List It) (i : Nat) : It := l.getD i (0, 0)
/-- a valid span -/
def ok (x : It) : Bool := decide (0 ≤ x.1) && decide (x.1 < x.2) && decide (x.2 ≤ 4611686018427387903)
theorem ok_iff {x : It} : ok x = true ↔ 0 ≤ x.1 ∧ x.1 < x.2 ∧ x.2 ≤ 4611686018427387903 := by simp [ok, and_assoc]
/-- a tick in a span -/
def hasT (x : It) (t : Int) : Bool := ok x && decide (x.1 ≤ t) && decide (t < x.2)
theorem hasT_iff {x : It} {t : Int} : hasT x t = true ↔ ok x = true ∧ x.1 ≤ t ∧ t < x.2 := by simp [hasT, and_assoc]
/-- a tick in spans -/
def inn (l : List It) (t : Int) : Bool := l.any fun x => hasT x t
theorem inn_iff {l : List It} {t : Int} : inn l t = true ↔ ∃ x ∈ l, ok x = true ∧ x.1 ≤ t ∧ t < x.2 := by
  simp [inn, hasT_iff]
theorem inn_nil (t : Int) : inn [] t = false := rfl
theorem inn_cons (x : It) (l : List It) (t : Int) : inn (x :: l) t = (hasT x t || inn l t) := by simp [inn]
theorem inn_append (a b : List It) (t : Int) : inn (a ++ b) t = (inn a t || inn b t) := by simp [inn]
theorem inn_perm {a b : List It} (h : a.Perm b) (t : Int) : inn a t = inn b t := by
  rw [Bool.eq_iff_iff, inn_iff, inn_iff]
  constructor
  · rintro ⟨x, hx, r⟩; exact ⟨x, h.mem_iff.1 hx, r⟩
  · rintro ⟨x, hx, r⟩; exact ⟨x, h.mem_iff.2 hx, r⟩
theorem inn_filter (l : List It) (t : Int) : inn (l.filter ok) t = inn l t := by
  rw [Bool.eq_iff_iff, inn_iff, inn_iff]
  constructor
  · rintro ⟨x, hx, r⟩; exact ⟨x, (List.mem_filter.1 hx).1, r⟩
  · rintro ⟨x, hx, r⟩; exact ⟨x, List.mem_filter.2 ⟨hx, r.1⟩, r⟩

/-- normal spans -/
def Nm (l : List It) : Prop := (∀ x ∈ l, ok x = true) ∧ l.Pairwise fun a b => a.2 < b.1
/-- the same ticks -/
def Eqv (a b : List It) : Prop := ∀ t, inn a t = inn b t
theorem Eqv.refl (a : List It) : Eqv a a := fun _ => rfl
theorem Eqv.symm {a b : List It} (h : Eqv a b) : Eqv b a := fun t => (h t).symm
theorem Eqv.trans {a b c : List It} (h : Eqv a b) (k : Eqv b c) : Eqv a c := fun t => (h t).trans (k t)
theorem Nm.nil : Nm [] := ⟨by simp, .nil⟩
theorem Nm.cons_iff {x : It} {r : List It} : Nm (x :: r) ↔ ok x = true ∧ (∀ y ∈ r, x.2 < y.1) ∧ Nm r := by
  simp only [Nm, List.mem_cons, List.pairwise_cons]
  constructor
  · rintro ⟨h1, h2, h3⟩; exact ⟨h1 x (.inl rfl), h2, fun y hy => h1 y (.inr hy), h3⟩
  · rintro ⟨h1, h2, h3, h4⟩
    refine ⟨?_, h2, h4⟩
    rintro y (rfl | hy)
    · exact h1
    · exact h3 y hy
theorem Nm.snoc_iff {x : It} {r : List It} : Nm (r ++ [x]) ↔ Nm r ∧ ok x = true ∧ ∀ y ∈ r, y.2 < x.1 := by
  simp only [Nm, List.mem_append, List.mem_singleton, List.pairwise_append]
  constructor
  · rintro ⟨h1, h2, _, h3⟩
    exact ⟨⟨fun y hy => h1 y (.inl hy), h2⟩, h1 x (.inr rfl), fun y hy => h3 y hy x rfl⟩
  · rintro ⟨⟨h1, h2⟩, h3, h4⟩
    refine ⟨?_, h2, List.pairwise_singleton _ _, ?_⟩
    · rintro y (hy | rfl)
      · exact h1 y hy
      · exact h3
    · rintro a ha b rfl
      exact h4 a ha

theorem one_le {x y : It} {r s : List It} (ha : Nm (x :: r)) (hb : Nm (y :: s)) (h : Eqv (x :: r) (y :: s)) : y.1 ≤ x.1 := by
  rw [Nm.cons_iff] at ha hb
  have hx := ok_iff.1 ha.1
  have hy := ok_iff.1 hb.1
  have h1 : inn (x :: r) x.1 = true := inn_iff.2 ⟨x, by simp, ha.1, by omega, by omega⟩
  rw [h x.1, inn_iff] at h1
  obtain ⟨z, hz, _, h2, _⟩ := h1
  rcases List.mem_cons.1 hz with rfl | hz
  · exact h2
  · have := hb.2.1 z hz; omega
theorem two_le {x y : It} {r s : List It} (ha : Nm (x :: r)) (hb : Nm (y :: s)) (h : Eqv (x :: r) (y :: s)) (h1 : x.1 = y.1) : y.2 ≤ x.2 := by
  rw [Nm.cons_iff] at ha hb
  have hx := ok_iff.1 ha.1
  have hy := ok_iff.1 hb.1
  rcases Int.lt_or_le x.2 y.2 with hlt | hle
  · have h2 : inn (y :: s) x.2 = true := inn_iff.2 ⟨y, by simp, hb.1, by omega, by omega⟩
    rw [← h x.2, inn_iff] at h2
    obtain ⟨z, hz, _, h3, h4⟩ := h2
    rcases List.mem_cons.1 hz with rfl | hz
    · omega
    · have := ha.2.1 z hz; omega
  · exact hle
/-- normal spans with the same ticks are the same -/
theorem Nm.unique : ∀ {a b : List It}, Nm a → Nm b → Eqv a b → a = b
  | [], [], _, _, _ => rfl
  | [], y :: s, _, hb, h => by
    rw [Nm.cons_iff] at hb
    have hy := ok_iff.1 hb.1
    have h1 : inn (y :: s) y.1 = true := inn_iff.2 ⟨y, by simp, hb.1, by omega, by omega⟩
    rw [← h y.1] at h1
    cases h1
  | x :: r, [], ha, _, h => by
    rw [Nm.cons_iff] at ha
    have hx := ok_iff.1 ha.1
    have h1 : inn (x :: r) x.1 = true := inn_iff.2 ⟨x, by simp, ha.1, by omega, by omega⟩
    rw [h x.1] at h1
    cases h1
  | x :: r, y :: s, ha, hb, h => by
    have e1 : x.1 = y.1 := Int.le_antisymm (one_le hb ha h.symm) (one_le ha hb h)
    have e2 : x.2 = y.2 := Int.le_antisymm (two_le hb ha h.symm e1.symm) (two_le ha hb h e1)
    have e : x = y := by
      obtain ⟨u, v⟩ := x; obtain ⟨p, q⟩ := y
      simp only at e1 e2
      rw [e1, e2]
    subst e
    have ha' := Nm.cons_iff.1 ha
    have hb' := Nm.cons_iff.1 hb
    rw [Nm.unique ha'.2.2 hb'.2.2 fun t => ?_]
    have ht := h t
    rw [inn_cons, inn_cons] at ht
    cases hx : hasT x t with
    | false => simpa [hx] using ht
    | true =>
      have hx' := hasT_iff.1 hx
      have f1 : inn r t = false := by
        rw [← Bool.not_eq_true, inn_iff]
        rintro ⟨z, hz, _, h3, _⟩
        have := ha'.2.1 z hz; omega
      have f2 : inn s t = false := by
        rw [← Bool.not_eq_true, inn_iff]
        rintro ⟨z, hz, _, h3, _⟩
        have := hb'.2.1 z hz; omega
      rw [f1, f2]

/-- a piece added -/
def addP (o : List It) (f t : Int) : List It :=
  if t ≤ f then o
  else if 0 < o.length ∧ f ≤ (at_ o (o.length - 1)).2 then o.set (o.length - 1) ((at_ o (o.length - 1)).1, max (at_ o (o.length - 1)).2 t)
  else o ++ [(f, t)]
theorem at_last (r : List It) (x : It) : at_ (r ++ [x]) ((r ++ [x]).length - 1) = x := by simp [at_, List.getD_eq_getElem?_getD]
theorem addP_nil (f t : Int) : addP [] f t = if t ≤ f then [] else [(f, t)] := by simp [addP]
theorem addP_snoc (r : List It) (x : It) (f t : Int) : addP (r ++ [x]) f t = if t ≤ f then r ++ [x] else if f ≤ x.2 then r ++ [(x.1, max x.2 t)] else r ++ [x] ++ [(f, t)] := by
  unfold addP
  rw [at_last]
  by_cases h1 : t ≤ f
  · rw [if_pos h1, if_pos h1]
  · rw [if_neg h1, if_neg h1]
    by_cases h2 : f ≤ x.2
    · rw [if_pos ⟨by simp, h2⟩, if_pos h2]
      simp
    · rw [if_neg (fun h => h2 h.2), if_neg h2]
theorem snoc_cases (o : List It) : o = [] ∨ ∃ r x, o = r ++ [x] := by
  rcases List.eq_nil_or_concat o with h | ⟨r, x, h⟩
  · exact .inl h
  · exact .inr ⟨r, x, by simpa using h⟩
theorem addP_length (o : List It) (f t : Int) : (addP o f t).length ≤ o.length + 1 := by
  unfold addP
  split
  · omega
  · split
    · simp
    · simp
theorem addP_mem {o : List It} {f t : Int} {y : It} (h : y ∈ addP o f t) : (∃ z ∈ o, z.1 = y.1) ∨ (y.1 = f ∧ f < t) := by
  rcases snoc_cases o with rfl | ⟨r, x, rfl⟩
  · rw [addP_nil] at h
    split at h
    · simp at h
    · simp at h; right; rw [h]; exact ⟨rfl, by omega⟩
  · rw [addP_snoc] at h
    split at h
    · exact .inl ⟨y, h, rfl⟩
    · split at h
      · rcases List.mem_append.1 h with h | h
        · exact .inl ⟨y, by simp [h], rfl⟩
        · left; exact ⟨x, by simp, by rw [List.mem_singleton.1 h]⟩
      · rcases List.mem_append.1 h with h | h
        · exact .inl ⟨y, h, rfl⟩
        · right; rw [List.mem_singleton.1 h]; exact ⟨rfl, by omega⟩
theorem addP_nm {o : List It} {f t : Int} (h : Nm o) (h0 : f < t → 0 ≤ f) (hm : t ≤ 4611686018427387903) (hl : f < t → ∀ x ∈ o, x.1 ≤ f) : Nm (addP o f t) := by
  rcases snoc_cases o with rfl | ⟨r, x, rfl⟩
  · rw [addP_nil]
    split
    · exact Nm.nil
    · rename_i hlt
      rw [Nm.cons_iff]
      exact ⟨ok_iff.2 ⟨h0 (by omega), by omega, hm⟩, by simp, Nm.nil⟩
  · rw [addP_snoc]
    split
    · exact h
    · rename_i hlt
      have hx := hl (by omega) x (by simp)
      have hs := Nm.snoc_iff.1 h
      have hk := ok_iff.1 hs.2.1
      split
      · rw [Nm.snoc_iff]
        exact ⟨hs.1, ok_iff.2 ⟨hk.1, by simp only; omega, by simp only; omega⟩, hs.2.2⟩
      · rw [Nm.snoc_iff]
        refine ⟨h, ok_iff.2 ⟨h0 (by omega), by simp only; omega, hm⟩, fun y hy => ?_⟩
        rcases List.mem_append.1 hy with hy | hy
        · have := hs.2.2 y hy
          simp only; omega
        · rw [List.mem_singleton.1 hy]; simp only; omega
theorem addP_inn {o : List It} {f t : Int} (h : Nm o) (h0 : f < t → 0 ≤ f) (hm : t ≤ 4611686018427387903) (hl : f < t → ∀ x ∈ o, x.1 ≤ f) (u : Int) : inn (addP o f t) u = (inn o u || (decide (f ≤ u) && decide (u < t))) := by
  rcases snoc_cases o with rfl | ⟨r, x, rfl⟩
  · rw [addP_nil]
    split
    · rename_i hlt
      rw [Bool.eq_iff_iff]; simp [inn]; omega
    · rename_i hlt
      have := h0 (by omega)
      rw [Bool.eq_iff_iff]; simp [inn, hasT, ok]; omega
  · rw [addP_snoc]
    split
    · rename_i hlt
      rw [Bool.eq_iff_iff]; simp; omega
    · rename_i hlt
      have hx := hl (by omega) x (by simp)
      have hs := Nm.snoc_iff.1 h
      have hk := ok_iff.1 hs.2.1
      have := h0 (by omega)
      split
      · rw [inn_append, inn_append, Bool.or_assoc]
        congr 1
        rw [Bool.eq_iff_iff]; simp [inn, hasT, ok]; omega
      · rw [inn_append]
        congr 1
        rw [Bool.eq_iff_iff]; simp [inn, hasT, ok]; omega

/-- the pieces of all spans of a list added: by Norm, by Cut, by Without -/
def pcN (o : List It) (s : It) : List It := addP o s.1 s.2
def pcC (f t : Int) (o : List It) (s : It) : List It := addP o (max s.1 f) (min s.2 t)
def pcW (x : It) (o : List It) (s : It) : List It := addP (addP o s.1 (min s.2 x.1)) (max s.1 x.2) s.2

theorem foldN : ∀ (d o : List It), Nm o → (∀ x ∈ o, ∀ y ∈ d, x.1 ≤ y.1) → (∀ y ∈ d, ok y = true) → d.Pairwise (fun a b => a.1 ≤ b.1) → Nm (d.foldl pcN o) ∧ ∀ u, inn (d.foldl pcN o) u = (inn o u || inn d u)
  | [], o, h, _, _, _ => ⟨h, fun u => by simp [inn]⟩
  | s :: d, o, h, hl, hk, hp => by
    have hs := ok_iff.1 (hk s (by simp))
    have c1 : s.1 < s.2 → 0 ≤ s.1 := fun _ => hs.1
    have c2 : s.2 ≤ 4611686018427387903 := hs.2.2
    have c3 : s.1 < s.2 → ∀ x ∈ o, x.1 ≤ s.1 := fun _ x hx => hl x hx s (by simp)
    rw [List.pairwise_cons] at hp
    obtain ⟨r1, r2⟩ := foldN d (addP o s.1 s.2) (addP_nm h c1 c2 c3) (fun x hx y hy => by
      rcases addP_mem hx with ⟨z, hz, e⟩ | ⟨e, _⟩
      · rw [← e]; exact hl z hz y (by simp [hy])
      · rw [e]; exact hp.1 y hy) (fun y hy => hk y (by simp [hy])) hp.2
    refine ⟨r1, fun u => ?_⟩
    rw [List.foldl_cons, inn_cons, ← Bool.or_assoc]
    refine (r2 u).trans ?_
    rw [addP_inn h c1 c2 c3]
    congr 2
    rw [Bool.eq_iff_iff]; simp [hasT, ok]; omega
theorem foldC (f t : Int) : ∀ (d o : List It), Nm o → (∀ x ∈ o, ∀ y ∈ d, x.1 ≤ max y.1 f) → Nm d → Nm (d.foldl (pcC f t) o) ∧ ∀ u, inn (d.foldl (pcC f t) o) u = (inn o u || (inn d u && decide (f ≤ u) && decide (u < t)))
  | [], o, h, _, _ => ⟨h, fun u => by simp [inn]⟩
  | s :: d, o, h, hl, hn => by
    rw [Nm.cons_iff] at hn
    have hs := ok_iff.1 hn.1
    have c1 : max s.1 f < min s.2 t → 0 ≤ max s.1 f := fun _ => by omega
    have c2 : min s.2 t ≤ 4611686018427387903 := by omega
    have c3 : max s.1 f < min s.2 t → ∀ x ∈ o, x.1 ≤ max s.1 f := fun _ x hx => hl x hx s (by simp)
    obtain ⟨r1, r2⟩ := foldC f t d (addP o (max s.1 f) (min s.2 t)) (addP_nm h c1 c2 c3) (fun x hx y hy => by
      have := hn.2.1 y hy
      rcases addP_mem hx with ⟨z, hz, e⟩ | ⟨e, _⟩
      · rw [← e]; exact hl z hz y (by simp [hy])
      · rw [e]; omega) hn.2.2
    refine ⟨r1, fun u => ?_⟩
    refine (r2 u).trans ?_
    rw [addP_inn h c1 c2 c3, inn_cons, Bool.or_assoc]
    congr 1
    rw [Bool.eq_iff_iff]
    cases hd : inn d u
    · simp [hasT, hn.1]; omega
    · simp [hasT, hn.1]; omega
theorem foldW (x : It) (hx : ok x = true) : ∀ (d o : List It), Nm o → (∀ z ∈ o, ∀ y ∈ d, z.1 ≤ y.1) → Nm d → Nm (d.foldl (pcW x) o) ∧ ∀ u, inn (d.foldl (pcW x) o) u = (inn o u || (inn d u && !hasT x u))
  | [], o, h, _, _ => ⟨h, fun u => by simp [inn]⟩
  | s :: d, o, h, hl, hn => by
    rw [Nm.cons_iff] at hn
    have hs := ok_iff.1 hn.1
    have hx' := ok_iff.1 hx
    have c1 : s.1 < min s.2 x.1 → 0 ≤ s.1 := fun _ => by omega
    have c2 : min s.2 x.1 ≤ 4611686018427387903 := by omega
    have c3 : s.1 < min s.2 x.1 → ∀ z ∈ o, z.1 ≤ s.1 := fun _ z hz => hl z hz s (by simp)
    have n1 := addP_nm h c1 c2 c3
    have d1 : max s.1 x.2 < s.2 → 0 ≤ max s.1 x.2 := fun _ => by omega
    have d3 : max s.1 x.2 < s.2 → ∀ z ∈ addP o s.1 (min s.2 x.1), z.1 ≤ max s.1 x.2 := fun _ z hz => by
      rcases addP_mem hz with ⟨q, hq, e⟩ | ⟨e, _⟩
      · have := hl q hq s (by simp); omega
      · omega
    obtain ⟨r1, r2⟩ := foldW x hx d (addP (addP o s.1 (min s.2 x.1)) (max s.1 x.2) s.2) (addP_nm n1 d1 hs.2.2 d3) (fun z hz y hy => by
      have := hn.2.1 y hy
      rcases addP_mem hz with ⟨q, hq, e⟩ | ⟨e, _⟩
      · rcases addP_mem hq with ⟨p, hp, e'⟩ | ⟨e', _⟩
        · have := hl p hp y (by simp [hy]); omega
        · omega
      · omega) hn.2.2
    refine ⟨r1, fun u => ?_⟩
    refine (r2 u).trans ?_
    rw [addP_inn n1 d1 hs.2.2 d3, addP_inn h c1 c2 c3, inn_cons, Bool.or_assoc, Bool.or_assoc]
    congr 1
    rw [Bool.eq_iff_iff]
    cases hd : inn d u
    · simp [hasT, hn.1, hx]; omega
    · simp [hasT, hn.1, hx]; omega

theorem foldN_length : ∀ (d o : List It), (d.foldl pcN o).length ≤ o.length + d.length
  | [], o => by simp
  | s :: d, o => by
    have h1 := foldN_length d (pcN o s)
    have h2 := addP_length o s.1 s.2
    simp only [List.foldl_cons, List.length_cons]
    unfold pcN at *; omega
theorem foldC_length (f t : Int) : ∀ (d o : List It), (d.foldl (pcC f t) o).length ≤ o.length + d.length
  | [], o => by simp
  | s :: d, o => by
    have h1 := foldC_length f t d (pcC f t o s)
    have h2 := addP_length o (max s.1 f) (min s.2 t)
    simp only [List.foldl_cons, List.length_cons]
    unfold pcC at *; omega
theorem foldW_length (x : It) : ∀ (d o : List It), (d.foldl (pcW x) o).length ≤ o.length + 2 * d.length
  | [], o => by simp
  | s :: d, o => by
    have h1 := foldW_length x d (pcW x o s)
    have h2 := addP_length o s.1 (min s.2 x.1)
    have h3 := addP_length (addP o s.1 (min s.2 x.1)) (max s.1 x.2) s.2
    simp only [List.foldl_cons, List.length_cons]
    unfold pcW at *; omega

/-- the number of ticks, span by span; tick by tick -/
def tot : List It → Int
  | [] => 0
  | x :: r => (x.2 - x.1) + tot r
def cnt (p : Int → Bool) : Nat → Nat
  | 0 => 0
  | k + 1 => cnt p k + if p (k : Int) then 1 else 0
theorem tot_append (a b : List It) : tot (a ++ b) = tot a + tot b := by
  induction a with
  | nil => simp [tot]
  | cons x r ih => simp [tot, ih]; omega
theorem tot_bound : ∀ (l : List It) (m : Int), Nm l → (∀ x ∈ l, m ≤ x.1) → m ≤ 4611686018427387903 → 0 ≤ tot l ∧ tot l ≤ 4611686018427387903 - m
  | [], m, _, _, hm => by simp [tot]; omega
  | x :: r, m, h, hl, hm => by
    rw [Nm.cons_iff] at h
    have hx := ok_iff.1 h.1
    have h1 := hl x (by simp)
    have := tot_bound r x.2 h.2.2 (fun y hy => by have := h.2.1 y hy; omega) hx.2.2
    simp only [tot]; omega
theorem tot_take_bound {l : List It} (h : Nm l) (k : Nat) : 0 ≤ tot (l.take k) ∧ tot (l.take k) ≤ 4611686018427387903 := by
  have h' : Nm (l.take k) := ⟨fun x hx => h.1 x (List.mem_of_mem_take hx), h.2.sublist (List.take_sublist _ _)⟩
  have := tot_bound _ 0 h' (fun x hx => (ok_iff.1 (h'.1 x hx)).1) (by omega)
  omega
theorem cnt_congr {p q : Int → Bool} : ∀ (k : Nat), (∀ i : Nat, i < k → p i = q i) → cnt p k = cnt q k
  | 0, _ => rfl
  | k + 1, h => by
    simp only [cnt]
    rw [cnt_congr k fun i hi => h i (by omega), h k (by omega)]
theorem cnt_le (p : Int → Bool) : ∀ k, cnt p k ≤ k
  | 0 => Nat.le_refl _
  | k + 1 => by have := cnt_le p k; simp only [cnt]; split <;> omega
theorem cnt_or {p q r : Int → Bool} : ∀ (k : Nat), (∀ i : Nat, i < k → r i = (p i || q i) ∧ (p i && q i) = false) → cnt r k = cnt p k + cnt q k
  | 0, _ => rfl
  | k + 1, h => by
    obtain ⟨h1, h2⟩ := h k (by omega)
    simp only [cnt]
    rw [cnt_or k fun i hi => h i (by omega), h1]
    cases hp : p k <;> cases hq : q k <;> simp [hp, hq] at h2 ⊢ <;> omega
theorem cnt_seg (a b : Int) (h0 : 0 ≤ a) (hab : a ≤ b) : ∀ (k : Nat), (cnt (fun t => decide (a ≤ t) && decide (t < b)) k : Int) = if (k : Int) ≤ a then 0 else if (k : Int) ≤ b then k - a else b - a
  | 0 => by simp only [cnt]; rw [if_pos (by omega)]; rfl
  | k + 1 => by
    have ih := cnt_seg a b h0 hab k
    simp only [cnt]
    by_cases h1 : a ≤ (k : Int)
    · by_cases h2 : (k : Int) < b
      · rw [if_pos (by simp [h1, h2])]
        by_cases h3 : (k : Int) ≤ a
        · rw [if_pos h3] at ih
          rw [if_neg (by omega), if_pos (by omega)]; omega
        · rw [if_neg h3, if_pos (by omega)] at ih
          rw [if_neg (by omega), if_pos (by omega)]; omega
      · rw [if_neg (by simp [h2])]
        by_cases h3 : (k : Int) ≤ a
        · rw [if_pos h3] at ih
          rw [if_neg (by omega), if_neg (by omega)]; omega
        · rw [if_neg h3] at ih
          rw [if_neg (by omega), if_neg (by omega)]
          split at ih <;> omega
    · rw [if_neg (by simp [h1])]
      rw [if_pos (by omega)] at ih
      rw [if_pos (by omega)]; omega
theorem cnt_none (p : Int → Bool) : ∀ (k : Nat), (∀ i : Nat, i < k → p i = false) → cnt p k = 0
  | 0, _ => rfl
  | k + 1, h => by simp only [cnt]; rw [cnt_none p k fun i hi => h i (by omega), h k (by omega)]; rfl
theorem tot_cnt (n : Nat) : ∀ (l : List It), Nm l → (∀ x ∈ l, x.2 ≤ (n : Int)) → tot l = (cnt (inn l) n : Int)
  | [], _, _ => by rw [cnt_none]; · rfl
                   · intro i _; rfl
  | x :: r, h, hm => by
    rw [Nm.cons_iff] at h
    have hx := ok_iff.1 h.1
    have hxn := hm x (by simp)
    rw [cnt_or (p := fun t => decide (x.1 ≤ t) && decide (t < x.2)) (q := inn r)]
    · have e := cnt_seg x.1 x.2 hx.1 (by omega) n
      have ih := tot_cnt n r h.2.2 fun y hy => hm y (by simp [hy])
      rw [if_neg (by omega)] at e
      simp only [tot]
      rw [ih]
      split at e <;> omega
    · intro i _
      refine ⟨?_, ?_⟩
      · rw [inn_cons]; congr 1; simp [hasT, h.1]
      · rw [← Bool.not_eq_true]
        simp only [Bool.and_eq_true, decide_eq_true_eq, inn_iff]
        rintro ⟨⟨_, h2⟩, z, hz, _, h3, _⟩
        have := h.2.1 z hz; omega
/-- spans with ticks below a number end by it -/
theorem nm_top {l : List It} (h : Nm l) (m : Int) (ht : ∀ t, inn l t = true → t < m) : ∀ x ∈ l, x.2 ≤ m := by
  intro x hx
  have hk := h.1 x hx
  have hk' := ok_iff.1 hk
  have := ht (x.2 - 1) (inn_iff.2 ⟨x, hx, hk, by omega, by omega⟩)
  omega
theorem tot_eqv {a b : List It} (n : Nat) (h : Nm a) (he : Eqv a b) (hb : ∀ x ∈ b, x.2 ≤ (n : Int)) : tot a = (cnt (inn b) n : Int) := by
  rw [tot_cnt n a h (nm_top h n fun t ht => by
    rw [he t, inn_iff] at ht
    obtain ⟨x, hx, _, _, h2⟩ := ht
    have := hb x hx; omega)]
  rw [cnt_congr n fun i _ => he i]

/-- rows by place: what the loops of Right look at -/
def rowTo (l : List It) (k : Nat) : Prop := ∀ i, i < k → ok (at_ l i) = true ∧ (0 < i → (at_ l (i - 1)).2 < (at_ l i).1)
theorem at_cons_succ (x : It) (r : List It) (i : Nat) : at_ (x :: r) (i + 1) = at_ r i := rfl
theorem at_cons_zero (x : It) (r : List It) : at_ (x :: r) 0 = x := rfl
theorem at_mem {l : List It} {i : Nat} (h : i < l.length) : at_ l i ∈ l := by
  simp only [at_, List.getD_eq_getElem?_getD, List.getElem?_eq_getElem h, Option.getD_some]
  exact List.getElem_mem h
theorem mem_at {l : List It} {x : It} (h : x ∈ l) : ∃ i, i < l.length ∧ at_ l i = x := by
  obtain ⟨i, hi, e⟩ := List.getElem_of_mem h
  exact ⟨i, hi, by simp [at_, List.getD_eq_getElem?_getD, hi, e]⟩
theorem nm_row : ∀ {l : List It}, Nm l ↔ rowTo l l.length
  | [] => ⟨fun _ i hi => by simp at hi, fun _ => Nm.nil⟩
  | x :: r => by
    rw [Nm.cons_iff, nm_row (l := r)]
    constructor
    · rintro ⟨h1, h2, h3⟩ i hi
      cases i with
      | zero => exact ⟨h1, fun h => absurd h (by omega)⟩
      | succ i =>
        have hi' : i < r.length := by simpa using hi
        refine ⟨(h3 i hi').1, fun _ => ?_⟩
        cases i with
        | zero => exact h2 _ (at_mem hi')
        | succ i => exact (h3 (i + 1) hi').2 (by omega)
    · intro h
      have h0 := h 0 (by simp)
      have hr : rowTo r r.length := fun i hi => by
        have := h (i + 1) (by simpa using hi)
        refine ⟨this.1, fun h0 => ?_⟩
        have h2 := this.2 (by omega)
        obtain ⟨j, rfl⟩ : ∃ j, i = j + 1 := ⟨i - 1, by omega⟩
        exact h2
      refine ⟨h0.1, fun y hy => ?_, hr⟩
      have hn := nm_row.2 hr
      rcases r with _ | ⟨z, s⟩
      · simp at hy
      · have h1 := (h 1 (by simp)).2 (by omega)
        have h1' : x.2 < z.1 := h1
        rw [Nm.cons_iff] at hn
        rcases List.mem_cons.1 hy with rfl | hy
        · exact h1'
        · have := hn.2.1 y hy
          have := ok_iff.1 hn.1
          omega
/-- the answer of Right -/
noncomputable def rightB (l : List It) : Bool := @decide (Nm l) (Classical.propDecidable _)
theorem rightB_true {l : List It} : rightB l = true ↔ Nm l := by simp [rightB]
theorem rightB_false {l : List It} : rightB l = false ↔ ¬ Nm l := by simp [rightB]
theorem rightB_of_row {l : List It} (h : rowTo l l.length) : rightB l = true := rightB_true.2 (nm_row.2 h)
theorem rightB_not {l : List It} {k : Nat} (hk : k < l.length) (h : ok (at_ l k) = false ∨ (0 < k ∧ (at_ l k).1 ≤ (at_ l (k - 1)).2)) : rightB l = false := by
  rw [rightB_false, nm_row]
  intro h'
  obtain ⟨h1, h2⟩ := h' k hk
  rcases h with h | ⟨h, h3⟩
  · rw [h] at h1; cases h1
  · have := h2 h; omega

end Go.Proofs.Ytdgemmhaddnbdaa.Hp
