/-
  Layer 4, the plain mathematics of the document's Norm: edges, marks, the least edge behind a place.
-/
import Derived.Test.YtdgemmhaddnbdaaSpanMath
namespace Go.Proofs.Ytdgemmhaddnbdaa.Hp

/-- a tick that is in, and not the one ahead; or the other way round -/
def E (l : List It) (m : Int) : Bool := inn l m != inn l (m - 1)
/-- the ends of the valid spans -/
def mk : List It → List Int
  | [] => []
  | x :: r => if ok x = true then x.1 :: x.2 :: mk r else mk r
theorem mk_append (a b : List It) : mk (a ++ b) = mk a ++ mk b := by
  induction a with
  | nil => rfl
  | cons x r ih =>
    simp only [List.cons_append, mk]
    split <;> simp [ih]
theorem mk_length (l : List It) : (mk l).length ≤ 2 * l.length := by
  induction l with
  | nil => simp [mk]
  | cons x r ih =>
    simp only [mk]
    split <;> simp <;> omega
theorem mem_mk {l : List It} {x : It} (h : x ∈ l) (hk : ok x = true) : x.1 ∈ mk l ∧ x.2 ∈ mk l := by
  induction l with
  | nil => simp at h
  | cons y r ih =>
    simp only [mk]
    rcases List.mem_cons.1 h with rfl | h
    · rw [if_pos hk]; simp
    · obtain ⟨h1, h2⟩ := ih h
      split
      · exact ⟨by simp [h1], by simp [h2]⟩
      · exact ⟨h1, h2⟩
theorem mk_bound {l : List It} {m : Int} (h : m ∈ mk l) : 0 ≤ m ∧ m ≤ 4611686018427387903 := by
  induction l with
  | nil => simp [mk] at h
  | cons y r ih =>
    simp only [mk] at h
    split at h
    · rename_i hk
      have := ok_iff.1 hk
      rcases List.mem_cons.1 h with rfl | h
      · omega
      · rcases List.mem_cons.1 h with rfl | h
        · omega
        · exact ih h
    · exact ih h
/-- an edge is an end of a valid span -/
theorem edge_at {l : List It} {m : Int} (h : E l m = true) : ∃ x ∈ l, ok x = true ∧ (m = x.1 ∨ m = x.2) := by
  unfold E at h
  cases h1 : inn l m with
  | true =>
    cases h2 : inn l (m - 1) with
    | true => rw [h1, h2] at h; cases h
    | false =>
      obtain ⟨x, hx, hk, a, b⟩ := inn_iff.1 h1
      refine ⟨x, hx, hk, .inl ?_⟩
      rcases Int.lt_or_le (m - 1) x.1 with hlt | hle
      · omega
      · have : inn l (m - 1) = true := inn_iff.2 ⟨x, hx, hk, hle, by omega⟩
        rw [h2] at this; cases this
  | false =>
    cases h2 : inn l (m - 1) with
    | false => rw [h1, h2] at h; cases h
    | true =>
      obtain ⟨x, hx, hk, a, b⟩ := inn_iff.1 h2
      refine ⟨x, hx, hk, .inr ?_⟩
      rcases Int.lt_or_le m x.2 with hlt | hle
      · have : inn l m = true := inn_iff.2 ⟨x, hx, hk, by omega, hlt⟩
        rw [h1] at this; cases this
      · omega
theorem edge_mk {l : List It} {m : Int} (h : E l m = true) : m ∈ mk l := by
  obtain ⟨x, hx, hk, e⟩ := edge_at h
  obtain ⟨h1, h2⟩ := mem_mk hx hk
  rcases e with rfl | rfl
  · exact h1
  · exact h2

/-- r is the least edge of ms behind a, or -1 -/
def Best (l : List It) (ms : List Int) (a r : Int) : Prop :=
  (r = -1 ∧ ∀ m ∈ ms, a < m → E l m = false) ∨ (0 ≤ r ∧ r ∈ ms ∧ a < r ∧ E l r = true ∧ ∀ m ∈ ms, a < m → E l m = true → r ≤ m)
theorem Best.start (l : List It) (a : Int) : Best l [] a (-1) := .inl ⟨rfl, by simp⟩
theorem Best.skip {l : List It} {ms : List Int} {a r m : Int} (h : Best l ms a r) (hm : ¬ a < m ∨ E l m = false ∨ (0 ≤ r ∧ r ≤ m)) : Best l (ms ++ [m]) a r := by
  rcases h with ⟨rfl, h⟩ | ⟨h0, h1, h2, h3, h4⟩
  · left
    refine ⟨rfl, fun k hk hak => ?_⟩
    rcases List.mem_append.1 hk with hk | hk
    · exact h k hk hak
    · rw [List.mem_singleton.1 hk] at hak ⊢
      rcases hm with hm | hm | hm
      · exact absurd hak hm
      · exact hm
      · omega
  · right
    refine ⟨h0, by simp [h1], h2, h3, fun k hk hak hE => ?_⟩
    rcases List.mem_append.1 hk with hk | hk
    · exact h4 k hk hak hE
    · rw [List.mem_singleton.1 hk] at hak hE ⊢
      rcases hm with hm | hm | hm
      · exact absurd hak hm
      · rw [hm] at hE; cases hE
      · exact hm.2
theorem Best.take {l : List It} {ms : List Int} {a r m : Int} (h : Best l ms a r) (h0 : 0 ≤ m) (ham : a < m) (hE : E l m = true) (hr : r < 0 ∨ m < r) : Best l (ms ++ [m]) a m := by
  right
  refine ⟨h0, by simp, ham, hE, fun k hk hak hk' => ?_⟩
  rcases List.mem_append.1 hk with hk | hk
  · rcases h with ⟨_, h⟩ | ⟨k0, _, _, _, h4⟩
    · rw [h k hk hak] at hk'; cases hk'
    · have := h4 k hk hak hk'; omega
  · rw [List.mem_singleton.1 hk]; exact Int.le_refl _
theorem Best.low {l : List It} {ms : List Int} {a r : Int} (h : Best l ms a r) (hb : ∀ m ∈ ms, m ≤ 4611686018427387903) : -1 ≤ r ∧ r ≤ 4611686018427387903 := by
  rcases h with ⟨rfl, _⟩ | ⟨h0, h1, _⟩
  · omega
  · have := hb r h1; omega

/-- how far the document's Norm is: at most gg edges are to come -/
def St (n o : List It) (a : Int) (gg : Nat) : Prop :=
  (∃ q, n = o ++ q ∧ (∀ y ∈ o, y.2 ≤ a) ∧ (∀ y ∈ q, a < y.1) ∧ 2 * q.length ≤ gg) ∨ (∃ p x q, n = p ++ x :: q ∧ o = p ++ [(x.1, 0)] ∧ a = x.1 ∧ 2 * q.length + 1 ≤ gg)
theorem St.start {n : List It} (h : Nm n) : St n [] (-1) (2 * n.length) :=
  .inl ⟨n, rfl, by simp, fun y hy => by have := ok_iff.1 (h.1 y hy); omega, Nat.le_refl _⟩
theorem St.len {n o : List It} {a : Int} {gg : Nat} (h : St n o a gg) : o.length ≤ n.length := by
  rcases h with ⟨q, rfl, _⟩ | ⟨p, x, q, rfl, rfl, _⟩
  · simp
  · simp
theorem E_eqv {n l : List It} (h : Eqv n l) (m : Int) : E n m = E l m := by unfold E; rw [h m, h (m - 1)]

theorem St.next {n l o : List It} {a r : Int} {gg : Nat} (hn : Nm n) (he : Eqv n l) (hs : St n o a gg) (hb : Best l (mk l) a r) :
    (r = -1 ∧ o = n) ∨ (0 ≤ r ∧ inn l r = true ∧ 0 < gg ∧ St n (o ++ [(r, 0)]) r (gg - 1)) ∨
      (0 ≤ r ∧ inn l r = false ∧ 0 < gg ∧ 0 < o.length ∧ St n (o.set (o.length - 1) ((at_ o (o.length - 1)).1, r)) r (gg - 1)) := by
  rcases hs with ⟨q, rfl, h1, h2, h3⟩ | ⟨p, x, q, rfl, rfl, rfl, h3⟩
  · rcases q with _ | ⟨x, q⟩
    · -- nothing is to come
      left
      have hno : ∀ m, a < m → E l m = false := fun m hm => by
        rw [← Bool.not_eq_true, ← E_eqv he m]
        intro hE
        obtain ⟨y, hy, hk, e⟩ := edge_at hE
        have hy' := ok_iff.1 hk
        have := h1 y (by simpa using hy)
        omega
      rcases hb with ⟨rfl, _⟩ | ⟨_, _, h5, h6, _⟩
      · exact ⟨rfl, by simp⟩
      · rw [hno r h5] at h6; cases h6
    · right; left
      have hx : a < x.1 := h2 x (by simp)
      have hk := hn.1 x (by simp)
      have hk' := ok_iff.1 hk
      have hpw := (List.pairwise_append.1 hn.2)
      have hq := List.pairwise_cons.1 hpw.2.1
      have hox : ∀ y ∈ o, y.2 < x.1 := fun y hy => hpw.2.2 y hy x (by simp)
      have hin : inn (o ++ x :: q) x.1 = true := inn_iff.2 ⟨x, by simp, hk, by omega, by omega⟩
      have hout : inn (o ++ x :: q) (x.1 - 1) = false := by
        rw [← Bool.not_eq_true, inn_iff]
        rintro ⟨y, hy, hky, c1, c2⟩
        have hky' := ok_iff.1 hky
        rcases List.mem_append.1 hy with hy | hy
        · have := hox y hy; omega
        · rcases List.mem_cons.1 hy with rfl | hy
          · omega
          · have := hq.1 y hy; omega
      have hE : E l x.1 = true := by rw [← E_eqv he]; unfold E; rw [hin, hout]; rfl
      have hleast : ∀ m, a < m → E l m = true → x.1 ≤ m := fun m hm hEm => by
        rw [← E_eqv he] at hEm
        obtain ⟨y, hy, hky, e⟩ := edge_at hEm
        have hky' := ok_iff.1 hky
        rcases List.mem_append.1 hy with hy | hy
        · have := h1 y hy; omega
        · rcases List.mem_cons.1 hy with rfl | hy
          · omega
          · have := hq.1 y hy; omega
      have er : r = x.1 := by
        rcases hb with ⟨_, h5⟩ | ⟨_, _, h5, h6, h7⟩
        · rw [h5 _ (edge_mk hE) hx] at hE; cases hE
        · have c1 := h7 _ (edge_mk hE) hx hE
          have c2 := hleast r h5 h6
          omega
      subst er
      refine ⟨hk'.1, by rw [← he]; exact hin, by simp at h3; omega, .inr ⟨o, x, q, rfl, rfl, rfl, by simp at h3; omega⟩⟩
  · right; right
    have hk := hn.1 x (by simp)
    have hk' := ok_iff.1 hk
    have hpw := (List.pairwise_append.1 hn.2)
    have hq := List.pairwise_cons.1 hpw.2.1
    have hox : ∀ y ∈ p, y.2 < x.1 := fun y hy => hpw.2.2 y hy x (by simp)
    have hin : inn (p ++ x :: q) (x.2 - 1) = true := inn_iff.2 ⟨x, by simp, hk, by omega, by omega⟩
    have hout : inn (p ++ x :: q) x.2 = false := by
      rw [← Bool.not_eq_true, inn_iff]
      rintro ⟨y, hy, hky, c1, c2⟩
      have hky' := ok_iff.1 hky
      rcases List.mem_append.1 hy with hy | hy
      · have := hox y hy; omega
      · rcases List.mem_cons.1 hy with rfl | hy
        · omega
        · have := hq.1 y hy; omega
    have hE : E l x.2 = true := by rw [← E_eqv he]; unfold E; rw [hin, hout]; rfl
    have hx : x.1 < x.2 := hk'.2.1
    have hleast : ∀ m, x.1 < m → E l m = true → x.2 ≤ m := fun m hm hEm => by
      rw [← E_eqv he] at hEm
      obtain ⟨y, hy, hky, e⟩ := edge_at hEm
      have hky' := ok_iff.1 hky
      rcases List.mem_append.1 hy with hy | hy
      · have := hox y hy; omega
      · rcases List.mem_cons.1 hy with rfl | hy
        · omega
        · have := hq.1 y hy; omega
    have er : r = x.2 := by
      rcases hb with ⟨_, h5⟩ | ⟨_, _, h5, h6, h7⟩
      · rw [h5 _ (edge_mk hE) hx] at hE; cases hE
      · have c1 := h7 _ (edge_mk hE) hx hE
        have c2 := hleast r h5 h6
        omega
    subst er
    refine ⟨by omega, by rw [← he]; exact hout, by omega, by simp, .inl ⟨q, ?_, ?_, ?_, by omega⟩⟩
    · rw [at_last]
      simp
    · intro y hy
      rw [at_last] at hy
      simp at hy
      rcases hy with hy | rfl
      · have := hox y hy
        have := ok_iff.1 (hn.1 y (by simp [hy]))
        omega
      · exact Int.le_refl _
    · intro y hy
      exact hq.1 y hy

end Go.Proofs.Ytdgemmhaddnbdaa.Hp
