/-
  Memory, for every layer: two slices of the call's own side by side, whose elements hold slices that were there ahead: append a literal to one of them.
-/
import Derived.Test.YtldiplnccgoeiaaMem
namespace Go.Proofs.Ytldiplnccgoeiaa
open Go.RowKit
namespace Mm
section
variable {α : Type} [Inhabited α] [Dat α]
/-- a slice of the call's own; what its elements hold was there ahead -/
def OwL (w : World) (base : Nat) (e : TypeId) (A : Option Addr) (c : Nat) (l : List α) : Prop := OwS w (fun b => b < base) base e A c l
theorem owl_nil {β : Type} [Inhabited β] [Dat β] (w : World) (base : Nat) (e : TypeId) : OwL w base e none 0 ([] : List β) := ow_nil _ _ _ _
theorem OwL.below {β : Type} [Inhabited β] [Dat β] {w w' : World} {base : Nat} {e : TypeId} {A : Option Addr} {c : Nat} {l : List β} (h : OwL w base e A c l) (b : Below w.heap.size w w') : OwL w' base e A c l := OwS.below h b (Nat.le_refl _)
theorem OwL.rd {w : World} {base : Nat} {e : TypeId} {A : Option Addr} {c : Nat} {l : List α} (h : OwL w base e A c l) : Rd w A c l := OwS.rd h
/-- two slices do not lie in one block -/
def Two (A B : Option Addr) : Prop := ∀ g : Nat, A = some ⟨g, 0, none⟩ → B = some ⟨g, 0, none⟩ → False
theorem Two.swap {A B : Option Addr} (h : Two A B) : Two B A := fun g h1 h2 => h g h2 h1
theorem two_nil (B : Option Addr) : Two none B := fun g h => by cases h

theorem run_two {β : Type} [Dat β] {P : Program} {t e : TypeId} (ty : TypeId) (hT : SlT P t e (Dat.k β)) {w : World} {base : Nat} {A B : Option Addr} {c co Y off d : Nat} {l r lo : List β} {cs : List Value} (h : OwL w base e A c l) (ho : OwL w base e B co lo) (htw : Two A B)
    (hc : Rows w (fun b => b < base) cs r) (hcell : ∀ j u, cs[j]? = some u → w.cell? ⟨Y, off + j, none⟩ = some u) (hbig : l.length + r.length ≤ 1000000) (hbase : base ≤ w.heap.size) :
    ∃ A' c' w', (Builtin.append_ #[t, t] ty #[.slice A l.length c, .slice (some ⟨Y, off, none⟩) r.length d]).run P w = .ok (.slice A' (l.length + r.length) c') w' ∧ OwL w' base e A' c' (l ++ r) ∧ OwL w' base e B co lo ∧ Two A' B ∧ Below base w w' := by
  obtain ⟨ht, i, z, hi, hz, hs, hzs, hby⟩ := hT
  have hpos := Dat.pos (α := β)
  have hrow := OwS.row h
  have hcases := OwS.cases h
  obtain ⟨xs, h1, h2⟩ := h
  obtain ⟨v', w', hrun, h3, h4, _, h5⟩ := run_append_own_at (P := P) w base t ty e i z (Dat.k β) i.bytes ht hi hz hs rfl hzs hpos _ l.length xs h1 ⟨Y, off, none⟩ r.length d cs hc.length
    (fun j u hu => by rw [Go.WideShapes.add_plain]; exact hcell j u hu) hc.one
    (by unfold maxLen; omega) (by have := Nat.mul_le_mul hbig hby; omega) hbase
  have hv : ∃ A' c', v' = .slice A' (l.length + r.length) c' := by
    rcases h3.2 with ⟨h', h0⟩ | ⟨g, cap, cur, h', _⟩
    · exact ⟨none, 0, by rw [h', h0]⟩
    · exact ⟨_, _, h'⟩
  obtain ⟨A', c', rfl⟩ := hv
  have hlow : ∀ b, b < base → some b ≠ (Value.slice A l.length c).ownBlock := fun b hb he => by
    have := hrow b he.symm
    omega
  refine ⟨A', c', w', hrun, ⟨xs ++ cs, by rw [List.length_append]; exact h3, ?_⟩, ?_, ?_, (Below.refl _ _).grown h4 hbase hrow⟩
  · exact (h2.append hc).keep fun b hb hs => ⟨hs, h4.block b hb (hlow b hs)⟩
  · refine OwS.gb ho h4 (fun g hg he => ?_) hlow
    rcases hcases with ⟨rfl, _⟩ | ⟨g', rfl, _⟩
    · cases he
    · injection he with he
      simp only at he
      exact htw g' rfl (by rw [hg, he])
  · intro g hg hB
    rcases h5 with h5 | h5
    · rcases hcases with ⟨rfl, _⟩ | ⟨g', rfl, _⟩
      · rw [hg] at h5; cases h5
      · rw [hg] at h5
        injection h5 with h5
        simp only at h5
        exact htw g' rfl (by rw [hB, h5])
    · rw [hg] at h5
      injection h5 with h5
      simp only at h5
      have := (OwS.new ho g hB).2
      omega
theorem list_two {β : Type} [Dat β] {l : List β} {P : Program} {t e : TypeId} (hT : SlT P t e (Dat.k β)) {w : World} {ops : Array Oper} {rest : List Oper} {o : Oper} {a : Act} {Q : Exit → Act → World → Prop} (hg : o.guard = none) (s x : Operand) (hop : o.op = .call { callee := .builtin .append, args := #[s, x], argTypes := #[t, t] })
    {base : Nat} {A B : Option Addr} {c co Y off d : Nat} {l r lo : List β} {cs : List Value} {n m : Nat} (hn : l.length = n) (hm : r.length = m) (e1 : a.eval s = .slice A n c) (e2 : a.eval x = .slice (some ⟨Y, off, none⟩) m d) (h : OwL w base e A c l) (ho : OwL w base e B co lo) (htw : Two A B)
    (hc : Rows w (fun b => b < base) cs r) (hcell : ∀ j u, cs[j]? = some u → w.cell? ⟨Y, off + j, none⟩ = some u) (hbig : n + m ≤ 1000000) (hbase : base ≤ w.heap.size)
    (hK : ∀ A' c' w', OwL w' base e A' c' (l ++ r) → OwL w' base e B co lo → Two A' B → Below base w w' → wpList P ops Q rest (a.put o.dst (.slice A' (n + m) c')) w') :
    wpList P ops Q (o :: rest) a w := by
  subst hn; subst hm
  obtain ⟨A', c', w', hrun, k1, k2, k3, k4⟩ := run_two (d := d) o.type hT h ho htw hc hcell hbig hbase
  exact wpList_plain hg fun _ hK' => wp_app_run s x t hop _ _ _ _ e1 e2 hrun (hK' _ _ (hK A' c' w' k1 k2 k3 k4))
theorem step_two {β : Type} [Dat β] {P : Program} {t e : TypeId} (hT : SlT P t e (Dat.k β)) {w : World} {ops : Array Oper} {o : Oper} {a : Act} {K : Act → World → Prop} {Q : Exit → Act → World → Prop} {E : Prop} (hg : o.guard = none) (s x : Operand) (hop : o.op = .call { callee := .builtin .append, args := #[s, x], argTypes := #[t, t] })
    {base : Nat} {A B : Option Addr} {c co Y off d : Nat} {l r lo : List β} {cs : List Value} {n m : Nat} (hn : l.length = n) (hm : r.length = m) (e1 : a.eval s = .slice A n c) (e2 : a.eval x = .slice (some ⟨Y, off, none⟩) m d) (h : OwL w base e A c l) (ho : OwL w base e B co lo) (htw : Two A B)
    (hc : Rows w (fun b => b < base) cs r) (hcell : ∀ j u, cs[j]? = some u → w.cell? ⟨Y, off + j, none⟩ = some u) (hbig : n + m ≤ 1000000) (hbase : base ≤ w.heap.size)
    (hK : ∀ A' c' w', OwL w' base e A' c' (l ++ r) → OwL w' base e B co lo → Two A' B → Below base w w' → K (a.put o.dst (.slice A' (n + m) c')) w') :
    if Region.wanted o (yielded ops a.tmps) = true then Oper.wp P o a w K Q else E := by
  subst hn; subst hm
  obtain ⟨A', c', w', hrun, k1, k2, k3, k4⟩ := run_two (d := d) o.type hT h ho htw hc hcell hbig hbase
  rw [if_pos (by simp [Region.wanted, hg])]
  exact wp_app_run s x t hop _ _ _ _ e1 e2 hrun (hK A' c' w' k1 k2 k3 k4)
end
end Mm
end Go.Proofs.Ytldiplnccgoeiaa
