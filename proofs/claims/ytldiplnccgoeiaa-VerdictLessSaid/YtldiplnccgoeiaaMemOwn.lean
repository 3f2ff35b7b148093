/-
  Memory, for every layer: a slice of the call's own whose elements hold slices, all of them in other blocks: it stays so as the heap grows, and behind an append.
-/
import Derived.Test.YtldiplnccgoeiaaMem
namespace Go.Proofs.Ytldiplnccgoeiaa
open Go.RowKit
namespace Mm

section
variable {α : Type} [Inhabited α] [Dat α]
/-- all blocks that are there, but that of the slice -/
def Else (w : World) (A : Option Addr) (b : Nat) : Prop := b < w.heap.size ∧ A ≠ some ⟨b, 0, none⟩
/-- a slice of the call's own; what its elements hold lies in other blocks -/
def OwN (w : World) (base : Nat) (e : TypeId) (A : Option Addr) (c : Nat) (l : List α) : Prop := OwS w (Else w A) base e A c l
theorem own_nil {β : Type} [Inhabited β] [Dat β] (w : World) (base : Nat) (e : TypeId) : OwN w base e none 0 ([] : List β) := ow_nil _ _ _ _
theorem OwN.below {β : Type} [Dat β] {w w' : World} {base : Nat} {e : TypeId} {A : Option Addr} {c : Nat} {l : List β} (h : OwN w base e A c l) (b : Below w.heap.size w w') : OwN w' base e A c l :=
  OwS.keep h (fun g hA => b.block g (OwS.new h g hA).2) fun x hlt hx => ⟨⟨Nat.lt_of_lt_of_le hx.1 b.size, hx.2⟩, b.block x hlt⟩
theorem OwN.rd {w : World} {base : Nat} {e : TypeId} {A : Option Addr} {c : Nat} {l : List α} (h : OwN w base e A c l) : Rd w A c l := OwS.rd h
theorem OwN.le {β : Type} [Dat β] {w : World} {base : Nat} {e : TypeId} {A : Option Addr} {c : Nat} {l : List β} (h : OwN w base e A c l) : l.length ≤ c := OwS.le h
theorem run_own {P : Program} {t e : TypeId} (ty : TypeId) (hT : SlT P t e (Dat.k α)) {w : World} {base : Nat} {A B : Option Addr} {c d : Nat} {l r : List α} (h : OwN w base e A c l) (hr : RdS w (Else w A) B d r) (hbig : l.length + r.length ≤ 1000000) (hbase : base ≤ w.heap.size) :
    ∃ A' c' w', (Builtin.append_ #[t, t] ty #[.slice A l.length c, .slice B r.length d]).run P w = .ok (.slice A' (l.length + r.length) c') w' ∧ OwN w' base e A' c' (l ++ r) ∧ Below base w w' := by
  obtain ⟨A', c', w', h1, h2, h3, h4⟩ := run_app ty hT h hr (fun _ h => h) (fun g hA => .inl (fun hs => hs.2 hA)) hbig hbase
  refine ⟨A', c', w', h1, h2.sub fun b hb => ⟨Nat.lt_of_lt_of_le hb.1 h3.size, fun e => ?_⟩, (Below.refl _ _).grown h3 hbase (OwS.row h)⟩
  subst e
  rcases h4 with h4 | h4
  · rcases OwS.cases h with ⟨rfl, _⟩ | ⟨g, rfl, _⟩
    · cases h4
    · injection h4 with h4
      exact hb.2 (by simp only at h4; rw [h4])
  · injection h4 with h4
    have := hb.1
    simp only at h4
    omega
/-- append, the lengths named -/
theorem list_own_n {P : Program} {t e : TypeId} (hT : SlT P t e (Dat.k α)) {w : World} {ops : Array Oper} {rest : List Oper} {o : Oper} {a : Act} {Q : Exit → Act → World → Prop} (hg : o.guard = none) (s x : Operand) (ho : o.op = .call { callee := .builtin .append, args := #[s, x], argTypes := #[t, t] })
    {base : Nat} {A B : Option Addr} {c d : Nat} {l r : List α} {n m : Nat} (hn : l.length = n) (hm : r.length = m) (h1 : a.eval s = .slice A n c) (h2 : a.eval x = .slice B m d) (h : OwN w base e A c l) (hr : RdS w (Else w A) B d r) (hbig : n + m ≤ 1000000) (hbase : base ≤ w.heap.size)
    (hK : ∀ A' c' w', OwN w' base e A' c' (l ++ r) → Below base w w' → wpList P ops Q rest (a.put o.dst (.slice A' (n + m) c')) w') :
    wpList P ops Q (o :: rest) a w := by
  subst hn; subst hm
  obtain ⟨A', c', w', hrun, k1, k2⟩ := run_own o.type hT h hr hbig hbase
  exact wpList_plain hg fun _ hK' => wp_app_run s x t ho _ _ _ _ h1 h2 hrun (hK' _ _ (hK A' c' w' k1 k2))
end

end Mm
end Go.Proofs.Ytldiplnccgoeiaa
