/-
  Memory, for every layer: append to a slice that is full (a three-index slice): always a new row.
-/
import Derived.Test.YtnkgfkmdfplneaaMemInts
import Derived.ArgAppend
namespace Go.Proofs.Ytnkgfkmdfplneaa
open Go.RowKit
namespace Mm
section
variable {α : Type} [Inhabited α] [Dat α] [Flat α]

/-- append of something to a full slice -/
theorem run_app_full {P : Program} {t e : TypeId} (ty : TypeId) (hT : SlT P t e (Dat.k α)) {w : World} {A B : Option Addr} {d : Nat} {l r : List α} (h : Rd w A l.length l) (hr : Rd w B d r) (h0 : 0 < r.length) (hbig : l.length + r.length ≤ 1000000) :
    ∃ A' c' w', (Builtin.append_ #[t, t] ty #[.slice A l.length l.length, .slice B r.length d]).run P w = .ok (.slice A' (l.length + r.length) c') w' ∧ Ow w' w.heap.size e A' c' (l ++ r) ∧ w.grownBy w' none := by
  rcases A with _ | a
  · obtain ⟨_, rfl⟩ := nil_of_none h
    obtain ⟨A', c', w', h1, h2, _, h4⟩ := app_flat ty hT (ow_none w w.heap.size e) hr hbig (Nat.le_refl _)
    exact ⟨A', c', w', h1, h2, h4⟩
  · obtain ⟨ht, i, z, hi, hz, hs, hzs, hby⟩ := hT
    have hpos := Dat.pos (α := α)
    rcases B with _ | ad
    · have := (nil_of_none hr).2
      subst this
      simp at h0
    · have ha := plain_of hr h0
      rw [ha] at hr
      obtain ⟨ds, h6, h7⟩ := hr.rows
      have hold : ∃ cs, Rows w (fun _ => True) cs l ∧ ∀ j u, cs[j]? = some u → w.cell? (a.add j) = some u := by
        rcases Nat.eq_zero_or_pos l.length with hl0 | hl0
        · have := List.eq_nil_of_length_eq_zero hl0
          subst this
          exact ⟨[], rfl, fun j u hj => by simp at hj⟩
        · have hb := plain_of h hl0
          rw [hb] at h
          obtain ⟨cs, h1, h2⟩ := RdS.rows h
          exact ⟨cs, h1, fun j u hj => by rw [hb, Go.WideShapes.add_plain]; exact h2 j u hj⟩
      obtain ⟨cs, h1, h2⟩ := hold
      obtain ⟨v', w', hrun, k1, k2⟩ := run_append_arg_grows (P := P) w t ty e i z (Dat.k α) i.bytes ht hi hz hs rfl hzs hpos a l.length l.length cs h1.length h2 ad r.length d ds h6.length
        (fun j u hu => by rw [ha, Go.WideShapes.add_plain]; exact h7 j u hu) (by omega) (by unfold maxLen; omega) (by have := Nat.mul_le_mul hbig hby; omega)
      have hv : ∃ A' c', v' = .slice A' (l.length + r.length) c' := by
        rcases k1.2 with ⟨h', h0⟩ | ⟨g, cap, cur, h', _⟩
        · exact ⟨none, 0, by rw [h', h0]⟩
        · exact ⟨_, _, h'⟩
      obtain ⟨A', c', rfl⟩ := hv
      exact ⟨A', c', w', hrun, ⟨cs ++ ds, by rw [List.length_append]; exact k1, (h1.append (h6.flat (w' := w) (S' := fun _ => True))).flat⟩, k2⟩
theorem step_app_full {P : Program} {t e : TypeId} (hT : SlT P t e (Dat.k α)) {w : World} {ops : Array Oper} {o : Oper} {a : Act} {K : Act → World → Prop} {Q : Exit → Act → World → Prop} {E : Prop} (hg : o.guard = none) (s x : Operand) (ho : o.op = .call { callee := .builtin .append, args := #[s, x], argTypes := #[t, t] })
    {A B : Option Addr} {d : Nat} {l r : List α} {n m : Nat} (hn : l.length = n) (hm : r.length = m) (h1 : a.eval s = .slice A n n) (h2 : a.eval x = .slice B m d) (h : Rd w A n l) (hr : Rd w B d r) (h0 : 0 < m) (hbig : n + m ≤ 1000000)
    (hK : ∀ A' c' w', Ow w' w.heap.size e A' c' (l ++ r) → w.grownBy w' none → K (a.put o.dst (.slice A' (n + m) c')) w') :
    if Region.wanted o (yielded ops a.tmps) = true then Oper.wp P o a w K Q else E := by
  subst hn; subst hm
  obtain ⟨A', c', w', hrun, k1, k2⟩ := run_app_full o.type hT h hr h0 hbig
  rw [if_pos (by simp [Region.wanted, hg])]
  exact wp_app_run s x t ho _ _ _ _ h1 h2 hrun (hK A' c' w' k1 k2)
/-- .. to one of the call's own, the lengths named -/
theorem step_app_n {P : Program} {t e : TypeId} (hT : SlT P t e (Dat.k α)) {w : World} {ops : Array Oper} {o : Oper} {a : Act} {K : Act → World → Prop} {Q : Exit → Act → World → Prop} {E : Prop} (hg : o.guard = none) (s x : Operand) (ho : o.op = .call { callee := .builtin .append, args := #[s, x], argTypes := #[t, t] })
    {base : Nat} {A B : Option Addr} {c d : Nat} {l r : List α} {n m : Nat} (hn : l.length = n) (hm : r.length = m) (h1 : a.eval s = .slice A n c) (h2 : a.eval x = .slice B m d) (h : Ow w base e A c l) (hr : Rd w B d r) (hbig : n + m ≤ 1000000) (hbase : base ≤ w.heap.size)
    (hK : ∀ A' c' w', Ow w' base e A' c' (l ++ r) → Below base w w' → w.grownBy w' (Value.slice A n c).ownBlock → K (a.put o.dst (.slice A' (n + m) c')) w') :
    if Region.wanted o (yielded ops a.tmps) = true then Oper.wp P o a w K Q else E := by
  subst hn; subst hm
  exact step_app_flat hT hg s x ho h1 h2 h hr hbig hbase hK
end
end Mm
end Go.Proofs.Ytnkgfkmdfplneaa
