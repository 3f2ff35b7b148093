/-
  Memory, for every layer: a slice of the call's own whose elements hold slices: append in a region that draws its order, of as many elements as memory holds.
-/
import Derived.Test.YtldiplnccgoeiaaMemOwn
namespace Go.Proofs.Ytldiplnccgoeiaa
open Go.RowKit
namespace Mm
/-- the types of a slice and of its elements, of k cells and b bytes -/
def SlB (P : Program) (t e : TypeId) (k b : Nat) : Prop := P.underlying t = some (.slice e) ∧ ∃ i z, P.info? e = some i ∧ i.zero = some z ∧ i.size = k ∧ z.cells.size = k ∧ i.bytes = b
theorem slB_of {P : Program} {t e : TypeId} {k b : Nat} {z : Value} (h : P.underlying t = some (.slice e)) (hi : (P.info? e).map (fun i => (i.zero, i.size, i.bytes)) = some (some z, k, b)) (hz : z.cells.size = k) : SlB P t e k b := by
  obtain ⟨i, hi, hh⟩ := Option.map_eq_some_iff.1 hi
  simp only [Prod.mk.injEq] at hh
  exact ⟨h, i, z, hi, hh.1, hh.2.1, hz, hh.2.2⟩
section
variable {α : Type} [Inhabited α] [Dat α]
/-- append to a slice of the call's own -/
theorem run_app_big {P : Program} {t e : TypeId} (ty : TypeId) {by_ : Nat} (hT : SlB P t e (Dat.k α) by_)
    {w : World} {S S' : Nat → Prop} {base : Nat} {A B : Option Addr} {c d : Nat} {l r : List α} (h : OwS w S base e A c l) (hr : RdS w S' B d r) (hin : ∀ cs, Rows w S' cs r → Rows w S cs r) (hS : ∀ g, A = some ⟨g, 0, none⟩ → ¬ S g ∨ Dat.k α = 0) (hbig : l.length + r.length ≤ maxLen) (hbytes : (l.length + r.length) * by_ ≤ 140737488355328) (hbase : base ≤ w.heap.size) :
    ∃ A' c' w', (Builtin.append_ #[t, t] ty #[.slice A l.length c, .slice B r.length d]).run P w = .ok (.slice A' (l.length + r.length) c') w' ∧ OwS w' S base e A' c' (l ++ r) ∧ w.grownBy w' (Value.slice A l.length c).ownBlock ∧
      ((Value.slice A' (l.length + r.length) c').ownBlock = (Value.slice A l.length c).ownBlock ∨ (Value.slice A' (l.length + r.length) c').ownBlock = some w.heap.size) := by
  obtain ⟨ht, i, z, hi, hz, hs, hzs, hby⟩ := hT
  have hpos := Dat.pos (α := α)
  rcases Nat.eq_zero_or_pos r.length with hr0 | hr0
  · have := List.eq_nil_of_length_eq_zero hr0
    subst this
    obtain ⟨cs, h1, h2⟩ := h
    rcases B with _ | a
    · have hd := hr.1 rfl
      subst hd
      refine ⟨A, c, w, ?_, ⟨cs, by simpa using h1, by simpa using h2⟩, gb_refl _ _, .inl rfl⟩
      exact run_append_owned_none (P := P) w base t ty e i _ ht hi _ l.length cs h1
    · obtain ⟨v', w', hrun, h3, h4, _, h5⟩ := run_append_own_at (P := P) w base t ty e i z (Dat.k α) i.bytes ht hi hz hs rfl hzs hpos _ l.length cs h1 a 0 d [] (by simp) (by simp) (by simp)
        (by simpa using hbig) (by rw [hby]; simpa using hbytes) hbase
      have hv : ∃ A' c', v' = .slice A' (l.length + 0) c' := by
        rcases h3.2 with ⟨h', h0⟩ | ⟨g, cap, cur, h', _⟩
        · exact ⟨none, 0, by rw [h', h0]⟩
        · exact ⟨_, _, h'⟩
      obtain ⟨A', c', rfl⟩ := hv
      refine ⟨A', c', w', hrun, ⟨cs, by simpa using h3, ?_⟩, h4, h5⟩
      rw [List.append_nil]
      refine h2.keep fun b hb hs => ⟨hs, h4.block b hb ?_⟩
      intro e
      rcases A with _ | a
      · cases e
      · rcases OwS.cases (β := α) ⟨cs, h1, h2⟩ with ⟨h', _⟩ | ⟨g, h', _⟩
        · cases h'
        · injection h' with h'
          subst h'
          injection e with e
          subst e
          rcases hS _ rfl with h | h
          · exact h hs
          · omega
  · rcases B with _ | ad
    · have := (nil_of_none hr).2
      subst this
      simp at hr0
    · have ha := plain_of hr hr0
      obtain ⟨cs, h1, h2⟩ := h
      rw [ha] at hr
      obtain ⟨ds, h6, h7⟩ := hr.rows
      obtain ⟨v', w', hrun, h3, h4, _, h5⟩ := run_append_own_at (P := P) w base t ty e i z (Dat.k α) i.bytes ht hi hz hs rfl hzs hpos _ l.length cs h1 ad r.length d ds h6.length
        (fun j u hu => by rw [ha, Go.WideShapes.add_plain]; exact h7 j u hu) h6.one
        hbig (by rw [hby]; exact hbytes) hbase
      have hv : ∃ A' c', v' = .slice A' (l.length + r.length) c' := by
        rcases h3.2 with ⟨h', h0⟩ | ⟨g, cap, cur, h', _⟩
        · exact ⟨none, 0, by rw [h', h0]⟩
        · exact ⟨_, _, h'⟩
      obtain ⟨A', c', rfl⟩ := hv
      refine ⟨A', c', w', hrun, ⟨cs ++ ds, by rw [List.length_append]; exact h3, ?_⟩, h4, h5⟩
      refine (h2.append (hin _ h6)).keep fun b hb hs => ⟨hs, h4.block b hb ?_⟩
      intro e
      rcases A with _ | a
      · cases e
      · rcases OwS.cases (β := α) ⟨cs, h1, h2⟩ with ⟨h', _⟩ | ⟨g, h', _⟩
        · cases h'
        · injection h' with h'
          subst h'
          injection e with e
          subst e
          rcases hS _ rfl with h | h
          · exact h hs
          · omega

theorem run_own_big {P : Program} {t e : TypeId} (ty : TypeId) {by_ : Nat} (hT : SlB P t e (Dat.k α) by_) {w : World} {base : Nat} {A B : Option Addr} {c d : Nat} {l r : List α} (h : OwN w base e A c l) (hr : RdS w (Else w A) B d r) (hbig : l.length + r.length ≤ maxLen) (hbytes : (l.length + r.length) * by_ ≤ 140737488355328) (hbase : base ≤ w.heap.size) :
    ∃ A' c' w', (Builtin.append_ #[t, t] ty #[.slice A l.length c, .slice B r.length d]).run P w = .ok (.slice A' (l.length + r.length) c') w' ∧ OwN w' base e A' c' (l ++ r) ∧ w.grownBy w' (Value.slice A l.length c).ownBlock ∧ (∀ g, A' = some ⟨g, 0, none⟩ → A = some ⟨g, 0, none⟩ ∨ g = w.heap.size) := by
  obtain ⟨A', c', w', h1, h2, h3, h4⟩ := run_app_big ty hT h hr (fun _ h => h) (fun g hA => .inl (fun hs => hs.2 hA)) hbig hbytes hbase
  have h5 : ∀ g, A' = some ⟨g, 0, none⟩ → A = some ⟨g, 0, none⟩ ∨ g = w.heap.size := fun g hg => by
    subst hg
    rcases h4 with h4 | h4
    · rcases OwS.cases h with ⟨rfl, _⟩ | ⟨g', rfl, _⟩
      · cases h4
      · injection h4 with h4
        simp only at h4
        exact .inl (by rw [h4])
    · injection h4 with h4
      exact .inr h4
  refine ⟨A', c', w', h1, h2.sub fun b hb => ⟨Nat.lt_of_lt_of_le hb.1 h3.size, fun e => ?_⟩, h3, h5⟩
  rcases h5 b e with h5 | h5
  · exact hb.2 h5
  · have := hb.1
    omega
/-- append in a region that draws its order, the lengths named -/
theorem step_own_big {P : Program} {t e : TypeId} {by_ : Nat} (hT : SlB P t e (Dat.k α) by_) {w : World} {ops : Array Oper} {o : Oper} {a : Act} {K : Act → World → Prop} {Q : Exit → Act → World → Prop} {E : Prop} (hg : o.guard = none) (s x : Operand) (ho : o.op = .call { callee := .builtin .append, args := #[s, x], argTypes := #[t, t] })
    {base : Nat} {A B : Option Addr} {c d : Nat} {l r : List α} {n m : Nat} (hn : l.length = n) (hm : r.length = m) (h1 : a.eval s = .slice A n c) (h2 : a.eval x = .slice B m d) (h : OwN w base e A c l) (hr : RdS w (Else w A) B d r) (hbig : n + m ≤ maxLen) (hbytes : (n + m) * by_ ≤ 140737488355328) (hbase : base ≤ w.heap.size)
    (hK : ∀ A' c' w', OwN w' base e A' c' (l ++ r) → w.grownBy w' (Value.slice A n c).ownBlock → (∀ g, A' = some ⟨g, 0, none⟩ → A = some ⟨g, 0, none⟩ ∨ g = w.heap.size) → K (a.put o.dst (.slice A' (n + m) c')) w') :
    if Region.wanted o (yielded ops a.tmps) = true then Oper.wp P o a w K Q else E := by
  subst hn; subst hm
  obtain ⟨A', c', w', hrun, k1, k2, k3⟩ := run_own_big o.type hT h hr hbig hbytes hbase
  rw [if_pos (by simp [Region.wanted, hg])]
  exact wp_app_run s x t ho _ _ _ _ h1 h2 hrun (hK A' c' w' k1 k2 k3)
/-- an empty literal, whose elements will hold slices -/
theorem own_lit0 {β : Type} [Inhabited β] [Dat β] (w : World) (e : TypeId) : OwN (w.alloc (.cells #[] e)) w.heap.size e (some ⟨w.heap.size, 0, none⟩) 0 ([] : List β) :=
  ow_lit (l := ([] : List β)) w _ w.heap.size e #[] (Nat.le_refl _) (by simp) rfl
theorem OwN.rebase {β : Type} [Inhabited β] [Dat β] {w : World} {base base' : Nat} {e : TypeId} {A : Option Addr} {c : Nat} {l : List β} (h : OwN w base e A c l) (hb : base' ≤ base) : OwN w base' e A c l := OwS.rebase h hb
theorem OwN.new {β : Type} [Inhabited β] [Dat β] {w : World} {base : Nat} {e : TypeId} {A : Option Addr} {c : Nat} {l : List β} (h : OwN w base e A c l) : ∀ g, A = some ⟨g, 0, none⟩ → base ≤ g ∧ g < w.heap.size := OwS.new h
/-- what was there ahead lies elsewhere -/
theorem rd_else {w0 w : World} {A1 A : Option Addr} {c : Nat} {l : List α} (h : Rd w0 A c l) (b : Below w0.heap.size w0 w) (hA : ∀ g, A1 = some ⟨g, 0, none⟩ → w0.heap.size ≤ g) : RdS w (Else w A1) A c l :=
  (h.old.below b).sub fun x hx hs => ⟨hx, fun e => by have := hA _ e; omega⟩
end
end Mm
end Go.Proofs.Ytldiplnccgoeiaa
