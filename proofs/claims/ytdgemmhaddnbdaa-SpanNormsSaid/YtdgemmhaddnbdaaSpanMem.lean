/-
  Layer 4 (span): spans in memory: a slice that reads as a list of spans; a slice of the call's own; append of spans.
-/
import Derived.Test.YtdgemmhaddnbdaaRows
import Derived.Test.YtdgemmhaddnbdaaSpanMath
import Derived.WalkKit
import Derived.WalkSpells
import Derived.Lib.Hide
import Derived.OwnWalk
import Derived.BigQuiet
import Derived.BigRegion
import Derived.Deep.QuietTactic
import Derived.Deep.LoopGhost
import Derived.StillTailTactics
import Derived.Laws.Unary
import Derived.Below
import Derived.Maps.AppendAt
import Derived.Laws.OwnMore
import Derived.WideShapes
import Derived.Tactics
namespace Go.Proofs.Ytdgemmhaddnbdaa
open Go.RowKit
namespace Hp

theorem ret_bool {a b : Bool} (h : a = b) : Ending.returned (.bool a) = .returned (.bool b) := by rw [h]
theorem ret_int {k : IntKind} {a b : Int} (h : a = b) : Ending.returned (.int k a) = .returned (.int k b) := by rw [h]

/-- the slice at A, of capacity c, reads as these items -/
def Rd (w : World) (A : Option Addr) (c : Nat) (l : List It) : Prop :=
  (A = none → c = 0) ∧ (0 < l.length → ∃ b off, A = some ⟨b, off, none⟩ ∧ ∀ j, j < l.length → w.cell? ⟨b, off + j * 2, none⟩ = some (.int .i64 (at_ l j).1) ∧ w.cell? ⟨b, off + j * 2 + 1, none⟩ = some (.int .i64 (at_ l j).2))

theorem lt_of_cell {w : World} {p : Addr} {v : Value} (h : w.cell? p = some v) : p.block < w.heap.size := by
  rcases Nat.lt_or_ge p.block w.heap.size with hlt | hge
  · exact hlt
  · unfold World.cell? at h; rw [Array.getElem?_eq_none hge] at h; cases h
section
variable {w w' : World} {A : Option Addr} {c : Nat} {l : List It}
theorem Rd.keep (h : Rd w A c l) (hk : ∀ p : Addr, p.block < w.heap.size → w'.cell? p = w.cell? p) : Rd w' A c l := ⟨h.1, fun h0 => by
  obtain ⟨b, off, e, hc⟩ := h.2 h0
  refine ⟨b, off, e, fun j hj => ?_⟩
  obtain ⟨c1, c2⟩ := hc j hj
  exact ⟨(hk _ (lt_of_cell c1)).trans c1, (hk _ (lt_of_cell c2)).trans c2⟩⟩
theorem Rd.below (h : Rd w A c l) (hb : Below w.heap.size w w') : Rd w' A c l := h.keep fun _ hp => hb.cell hp
theorem Rd.drew (h : Rd w A c l) : Rd w.drew A c l := h
theorem Rd.alloc (h : Rd w A c l) (o : Obj) : Rd (w.alloc o) A c l := h.below ((Below.refl _ _).alloc (Nat.le_refl _) o)
theorem Rd.nil (w : World) : Rd w none 0 [] := ⟨fun _ => rfl, fun h => by simp at h⟩
end

/-- the cells of items -/
def cells : List It → List Value
  | [] => []
  | p :: r => .int .i64 p.1 :: .int .i64 p.2 :: cells r
theorem cells_length (l : List It) : (cells l).length = l.length * 2 := by
  induction l with
  | nil => rfl
  | cons p r ih => simp [cells, ih]; omega
theorem cells_append (l r : List It) : cells (l ++ r) = cells l ++ cells r := by
  induction l with
  | nil => rfl
  | cons p t ih => simp [cells, ih]
theorem cells_one (l : List It) : ∀ u ∈ cells l, u.oneCell' = true := by
  induction l with
  | nil => simp [cells]
  | cons p r ih =>
    intro u hu
    simp only [cells, List.mem_cons] at hu
    rcases hu with rfl | rfl | hu
    · rfl
    · rfl
    · exact ih u hu
theorem cells_at (l : List It) (j : Nat) (hj : j < l.length) : (cells l)[j * 2]? = some (.int .i64 (at_ l j).1) ∧ (cells l)[j * 2 + 1]? = some (.int .i64 (at_ l j).2) := by
  induction l generalizing j with
  | nil => simp at hj
  | cons p r ih =>
    cases j with
    | zero => simp [cells, at_]
    | succ j =>
      have := ih j (by simpa using hj)
      simpa [cells, at_, Nat.add_mul, Nat.succ_mul] using this
theorem cells_take (l : List It) (k : Nat) : (cells l).take (k * 2) = cells (l.take k) := by
  induction l generalizing k with
  | nil => simp [cells]
  | cons p r ih =>
    cases k with
    | zero => simp [cells]
    | succ k => simp [cells, Nat.succ_mul, ih]
theorem cells_set (l : List It) (k : Nat) (x : It) : ((cells l).set (k * 2) (.int .i64 x.1)).set (k * 2 + 1) (.int .i64 x.2) = cells (l.set k x) := by
  induction l generalizing k with
  | nil => simp [cells]
  | cons p r ih =>
    cases k with
    | zero => simp [cells]
    | succ k => simp [cells, Nat.succ_mul, ih]

/-- a slice of the call's own, at block 'base' or behind it: these items -/
def Ow (w : World) (base : Nat) (e : TypeId) (A : Option Addr) (c : Nat) (l : List It) : Prop := w.ownsRow base e 2 (.slice A l.length c) l.length (cells l)

section
variable {w w' : World} {base : Nat} {e : TypeId} {A : Option Addr} {c g : Nat} {l : List It}
theorem Ow.cases (h : Ow w base e A c l) : (A = none ∧ c = 0 ∧ l = []) ∨ ∃ g, A = some ⟨g, 0, none⟩ ∧ base ≤ g ∧ g < w.heap.size ∧ l.length ≤ c := by
  rcases h.2 with ⟨h', h0⟩ | ⟨g, cap, cur, h', hb, hg, hn, _⟩
  · left
    injection h' with h1 h2 h3
    exact ⟨h1, h3, List.eq_nil_of_length_eq_zero h0⟩
  · right
    injection h' with h1 h2 h3
    subst h3
    refine ⟨g, h1, hb, ?_, hn⟩
    rcases Nat.lt_or_ge g w.heap.size with hlt | hge
    · exact hlt
    · rw [Array.getElem?_eq_none hge] at hg; cases hg
theorem Ow.form (h : Ow w base e A c l) (h0 : 0 < l.length) : ∃ g, A = some ⟨g, 0, none⟩ ∧ base ≤ g ∧ g < w.heap.size ∧ l.length ≤ c := by
  rcases h.cases with ⟨_, _, rfl⟩ | h
  · simp at h0
  · exact h
theorem Ow.cell (h : Ow w base e (some ⟨g, 0, none⟩) c l) (j : Nat) (hj : j < l.length) : w.cell? ⟨g, j * 2, none⟩ = some (.int .i64 (at_ l j).1) ∧ w.cell? ⟨g, j * 2 + 1, none⟩ = some (.int .i64 (at_ l j).2) := by
  have hc := cells_at l j hj
  exact ⟨(World.ownsRow.cellAt h _ (by omega)).trans hc.1, (World.ownsRow.cellAt h _ (by omega)).trans hc.2⟩
theorem Ow.rd (h : Ow w base e A c l) : Rd w A c l := by
  refine ⟨fun hA => ?_, fun h0 => ?_⟩
  · rcases h.cases with ⟨_, h1, _⟩ | ⟨g, h1, _⟩
    · exact h1
    · rw [hA] at h1; cases h1
  · obtain ⟨g, rfl, _⟩ := h.form h0
    exact ⟨g, 0, rfl, fun j hj => by simpa using h.cell j hj⟩
theorem Ow.keep (h : Ow w base e A c l) (hk : ∀ g, A = some ⟨g, 0, none⟩ → w'.heap[g]? = w.heap[g]?) : Ow w' base e A c l := by
  refine ⟨h.1, ?_⟩
  rcases h.2 with h' | ⟨g, cap, cur, h', hb, hg, r⟩
  · exact .inl h'
  · refine .inr ⟨g, cap, cur, h', hb, ?_, r⟩
    injection h' with h1 h2 h3
    rw [hk g h1]; exact hg
theorem Ow.below {B : Nat} (h : Ow w base e A c l) (hb : Below B w w') (hB : w.heap.size ≤ B) : Ow w' base e A c l := h.keep fun g hA => by
  rcases h.cases with ⟨h1, _⟩ | ⟨g', h1, _, hlt, _⟩
  · rw [hA] at h1; cases h1
  · have : g = g' := by rw [hA] at h1; injection h1 with h1; injection h1
    subst this
    exact hb.block g (by omega)
theorem Ow.rebase (h : Ow w base e A c l) {base' : Nat} (hb : base' ≤ base) : Ow w base' e A c l := by
  refine ⟨h.1, ?_⟩
  rcases h.2 with h' | ⟨g, cap, cur, h', hb', r⟩
  · exact .inl h'
  · exact .inr ⟨g, cap, cur, h', by omega, r⟩
/-- shorter -/
theorem Ow.cut (h : Ow w base e (some ⟨g, 0, none⟩) c l) (k : Nat) (hk : k ≤ l.length) : Ow w base e (some ⟨g, 0, none⟩) c (l.take k) := by
  have hl : (l.take k).length = k := by simp; omega
  refine ⟨cells_length _, ?_⟩
  rcases h.2 with ⟨h', _⟩ | ⟨g', cap, cur, h', hb, hg, hn, hm, hs, ht⟩
  · cases h'
  · refine .inr ⟨g', cap, cur, ?_, hb, hg, by omega, hm, hs, ?_⟩
    · injection h' with h1 h2 h3
      rw [h1, h3]
    · rw [hl, ← cells_take, ← ht, List.take_take]
      congr 1
      omega
/-- an item written -/
theorem Ow.put (h : Ow w base e (some ⟨g, 0, none⟩) c l) (k : Nat) (x : It) :
    Ow ((w.setCell ⟨g, k * 2, none⟩ (.int .i64 x.1)).setCell ⟨g, k * 2 + 1, none⟩ (.int .i64 x.2)) base e (some ⟨g, 0, none⟩) c (l.set k x) ∧
      w.grownBy ((w.setCell ⟨g, k * 2, none⟩ (.int .i64 x.1)).setCell ⟨g, k * 2 + 1, none⟩ (.int .i64 x.2)) (some g) := by
  obtain ⟨h1, g1⟩ := World.ownsRow.stored h (k * 2) (.int .i64 x.1)
  obtain ⟨h2, g2⟩ := World.ownsRow.stored h1 (k * 2 + 1) (.int .i64 x.2)
  refine ⟨?_, ?_⟩
  · unfold Ow
    rw [← cells_set, List.length_set]
    exact h2
  · exact ⟨g2.os.trans g1.os, g2.tape.trans g1.tape, g2.output.trans g1.output, Nat.le_trans g1.size g2.size, fun k hk hne => (g2.block k (Nat.lt_of_lt_of_le hk g1.size) hne).trans (g1.block k hk hne)⟩
end

/-- only one block, and what is new, has turned -/
theorem gb_refl (w : World) (row : Option Nat) : w.grownBy w row := ⟨rfl, rfl, rfl, Nat.le_refl _, fun _ _ _ => rfl⟩
theorem gb_trans {a b c : World} {row : Option Nat} (h : a.grownBy b row) (k : b.grownBy c row) : a.grownBy c row :=
  ⟨k.os.trans h.os, k.tape.trans h.tape, k.output.trans h.output, Nat.le_trans h.size k.size, fun i hi hne => (k.block i (Nat.lt_of_lt_of_le hi h.size) hne).trans (h.block i hi hne)⟩
theorem gb_below {a b : World} {B : Nat} (h : Below B a b) (hB : a.heap.size ≤ B) (row : Option Nat) : a.grownBy b row :=
  ⟨h.os, h.tape, h.output, h.size, fun i hi _ => h.block i (by omega)⟩
theorem gb_drew {a b : World} {row : Option Nat} (h : a.grownBy b row) : a.grownBy b.drew row := ⟨h.os, h.tape, h.output, h.size, h.block⟩
theorem gb_cell {a b : World} {row : Option Nat} (h : a.grownBy b row) {p : Addr} {v : Value} (hc : a.cell? p = some v) (hne : some p.block ≠ row) : b.cell? p = some v :=
  (World.cell?_of_block (w := a) (h.block p.block (lt_of_cell hc) hne)).trans hc

theorem gb_alloc {a b : World} {row : Option Nat} (h : a.grownBy b row) (o : Obj) : a.grownBy (b.alloc o) row := gb_trans h (World.grownBy_alloc _ _ _)
theorem gb_setCell {a b : World} {row : Option Nat} (h : a.grownBy b row) {p : Addr} (hp : some p.block = row ∨ a.heap.size ≤ p.block) (u : Value) : a.grownBy (b.setCell p u) row :=
  ⟨h.os, h.tape, h.output, by simpa [World.setCell] using h.size, fun i hi hne => (Below.heap_setCell b p u i (by
    rintro rfl
    rcases hp with hp | hp
    · exact hne hp
    · omega)).trans (h.block i hi hne)⟩
theorem Ow.far {w : World} {base : Nat} {e : TypeId} {c g : Nat} {l : List It} (h : Ow w base e (some ⟨g, 0, none⟩) c l) {p : Addr} (hp : p.block ≠ g) (u : Value) : Ow (w.setCell p u) base e (some ⟨g, 0, none⟩) c l :=
  h.keep fun g' hg => by
    injection hg with hg
    injection hg with hg
    subst hg
    exact Below.heap_setCell w p u g (Ne.symm hp)
theorem Ow.farAny {w : World} {base : Nat} {e : TypeId} {c : Nat} {A : Option Addr} {l : List It} (h : Ow w base e A c l) {p : Addr} (hp : ∀ g, A = some ⟨g, 0, none⟩ → p.block ≠ g) (u : Value) : Ow (w.setCell p u) base e A c l :=
  h.keep fun g' hg => Below.heap_setCell w p u g' (Ne.symm (hp g' hg))
theorem Ow.new {w : World} {base : Nat} {e : TypeId} {c : Nat} {A : Option Addr} {l : List It} (h : Ow w base e A c l) : ∀ g, A = some ⟨g, 0, none⟩ → g < w.heap.size := fun g hA => by
  rcases h.cases with ⟨h1, _⟩ | ⟨g', h1, _, hlt, _⟩
  · rw [hA] at h1; cases h1
  · rw [hA] at h1; injection h1 with h1; injection h1 with h1; omega
theorem Ow.alloc {w : World} {base : Nat} {e : TypeId} {c : Nat} {A : Option Addr} {l : List It} (h : Ow w base e A c l) (o : Obj) : Ow (w.alloc o) base e A c l := h.below ((Below.refl _ _).alloc (Nat.le_refl _) o) (Nat.le_refl _)
theorem Ow.gb {w w' : World} {base : Nat} {e : TypeId} {c : Nat} {A : Option Addr} {l : List It} {row : Option Nat} (h : Ow w base e A c l) (hg : w.grownBy w' row) (hne : ∀ g, A = some ⟨g, 0, none⟩ → some g ≠ row) : Ow w' base e A c l :=
  h.keep fun g hA => by
    rcases h.cases with ⟨h1, _⟩ | ⟨g', h1, _, hlt, _⟩
    · rw [hA] at h1; cases h1
    · have : g = g' := by rw [hA] at h1; injection h1 with h1; injection h1
      subst this
      exact hg.block g hlt (hne g hA)
theorem Ow.row {w : World} {base : Nat} {e : TypeId} {c : Nat} {A : Option Addr} {l : List It} (h : Ow w base e A c l) : ∀ k, (Value.slice A l.length c).ownBlock = some k → base ≤ k := fun k hk => (World.ownsRow.lt h k hk).1
theorem below_of_gb {W a b : World} {B : Nat} {row : Option Nat} (h : Below B W a) (hg : a.grownBy b row) (hB : B ≤ a.heap.size) (hr : ∀ k, row = some k → B ≤ k) : Below B W b := h.grown hg hB hr

/-- append of items to a slice of the call's own -/
theorem run_app {P : Program} (t ty e : TypeId) (i : TypeInfo) (z : Value) (ht : P.underlying t = some (.slice e)) (hi : P.info? e = some i) (hz : i.zero = some z) (hs : i.size = 2) (hb : i.bytes = 16) (hzs : z.cells.size = 2)
    {w : World} {base : Nat} {A B : Option Addr} {c d : Nat} {l r : List It} (h : Ow w base e A c l) (hr : Rd w B d r) (hbig : l.length + r.length ≤ 1000000) (hbase : base ≤ w.heap.size) :
    ∃ A' c' w', (Builtin.append_ #[t, t] ty #[.slice A l.length c, .slice B r.length d]).run P w = .ok (.slice A' (l.length + r.length) c') w' ∧ Ow w' base e A' c' (l ++ r) ∧ w.grownBy w' (Value.slice A l.length c).ownBlock ∧
      ((Value.slice A' (l.length + r.length) c').ownBlock = (Value.slice A l.length c).ownBlock ∨ (Value.slice A' (l.length + r.length) c').ownBlock = some w.heap.size) := by
  rcases B with _ | ad
  · have hd := hr.1 rfl
    subst hd
    have hr0 : r = [] := by
      rcases r with _ | ⟨p, t⟩
      · rfl
      · obtain ⟨b, off, h, _⟩ := hr.2 (by simp)
        cases h
    subst hr0
    refine ⟨A, c, w, ?_, by simpa using h, ⟨rfl, rfl, rfl, Nat.le_refl _, fun _ _ _ => rfl⟩, .inl rfl⟩
    exact run_append_owned_none (P := P) w base t ty e i 2 ht hi _ l.length (cells l) h
  · have hn : ∀ j u, (cells r)[j]? = some u → w.cell? (ad.add j) = some u := by
      intro j u hu
      have hj : j < (cells r).length := by
        rcases Nat.lt_or_ge j (cells r).length with h | h
        · exact h
        · rw [List.getElem?_eq_none h] at hu; cases hu
      rw [cells_length] at hj
      obtain ⟨b, off, hA, hc⟩ := hr.2 (by omega)
      injection hA with hA
      subst hA
      rw [Go.WideShapes.add_plain]
      obtain ⟨c1, c2⟩ := hc (j / 2) (by omega)
      obtain ⟨k1, k2⟩ := cells_at r (j / 2) (by omega)
      rcases Nat.mod_two_eq_zero_or_one j with hm | hm
      · have e1 : j / 2 * 2 = j := by omega
        rw [e1] at c1 k1
        rw [c1, ← k1, hu]
      · have e1 : j / 2 * 2 + 1 = j := by omega
        rw [e1] at k2
        rw [show off + j / 2 * 2 + 1 = off + j from by omega] at c2
        rw [c2, ← k2, hu]
    obtain ⟨v', w', hrun, h2, h3, _, h5⟩ := run_append_own_at (P := P) w base t ty e i z 2 16 ht hi hz hs hb hzs (by omega) _ l.length (cells l) h ad r.length d (cells r) (cells_length r) hn (cells_one r)
      (by unfold maxLen; omega) (by omega) hbase
    have hv : ∃ A' c', v' = .slice A' (l.length + r.length) c' := by
      rcases h2.2 with ⟨h', h0⟩ | ⟨g, cap, cur, h', _⟩
      · exact ⟨none, 0, by rw [h', h0]⟩
      · exact ⟨_, _, h'⟩
    obtain ⟨A', c', rfl⟩ := hv
    refine ⟨A', c', w', hrun, ?_, h3, h5⟩
    unfold Ow
    rw [cells_append, List.length_append]
    exact h2

/-- an append whose run is known: as one operation; in a row of operations; as a step of a region that draws -/
theorem wp_app_run {P : Program} {w : World} {o : Oper} {a : Act} {K : Act → World → Prop} {Q : Exit → Act → World → Prop} (s x : Operand) (t : TypeId) (ho : o.op = .call { callee := .builtin .append, args := #[s, x], argTypes := #[t, t] })
    (v1 v2 v' : Value) (w' : World) (h1 : a.eval s = v1) (h2 : a.eval x = v2) (hrun : (Builtin.append_ #[t, t] o.type #[v1, v2]).run P w = .ok v' w') (h : K (a.put o.dst v') w') : o.wp P a w K Q := by
  unfold Oper.wp execOp
  simp only [ho, resolve, invoke, builtin, Sem.run_bind, Sem.run_pure, Result.andThen_ok, List.map_toArray, List.map_cons, List.map_nil, h1, h2, hrun]
  exact h
theorem wpList_app_run {P : Program} {w : World} {ops : Array Oper} {rest : List Oper} {o : Oper} {a : Act} {Q : Exit → Act → World → Prop} (hg : o.guard = none) (s x : Operand) (t : TypeId) (ho : o.op = .call { callee := .builtin .append, args := #[s, x], argTypes := #[t, t] })
    (v1 v2 v' : Value) (w' : World) (h1 : a.eval s = v1) (h2 : a.eval x = v2) (hrun : (Builtin.append_ #[t, t] o.type #[v1, v2]).run P w = .ok v' w') (h : wpList P ops Q rest (a.put o.dst v') w') : wpList P ops Q (o :: rest) a w :=
  wpList_plain hg fun _ hK => wp_app_run s x t ho v1 v2 v' w' h1 h2 hrun (hK _ _ h)
theorem step_app_run {P : Program} {w : World} {ops : Array Oper} {o : Oper} {a : Act} {K : Act → World → Prop} {Q : Exit → Act → World → Prop} {E : Prop} (hg : o.guard = none) (s x : Operand) (t : TypeId) (ho : o.op = .call { callee := .builtin .append, args := #[s, x], argTypes := #[t, t] })
    (v1 v2 v' : Value) (w' : World) (h1 : a.eval s = v1) (h2 : a.eval x = v2) (hrun : (Builtin.append_ #[t, t] o.type #[v1, v2]).run P w = .ok v' w') (h : K (a.put o.dst v') w') : if Region.wanted o (yielded ops a.tmps) = true then Oper.wp P o a w K Q else E := by
  rw [if_pos (by simp [Region.wanted, hg])]
  exact wp_app_run s x t ho v1 v2 v' w' h1 h2 hrun h

theorem cell_new {w : World} {p : Addr} {v : Value} (h : w.cell? p = some v) (o : Obj) : (w.alloc o).cell? p = some v :=
  (((Below.refl w.heap.size w).alloc (Nat.le_refl _) o).cell (lt_of_cell h)).trans h
theorem cell_below {W w1 : World} {p : Addr} {v : Value} (b : Below W.heap.size W w1) (h : W.cell? p = some v) : w1.cell? p = some v := (b.cell (lt_of_cell h)).trans h
theorem frozen_below {W w1 : World} {p : Addr} {v : Value} (b : Below W.heap.size W w1) (h : W.cell? p = some v) (f : W.frozen? p = false) : w1.frozen? p = false := (b.frozen (lt_of_cell h)).trans f
theorem below_step {a W w1 : World} (h : Below a.heap.size a W) (b : Below W.heap.size W w1) : Below a.heap.size a w1 := h.trans (b.mono h.size)
theorem below_one (w : World) (o : Obj) : Below w.heap.size w (w.alloc o) := (Below.refl _ _).alloc (Nat.le_refl _) _
theorem below_two (w : World) (o o' : Obj) : Below w.heap.size w ((w.alloc o).alloc o') := (below_one w o).alloc (by simp) _
theorem below_three (w : World) (o o' o'' : Obj) : Below w.heap.size w (((w.alloc o).alloc o').alloc o'') := (below_two w o o').alloc (by simp; omega) _

theorem Rd.frontAt {w : World} {b off d : Nat} {s : List It} (h : Rd w (some ⟨b, off, none⟩) d s) (k : Nat) (c : Nat) : Rd w (some ⟨b, off, none⟩) c (s.take k) := by
  refine ⟨fun e => (by cases e), fun h0 => ?_⟩
  have h0' : 0 < s.length := by simp at h0; omega
  obtain ⟨b', off', e, hc⟩ := h.2 h0'
  refine ⟨b', off', e, fun j hj => ?_⟩
  have hj' : j < k ∧ j < s.length := by simp at hj; omega
  have e1 : at_ (s.take k) j = at_ s j := by simp [at_, List.getD_eq_getElem?_getD, hj'.1]
  rw [e1]
  exact hc j hj'.2
theorem Rd.backAt {w : World} {b off d : Nat} {s : List It} (h : Rd w (some ⟨b, off, none⟩) d s) (k c : Nat) : Rd w (some ⟨b, off + k * 2, none⟩) c (s.drop k) := by
  refine ⟨fun e => (by cases e), fun h0 => ?_⟩
  have h0' : k < s.length := by simp at h0; omega
  obtain ⟨b', off', e, hc⟩ := h.2 (by omega)
  injection e with e
  injection e with e1 e2
  subst e1
  subst e2
  refine ⟨b, off + k * 2, rfl, fun j hj => ?_⟩
  have hj' : k + j < s.length := by simp at hj; omega
  have e1 : at_ (s.drop k) j = at_ s (k + j) := by simp [at_, List.getD_eq_getElem?_getD, List.getElem?_drop]
  rw [e1, show off + k * 2 + j * 2 = off + (k + j) * 2 from by omega]
  exact hc (k + j) hj'
theorem rd_one {w : World} {b : Nat} {x : It} {c : Nat} (h1 : w.cell? ⟨b, 0, none⟩ = some (.int .i64 x.1)) (h2 : w.cell? ⟨b, 1, none⟩ = some (.int .i64 x.2)) : Rd w (some ⟨b, 0, none⟩) c [x] := by
  refine ⟨fun h => (by cases h), fun _ => ⟨b, 0, rfl, fun j hj => ?_⟩⟩
  have : j = 0 := by simpa using hj
  subst this
  exact ⟨by simpa [at_] using h1, by simpa [at_] using h2⟩
theorem rd_empty {w : World} {A : Option Addr} {c : Nat} (h : A = none → c = 0) : Rd w A c [] := ⟨h, fun h => by simp at h⟩
theorem Ow.le {w : World} {base : Nat} {e : TypeId} {c : Nat} {A : Option Addr} {l : List It} (h : Ow w base e A c l) : l.length ≤ c := by
  rcases h.cases with ⟨_, rfl, rfl⟩ | ⟨_, _, _, _, h⟩
  · simp
  · exact h

theorem infoIt : (Try.prog.info? 29).map (fun i => (i.zero, i.size, i.bytes)) = some (some (.agg #[.int .i64 0, .int .i64 0]), 2, 16) := by kernel_rfl

/-- append of items, in this program -/
theorem app_it {w : World} {base : Nat} {A B : Option Addr} {c d : Nat} {l r : List It} (ty : TypeId) (h : Ow w base 29 A c l) (hr : Rd w B d r) (hbig : l.length + r.length ≤ 1000000) (hbase : base ≤ w.heap.size) :
    ∃ A' c' w', (Builtin.append_ #[22, 22] ty #[.slice A l.length c, .slice B r.length d]).run Try.prog w = .ok (.slice A' (l.length + r.length) c') w' ∧ Ow w' base 29 A' c' (l ++ r) ∧ w.grownBy w' (Value.slice A l.length c).ownBlock ∧
      ((Value.slice A' (l.length + r.length) c').ownBlock = (Value.slice A l.length c).ownBlock ∨ (Value.slice A' (l.length + r.length) c').ownBlock = some w.heap.size) := by
  have h0 := infoIt
  obtain ⟨i, hi, hh⟩ := Option.map_eq_some_iff.1 h0
  simp only [Prod.mk.injEq] at hh
  exact run_app 22 ty 29 i _ Try.underlying22 hi hh.1 hh.2.1 hh.2.2 rfl h hr hbig hbase

theorem step_app_it {w : World} {ops : Array Oper} {o : Oper} {a : Act} {K : Act → World → Prop} {Q : Exit → Act → World → Prop} {E : Prop} (hg : o.guard = none) (s x : Operand) (ho : o.op = .call { callee := .builtin .append, args := #[s, x], argTypes := #[22, 22] })
    {base : Nat} {A B : Option Addr} {c d : Nat} {l r : List It} (h1 : a.eval s = .slice A l.length c) (h2 : a.eval x = .slice B r.length d) (h : Ow w base 29 A c l) (hr : Rd w B d r) (hbig : l.length + r.length ≤ 1000000) (hbase : base ≤ w.heap.size)
    (hK : ∀ A' c' w', Ow w' base 29 A' c' (l ++ r) → w.grownBy w' (Value.slice A l.length c).ownBlock → ((Value.slice A' (l.length + r.length) c').ownBlock = (Value.slice A l.length c).ownBlock ∨ (Value.slice A' (l.length + r.length) c').ownBlock = some w.heap.size) → K (a.put o.dst (.slice A' (l.length + r.length) c')) w') :
    if Region.wanted o (yielded ops a.tmps) = true then Oper.wp Try.prog o a w K Q else E := by
  obtain ⟨A', c', w', hrun, k1, k2, k3⟩ := app_it o.type h hr hbig hbase
  exact step_app_run hg s x _ ho _ _ _ _ h1 h2 hrun (hK A' c' w' k1 k2 k3)
theorem list_app_it {w : World} {ops : Array Oper} {rest : List Oper} {o : Oper} {a : Act} {Q : Exit → Act → World → Prop} (hg : o.guard = none) (s x : Operand) (ho : o.op = .call { callee := .builtin .append, args := #[s, x], argTypes := #[22, 22] })
    {base : Nat} {A B : Option Addr} {c d : Nat} {l r : List It} (h1 : a.eval s = .slice A l.length c) (h2 : a.eval x = .slice B r.length d) (h : Ow w base 29 A c l) (hr : Rd w B d r) (hbig : l.length + r.length ≤ 1000000) (hbase : base ≤ w.heap.size)
    (hK : ∀ A' c' w', Ow w' base 29 A' c' (l ++ r) → w.grownBy w' (Value.slice A l.length c).ownBlock → ((Value.slice A' (l.length + r.length) c').ownBlock = (Value.slice A l.length c).ownBlock ∨ (Value.slice A' (l.length + r.length) c').ownBlock = some w.heap.size) → wpList Try.prog ops Q rest (a.put o.dst (.slice A' (l.length + r.length) c')) w') :
    wpList Try.prog ops Q (o :: rest) a w := by
  obtain ⟨A', c', w', hrun, k1, k2, k3⟩ := app_it o.type h hr hbig hbase
  exact wpList_app_run hg s x _ ho _ _ _ _ h1 h2 hrun (hK A' c' w' k1 k2 k3)


end Hp
end Go.Proofs.Ytdgemmhaddnbdaa
