/-
  Layer 4 (span): ints in memory: a slice that reads as a list of ints; a slice of the call's own; append and make of ints.
-/
import Derived.Test.YtdgemmhaddnbdaaRows
import Derived.Below
import Derived.Maps.AppendAt
import Derived.Laws.OwnMore
import Derived.WideShapes
import Derived.Tactics
import Derived.OwnWalk
import Derived.Lib.Hide
import Derived.WalkKit
import Derived.WalkSpells
import Derived.BigQuiet
import Derived.Deep.QuietTactic
import Derived.StillTailTactics
import Derived.Laws.Unary
namespace Go.Proofs.Ytdgemmhaddnbdaa
open Go.RowKit
namespace Rn

theorem ret_bool {a b : Bool} (h : a = b) : Ending.returned (.bool a) = .returned (.bool b) := by rw [h]
theorem ret_int {k : IntKind} {a b : Int} (h : a = b) : Ending.returned (.int k a) = .returned (.int k b) := by rw [h]

/-- item number j -/
def at_ (l : List Int) (j : Nat) : Int := l.getD j 0

/-- the slice at A, of capacity c, reads as these ints -/
def Rd (w : World) (A : Option Addr) (c : Nat) (l : List Int) : Prop :=
  (A = none → c = 0) ∧ (0 < l.length → ∃ b off, A = some ⟨b, off, none⟩ ∧ ∀ j, j < l.length → w.cell? ⟨b, off + j, none⟩ = some (.int .i64 (at_ l j)))

theorem lt_of_cell {w : World} {p : Addr} {v : Value} (h : w.cell? p = some v) : p.block < w.heap.size := by
  rcases Nat.lt_or_ge p.block w.heap.size with hlt | hge
  · exact hlt
  · unfold World.cell? at h; rw [Array.getElem?_eq_none hge] at h; cases h
section
variable {w w' : World} {A : Option Addr} {c : Nat} {l : List Int}
theorem Rd.keep (h : Rd w A c l) (hk : ∀ p : Addr, p.block < w.heap.size → w'.cell? p = w.cell? p) : Rd w' A c l := ⟨h.1, fun h0 => by
  obtain ⟨b, off, e, hc⟩ := h.2 h0
  exact ⟨b, off, e, fun j hj => (hk _ (lt_of_cell (hc j hj))).trans (hc j hj)⟩⟩
theorem Rd.below (h : Rd w A c l) (hb : Below w.heap.size w w') : Rd w' A c l := h.keep fun _ hp => hb.cell hp
theorem Rd.drew (h : Rd w A c l) : Rd w.drew A c l := h
theorem Rd.alloc (h : Rd w A c l) (o : Obj) : Rd (w.alloc o) A c l := h.below ((Below.refl _ _).alloc (Nat.le_refl _) o)
theorem Rd.nil (w : World) : Rd w none 0 [] := ⟨fun _ => rfl, fun h => by simp at h⟩
theorem Rd.none_ (h : A = none → c = 0) : Rd w A c [] := ⟨h, fun h => by simp at h⟩
/-- a cell written in a block where it does not lie -/
theorem Rd.far (h : Rd w A c l) {p : Addr} (hp : ∀ b off, A = some ⟨b, off, none⟩ → p.block ≠ b) (u : Value) : Rd (w.setCell p u) A c l := ⟨h.1, fun h0 => by
  obtain ⟨b, off, e, hc⟩ := h.2 h0
  exact ⟨b, off, e, fun j hj => (World.cell?_of_block (w := w) (Below.heap_setCell w p u b (Ne.symm (hp b off e)))).trans (hc j hj)⟩⟩
end
theorem Rd.frontAt {w : World} {b off d : Nat} {s : List Int} (h : Rd w (some ⟨b, off, none⟩) d s) (k : Nat) (c : Nat) : Rd w (some ⟨b, off, none⟩) c (s.take k) := by
  refine ⟨fun e => (by cases e), fun h0 => ?_⟩
  have h0' : 0 < s.length := by simp at h0; omega
  obtain ⟨b', off', e, hc⟩ := h.2 h0'
  refine ⟨b', off', e, fun j hj => ?_⟩
  have hj' : j < k ∧ j < s.length := by simp at hj; omega
  have e1 : at_ (s.take k) j = at_ s j := by simp [at_, List.getD_eq_getElem?_getD, hj'.1]
  rw [e1]
  exact hc j hj'.2
theorem Rd.backAt {w : World} {b off d : Nat} {s : List Int} (h : Rd w (some ⟨b, off, none⟩) d s) (k c : Nat) : Rd w (some ⟨b, off + k, none⟩) c (s.drop k) := by
  refine ⟨fun e => (by cases e), fun h0 => ?_⟩
  have h0' : k < s.length := by simp at h0; omega
  obtain ⟨b', off', e, hc⟩ := h.2 (by omega)
  injection e with e
  injection e with e1 e2
  subst e1
  subst e2
  refine ⟨b, off + k, rfl, fun j hj => ?_⟩
  have hj' : k + j < s.length := by simp at hj; omega
  have e1 : at_ (s.drop k) j = at_ s (k + j) := by simp [at_, List.getD_eq_getElem?_getD, List.getElem?_drop]
  rw [e1, Nat.add_assoc]
  exact hc (k + j) hj'
theorem rd_one {w : World} {b : Nat} {x : Int} {c : Nat} (h1 : w.cell? ⟨b, 0, none⟩ = some (.int .i64 x)) : Rd w (some ⟨b, 0, none⟩) c [x] := by
  refine ⟨fun h => (by cases h), fun _ => ⟨b, 0, rfl, fun j hj => ?_⟩⟩
  have : j = 0 := by simpa using hj
  subst this
  simpa [at_] using h1

/-- the cells of ints -/
def cells (l : List Int) : List Value := l.map (fun x => .int .i64 x)
theorem cells_length (l : List Int) : (cells l).length = l.length := by simp [cells]
theorem cells_one (l : List Int) : ∀ u ∈ cells l, u.oneCell' = true := by
  intro u hu
  obtain ⟨_, _, rfl⟩ := List.mem_map.1 hu
  rfl
theorem cells_at (l : List Int) (j : Nat) (hj : j < l.length) : (cells l)[j]? = some (.int .i64 (at_ l j)) := by
  simp [cells, at_, List.getD_eq_getElem?_getD, hj]

/-- a slice of the call's own, at block 'base' or behind it: these ints -/
def Ow (w : World) (base : Nat) (A : Option Addr) (c : Nat) (l : List Int) : Prop := w.ownsRow base 3 1 (.slice A l.length c) l.length (cells l)

section
variable {w w' : World} {base : Nat} {A : Option Addr} {c g : Nat} {l : List Int}
theorem Ow.cases (h : Ow w base A c l) : (A = none ∧ c = 0 ∧ l = []) ∨ ∃ g, A = some ⟨g, 0, none⟩ ∧ base ≤ g ∧ g < w.heap.size ∧ l.length ≤ c := by
  rcases h.2 with ⟨h', h0⟩ | ⟨g, cap, cur, h', hb, hg, hn, _⟩
  · left
    injection h' with h1 h2 h3
    exact ⟨h1, h3, List.eq_nil_of_length_eq_zero h0⟩
  · right
    injection h' with h1 h2 h3
    subst h3
    refine ⟨g, h1, hb, ?_, hn⟩
    rcases Nat.lt_or_ge g w.heap.size with hlt | hge
    · exact hlt
    · rw [Array.getElem?_eq_none hge] at hg; cases hg
theorem Ow.le (h : Ow w base A c l) : l.length ≤ c := by
  rcases h.cases with ⟨_, rfl, rfl⟩ | ⟨_, _, _, _, h⟩
  · simp
  · exact h
theorem Ow.form (h : Ow w base A c l) (h0 : 0 < l.length) : ∃ g, A = some ⟨g, 0, none⟩ ∧ base ≤ g ∧ g < w.heap.size ∧ l.length ≤ c := by
  rcases h.cases with ⟨_, _, rfl⟩ | h
  · simp at h0
  · exact h
theorem Ow.cell (h : Ow w base (some ⟨g, 0, none⟩) c l) (j : Nat) (hj : j < l.length) : w.cell? ⟨g, j, none⟩ = some (.int .i64 (at_ l j)) :=
  (World.ownsRow.cellAt h _ (by omega)).trans (cells_at l j hj)
theorem Ow.rd (h : Ow w base A c l) : Rd w A c l := by
  refine ⟨fun hA => ?_, fun h0 => ?_⟩
  · rcases h.cases with ⟨_, h1, _⟩ | ⟨g, h1, _⟩
    · exact h1
    · rw [hA] at h1; cases h1
  · obtain ⟨g, rfl, _⟩ := h.form h0
    exact ⟨g, 0, rfl, fun j hj => by simpa using h.cell j hj⟩
theorem Ow.keep (h : Ow w base A c l) (hk : ∀ g, A = some ⟨g, 0, none⟩ → w'.heap[g]? = w.heap[g]?) : Ow w' base A c l := by
  refine ⟨h.1, ?_⟩
  rcases h.2 with h' | ⟨g, cap, cur, h', hb, hg, r⟩
  · exact .inl h'
  · refine .inr ⟨g, cap, cur, h', hb, ?_, r⟩
    injection h' with h1 h2 h3
    rw [hk g h1]; exact hg
theorem Ow.new (h : Ow w base A c l) : ∀ g, A = some ⟨g, 0, none⟩ → g < w.heap.size := fun g hA => by
  rcases h.cases with ⟨h1, _⟩ | ⟨g', h1, _, hlt, _⟩
  · rw [hA] at h1; cases h1
  · rw [hA] at h1; injection h1 with h1; injection h1 with h1; omega
theorem Ow.below {B : Nat} (h : Ow w base A c l) (hb : Below B w w') (hB : w.heap.size ≤ B) : Ow w' base A c l := h.keep fun g hA => hb.block g (Nat.lt_of_lt_of_le (h.new g hA) hB)
theorem Ow.alloc (h : Ow w base A c l) (o : Obj) : Ow (w.alloc o) base A c l := h.below ((Below.refl _ _).alloc (Nat.le_refl _) o) (Nat.le_refl _)
theorem Ow.rebase (h : Ow w base A c l) {base' : Nat} (hb : base' ≤ base) : Ow w base' A c l := by
  refine ⟨h.1, ?_⟩
  rcases h.2 with h' | ⟨g, cap, cur, h', hb', r⟩
  · exact .inl h'
  · exact .inr ⟨g, cap, cur, h', by omega, r⟩
theorem Ow.row (h : Ow w base A c l) : ∀ k, (Value.slice A l.length c).ownBlock = some k → base ≤ k := fun k hk => (World.ownsRow.lt h k hk).1
theorem Ow.farAny (h : Ow w base A c l) {p : Addr} (hp : ∀ g, A = some ⟨g, 0, none⟩ → p.block ≠ g) (u : Value) : Ow (w.setCell p u) base A c l :=
  h.keep fun g' hg => Below.heap_setCell w p u g' (Ne.symm (hp g' hg))
/-- an int written -/
theorem Ow.put (h : Ow w base (some ⟨g, 0, none⟩) c l) (k : Nat) (x : Int) :
    Ow (w.setCell ⟨g, k, none⟩ (.int .i64 x)) base (some ⟨g, 0, none⟩) c (l.set k x) ∧ w.grownBy (w.setCell ⟨g, k, none⟩ (.int .i64 x)) (some g) := by
  obtain ⟨h1, g1⟩ := World.ownsRow.stored h k (.int .i64 x)
  refine ⟨?_, g1⟩
  unfold Ow
  rw [List.length_set]
  have e : cells (l.set k x) = (cells l).set k (.int .i64 x) := by simp [cells, List.map_set]
  rw [e]
  exact h1
end

/-- only one block, and what is new, has turned -/
theorem gb_trans {a b c : World} {row : Option Nat} (h : a.grownBy b row) (k : b.grownBy c row) : a.grownBy c row :=
  ⟨k.os.trans h.os, k.tape.trans h.tape, k.output.trans h.output, Nat.le_trans h.size k.size, fun i hi hne => (k.block i (Nat.lt_of_lt_of_le hi h.size) hne).trans (h.block i hi hne)⟩
theorem cell_new {w : World} {p : Addr} {v : Value} (h : w.cell? p = some v) (o : Obj) : (w.alloc o).cell? p = some v :=
  (((Below.refl w.heap.size w).alloc (Nat.le_refl _) o).cell (lt_of_cell h)).trans h
theorem cell_below {W w1 : World} {p : Addr} {v : Value} (b : Below W.heap.size W w1) (h : W.cell? p = some v) : w1.cell? p = some v := (b.cell (lt_of_cell h)).trans h
theorem frozen_below {W w1 : World} {p : Addr} {v : Value} (b : Below W.heap.size W w1) (h : W.cell? p = some v) (f : W.frozen? p = false) : w1.frozen? p = false := (b.frozen (lt_of_cell h)).trans f
theorem below_step {a W w1 : World} (h : Below a.heap.size a W) (b : Below W.heap.size W w1) : Below a.heap.size a w1 := h.trans (b.mono h.size)
theorem below_one (w : World) (o : Obj) : Below w.heap.size w (w.alloc o) := (Below.refl _ _).alloc (Nat.le_refl _) _
theorem below_two (w : World) (o o' : Obj) : Below w.heap.size w ((w.alloc o).alloc o') := (below_one w o).alloc (by simp) _
theorem below_three (w : World) (o o' o'' : Obj) : Below w.heap.size w (((w.alloc o).alloc o').alloc o'') := (below_two w o o').alloc (by simp; omega) _
/-- an empty slice that was just made -/
theorem own_lit (w : World) (base : Nat) (hb : base ≤ w.heap.size) : Ow (w.alloc (.cells #[] 3)) base (some ⟨w.heap.size, 0, none⟩) 0 [] :=
  World.ownsRow_lit w #[] 0 hb (by unfold maxLen; omega) rfl

theorem infoI : (Try.prog.info? 3).map (fun i => (i.zero, i.size, i.bytes)) = some (some (.int .i64 0), 1, 8) := by kernel_rfl

/-- append of ints to a slice of the call's own -/
theorem run_app (ty : TypeId) {w : World} {base : Nat} {A B : Option Addr} {c d : Nat} {l r : List Int} (h : Ow w base A c l) (hr : Rd w B d r) (hbig : l.length + r.length ≤ 1000000) (hbase : base ≤ w.heap.size) :
    ∃ A' c' w', (Builtin.append_ #[39, 39] ty #[.slice A l.length c, .slice B r.length d]).run Try.prog w = .ok (.slice A' (l.length + r.length) c') w' ∧ Ow w' base A' c' (l ++ r) ∧ w.grownBy w' (Value.slice A l.length c).ownBlock ∧
      ((Value.slice A' (l.length + r.length) c').ownBlock = (Value.slice A l.length c).ownBlock ∨ (Value.slice A' (l.length + r.length) c').ownBlock = some w.heap.size) := by
  obtain ⟨i, hi, hz, hs, hb⟩ := info_parts infoI
  have ht := Try.underlying39
  rcases B with _ | ad
  · have hd := hr.1 rfl
    subst hd
    have hr0 : r = [] := by
      rcases r with _ | ⟨p, t⟩
      · rfl
      · obtain ⟨b, off, h, _⟩ := hr.2 (by simp)
        cases h
    subst hr0
    refine ⟨A, c, w, ?_, by simpa using h, ⟨rfl, rfl, rfl, Nat.le_refl _, fun _ _ _ => rfl⟩, .inl rfl⟩
    exact run_append_owned_none (P := Try.prog) w base 39 ty 3 i 1 ht hi _ l.length (cells l) h
  · have hn : ∀ j u, (cells r)[j]? = some u → w.cell? (ad.add j) = some u := by
      intro j u hu
      have hj : j < (cells r).length := by
        rcases Nat.lt_or_ge j (cells r).length with h | h
        · exact h
        · rw [List.getElem?_eq_none h] at hu; cases hu
      rw [cells_length] at hj
      obtain ⟨b, off, hA, hc⟩ := hr.2 (by omega)
      injection hA with hA
      subst hA
      rw [Go.WideShapes.add_plain, hc j hj, ← hu]
      exact (cells_at r j hj).symm
    obtain ⟨v', w', hrun, h2, h3, _, h5⟩ := run_append_own_at (P := Try.prog) w base 39 ty 3 i (.int .i64 0) 1 8 ht hi hz hs hb rfl (by omega) _ l.length (cells l) h ad r.length d (cells r) (by rw [cells_length]; omega) hn (cells_one r)
      (by unfold maxLen; omega) (by omega) hbase
    have hv : ∃ A' c', v' = .slice A' (l.length + r.length) c' := by
      rcases h2.2 with ⟨h', h0⟩ | ⟨g, cap, cur, h', _⟩
      · exact ⟨none, 0, by rw [h', h0]⟩
      · exact ⟨_, _, h'⟩
    obtain ⟨A', c', rfl⟩ := hv
    refine ⟨A', c', w', hrun, ?_, h3, h5⟩
    unfold Ow
    rw [show cells (l ++ r) = cells l ++ cells r from by simp [cells], List.length_append]
    exact h2

/-- an append whose run is known: as one operation; in a row of operations; as a step of a region that draws -/
theorem wp_app_run {P : Program} {w : World} {o : Oper} {a : Act} {K : Act → World → Prop} {Q : Exit → Act → World → Prop} (s x : Operand) (t : TypeId) (ho : o.op = .call { callee := .builtin .append, args := #[s, x], argTypes := #[t, t] })
    (v1 v2 v' : Value) (w' : World) (h1 : a.eval s = v1) (h2 : a.eval x = v2) (hrun : (Builtin.append_ #[t, t] o.type #[v1, v2]).run P w = .ok v' w') (h : K (a.put o.dst v') w') : o.wp P a w K Q := by
  unfold Oper.wp execOp
  simp only [ho, resolve, invoke, builtin, Sem.run_bind, Sem.run_pure, Result.andThen_ok, List.map_toArray, List.map_cons, List.map_nil, h1, h2, hrun]
  exact h

theorem step_app {w : World} {ops : Array Oper} {o : Oper} {a : Act} {K : Act → World → Prop} {Q : Exit → Act → World → Prop} {E : Prop} (hg : o.guard = none) (s x : Operand) (ho : o.op = .call { callee := .builtin .append, args := #[s, x], argTypes := #[39, 39] })
    {base : Nat} {A B : Option Addr} {c d : Nat} {l r : List Int} (h1 : a.eval s = .slice A l.length c) (h2 : a.eval x = .slice B r.length d) (h : Ow w base A c l) (hr : Rd w B d r) (hbig : l.length + r.length ≤ 1000000) (hbase : base ≤ w.heap.size)
    (hK : ∀ A' c' w', Ow w' base A' c' (l ++ r) → w.grownBy w' (Value.slice A l.length c).ownBlock → ((Value.slice A' (l.length + r.length) c').ownBlock = (Value.slice A l.length c).ownBlock ∨ (Value.slice A' (l.length + r.length) c').ownBlock = some w.heap.size) → K (a.put o.dst (.slice A' (l.length + r.length) c')) w') :
    if Region.wanted o (yielded ops a.tmps) = true then Oper.wp Try.prog o a w K Q else E := by
  obtain ⟨A', c', w', hrun, k1, k2, k3⟩ := run_app o.type h hr hbig hbase
  rw [if_pos (by simp [Region.wanted, hg])]
  exact wp_app_run s x _ ho _ _ _ _ h1 h2 hrun (hK A' c' w' k1 k2 k3)
theorem list_app {w : World} {ops : Array Oper} {rest : List Oper} {o : Oper} {a : Act} {Q : Exit → Act → World → Prop} (hg : o.guard = none) (s x : Operand) (ho : o.op = .call { callee := .builtin .append, args := #[s, x], argTypes := #[39, 39] })
    {base : Nat} {A B : Option Addr} {c d : Nat} {l r : List Int} (h1 : a.eval s = .slice A l.length c) (h2 : a.eval x = .slice B r.length d) (h : Ow w base A c l) (hr : Rd w B d r) (hbig : l.length + r.length ≤ 1000000) (hbase : base ≤ w.heap.size)
    (hK : ∀ A' c' w', Ow w' base A' c' (l ++ r) → w.grownBy w' (Value.slice A l.length c).ownBlock → ((Value.slice A' (l.length + r.length) c').ownBlock = (Value.slice A l.length c).ownBlock ∨ (Value.slice A' (l.length + r.length) c').ownBlock = some w.heap.size) → wpList Try.prog ops Q rest (a.put o.dst (.slice A' (l.length + r.length) c')) w') :
    wpList Try.prog ops Q (o :: rest) a w := by
  obtain ⟨A', c', w', hrun, k1, k2, k3⟩ := run_app o.type h hr hbig hbase
  exact wpList_plain hg fun _ hK' => wp_app_run s x _ ho _ _ _ _ h1 h2 hrun (hK' _ _ (hK A' c' w' k1 k2 k3))

/-- n zeros -/
def zeros (n : Nat) : List Int := List.replicate n 0
theorem zeros_length (n : Nat) : (zeros n).length = n := by simp [zeros]
theorem made_zeros (n : Nat) : (madeCells (Value.int .i64 0).cells (n * 1)).toList = cells (zeros n) := by
  apply List.ext_getElem?
  intro j
  simp [madeCells, cells, zeros, Value.cells, List.getElem?_replicate]
  rcases Nat.lt_or_ge j n with h | h
  · simp [h, Nat.mod_one]
  · simp [Nat.not_lt.2 h]

/-- make of n ints -/
theorem run_mk (n : Nat) {w : World} {base : Nat} (hbig : n ≤ 1000000) (hbase : base ≤ w.heap.size) :
    ∃ w', (Instr.makeSlice 39 (.int .i64 (n : Int)) (.int .i64 (n : Int))).run Try.prog w = .ok (.slice (some ⟨w.heap.size, 0, none⟩) n n) w' ∧ Ow w' base (some ⟨w.heap.size, 0, none⟩) n (zeros n) ∧ w.grownBy w' none := by
  obtain ⟨i, hi, hz, hs, hb⟩ := info_parts infoI
  obtain ⟨w', hrun, r1, r2⟩ := run_make_full (P := Try.prog) w base 39 3 i (.int .i64 0) 1 Try.underlying39 hi hz hs .i64 .i64 n (by rw [hb]; omega) (by unfold maxLen; omega) hbase
  refine ⟨w', hrun, ?_, r2⟩
  unfold Ow
  rw [zeros_length, ← made_zeros]
  exact r1
theorem wp_mk_run {P : Program} {w : World} {o : Oper} {a : Act} {K : Act → World → Prop} {Q : Exit → Act → World → Prop} (s x : Operand) (t : TypeId) (ho : o.op = .makeSlice t s x)
    (v1 v2 v' : Value) (w' : World) (h1 : a.eval s = v1) (h2 : a.eval x = v2) (hrun : (Instr.makeSlice t v1 v2).run P w = .ok v' w') (h : K (a.put o.dst v') w') : o.wp P a w K Q := by
  unfold Oper.wp
  simp only [ho, execOp, h1, h2, hrun, Result.andThen_ok, Sem.run_bind, Sem.run_pure]
  exact h
theorem list_mk {w : World} {ops : Array Oper} {rest : List Oper} {o : Oper} {a : Act} {Q : Exit → Act → World → Prop} (hg : o.guard = none) (s x : Operand) (ho : o.op = .makeSlice 39 s x)
    {base : Nat} (n : Nat) (h1 : a.eval s = .int .i64 (n : Int)) (h2 : a.eval x = .int .i64 (n : Int)) (hbig : n ≤ 1000000) (hbase : base ≤ w.heap.size)
    (hK : ∀ w', Ow w' base (some ⟨w.heap.size, 0, none⟩) n (zeros n) → w.grownBy w' none → wpList Try.prog ops Q rest (a.put o.dst (.slice (some ⟨w.heap.size, 0, none⟩) n n)) w') :
    wpList Try.prog ops Q (o :: rest) a w := by
  obtain ⟨w', hrun, k1, k2⟩ := run_mk n hbig hbase
  exact wpList_plain hg fun _ hK' => wp_mk_run s x _ ho _ _ _ _ h1 h2 hrun (hK' _ _ (hK w' k1 k2))
theorem step_mk {w : World} {ops : Array Oper} {o : Oper} {a : Act} {K : Act → World → Prop} {Q : Exit → Act → World → Prop} {E : Prop} (hg : o.guard = none) (s x : Operand) (ho : o.op = .makeSlice 39 s x)
    {base : Nat} (n : Nat) (h1 : a.eval s = .int .i64 (n : Int)) (h2 : a.eval x = .int .i64 (n : Int)) (hbig : n ≤ 1000000) (hbase : base ≤ w.heap.size)
    (hK : ∀ w', Ow w' base (some ⟨w.heap.size, 0, none⟩) n (zeros n) → w.grownBy w' none → K (a.put o.dst (.slice (some ⟨w.heap.size, 0, none⟩) n n)) w') :
    if Region.wanted o (yielded ops a.tmps) = true then Oper.wp Try.prog o a w K Q else E := by
  obtain ⟨w', hrun, k1, k2⟩ := run_mk n hbig hbase
  rw [if_pos (by simp [Region.wanted, hg])]
  exact wp_mk_run s x _ ho _ _ _ _ h1 h2 hrun (hK w' k1 k2)

end Rn
end Go.Proofs.Ytdgemmhaddnbdaa
