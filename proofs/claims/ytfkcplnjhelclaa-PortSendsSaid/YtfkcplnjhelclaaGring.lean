/-
  Merged texts: RingMem, RingMath, RingWalks, RingCalls, RingWith, RingPush, RingPop, RingList.
-/
import Derived.Test.YtfkcplnjhelclaaRows
import Derived.Below
import Derived.Maps.AppendAt
import Derived.Laws.OwnMore
import Derived.WideShapes
import Derived.Tactics
import Derived.OwnWalk
import Derived.Lib.Hide
import Derived.WalkKit
import Derived.WalkSpells
import Derived.BigQuiet
import Derived.Deep.QuietTactic
import Derived.StillTailTactics
import Derived.Laws.Unary
import Derived.Deep.RegionHeld3
import Derived.Deep.DrawnRows
import Derived.IntWalk
import Derived.BigRegion
/-
  Layer 3 (ring): ints in memory: a slice that reads as a list of ints; a slice of the call's own; append and make of ints.
-/
namespace Go.Proofs.Ytfkcplnjhelclaa
open Go.RowKit
namespace Rn

theorem ret_bool {a b : Bool} (h : a = b) : Ending.returned (.bool a) = .returned (.bool b) := by rw [h]
theorem ret_int {k : IntKind} {a b : Int} (h : a = b) : Ending.returned (.int k a) = .returned (.int k b) := by rw [h]

/-- item number j -/
def at_ (l : List Int) (j : Nat) : Int := l.getD j 0

/-- the slice at A, of capacity c, reads as these ints -/
def Rd (w : World) (A : Option Addr) (c : Nat) (l : List Int) : Prop :=
  (A = none → c = 0) ∧ (0 < l.length → ∃ b off, A = some ⟨b, off, none⟩ ∧ ∀ j, j < l.length → w.cell? ⟨b, off + j, none⟩ = some (.int .i64 (at_ l j)))

theorem lt_of_cell {w : World} {p : Addr} {v : Value} (h : w.cell? p = some v) : p.block < w.heap.size := by
  rcases Nat.lt_or_ge p.block w.heap.size with hlt | hge
  · exact hlt
  · unfold World.cell? at h; rw [Array.getElem?_eq_none hge] at h; cases h
section
variable {w w' : World} {A : Option Addr} {c : Nat} {l : List Int}
theorem Rd.keep (h : Rd w A c l) (hk : ∀ p : Addr, p.block < w.heap.size → w'.cell? p = w.cell? p) : Rd w' A c l := ⟨h.1, fun h0 => by
  obtain ⟨b, off, e, hc⟩ := h.2 h0
  exact ⟨b, off, e, fun j hj => (hk _ (lt_of_cell (hc j hj))).trans (hc j hj)⟩⟩
theorem Rd.below (h : Rd w A c l) (hb : Below w.heap.size w w') : Rd w' A c l := h.keep fun _ hp => hb.cell hp
theorem Rd.drew (h : Rd w A c l) : Rd w.drew A c l := h
theorem Rd.alloc (h : Rd w A c l) (o : Obj) : Rd (w.alloc o) A c l := h.below ((Below.refl _ _).alloc (Nat.le_refl _) o)
theorem Rd.nil (w : World) : Rd w none 0 [] := ⟨fun _ => rfl, fun h => by simp at h⟩
theorem Rd.none_ (h : A = none → c = 0) : Rd w A c [] := ⟨h, fun h => by simp at h⟩
/-- a cell written in a block where it does not lie -/
theorem Rd.far (h : Rd w A c l) {p : Addr} (hp : ∀ b off, A = some ⟨b, off, none⟩ → p.block ≠ b) (u : Value) : Rd (w.setCell p u) A c l := ⟨h.1, fun h0 => by
  obtain ⟨b, off, e, hc⟩ := h.2 h0
  exact ⟨b, off, e, fun j hj => (World.cell?_of_block (w := w) (Below.heap_setCell w p u b (Ne.symm (hp b off e)))).trans (hc j hj)⟩⟩
end
theorem Rd.frontAt {w : World} {b off d : Nat} {s : List Int} (h : Rd w (some ⟨b, off, none⟩) d s) (k : Nat) (c : Nat) : Rd w (some ⟨b, off, none⟩) c (s.take k) := by
  refine ⟨fun e => (by cases e), fun h0 => ?_⟩
  have h0' : 0 < s.length := by simp at h0; omega
  obtain ⟨b', off', e, hc⟩ := h.2 h0'
  refine ⟨b', off', e, fun j hj => ?_⟩
  have hj' : j < k ∧ j < s.length := by simp at hj; omega
  have e1 : at_ (s.take k) j = at_ s j := by simp [at_, List.getD_eq_getElem?_getD, hj'.1]
  rw [e1]
  exact hc j hj'.2
theorem Rd.backAt {w : World} {b off d : Nat} {s : List Int} (h : Rd w (some ⟨b, off, none⟩) d s) (k c : Nat) : Rd w (some ⟨b, off + k, none⟩) c (s.drop k) := by
  refine ⟨fun e => (by cases e), fun h0 => ?_⟩
  have h0' : k < s.length := by simp at h0; omega
  obtain ⟨b', off', e, hc⟩ := h.2 (by omega)
  injection e with e
  injection e with e1 e2
  subst e1
  subst e2
  refine ⟨b, off + k, rfl, fun j hj => ?_⟩
  have hj' : k + j < s.length := by simp at hj; omega
  have e1 : at_ (s.drop k) j = at_ s (k + j) := by simp [at_, List.getD_eq_getElem?_getD, List.getElem?_drop]
  rw [e1, Nat.add_assoc]
  exact hc (k + j) hj'
theorem rd_one {w : World} {b : Nat} {x : Int} {c : Nat} (h1 : w.cell? ⟨b, 0, none⟩ = some (.int .i64 x)) : Rd w (some ⟨b, 0, none⟩) c [x] := by
  refine ⟨fun h => (by cases h), fun _ => ⟨b, 0, rfl, fun j hj => ?_⟩⟩
  have : j = 0 := by simpa using hj
  subst this
  simpa [at_] using h1

/-- the cells of ints -/
def cells (l : List Int) : List Value := l.map (fun x => .int .i64 x)
theorem cells_length (l : List Int) : (cells l).length = l.length := by simp [cells]
theorem cells_one (l : List Int) : ∀ u ∈ cells l, u.oneCell' = true := by
  intro u hu
  obtain ⟨_, _, rfl⟩ := List.mem_map.1 hu
  rfl
theorem cells_at (l : List Int) (j : Nat) (hj : j < l.length) : (cells l)[j]? = some (.int .i64 (at_ l j)) := by
  simp [cells, at_, List.getD_eq_getElem?_getD, hj]

/-- a slice of the call's own, at block 'base' or behind it: these ints -/
def Ow (w : World) (base : Nat) (A : Option Addr) (c : Nat) (l : List Int) : Prop := w.ownsRow base 3 1 (.slice A l.length c) l.length (cells l)

section
variable {w w' : World} {base : Nat} {A : Option Addr} {c g : Nat} {l : List Int}
theorem Ow.cases (h : Ow w base A c l) : (A = none ∧ c = 0 ∧ l = []) ∨ ∃ g, A = some ⟨g, 0, none⟩ ∧ base ≤ g ∧ g < w.heap.size ∧ l.length ≤ c := by
  rcases h.2 with ⟨h', h0⟩ | ⟨g, cap, cur, h', hb, hg, hn, _⟩
  · left
    injection h' with h1 h2 h3
    exact ⟨h1, h3, List.eq_nil_of_length_eq_zero h0⟩
  · right
    injection h' with h1 h2 h3
    subst h3
    refine ⟨g, h1, hb, ?_, hn⟩
    rcases Nat.lt_or_ge g w.heap.size with hlt | hge
    · exact hlt
    · rw [Array.getElem?_eq_none hge] at hg; cases hg
theorem Ow.le (h : Ow w base A c l) : l.length ≤ c := by
  rcases h.cases with ⟨_, rfl, rfl⟩ | ⟨_, _, _, _, h⟩
  · simp
  · exact h
theorem Ow.form (h : Ow w base A c l) (h0 : 0 < l.length) : ∃ g, A = some ⟨g, 0, none⟩ ∧ base ≤ g ∧ g < w.heap.size ∧ l.length ≤ c := by
  rcases h.cases with ⟨_, _, rfl⟩ | h
  · simp at h0
  · exact h
theorem Ow.cell (h : Ow w base (some ⟨g, 0, none⟩) c l) (j : Nat) (hj : j < l.length) : w.cell? ⟨g, j, none⟩ = some (.int .i64 (at_ l j)) :=
  (World.ownsRow.cellAt h _ (by omega)).trans (cells_at l j hj)
theorem Ow.rd (h : Ow w base A c l) : Rd w A c l := by
  refine ⟨fun hA => ?_, fun h0 => ?_⟩
  · rcases h.cases with ⟨_, h1, _⟩ | ⟨g, h1, _⟩
    · exact h1
    · rw [hA] at h1; cases h1
  · obtain ⟨g, rfl, _⟩ := h.form h0
    exact ⟨g, 0, rfl, fun j hj => by simpa using h.cell j hj⟩
theorem Ow.keep (h : Ow w base A c l) (hk : ∀ g, A = some ⟨g, 0, none⟩ → w'.heap[g]? = w.heap[g]?) : Ow w' base A c l := by
  refine ⟨h.1, ?_⟩
  rcases h.2 with h' | ⟨g, cap, cur, h', hb, hg, r⟩
  · exact .inl h'
  · refine .inr ⟨g, cap, cur, h', hb, ?_, r⟩
    injection h' with h1 h2 h3
    rw [hk g h1]; exact hg
theorem Ow.new (h : Ow w base A c l) : ∀ g, A = some ⟨g, 0, none⟩ → g < w.heap.size := fun g hA => by
  rcases h.cases with ⟨h1, _⟩ | ⟨g', h1, _, hlt, _⟩
  · rw [hA] at h1; cases h1
  · rw [hA] at h1; injection h1 with h1; injection h1 with h1; omega
theorem Ow.below {B : Nat} (h : Ow w base A c l) (hb : Below B w w') (hB : w.heap.size ≤ B) : Ow w' base A c l := h.keep fun g hA => hb.block g (Nat.lt_of_lt_of_le (h.new g hA) hB)
theorem Ow.alloc (h : Ow w base A c l) (o : Obj) : Ow (w.alloc o) base A c l := h.below ((Below.refl _ _).alloc (Nat.le_refl _) o) (Nat.le_refl _)
theorem Ow.rebase (h : Ow w base A c l) {base' : Nat} (hb : base' ≤ base) : Ow w base' A c l := by
  refine ⟨h.1, ?_⟩
  rcases h.2 with h' | ⟨g, cap, cur, h', hb', r⟩
  · exact .inl h'
  · exact .inr ⟨g, cap, cur, h', by omega, r⟩
theorem Ow.row (h : Ow w base A c l) : ∀ k, (Value.slice A l.length c).ownBlock = some k → base ≤ k := fun k hk => (World.ownsRow.lt h k hk).1
theorem Ow.farAny (h : Ow w base A c l) {p : Addr} (hp : ∀ g, A = some ⟨g, 0, none⟩ → p.block ≠ g) (u : Value) : Ow (w.setCell p u) base A c l :=
  h.keep fun g' hg => Below.heap_setCell w p u g' (Ne.symm (hp g' hg))
/-- an int written -/
theorem Ow.put (h : Ow w base (some ⟨g, 0, none⟩) c l) (k : Nat) (x : Int) :
    Ow (w.setCell ⟨g, k, none⟩ (.int .i64 x)) base (some ⟨g, 0, none⟩) c (l.set k x) ∧ w.grownBy (w.setCell ⟨g, k, none⟩ (.int .i64 x)) (some g) := by
  obtain ⟨h1, g1⟩ := World.ownsRow.stored h k (.int .i64 x)
  refine ⟨?_, g1⟩
  unfold Ow
  rw [List.length_set]
  have e : cells (l.set k x) = (cells l).set k (.int .i64 x) := by simp [cells, List.map_set]
  rw [e]
  exact h1
end

/-- only one block, and what is new, has turned -/
theorem gb_trans {a b c : World} {row : Option Nat} (h : a.grownBy b row) (k : b.grownBy c row) : a.grownBy c row :=
  ⟨k.os.trans h.os, k.tape.trans h.tape, k.output.trans h.output, Nat.le_trans h.size k.size, fun i hi hne => (k.block i (Nat.lt_of_lt_of_le hi h.size) hne).trans (h.block i hi hne)⟩
theorem cell_new {w : World} {p : Addr} {v : Value} (h : w.cell? p = some v) (o : Obj) : (w.alloc o).cell? p = some v :=
  (((Below.refl w.heap.size w).alloc (Nat.le_refl _) o).cell (lt_of_cell h)).trans h
theorem cell_below {W w1 : World} {p : Addr} {v : Value} (b : Below W.heap.size W w1) (h : W.cell? p = some v) : w1.cell? p = some v := (b.cell (lt_of_cell h)).trans h
theorem frozen_below {W w1 : World} {p : Addr} {v : Value} (b : Below W.heap.size W w1) (h : W.cell? p = some v) (f : W.frozen? p = false) : w1.frozen? p = false := (b.frozen (lt_of_cell h)).trans f
theorem below_step {a W w1 : World} (h : Below a.heap.size a W) (b : Below W.heap.size W w1) : Below a.heap.size a w1 := h.trans (b.mono h.size)
theorem below_one (w : World) (o : Obj) : Below w.heap.size w (w.alloc o) := (Below.refl _ _).alloc (Nat.le_refl _) _
theorem below_two (w : World) (o o' : Obj) : Below w.heap.size w ((w.alloc o).alloc o') := (below_one w o).alloc (by simp) _
theorem below_three (w : World) (o o' o'' : Obj) : Below w.heap.size w (((w.alloc o).alloc o').alloc o'') := (below_two w o o').alloc (by simp; omega) _
/-- an empty slice that was just made -/
theorem own_lit (w : World) (base : Nat) (hb : base ≤ w.heap.size) : Ow (w.alloc (.cells #[] 3)) base (some ⟨w.heap.size, 0, none⟩) 0 [] :=
  World.ownsRow_lit w #[] 0 hb (by unfold maxLen; omega) rfl

theorem infoI : (Try.prog.info? 3).map (fun i => (i.zero, i.size, i.bytes)) = some (some (.int .i64 0), 1, 8) := by kernel_rfl

/-- append of ints to a slice of the call's own -/
theorem run_app (ty : TypeId) {w : World} {base : Nat} {A B : Option Addr} {c d : Nat} {l r : List Int} (h : Ow w base A c l) (hr : Rd w B d r) (hbig : l.length + r.length ≤ 1000000) (hbase : base ≤ w.heap.size) :
    ∃ A' c' w', (Builtin.append_ #[35, 35] ty #[.slice A l.length c, .slice B r.length d]).run Try.prog w = .ok (.slice A' (l.length + r.length) c') w' ∧ Ow w' base A' c' (l ++ r) ∧ w.grownBy w' (Value.slice A l.length c).ownBlock ∧
      ((Value.slice A' (l.length + r.length) c').ownBlock = (Value.slice A l.length c).ownBlock ∨ (Value.slice A' (l.length + r.length) c').ownBlock = some w.heap.size) := by
  obtain ⟨i, hi, hz, hs, hb⟩ := info_parts infoI
  have ht := Try.underlying35
  rcases B with _ | ad
  · have hd := hr.1 rfl
    subst hd
    have hr0 : r = [] := by
      rcases r with _ | ⟨p, t⟩
      · rfl
      · obtain ⟨b, off, h, _⟩ := hr.2 (by simp)
        cases h
    subst hr0
    refine ⟨A, c, w, ?_, by simpa using h, ⟨rfl, rfl, rfl, Nat.le_refl _, fun _ _ _ => rfl⟩, .inl rfl⟩
    exact run_append_owned_none (P := Try.prog) w base 35 ty 3 i 1 ht hi _ l.length (cells l) h
  · have hn : ∀ j u, (cells r)[j]? = some u → w.cell? (ad.add j) = some u := by
      intro j u hu
      have hj : j < (cells r).length := by
        rcases Nat.lt_or_ge j (cells r).length with h | h
        · exact h
        · rw [List.getElem?_eq_none h] at hu; cases hu
      rw [cells_length] at hj
      obtain ⟨b, off, hA, hc⟩ := hr.2 (by omega)
      injection hA with hA
      subst hA
      rw [Go.WideShapes.add_plain, hc j hj, ← hu]
      exact (cells_at r j hj).symm
    obtain ⟨v', w', hrun, h2, h3, _, h5⟩ := run_append_own_at (P := Try.prog) w base 35 ty 3 i (.int .i64 0) 1 8 ht hi hz hs hb rfl (by omega) _ l.length (cells l) h ad r.length d (cells r) (by rw [cells_length]; omega) hn (cells_one r)
      (by unfold maxLen; omega) (by omega) hbase
    have hv : ∃ A' c', v' = .slice A' (l.length + r.length) c' := by
      rcases h2.2 with ⟨h', h0⟩ | ⟨g, cap, cur, h', _⟩
      · exact ⟨none, 0, by rw [h', h0]⟩
      · exact ⟨_, _, h'⟩
    obtain ⟨A', c', rfl⟩ := hv
    refine ⟨A', c', w', hrun, ?_, h3, h5⟩
    unfold Ow
    rw [show cells (l ++ r) = cells l ++ cells r from by simp [cells], List.length_append]
    exact h2

/-- an append whose run is known: as one operation; in a row of operations; as a step of a region that draws -/
theorem wp_app_run {P : Program} {w : World} {o : Oper} {a : Act} {K : Act → World → Prop} {Q : Exit → Act → World → Prop} (s x : Operand) (t : TypeId) (ho : o.op = .call { callee := .builtin .append, args := #[s, x], argTypes := #[t, t] })
    (v1 v2 v' : Value) (w' : World) (h1 : a.eval s = v1) (h2 : a.eval x = v2) (hrun : (Builtin.append_ #[t, t] o.type #[v1, v2]).run P w = .ok v' w') (h : K (a.put o.dst v') w') : o.wp P a w K Q := by
  unfold Oper.wp execOp
  simp only [ho, resolve, invoke, builtin, Sem.run_bind, Sem.run_pure, Result.andThen_ok, List.map_toArray, List.map_cons, List.map_nil, h1, h2, hrun]
  exact h

theorem step_app {w : World} {ops : Array Oper} {o : Oper} {a : Act} {K : Act → World → Prop} {Q : Exit → Act → World → Prop} {E : Prop} (hg : o.guard = none) (s x : Operand) (ho : o.op = .call { callee := .builtin .append, args := #[s, x], argTypes := #[35, 35] })
    {base : Nat} {A B : Option Addr} {c d : Nat} {l r : List Int} (h1 : a.eval s = .slice A l.length c) (h2 : a.eval x = .slice B r.length d) (h : Ow w base A c l) (hr : Rd w B d r) (hbig : l.length + r.length ≤ 1000000) (hbase : base ≤ w.heap.size)
    (hK : ∀ A' c' w', Ow w' base A' c' (l ++ r) → w.grownBy w' (Value.slice A l.length c).ownBlock → ((Value.slice A' (l.length + r.length) c').ownBlock = (Value.slice A l.length c).ownBlock ∨ (Value.slice A' (l.length + r.length) c').ownBlock = some w.heap.size) → K (a.put o.dst (.slice A' (l.length + r.length) c')) w') :
    if Region.wanted o (yielded ops a.tmps) = true then Oper.wp Try.prog o a w K Q else E := by
  obtain ⟨A', c', w', hrun, k1, k2, k3⟩ := run_app o.type h hr hbig hbase
  rw [if_pos (by simp [Region.wanted, hg])]
  exact wp_app_run s x _ ho _ _ _ _ h1 h2 hrun (hK A' c' w' k1 k2 k3)
theorem list_app {w : World} {ops : Array Oper} {rest : List Oper} {o : Oper} {a : Act} {Q : Exit → Act → World → Prop} (hg : o.guard = none) (s x : Operand) (ho : o.op = .call { callee := .builtin .append, args := #[s, x], argTypes := #[35, 35] })
    {base : Nat} {A B : Option Addr} {c d : Nat} {l r : List Int} (h1 : a.eval s = .slice A l.length c) (h2 : a.eval x = .slice B r.length d) (h : Ow w base A c l) (hr : Rd w B d r) (hbig : l.length + r.length ≤ 1000000) (hbase : base ≤ w.heap.size)
    (hK : ∀ A' c' w', Ow w' base A' c' (l ++ r) → w.grownBy w' (Value.slice A l.length c).ownBlock → ((Value.slice A' (l.length + r.length) c').ownBlock = (Value.slice A l.length c).ownBlock ∨ (Value.slice A' (l.length + r.length) c').ownBlock = some w.heap.size) → wpList Try.prog ops Q rest (a.put o.dst (.slice A' (l.length + r.length) c')) w') :
    wpList Try.prog ops Q (o :: rest) a w := by
  obtain ⟨A', c', w', hrun, k1, k2, k3⟩ := run_app o.type h hr hbig hbase
  exact wpList_plain hg fun _ hK' => wp_app_run s x _ ho _ _ _ _ h1 h2 hrun (hK' _ _ (hK A' c' w' k1 k2 k3))

/-- n zeros -/
def zeros (n : Nat) : List Int := List.replicate n 0
theorem zeros_length (n : Nat) : (zeros n).length = n := by simp [zeros]
theorem made_zeros (n : Nat) : (madeCells (Value.int .i64 0).cells (n * 1)).toList = cells (zeros n) := by
  apply List.ext_getElem?
  intro j
  simp [madeCells, cells, zeros, Value.cells, List.getElem?_replicate]
  rcases Nat.lt_or_ge j n with h | h
  · simp [h, Nat.mod_one]
  · simp [Nat.not_lt.2 h]

/-- make of n ints -/
theorem run_mk (n : Nat) {w : World} {base : Nat} (hbig : n ≤ 1000000) (hbase : base ≤ w.heap.size) :
    ∃ w', (Instr.makeSlice 35 (.int .i64 (n : Int)) (.int .i64 (n : Int))).run Try.prog w = .ok (.slice (some ⟨w.heap.size, 0, none⟩) n n) w' ∧ Ow w' base (some ⟨w.heap.size, 0, none⟩) n (zeros n) ∧ w.grownBy w' none := by
  obtain ⟨i, hi, hz, hs, hb⟩ := info_parts infoI
  obtain ⟨w', hrun, r1, r2⟩ := run_make_full (P := Try.prog) w base 35 3 i (.int .i64 0) 1 Try.underlying35 hi hz hs .i64 .i64 n (by rw [hb]; omega) (by unfold maxLen; omega) hbase
  refine ⟨w', hrun, ?_, r2⟩
  unfold Ow
  rw [zeros_length, ← made_zeros]
  exact r1
theorem wp_mk_run {P : Program} {w : World} {o : Oper} {a : Act} {K : Act → World → Prop} {Q : Exit → Act → World → Prop} (s x : Operand) (t : TypeId) (ho : o.op = .makeSlice t s x)
    (v1 v2 v' : Value) (w' : World) (h1 : a.eval s = v1) (h2 : a.eval x = v2) (hrun : (Instr.makeSlice t v1 v2).run P w = .ok v' w') (h : K (a.put o.dst v') w') : o.wp P a w K Q := by
  unfold Oper.wp
  simp only [ho, execOp, h1, h2, hrun, Result.andThen_ok, Sem.run_bind, Sem.run_pure]
  exact h
theorem list_mk {w : World} {ops : Array Oper} {rest : List Oper} {o : Oper} {a : Act} {Q : Exit → Act → World → Prop} (hg : o.guard = none) (s x : Operand) (ho : o.op = .makeSlice 35 s x)
    {base : Nat} (n : Nat) (h1 : a.eval s = .int .i64 (n : Int)) (h2 : a.eval x = .int .i64 (n : Int)) (hbig : n ≤ 1000000) (hbase : base ≤ w.heap.size)
    (hK : ∀ w', Ow w' base (some ⟨w.heap.size, 0, none⟩) n (zeros n) → w.grownBy w' none → wpList Try.prog ops Q rest (a.put o.dst (.slice (some ⟨w.heap.size, 0, none⟩) n n)) w') :
    wpList Try.prog ops Q (o :: rest) a w := by
  obtain ⟨w', hrun, k1, k2⟩ := run_mk n hbig hbase
  exact wpList_plain hg fun _ hK' => wp_mk_run s x _ ho _ _ _ _ h1 h2 hrun (hK' _ _ (hK w' k1 k2))
theorem step_mk {w : World} {ops : Array Oper} {o : Oper} {a : Act} {K : Act → World → Prop} {Q : Exit → Act → World → Prop} {E : Prop} (hg : o.guard = none) (s x : Operand) (ho : o.op = .makeSlice 35 s x)
    {base : Nat} (n : Nat) (h1 : a.eval s = .int .i64 (n : Int)) (h2 : a.eval x = .int .i64 (n : Int)) (hbig : n ≤ 1000000) (hbase : base ≤ w.heap.size)
    (hK : ∀ w', Ow w' base (some ⟨w.heap.size, 0, none⟩) n (zeros n) → w.grownBy w' none → K (a.put o.dst (.slice (some ⟨w.heap.size, 0, none⟩) n n)) w') :
    if Region.wanted o (yielded ops a.tmps) = true then Oper.wp Try.prog o a w K Q else E := by
  obtain ⟨w', hrun, k1, k2⟩ := run_mk n hbig hbase
  rw [if_pos (by simp [Region.wanted, hg])]
  exact wp_mk_run s x _ ho _ _ _ _ h1 h2 hrun (hK w' k1 k2)

end Rn
end Go.Proofs.Ytfkcplnjhelclaa

/-
  Layer 3 (ring): plain mathematics of rings: which are right, the messages, a message more, the first one taken.
-/
namespace Go.Proofs.Ytfkcplnjhelclaa
open Go.RowKit
namespace Rn

/-- is a ring with n places right? -/
def rightB (n : Nat) (f m : Int) : Bool := decide (0 ≤ f ∧ f < (n : Int) ∧ 0 ≤ m ∧ m ≤ (n : Int))
theorem rightB_nat {n : Nat} {f m : Int} (h : rightB n f m = true) : ∃ F M : Nat, f = (F : Int) ∧ m = (M : Int) ∧ F < n ∧ M ≤ n := by
  have h := of_decide_eq_true h
  exact ⟨f.toNat, m.toNat, by omega, by omega, by omega, by omega⟩
theorem rightB_of {n F M : Nat} (h1 : F < n) (h2 : M ≤ n) : rightB n (F : Int) (M : Int) = true := decide_eq_true (by omega)

/-- the messages -/
def msgs (b : List Int) (f m : Nat) : List Int := (List.range m).map fun i => at_ b ((f + i) % b.length)
theorem msgs_length (b : List Int) (f m : Nat) : (msgs b f m).length = m := by simp [msgs]
theorem msgs_at (b : List Int) (f m i : Nat) (h : i < m) : at_ (msgs b f m) i = at_ b ((f + i) % b.length) := by
  simp [msgs, at_, List.getD_eq_getElem?_getD, h]
theorem msgs_succ (b : List Int) (f m : Nat) : msgs b f (m + 1) = msgs b f m ++ [at_ b ((f + m) % b.length)] := by
  simp [msgs, List.range_succ]
theorem mod_two {n x : Nat} (h : x < 2 * n) : x % n = if n ≤ x then x - n else x := by
  split
  · rw [Nat.mod_eq_sub_mod (by assumption), Nat.mod_eq_of_lt (by omega)]
  · exact Nat.mod_eq_of_lt (by omega)
theorem at_set (b : List Int) (k j : Nat) (v : Int) (hk : k < b.length) : at_ (b.set k v) j = if j = k then v else at_ b j := by
  unfold at_
  rw [List.getD_eq_getElem?_getD, List.getElem?_set, List.getD_eq_getElem?_getD]
  by_cases h : j = k
  · subst h; simp [hk]
  · rw [if_neg (Ne.symm h), if_neg h]
theorem list_ext {a b : List Int} (hl : a.length = b.length) (h : ∀ i, i < a.length → at_ a i = at_ b i) : a = b := by
  apply List.ext_getElem hl
  intro i h1 h2
  have := h i h1
  simpa [at_, List.getD_eq_getElem?_getD, h1, h2] using this
theorem msgs_push (b : List Int) (f m : Nat) (v : Int) (hf : f < b.length) (hm : m < b.length) : msgs (b.set ((f + m) % b.length) v) f (m + 1) = msgs b f m ++ [v] := by
  have h0 : (f + m) % b.length < b.length := Nat.mod_lt _ (by omega)
  rw [msgs_succ, List.length_set, at_set _ _ _ _ h0, if_pos rfl]
  congr 1
  refine list_ext (by rw [msgs_length, msgs_length]) fun i hi => ?_
  rw [msgs_length] at hi
  rw [msgs_at _ _ _ _ hi, msgs_at _ _ _ _ hi, List.length_set, at_set _ _ _ _ h0, if_neg]
  rw [mod_two (by omega), mod_two (by omega)]
  split <;> split <;> omega
theorem msgs_pop (b : List Int) (f m : Nat) (hf : f < b.length) : msgs b f (m + 1) = at_ b f :: msgs b ((f + 1) % b.length) m := by
  unfold msgs
  rw [List.range_succ_eq_map, List.map_cons, List.map_map, Nat.add_zero, Nat.mod_eq_of_lt hf]
  congr 1
  apply List.map_congr_left
  intro i _
  show at_ b ((f + (i + 1)) % b.length) = _
  congr 1
  rw [Nat.mod_add_mod, Nat.add_assoc, Nat.add_comm 1 i]
/-- the same, by the buffer from the first place on, and then from its beginning -/
theorem msgs_ref (b : List Int) (f m : Nat) (hf : f < b.length) (hm : m ≤ b.length) : (b.drop f ++ b.take f).take m = msgs b f m := by
  refine list_ext (by simp [msgs_length]; omega) fun i hi => ?_
  have hi' : i < m := by simp at hi; omega
  rw [msgs_at _ _ _ _ hi', mod_two (by omega)]
  unfold at_
  rw [List.getD_eq_getElem?_getD, List.getD_eq_getElem?_getD, List.getElem?_take, if_pos hi', List.getElem?_append, List.length_drop]
  by_cases h : i < b.length - f
  · rw [if_pos h, List.getElem?_drop, if_neg (by omega)]
  · rw [if_neg h, if_pos (by omega), List.getElem?_take, if_pos (by omega)]
    congr 2
    omega
theorem msgs_one (b : List Int) (f : Nat) (h : f < b.length) (m : Nat) (h0 : 0 < m) : at_ (msgs b f m) 0 = at_ b f := by
  rw [msgs_at _ _ _ _ h0, Nat.add_zero, Nat.mod_eq_of_lt h]
theorem place_lt {n : Nat} (x : Nat) (h : 0 < n) : x % n < n := Nat.mod_lt _ h

end Rn
end Go.Proofs.Ytfkcplnjhelclaa

/-
  Layer 3 (ring): Right, full, place, withoutFirst, with, New.
-/
namespace Go.Proofs.Ytfkcplnjhelclaa
open Go.RowKit
namespace Rn
attribute [local go_sem ↓] Go.wp_at_zero Go.wp_at_succ

set_option maxHeartbeats 1600000 in
theorem right_any (A : Option Addr) (n c : Nat) (f m : Int) (w : World) :
    Calls Try.prog 38 #[.agg #[.slice A n c, .int .i64 f, .int .i64 m]] w fun e w' => e = .returned (.bool (rightB n f m)) ∧ Below w.heap.size w w' := by
  have fin : ∀ b, rightB n f m = b → ∀ w', Below w.heap.size w w' → (Ending.returned (.bool b) = .returned (.bool (rightB n f m)) ∧ Below w.heap.size w w') := fun b h w' hb => ⟨ret_bool h.symm, hb⟩
  have FIN := Lib.hid fin
  clear fin
  by_cases h1 : (0 : Int) ≤ f
  · by_cases h2 : f < (n : Int)
    · by_cases h3 : (0 : Int) ≤ m
      · by_cases h4 : m ≤ (n : Int)
        · go_enter Try.func38, Try.ntmps38
          go_wp2
          go_ret
          exact FIN.out true (decide_eq_true ⟨h1, h2, h3, h4⟩) _ (below_one _ _)
        · have h4' : (n : Int) < m := by omega
          go_enter Try.func38, Try.ntmps38
          go_wp2
          go_ret
          exact FIN.out false (decide_eq_false (by omega)) _ (below_one _ _)
      · have h3' : m < 0 := by omega
        go_enter Try.func38, Try.ntmps38
        go_wp2
        go_ret
        exact FIN.out false (decide_eq_false (by omega)) _ (below_one _ _)
    · have h2' : (n : Int) ≤ f := by omega
      go_enter Try.func38, Try.ntmps38
      go_wp2
      go_ret
      exact FIN.out false (decide_eq_false (by omega)) _ (below_one _ _)
  · have h1' : f < 0 := by omega
    go_enter Try.func38, Try.ntmps38
    go_wp2
    go_ret
    exact FIN.out false (decide_eq_false (by omega)) _ (below_one _ _)

theorem full_any (A : Option Addr) (n c : Nat) (f m : Int) (w : World) :
    Calls Try.prog 39 #[.agg #[.slice A n c, .int .i64 f, .int .i64 m]] w fun e w' => e = .returned (.bool (m == (n : Int))) ∧ Below w.heap.size w w' := by
  go_enter Try.func39, Try.ntmps39
  go_wp2
  go_ret
  exact ⟨rfl, below_one _ _⟩

/-- place number (f + i) of n, wrapped round -/
def PlaceOf (w : World) (n x : Nat) (e : Ending) (w' : World) : Prop := ∃ p : Nat, e = .returned (.int .i64 (p : Int)) ∧ p = x % n ∧ Below w.heap.size w w'
theorem place_any (A : Option Addr) (n c f i : Nat) (m I : Int) (w : World) (hbig : n ≤ 1000000) (hf : f < n) (hi : i ≤ n) (hI : I = (i : Int)) :
    Calls Try.prog 43 #[.agg #[.slice A n c, .int .i64 (f : Int), .int .i64 m], .int .i64 I] w (PlaceOf w n (f + i)) := by
  subst hI
  have h0 : ¬ ((n : Int) = 0) := by omega
  have hs : IntKind.i64.wrap ((f : Int) + (i : Int)) = (f : Int) + (i : Int) := IntWalk.i64_in _ (by omega)
  have ht : Int.tmod ((f : Int) + (i : Int)) (n : Int) = (((f + i) % n : Nat) : Int) := by
    rw [Int.tmod_eq_emod_of_nonneg (by omega)]
    push_cast
    rfl
  have hw : IntKind.i64.wrap (((f + i) % n : Nat) : Int) = (((f + i) % n : Nat) : Int) := IntWalk.i64_in _ (by have := place_lt (f + i) (n := n) (by omega); omega)
  have HP : ∃ p, Hid (p = (f + i) % n) := ⟨_, rfl⟩
  obtain ⟨p, HP⟩ := HP
  rw [← HP.out] at ht hw
  go_enter Try.func43, Try.ntmps43
  go_wp2
  go_ret
  exact ⟨p, rfl, HP.out, below_one _ _⟩

end Rn
end Go.Proofs.Ytfkcplnjhelclaa

/-
  Layer 3 (ring): withoutFirst, with, New.
-/
namespace Go.Proofs.Ytfkcplnjhelclaa
open Go.RowKit
namespace Rn
attribute [local go_sem ↓] Go.wp_at_zero Go.wp_at_succ

theorem cell_far {w : World} {p q : Addr} {v : Value} (h : w.cell? q = some v) (hne : q.block ≠ p.block) (u : Value) : (w.setCell p u).cell? q = some v :=
  (World.cell?_of_block (w := w) (Below.heap_setCell w p u q.block hne)).trans h

/-- a ring put together -/
theorem build_ring (A : Option Addr) (n c : Nat) (f m : Int) (w : World) : (Instr.build 52 #[(0, .slice A n c), (1, .int .i64 f), (2, .int .i64 m)]).run Try.prog w = .ok (.agg #[.slice A n c, .int .i64 f, .int .i64 m]) w := by kernel_rfl
theorem build_some (A : Option Addr) (n c : Nat) (w : World) : (Instr.build 52 #[(0, .slice A n c)]).run Try.prog w = .ok (.agg #[.slice A n c, .int .i64 0, .int .i64 0]) w := by kernel_rfl
theorem build_none (w : World) : (Instr.build 52 #[]).run Try.prog w = .ok (.agg #[.slice none 0 0, .int .i64 0, .int .i64 0]) w := by kernel_rfl
theorem build_ref (A : Option Addr) (n c : Nat) (f m : Int) (w : World) : (Instr.build 62 #[(0, .slice A n c), (1, .int .i64 f), (2, .int .i64 m)]).run Try.prog w = .ok (.agg #[.slice A n c, .int .i64 f, .int .i64 m]) w := by kernel_rfl
theorem build_refSome (A : Option Addr) (n c : Nat) (w : World) : (Instr.build 62 #[(0, .slice A n c)]).run Try.prog w = .ok (.agg #[.slice A n c, .int .i64 0, .int .i64 0]) w := by kernel_rfl
attribute [local go_sem ↓] build_ring build_some build_none build_ref build_refSome

/-- a ring without its first message: the buffer is shared -/
def LessOf (w : World) (A : Option Addr) (n c f m : Nat) (e : Ending) (w' : World) : Prop :=
  ∃ p : Nat, e = .returned (.agg #[.slice A n c, .int .i64 (p : Int), .int .i64 (m : Int)]) ∧ p = (f + 1) % n ∧ Below w.heap.size w w'

set_option maxHeartbeats 1600000 in
theorem less_any (A : Option Addr) (n c f m : Nat) (M : Int) (w : World) (hbig : n ≤ 1000000) (hf : f < n) (hm : m < n) (hM : M = (m : Int) + 1) :
    Calls Try.prog 42 #[.agg #[.slice A n c, .int .i64 (f : Int), .int .i64 M]] w (LessOf w A n c f m) := by
  have hs : IntKind.i64.wrap (M - 1) = (m : Int) := by rw [IntWalk.i64_in _ (by omega)]; omega
  clear hM
  go_enter Try.func42, Try.ntmps42
  go_wp2_with fail
  have B0 : Hid (Below w.heap.size w (((w.alloc (.cells #[.slice A n c, .int .i64 (f : Int), .int .i64 M] 52)).alloc (.cells #[.slice none 0 0, .int .i64 0, .int .i64 0] 52)))) := below_two _ _ _
  have x0 : (((w.alloc (.cells #[.slice A n c, .int .i64 (f : Int), .int .i64 M] 52)).alloc (.cells #[.slice none 0 0, .int .i64 0, .int .i64 0] 52))).cell? ⟨w.heap.size, 0, none⟩ = some (.slice A n c) := by go_simp
  have x1 : (((w.alloc (.cells #[.slice A n c, .int .i64 (f : Int), .int .i64 M] 52)).alloc (.cells #[.slice none 0 0, .int .i64 0, .int .i64 0] 52))).cell? ⟨w.heap.size, 1, none⟩ = some (.int .i64 (f : Int)) := by go_simp
  have x2 : (((w.alloc (.cells #[.slice A n c, .int .i64 (f : Int), .int .i64 M] 52)).alloc (.cells #[.slice none 0 0, .int .i64 0, .int .i64 0] 52))).cell? ⟨w.heap.size, 2, none⟩ = some (.int .i64 M) := by go_simp
  have y0 : (((w.alloc (.cells #[.slice A n c, .int .i64 (f : Int), .int .i64 M] 52)).alloc (.cells #[.slice none 0 0, .int .i64 0, .int .i64 0] 52))).cell? ⟨w.heap.size + 1, 0, none⟩ = some (.slice none 0 0) := by go_simp
  have y1 : (((w.alloc (.cells #[.slice A n c, .int .i64 (f : Int), .int .i64 M] 52)).alloc (.cells #[.slice none 0 0, .int .i64 0, .int .i64 0] 52))).cell? ⟨w.heap.size + 1, 1, none⟩ = some (.int .i64 0) := by go_simp
  have y2 : (((w.alloc (.cells #[.slice A n c, .int .i64 (f : Int), .int .i64 M] 52)).alloc (.cells #[.slice none 0 0, .int .i64 0, .int .i64 0] 52))).cell? ⟨w.heap.size + 1, 2, none⟩ = some (.int .i64 0) := by go_simp
  have f0 : (((w.alloc (.cells #[.slice A n c, .int .i64 (f : Int), .int .i64 M] 52)).alloc (.cells #[.slice none 0 0, .int .i64 0, .int .i64 0] 52))).frozen? ⟨w.heap.size + 1, 0, none⟩ = false := by go_simp
  have f1 : (((w.alloc (.cells #[.slice A n c, .int .i64 (f : Int), .int .i64 M] 52)).alloc (.cells #[.slice none 0 0, .int .i64 0, .int .i64 0] 52))).frozen? ⟨w.heap.size + 1, 1, none⟩ = false := by go_simp
  have f2 : (((w.alloc (.cells #[.slice A n c, .int .i64 (f : Int), .int .i64 M] 52)).alloc (.cells #[.slice none 0 0, .int .i64 0, .int .i64 0] 52))).frozen? ⟨w.heap.size + 1, 2, none⟩ = false := by go_simp
  generalize ((w.alloc (.cells #[.slice A n c, .int .i64 (f : Int), .int .i64 M] 52)).alloc (.cells #[.slice none 0 0, .int .i64 0, .int .i64 0] 52)) = w0 at *
  go_region_held3 (fun w' => w'.cell? ⟨w.heap.size, 0, none⟩ = some (.slice A n c) ∧ w'.cell? ⟨w.heap.size, 1, none⟩ = some (.int .i64 (f : Int)) ∧ w'.cell? ⟨w.heap.size, 2, none⟩ = some (.int .i64 M) ∧ Hid (Below w.heap.size w w'))
    (first
      | (exact ⟨cell_far (cell_far (cell_far (cell_below bX x0) (by simp) _) (by simp) _) (by simp) _, cell_far (cell_far (cell_far (cell_below bX x1) (by simp) _) (by simp) _) (by simp) _, cell_far (cell_far (cell_far (cell_below bX x2) (by simp) _) (by simp) _) (by simp) _, (((B0.out.trans (bX.mono B0.out.size)).setCell (by simp) _).setCell (by simp) _).setCell (by simp) _⟩)
      | (exact ⟨cell_below bX x0, cell_below bX x1, cell_below bX x2, B0.out.trans (bX.mono B0.out.size)⟩)
      | (exact ⟨x0, x1, x2, B0.out.drew⟩))
    (first
      | (go_at_call 43; refine (place_any A n c f 1 M _ _ hbig hf (by omega) (by rfl)).mono ?_; rintro e w1 ⟨p, rfl, hp, b1⟩
         have HPl := Lib.hid hp
         have bX : Below w0.heap.size w0 w1 := (Below.refl _ w0).drew.trans b1
         have k0 := cell_below bX y0
         have k1 := cell_below bX y1
         have k2 := cell_below bX y2
         have j0 := frozen_below bX y0 f0
         have j1 := frozen_below bX y1 f1
         have j2 := frozen_below bX y2 f2
         clear hp b1))
  go_split_ands
  have HBf : Hid (Below w.heap.size w (((w1.setCell ⟨w.heap.size + 1, 0, none⟩ (.slice A n c)).setCell ⟨w.heap.size + 1, 1, none⟩ (.int .i64 (p : Int))).setCell ⟨w.heap.size + 1, 2, none⟩ (.int .i64 (m : Int)))) := by assumption
  go_wp2_with fail
  refine bodyPost_ret (v := .agg #[.slice A n c, .int .i64 (p : Int), .int .i64 (m : Int)]) (by simp [results, Try.results42, go_sem, k0, k1, k2]) rfl ?_
  exact ⟨p, rfl, HPl.out, HBf.out⟩

end Rn
end Go.Proofs.Ytfkcplnjhelclaa

/-
  Layer 3 (ring): with, New.
-/
namespace Go.Proofs.Ytfkcplnjhelclaa
open Go.RowKit
namespace Rn
attribute [local go_sem ↓] Go.wp_at_zero Go.wp_at_succ
attribute [local go_sem ↓] build_ring build_some build_none build_ref build_refSome

/-- a ring with a message more, in a new buffer -/
def MoreOf (w : World) (b : List Int) (f m : Nat) (v : Int) (e : Ending) (w' : World) : Prop :=
  ∃ (A : Option Addr) (c : Nat), e = .returned (.agg #[.slice A b.length c, .int .i64 (f : Int), .int .i64 ((m : Int) + 1)]) ∧ Ow w' w.heap.size A c (b.set ((f + m) % b.length) v) ∧ Below w.heap.size w w'

set_option maxHeartbeats 1600000 in
theorem more_any (A : Option Addr) (c : Nat) (b : List Int) (f m : Nat) (v : Int) (w : World) (hbig : b.length ≤ 100000) (hf : f < b.length) (hm : m < b.length) (hr : Rd w A c b) :
    Calls Try.prog 40 #[.agg #[.slice A b.length c, .int .i64 (f : Int), .int .i64 (m : Int)], .int .i64 v] w (MoreOf w b f m v) := by
  have hs : IntKind.i64.wrap ((m : Int) + 1) = (m : Int) + 1 := IntWalk.i64_in _ (by omega)
  have HR : Hid (Rd (((w.alloc (.cells #[.slice A b.length c, .int .i64 (f : Int), .int .i64 (m : Int)] 52)).alloc (.cells #[.slice none 0 0, .int .i64 0, .int .i64 0] 52))) A c b) := (hr.alloc _).alloc _
  clear hr
  have B0 : Hid (Below w.heap.size w (((w.alloc (.cells #[.slice A b.length c, .int .i64 (f : Int), .int .i64 (m : Int)] 52)).alloc (.cells #[.slice none 0 0, .int .i64 0, .int .i64 0] 52)))) := below_two _ _ _
  have x0 : (((w.alloc (.cells #[.slice A b.length c, .int .i64 (f : Int), .int .i64 (m : Int)] 52)).alloc (.cells #[.slice none 0 0, .int .i64 0, .int .i64 0] 52))).cell? ⟨w.heap.size, 0, none⟩ = some (.slice A b.length c) := by go_simp
  have x1 : (((w.alloc (.cells #[.slice A b.length c, .int .i64 (f : Int), .int .i64 (m : Int)] 52)).alloc (.cells #[.slice none 0 0, .int .i64 0, .int .i64 0] 52))).cell? ⟨w.heap.size, 1, none⟩ = some (.int .i64 (f : Int)) := by go_simp
  have x2 : (((w.alloc (.cells #[.slice A b.length c, .int .i64 (f : Int), .int .i64 (m : Int)] 52)).alloc (.cells #[.slice none 0 0, .int .i64 0, .int .i64 0] 52))).cell? ⟨w.heap.size, 2, none⟩ = some (.int .i64 (m : Int)) := by go_simp
  have y0 : (((w.alloc (.cells #[.slice A b.length c, .int .i64 (f : Int), .int .i64 (m : Int)] 52)).alloc (.cells #[.slice none 0 0, .int .i64 0, .int .i64 0] 52))).cell? ⟨w.heap.size + 1, 0, none⟩ = some (.slice none 0 0) := by go_simp
  have y1 : (((w.alloc (.cells #[.slice A b.length c, .int .i64 (f : Int), .int .i64 (m : Int)] 52)).alloc (.cells #[.slice none 0 0, .int .i64 0, .int .i64 0] 52))).cell? ⟨w.heap.size + 1, 1, none⟩ = some (.int .i64 0) := by go_simp
  have y2 : (((w.alloc (.cells #[.slice A b.length c, .int .i64 (f : Int), .int .i64 (m : Int)] 52)).alloc (.cells #[.slice none 0 0, .int .i64 0, .int .i64 0] 52))).cell? ⟨w.heap.size + 1, 2, none⟩ = some (.int .i64 0) := by go_simp
  have f0 : (((w.alloc (.cells #[.slice A b.length c, .int .i64 (f : Int), .int .i64 (m : Int)] 52)).alloc (.cells #[.slice none 0 0, .int .i64 0, .int .i64 0] 52))).frozen? ⟨w.heap.size + 1, 0, none⟩ = false := by go_simp
  have f1 : (((w.alloc (.cells #[.slice A b.length c, .int .i64 (f : Int), .int .i64 (m : Int)] 52)).alloc (.cells #[.slice none 0 0, .int .i64 0, .int .i64 0] 52))).frozen? ⟨w.heap.size + 1, 1, none⟩ = false := by go_simp
  have f2 : (((w.alloc (.cells #[.slice A b.length c, .int .i64 (f : Int), .int .i64 (m : Int)] 52)).alloc (.cells #[.slice none 0 0, .int .i64 0, .int .i64 0] 52))).frozen? ⟨w.heap.size + 1, 2, none⟩ = false := by go_simp
  have Z0 : Hid ((((w.alloc (.cells #[.slice A b.length c, .int .i64 (f : Int), .int .i64 (m : Int)] 52)).alloc (.cells #[.slice none 0 0, .int .i64 0, .int .i64 0] 52))).heap.size = w.heap.size + 2) := by show _ = _; simp
  go_enter Try.func40, Try.ntmps40
  go_wp2_with (at_builtin; refine list_app rfl _ _ rfl (base := w.heap.size + 2) (A := none) (c := 0) (l := []) (r := b) rfl rfl (World.ownsRow_nil _ _ _ _) HR.out (by simp; omega) (by simp) ?_)
  intro A1 c1 w1 k1 k2 k3
  rw [← Z0.out] at k1
  generalize ((w.alloc (.cells #[.slice A b.length c, .int .i64 (f : Int), .int .i64 (m : Int)] 52)).alloc (.cells #[.slice none 0 0, .int .i64 0, .int .i64 0] 52)) = w0 at *
  have b1 : Below w0.heap.size w0 w1 := (Below.refl _ _).grown k2 (Nat.le_refl _) (fun k hk => by cases hk)
  have O1 : Ow w1 w0.heap.size A1 c1 b := k1
  obtain ⟨g, rfl, hg1, hg2, hg3⟩ := O1.form (by omega)
  have HO1 := Lib.hid O1
  have HB1 := Lib.hid b1
  have X0 := cell_below b1 x0
  have X1 := cell_below b1 x1
  have X2 := cell_below b1 x2
  clear k1 k2 k3 O1 b1
  go_wp2_with fail
  refine (place_any A b.length c f m _ _ _ (by omega) hf (by omega) rfl).mono ?_
  rintro e w2 ⟨p, rfl, hp, b2⟩
  have HPl := Lib.hid hp
  have hp1 : (p : Int) < (b.length : Int) := by have := place_lt (f + m) (n := b.length) (by omega); omega
  have hp0 : (0 : Int) ≤ (p : Int) := by omega
  have HB2 : Hid (Below w0.heap.size w0 w2) := below_step HB1.out b2
  have HO2 := Lib.hid (HO1.out.below b2 (Nat.le_refl _))
  have X0 := cell_below HB2.out x0
  have X1 := cell_below HB2.out x1
  have X2 := cell_below HB2.out x2
  have Y0 := cell_below HB2.out y0
  have Y1 := cell_below HB2.out y1
  have Y2 := cell_below HB2.out y2
  have F0 := frozen_below HB2.out y0 f0
  have F1 := frozen_below HB2.out y1 f1
  have F2 := frozen_below HB2.out y2 f2
  have g1 := HO2.out.cell p (by omega)
  have g2 := World.ownsRow.frozenAt HO2.out p
  have n1 : w.heap.size ≠ g := by have := Z0.out; omega
  have n2 : w.heap.size + 1 ≠ g := by have := Z0.out; omega
  have n1' : g ≠ w.heap.size := by omega
  have n2' : g ≠ w.heap.size + 1 := by omega
  clear hp b2 x0 x1 x2 y0 y1 y2 f0 f1 f2
  go_wp2_with fail
  have Y0' := cell_far (p := ⟨g, p, none⟩) Y0 n2 (.int .i64 v)
  have Y1' := cell_far (p := ⟨g, p, none⟩) Y1 n2 (.int .i64 v)
  have Y2' := cell_far (p := ⟨g, p, none⟩) Y2 n2 (.int .i64 v)
  refine bodyPost_ret (v := .agg #[.slice (some ⟨g, 0, none⟩) b.length c1, .int .i64 (f : Int), .int .i64 ((m : Int) + 1)]) (by simp [results, Try.results40, go_sem, Y0', Y1', Y2']) rfl ?_
  refine ⟨_, _, rfl, ?_, ?_⟩
  · have hq := (HO2.out.put p v).1
    rw [← HPl.out]
    refine (((hq.rebase ?_).farAny ?_ _).farAny ?_ _).farAny ?_ _
    · have := Z0.out; omega
    all_goals
      intro g' hg'
      injection hg' with hg'
      injection hg' with hg'
      subst hg'
      exact n2
  · have hb := B0.out.trans (HB2.out.mono B0.out.size)
    exact (((hb.setCell (p := ⟨g, p, none⟩) (by show w.heap.size ≤ g; have := Z0.out; omega) _).setCell (p := ⟨w.heap.size + 1, 0, none⟩) (by simp) _).setCell (p := ⟨w.heap.size + 1, 1, none⟩) (by simp) _).setCell (p := ⟨w.heap.size + 1, 2, none⟩) (by simp) _

/-- New: n is not from 1 to 4 -/
theorem new_no (n : Int) (w : World) (h : n < 1 ∨ 4 < n) :
    Calls Try.prog 48 #[.int .i64 n] w fun e w' => e = .returned (.tuple #[.agg #[.slice none 0 0, .int .i64 0, .int .i64 0], .int .i64 1]) ∧ Below w.heap.size w w' := by
  have fin : Hid (Below w.heap.size w ((((w.alloc (.cells #[.slice none 0 0, .int .i64 0, .int .i64 0] 52))).setCell ⟨w.heap.size, 0, none⟩ (.slice none 0 0)).setCell ⟨w.heap.size, 1, none⟩ (.int .i64 0) |>.setCell ⟨w.heap.size, 2, none⟩ (.int .i64 0))) :=
    (((below_one _ _).setCell (by simp) _).setCell (by simp) _).setCell (by simp) _
  rcases h with h | h
  · go_enter Try.func48, Try.ntmps48
    go_wp2_with fail
    refine bodyPost_ret (v := .tuple #[.agg #[.slice none 0 0, .int .i64 0, .int .i64 0], .int .i64 1]) (by simp [results, Try.results48, go_sem]) rfl ⟨rfl, ?_⟩
    first | exact fin.out | exact below_one _ _
  · have h1 : (1 : Int) ≤ n := by omega
    go_enter Try.func48, Try.ntmps48
    go_wp2_with fail
    refine bodyPost_ret (v := .tuple #[.agg #[.slice none 0 0, .int .i64 0, .int .i64 0], .int .i64 1]) (by simp [results, Try.results48, go_sem]) rfl ⟨rfl, ?_⟩
    first | exact fin.out | exact below_one _ _

/-- New: an empty ring with n places -/
def NewOf (w : World) (n : Nat) (e : Ending) (w' : World) : Prop :=
  ∃ A : Option Addr, e = .returned (.tuple #[.agg #[.slice A n n, .int .i64 0, .int .i64 0], .int .i64 0]) ∧ Ow w' w.heap.size A n (zeros n) ∧ Below w.heap.size w w'
set_option maxHeartbeats 800000 in
theorem new_some (n : Nat) (N : Int) (w : World) (h1 : 1 ≤ n) (h4 : n ≤ 4) (hN : N = (n : Int)) :
    Calls Try.prog 48 #[.int .i64 N] w (NewOf w n) := by
  subst hN
  have h1' : (1 : Int) ≤ (n : Int) := by omega
  have h4' : (n : Int) ≤ 4 := by omega
  have B0 : Hid (Below w.heap.size w ((w.alloc (.cells #[.slice none 0 0, .int .i64 0, .int .i64 0] 52)))) := below_one _ _
  have y0 : ((w.alloc (.cells #[.slice none 0 0, .int .i64 0, .int .i64 0] 52))).cell? ⟨w.heap.size, 0, none⟩ = some (.slice none 0 0) := by go_simp
  have y1 : ((w.alloc (.cells #[.slice none 0 0, .int .i64 0, .int .i64 0] 52))).cell? ⟨w.heap.size, 1, none⟩ = some (.int .i64 0) := by go_simp
  have y2 : ((w.alloc (.cells #[.slice none 0 0, .int .i64 0, .int .i64 0] 52))).cell? ⟨w.heap.size, 2, none⟩ = some (.int .i64 0) := by go_simp
  have f0 : ((w.alloc (.cells #[.slice none 0 0, .int .i64 0, .int .i64 0] 52))).frozen? ⟨w.heap.size, 0, none⟩ = false := by go_simp
  have f1 : ((w.alloc (.cells #[.slice none 0 0, .int .i64 0, .int .i64 0] 52))).frozen? ⟨w.heap.size, 1, none⟩ = false := by go_simp
  have f2 : ((w.alloc (.cells #[.slice none 0 0, .int .i64 0, .int .i64 0] 52))).frozen? ⟨w.heap.size, 2, none⟩ = false := by go_simp
  have Z0 : Hid (((w.alloc (.cells #[.slice none 0 0, .int .i64 0, .int .i64 0] 52))).heap.size = w.heap.size + 1) := by show _ = _; simp
  go_enter Try.func48, Try.ntmps48
  go_wp2_with (at_make; refine list_mk rfl _ _ rfl (base := w.heap.size + 1) n rfl rfl (by omega) (by simp) ?_)
  intro w1 k1 k2
  rw [← Z0.out] at k1
  generalize (w.alloc (.cells #[.slice none 0 0, .int .i64 0, .int .i64 0] 52)) = w0 at *
  have b1 : Below w0.heap.size w0 w1 := (Below.refl _ _).grown k2 (Nat.le_refl _) (fun k hk => by cases hk)
  have O1 := Lib.hid k1
  have HB1 := Lib.hid b1
  have Y0 := cell_below b1 y0
  have Y1 := cell_below b1 y1
  have Y2 := cell_below b1 y2
  have F0 := frozen_below b1 y0 f0
  have F1 := frozen_below b1 y1 f1
  have F2 := frozen_below b1 y2 f2
  clear b1 k1 k2 y0 y1 y2 f0 f1 f2
  go_wp2_with fail
  refine bodyPost_ret (v := .tuple #[.agg #[.slice (some ⟨w0.heap.size, 0, none⟩) n n, .int .i64 0, .int .i64 0], .int .i64 0]) (by simp [results, Try.results48, go_sem, Y0, Y1, Y2]; exact Z0.out.symm) rfl ?_
  refine ⟨_, rfl, ?_, ?_⟩
  · refine (((O1.out.rebase ?_).farAny ?_ _).farAny ?_ _).farAny ?_ _
    · have := Z0.out; omega
    all_goals
      intro g' hg'
      injection hg' with hg'
      injection hg' with hg'
      subst hg'
      show w.heap.size ≠ w0.heap.size
      have := Z0.out
      omega
  · have hb := B0.out.trans (HB1.out.mono B0.out.size)
    exact ((hb.setCell (p := ⟨w.heap.size, 0, none⟩) (by simp) _).setCell (p := ⟨w.heap.size, 1, none⟩) (by simp) _).setCell (p := ⟨w.heap.size, 2, none⟩) (by simp) _

end Rn
end Go.Proofs.Ytfkcplnjhelclaa

/-
  Layer 3 (ring): Push, Put.
-/
namespace Go.Proofs.Ytfkcplnjhelclaa
open Go.RowKit
namespace Rn
attribute [local go_sem ↓] Go.wp_at_zero Go.wp_at_succ
attribute [local go_sem ↓] build_ring build_some build_none build_ref build_refSome

/-- a ring in a block of its own, and behind it a ring of zeros -/
def Two (w w0 : World) (A : Option Addr) (n c : Nat) (f m : Int) : Prop :=
  (w0.cell? ⟨w.heap.size, 0, none⟩ = some (.slice A n c) ∧ w0.cell? ⟨w.heap.size, 1, none⟩ = some (.int .i64 f) ∧ w0.cell? ⟨w.heap.size, 2, none⟩ = some (.int .i64 m)) ∧
  (w0.cell? ⟨w.heap.size + 1, 0, none⟩ = some (.slice none 0 0) ∧ w0.cell? ⟨w.heap.size + 1, 1, none⟩ = some (.int .i64 0) ∧ w0.cell? ⟨w.heap.size + 1, 2, none⟩ = some (.int .i64 0)) ∧
  (w0.frozen? ⟨w.heap.size + 1, 0, none⟩ = false ∧ w0.frozen? ⟨w.heap.size + 1, 1, none⟩ = false ∧ w0.frozen? ⟨w.heap.size + 1, 2, none⟩ = false) ∧
  (w0.frozen? ⟨w.heap.size, 0, none⟩ = false ∧ w0.frozen? ⟨w.heap.size, 1, none⟩ = false ∧ w0.frozen? ⟨w.heap.size, 2, none⟩ = false) ∧
  Below w.heap.size w w0 ∧ w.heap.size + 2 ≤ w0.heap.size
theorem two_new (w : World) (A : Option Addr) (n c : Nat) (f m : Int) : Two w ((w.alloc (.cells #[.slice A n c, .int .i64 f, .int .i64 m] 52)).alloc (.cells #[.slice none 0 0, .int .i64 0, .int .i64 0] 52)) A n c f m := by
  refine ⟨⟨?_, ?_, ?_⟩, ⟨?_, ?_, ?_⟩, ⟨?_, ?_, ?_⟩, ⟨?_, ?_, ?_⟩, below_two _ _ _, by simp⟩ <;> go_simp
theorem Two.step {w w0 w1 : World} {A : Option Addr} {n c : Nat} {f m : Int} (h : Two w w0 A n c f m) (b : Below w0.heap.size w0 w1) : Two w w1 A n c f m := by
  obtain ⟨⟨x0, x1, x2⟩, ⟨y0, y1, y2⟩, ⟨f0, f1, f2⟩, ⟨g0, g1, g2⟩, hb, hz⟩ := h
  exact ⟨⟨cell_below b x0, cell_below b x1, cell_below b x2⟩, ⟨cell_below b y0, cell_below b y1, cell_below b y2⟩, ⟨frozen_below b y0 f0, frozen_below b y1 f1, frozen_below b y2 f2⟩, ⟨frozen_below b x0 g0, frozen_below b x1 g1, frozen_below b x2 g2⟩, below_step hb b, Nat.le_trans hz b.size⟩
/-- the result written -/
theorem Two.out {w w0 : World} {A : Option Addr} {n c : Nat} {f m : Int} (h : Two w w0 A n c f m) (u0 u1 u2 : Value) :
    Below w.heap.size w (((w0.setCell ⟨w.heap.size + 1, 0, none⟩ u0).setCell ⟨w.heap.size + 1, 1, none⟩ u1).setCell ⟨w.heap.size + 1, 2, none⟩ u2) :=
  ((h.2.2.2.2.1.setCell (by simp) _).setCell (by simp) _).setCell (by simp) _
/-- a slice of the call's own, where the result is written elsewhere -/
theorem Ow.out {w1 : World} {base : Nat} {A : Option Addr} {c B : Nat} {l : List Int} (h : Ow w1 base A c l) (hB : B < base) (u0 u1 u2 : Value) :
    Ow (((w1.setCell ⟨B, 0, none⟩ u0).setCell ⟨B, 1, none⟩ u1).setCell ⟨B, 2, none⟩ u2) base A c l := by
  have hn : ∀ g, A = some ⟨g, 0, none⟩ → B ≠ g := fun g hg => by
    rcases h.cases with ⟨h1, _⟩ | ⟨g', h1, h2, _⟩
    · rw [hg] at h1; cases h1
    · rw [hg] at h1; injection h1 with h1; injection h1 with h1; omega
  exact ((h.farAny hn _).farAny hn _).farAny hn _

theorem push_no (A : Option Addr) (n c : Nat) (f m v : Int) (w : World) (h : rightB n f m = false) :
    Calls Try.prog 23 #[.agg #[.slice A n c, .int .i64 f, .int .i64 m], .int .i64 v] w fun e w' => e = .returned (.tuple #[.agg #[.slice A n c, .int .i64 f, .int .i64 m], .int .i64 1]) ∧ Below w.heap.size w w' := by
  have H := Lib.hid h
  clear h
  have T0 := Lib.hid (two_new w A n c f m)
  go_enter Try.func23, Try.ntmps23
  go_wp2_with fail
  generalize ((w.alloc (.cells #[.slice A n c, .int .i64 f, .int .i64 m] 52)).alloc (.cells #[.slice none 0 0, .int .i64 0, .int .i64 0] 52)) = w0 at *
  refine (right_any A n c f m _).mono ?_
  rintro e w1 ⟨rfl, b1⟩
  rw [H.out]
  have T1 := Lib.hid (T0.out.step b1)
  obtain ⟨⟨x0, x1, x2⟩, ⟨y0, y1, y2⟩, ⟨f0, f1, f2⟩, _, _, _⟩ := T1.out
  clear b1
  go_wp2_with fail
  refine bodyPost_ret (v := .tuple #[.agg #[.slice A n c, .int .i64 f, .int .i64 m], .int .i64 1]) (by simp [results, Try.results23, go_sem, y0, y1, y2]) rfl ?_
  exact ⟨rfl, T1.out.out _ _ _⟩

theorem push_full (A : Option Addr) (n c f : Nat) (m v : Int) (w : World) (hf : f < n) (hm : m = (n : Int)) :
    Calls Try.prog 23 #[.agg #[.slice A n c, .int .i64 (f : Int), .int .i64 m], .int .i64 v] w fun e w' => e = .returned (.tuple #[.agg #[.slice A n c, .int .i64 (f : Int), .int .i64 m], .int .i64 3]) ∧ Below w.heap.size w w' := by
  subst hm
  have H := Lib.hid (rightB_of hf (Nat.le_refl n))
  have T0 := Lib.hid (two_new w A n c (f : Int) (n : Int))
  go_enter Try.func23, Try.ntmps23
  go_wp2_with fail
  generalize ((w.alloc (.cells #[.slice A n c, .int .i64 (f : Int), .int .i64 (n : Int)] 52)).alloc (.cells #[.slice none 0 0, .int .i64 0, .int .i64 0] 52)) = w0 at *
  refine (right_any A n c (f : Int) (n : Int) _).mono ?_
  rintro e w1 ⟨rfl, b1⟩
  rw [H.out]
  have T1 := Lib.hid (T0.out.step b1)
  obtain ⟨⟨x0, x1, x2⟩, _, _, _, _, _⟩ := T1.out
  clear b1
  go_wp2_with fail
  refine (full_any A n c (f : Int) (n : Int) _).mono ?_
  rintro e w2 ⟨rfl, b2⟩
  have T2 := Lib.hid (T1.out.step b2)
  clear x0 x1 x2
  obtain ⟨⟨x0, x1, x2⟩, ⟨y0, y1, y2⟩, ⟨f0, f1, f2⟩, _, _, _⟩ := T2.out
  clear b2
  go_wp2_with fail
  refine bodyPost_ret (v := .tuple #[.agg #[.slice A n c, .int .i64 (f : Int), .int .i64 (n : Int)], .int .i64 3]) (by simp [results, Try.results23, go_sem, y0, y1, y2]) rfl ?_
  exact ⟨rfl, T2.out.out _ _ _⟩

/-- a ring with a message more, and OK -/
def PushOf (w : World) (b : List Int) (f m : Nat) (v : Int) (e : Ending) (w' : World) : Prop :=
  ∃ (A : Option Addr) (c : Nat), e = .returned (.tuple #[.agg #[.slice A b.length c, .int .i64 (f : Int), .int .i64 ((m : Int) + 1)], .int .i64 0]) ∧ Ow w' w.heap.size A c (b.set ((f + m) % b.length) v) ∧ Below w.heap.size w w'

set_option maxHeartbeats 800000 in
theorem push_some (A : Option Addr) (c : Nat) (b : List Int) (f m : Nat) (v : Int) (w : World) (hbig : b.length ≤ 100000) (hf : f < b.length) (hm : m < b.length) (hr : Rd w A c b) :
    Calls Try.prog 23 #[.agg #[.slice A b.length c, .int .i64 (f : Int), .int .i64 (m : Int)], .int .i64 v] w (PushOf w b f m v) := by
  have H := Lib.hid (rightB_of hf (Nat.le_of_lt hm))
  have T0 := Lib.hid (two_new w A b.length c (f : Int) (m : Int))
  have HR := Lib.hid hr
  have hne : ((m : Int) == (b.length : Int)) = false := beq_eq_false_iff_ne.2 (by omega)
  clear hr
  go_enter Try.func23, Try.ntmps23
  go_wp2_with fail
  generalize ((w.alloc (.cells #[.slice A b.length c, .int .i64 (f : Int), .int .i64 (m : Int)] 52)).alloc (.cells #[.slice none 0 0, .int .i64 0, .int .i64 0] 52)) = w0 at *
  refine (right_any A b.length c (f : Int) (m : Int) _).mono ?_
  rintro e w1 ⟨rfl, b1⟩
  rw [H.out]
  have T1 := Lib.hid (T0.out.step b1)
  obtain ⟨⟨x0, x1, x2⟩, _, _, _, _, _⟩ := T1.out
  clear b1
  go_wp2_with fail
  refine (full_any A b.length c (f : Int) (m : Int) _).mono ?_
  rintro e w2 ⟨rfl, b2⟩
  have T2 := Lib.hid (T1.out.step b2)
  clear x0 x1 x2
  obtain ⟨⟨x0, x1, x2⟩, _, _, _, HBw, HZ⟩ := T2.out
  have HR2 := Lib.hid (HR.out.below HBw)
  have HZ2 := Lib.hid HZ
  clear b2 HBw HZ
  rw [hne]
  go_wp2_with fail
  refine (more_any A c b f m v _ hbig hf hm HR2.out).mono ?_
  rintro e w3 ⟨A3, c3, rfl, o3, b3⟩
  have T3 := Lib.hid (T2.out.step b3)
  have O3 := Lib.hid o3
  clear x0 x1 x2 b3 o3
  obtain ⟨⟨x0, x1, x2⟩, ⟨y0, y1, y2⟩, ⟨f0, f1, f2⟩, _, HBw, HZ⟩ := T3.out
  clear HBw HZ
  go_wp2_with fail
  refine bodyPost_ret (v := .tuple #[.agg #[.slice A3 b.length c3, .int .i64 (f : Int), .int .i64 ((m : Int) + 1)], .int .i64 0]) (by simp [results, Try.results23, go_sem, y0, y1, y2]) rfl ?_
  exact ⟨A3, c3, rfl, (O3.out.out (by have := HZ2.out; omega) _ _ _).rebase (by have := HZ2.out; omega), T3.out.out _ _ _⟩

theorem put_no (A : Option Addr) (n c : Nat) (f m v : Int) (w : World) (h : rightB n f m = false) :
    Calls Try.prog 44 #[.agg #[.slice A n c, .int .i64 f, .int .i64 m], .int .i64 v] w fun e w' => e = .returned (.agg #[.slice A n c, .int .i64 f, .int .i64 m]) ∧ Below w.heap.size w w' := by
  have H := Lib.hid h
  clear h
  have T0 := Lib.hid (two_new w A n c f m)
  go_enter Try.func44, Try.ntmps44
  go_wp2_with fail
  generalize ((w.alloc (.cells #[.slice A n c, .int .i64 f, .int .i64 m] 52)).alloc (.cells #[.slice none 0 0, .int .i64 0, .int .i64 0] 52)) = w0 at *
  refine (right_any A n c f m _).mono ?_
  rintro e w1 ⟨rfl, b1⟩
  rw [H.out]
  have T1 := Lib.hid (T0.out.step b1)
  obtain ⟨⟨x0, x1, x2⟩, ⟨y0, y1, y2⟩, ⟨f0, f1, f2⟩, _, _, _⟩ := T1.out
  clear b1
  go_wp2_with fail
  refine bodyPost_ret (v := .agg #[.slice A n c, .int .i64 f, .int .i64 m]) (by simp [results, Try.results44, go_sem, y0, y1, y2]) rfl ?_
  exact ⟨rfl, T1.out.out _ _ _⟩

set_option maxHeartbeats 800000 in
theorem put_some (A : Option Addr) (c : Nat) (b : List Int) (f m : Nat) (v : Int) (w : World) (hbig : b.length ≤ 100000) (hf : f < b.length) (hm : m < b.length) (hr : Rd w A c b) :
    Calls Try.prog 44 #[.agg #[.slice A b.length c, .int .i64 (f : Int), .int .i64 (m : Int)], .int .i64 v] w (MoreOf w b f m v) := by
  have H := Lib.hid (rightB_of hf (Nat.le_of_lt hm))
  have T0 := Lib.hid (two_new w A b.length c (f : Int) (m : Int))
  have HR := Lib.hid hr
  have hne : ((m : Int) == (b.length : Int)) = false := beq_eq_false_iff_ne.2 (by omega)
  clear hr
  go_enter Try.func44, Try.ntmps44
  go_wp2_with fail
  generalize ((w.alloc (.cells #[.slice A b.length c, .int .i64 (f : Int), .int .i64 (m : Int)] 52)).alloc (.cells #[.slice none 0 0, .int .i64 0, .int .i64 0] 52)) = w0 at *
  refine (right_any A b.length c (f : Int) (m : Int) _).mono ?_
  rintro e w1 ⟨rfl, b1⟩
  rw [H.out]
  have T1 := Lib.hid (T0.out.step b1)
  obtain ⟨⟨x0, x1, x2⟩, _, _, _, _, _⟩ := T1.out
  clear b1
  go_wp2_with fail
  refine (full_any A b.length c (f : Int) (m : Int) _).mono ?_
  rintro e w2 ⟨rfl, b2⟩
  have T2 := Lib.hid (T1.out.step b2)
  clear x0 x1 x2
  obtain ⟨⟨x0, x1, x2⟩, _, _, _, HBw, HZ⟩ := T2.out
  have HR2 := Lib.hid (HR.out.below HBw)
  have HZ2 := Lib.hid HZ
  clear b2 HBw HZ
  rw [hne]
  go_wp2_with fail
  refine (more_any A c b f m v _ hbig hf hm HR2.out).mono ?_
  rintro e w3 ⟨A3, c3, rfl, o3, b3⟩
  have T3 := Lib.hid (T2.out.step b3)
  have O3 := Lib.hid o3
  clear x0 x1 x2 b3 o3
  obtain ⟨⟨x0, x1, x2⟩, ⟨y0, y1, y2⟩, ⟨f0, f1, f2⟩, _, HBw, HZ⟩ := T3.out
  clear HBw HZ
  go_wp2_with fail
  refine bodyPost_ret (v := .agg #[.slice A3 b.length c3, .int .i64 (f : Int), .int .i64 ((m : Int) + 1)]) (by simp [results, Try.results44, go_sem, y0, y1, y2]) rfl ?_
  exact ⟨A3, c3, rfl, (O3.out.out (by have := HZ2.out; omega) _ _ _).rebase (by have := HZ2.out; omega), T3.out.out _ _ _⟩

end Rn
end Go.Proofs.Ytfkcplnjhelclaa

/-
  Layer 3 (ring): Put to a full ring, Pop.
-/
namespace Go.Proofs.Ytfkcplnjhelclaa
open Go.RowKit
namespace Rn
attribute [local go_sem ↓] Go.wp_at_zero Go.wp_at_succ
attribute [local go_sem ↓] build_ring build_some build_none build_ref build_refSome

/-- Put to a full ring: the first message is lost -/
def PutOf (w : World) (b : List Int) (f m : Nat) (v : Int) (e : Ending) (w' : World) : Prop :=
  ∃ (A : Option Addr) (c p : Nat), p = (f + 1) % b.length ∧ e = .returned (.agg #[.slice A b.length c, .int .i64 (p : Int), .int .i64 ((m : Int) + 1)]) ∧ Ow w' w.heap.size A c (b.set ((p + m) % b.length) v) ∧ Below w.heap.size w w'

set_option maxHeartbeats 800000 in
theorem put_full (A : Option Addr) (c : Nat) (b : List Int) (f m : Nat) (M v : Int) (w : World) (hbig : b.length ≤ 100000) (hf : f < b.length) (hm : m + 1 = b.length) (hM : M = (b.length : Int)) (hr : Rd w A c b) :
    Calls Try.prog 44 #[.agg #[.slice A b.length c, .int .i64 (f : Int), .int .i64 M], .int .i64 v] w (PutOf w b f m v) := by
  subst hM
  have H := Lib.hid (rightB_of hf (Nat.le_refl b.length))
  have T0 := Lib.hid (two_new w A b.length c (f : Int) (b.length : Int))
  have HR := Lib.hid hr
  clear hr
  go_enter Try.func44, Try.ntmps44
  go_wp2_with fail
  generalize ((w.alloc (.cells #[.slice A b.length c, .int .i64 (f : Int), .int .i64 (b.length : Int)] 52)).alloc (.cells #[.slice none 0 0, .int .i64 0, .int .i64 0] 52)) = w0 at *
  refine (right_any A b.length c (f : Int) (b.length : Int) _).mono ?_
  rintro e w1 ⟨rfl, b1⟩
  rw [H.out]
  have T1 := Lib.hid (T0.out.step b1)
  obtain ⟨⟨x0, x1, x2⟩, _, _, _, _, _⟩ := T1.out
  clear b1
  go_wp2_with fail
  refine (full_any A b.length c (f : Int) (b.length : Int) _).mono ?_
  rintro e w2 ⟨rfl, b2⟩
  have T2 := Lib.hid (T1.out.step b2)
  clear x0 x1 x2
  obtain ⟨⟨x0, x1, x2⟩, _, _, _, _, _⟩ := T2.out
  clear b2
  go_wp2_with fail
  refine (less_any A b.length c f m _ _ (by omega) hf (by omega) (by omega)).mono ?_
  rintro e w3 ⟨p, rfl, hp, b3⟩
  have HPl := Lib.hid hp
  have hpn : p < b.length := by rw [hp]; exact place_lt _ (by omega)
  have T3 := Lib.hid (T2.out.step b3)
  clear x0 x1 x2 hp
  obtain ⟨⟨x0, x1, x2⟩, ⟨y0, y1, y2⟩, ⟨f0, f1, f2⟩, ⟨g0, g1, g2⟩, HBw, HZ⟩ := T3.out
  have HR3 := Lib.hid (HR.out.below HBw)
  have HZ3 := Lib.hid HZ
  have HB3 := Lib.hid HBw
  clear b3 HBw HZ
  go_wp2_with fail
  have HR4 : Hid (Rd (((w3.setCell ⟨w.heap.size, 0, none⟩ (.slice A b.length c)).setCell ⟨w.heap.size, 1, none⟩ (.int .i64 (p : Int))).setCell ⟨w.heap.size, 2, none⟩ (.int .i64 (m : Int))) A c b) := by
    obtain ⟨b', off, e, hc⟩ := HR.out.2 (by omega)
    have hlt := lt_of_cell (hc 0 (by omega))
    have hne : ∀ b'' off'', A = some ⟨b'', off'', none⟩ → w.heap.size ≠ b'' := fun b'' off'' e' => by
      rw [e] at e'; injection e' with e'; injection e' with e1 e2
      have hlt' : b' < w.heap.size := hlt
      omega
    exact ((HR3.out.far hne _).far hne _).far hne _
  have B4 : Hid (Below w.heap.size w (((w3.setCell ⟨w.heap.size, 0, none⟩ (.slice A b.length c)).setCell ⟨w.heap.size, 1, none⟩ (.int .i64 (p : Int))).setCell ⟨w.heap.size, 2, none⟩ (.int .i64 (m : Int)))) :=
    ((HB3.out.setCell (by simp) _).setCell (by simp) _).setCell (by simp) _
  have Z4 : Hid (w.heap.size + 2 ≤ (((w3.setCell ⟨w.heap.size, 0, none⟩ (.slice A b.length c)).setCell ⟨w.heap.size, 1, none⟩ (.int .i64 (p : Int))).setCell ⟨w.heap.size, 2, none⟩ (.int .i64 (m : Int))).heap.size) := by
    have := HZ3.out
    show _ ≤ _
    simpa [World.setCell] using this
  have Y0 : (((w3.setCell ⟨w.heap.size, 0, none⟩ (.slice A b.length c)).setCell ⟨w.heap.size, 1, none⟩ (.int .i64 (p : Int))).setCell ⟨w.heap.size, 2, none⟩ (.int .i64 (m : Int))).cell? ⟨w.heap.size + 1, 0, none⟩ = some (.slice none 0 0) := cell_far (cell_far (cell_far y0 (by simp) _) (by simp) _) (by simp) _
  have Y1 : (((w3.setCell ⟨w.heap.size, 0, none⟩ (.slice A b.length c)).setCell ⟨w.heap.size, 1, none⟩ (.int .i64 (p : Int))).setCell ⟨w.heap.size, 2, none⟩ (.int .i64 (m : Int))).cell? ⟨w.heap.size + 1, 1, none⟩ = some (.int .i64 0) := cell_far (cell_far (cell_far y1 (by simp) _) (by simp) _) (by simp) _
  have Y2 : (((w3.setCell ⟨w.heap.size, 0, none⟩ (.slice A b.length c)).setCell ⟨w.heap.size, 1, none⟩ (.int .i64 (p : Int))).setCell ⟨w.heap.size, 2, none⟩ (.int .i64 (m : Int))).cell? ⟨w.heap.size + 1, 2, none⟩ = some (.int .i64 0) := cell_far (cell_far (cell_far y2 (by simp) _) (by simp) _) (by simp) _
  have F0 : (((w3.setCell ⟨w.heap.size, 0, none⟩ (.slice A b.length c)).setCell ⟨w.heap.size, 1, none⟩ (.int .i64 (p : Int))).setCell ⟨w.heap.size, 2, none⟩ (.int .i64 (m : Int))).frozen? ⟨w.heap.size + 1, 0, none⟩ = false := by go_simp
  have F1 : (((w3.setCell ⟨w.heap.size, 0, none⟩ (.slice A b.length c)).setCell ⟨w.heap.size, 1, none⟩ (.int .i64 (p : Int))).setCell ⟨w.heap.size, 2, none⟩ (.int .i64 (m : Int))).frozen? ⟨w.heap.size + 1, 1, none⟩ = false := by go_simp
  have F2 : (((w3.setCell ⟨w.heap.size, 0, none⟩ (.slice A b.length c)).setCell ⟨w.heap.size, 1, none⟩ (.int .i64 (p : Int))).setCell ⟨w.heap.size, 2, none⟩ (.int .i64 (m : Int))).frozen? ⟨w.heap.size + 1, 2, none⟩ = false := by go_simp
  clear x0 x1 x2 y0 y1 y2 f0 f1 f2 g0 g1 g2
  generalize (((w3.setCell ⟨w.heap.size, 0, none⟩ (.slice A b.length c)).setCell ⟨w.heap.size, 1, none⟩ (.int .i64 (p : Int))).setCell ⟨w.heap.size, 2, none⟩ (.int .i64 (m : Int))) = w4 at *
  refine (more_any A c b p m v _ hbig hpn (by omega) HR4.out).mono ?_
  rintro e w5 ⟨A5, c5, rfl, o5, b5⟩
  have O5 := Lib.hid o5
  have B5 := Lib.hid (below_step B4.out b5)
  have y0 := cell_below b5 Y0
  have y1 := cell_below b5 Y1
  have y2 := cell_below b5 Y2
  have f0 := frozen_below b5 Y0 F0
  have f1 := frozen_below b5 Y1 F1
  have f2 := frozen_below b5 Y2 F2
  clear b5 o5 Y0 Y1 Y2 F0 F1 F2
  go_wp2_with fail
  refine bodyPost_ret (v := .agg #[.slice A5 b.length c5, .int .i64 (p : Int), .int .i64 ((m : Int) + 1)]) (by simp [results, Try.results44, go_sem, y0, y1, y2]) rfl ?_
  exact ⟨A5, c5, p, HPl.out, rfl, (O5.out.out (by have := Z4.out; omega) _ _ _).rebase (by have := Z4.out; omega), ((B5.out.setCell (by simp) _).setCell (by simp) _).setCell (by simp) _⟩

set_option maxHeartbeats 1600000 in
theorem pop_no (A : Option Addr) (n c : Nat) (f m : Int) (w : World) (h : rightB n f m = false) :
    Calls Try.prog 25 #[.agg #[.slice A n c, .int .i64 f, .int .i64 m]] w fun e w' => e = .returned (.tuple #[.int .i64 0, .agg #[.slice A n c, .int .i64 f, .int .i64 m], .int .i64 1]) ∧ Below w.heap.size w w' := by
  have H := Lib.hid h
  clear h
  have T0 := Lib.hid (two_new w A n c f m)
  go_enter Try.func25, Try.ntmps25
  go_wp2_with fail
  generalize ((w.alloc (.cells #[.slice A n c, .int .i64 f, .int .i64 m] 52)).alloc (.cells #[.slice none 0 0, .int .i64 0, .int .i64 0] 52)) = w0 at *
  refine (right_any A n c f m _).mono ?_
  rintro e w1 ⟨rfl, b1⟩
  rw [H.out]
  have T1 := Lib.hid (T0.out.step b1)
  obtain ⟨⟨x0, x1, x2⟩, ⟨y0, y1, y2⟩, ⟨f0, f1, f2⟩, _, _, _⟩ := T1.out
  clear b1
  go_wp2_with fail
  go_region
  all_goals
    go_wp2_with fail
    refine bodyPost_ret (v := .tuple #[.int .i64 0, .agg #[.slice A n c, .int .i64 f, .int .i64 m], .int .i64 1]) (by simp [results, Try.results25, go_sem, y0, y1, y2]) rfl ?_
    exact ⟨rfl, Below.drew (T1.out.out _ _ _)⟩

set_option maxHeartbeats 1600000 in
theorem pop_none (A : Option Addr) (n c f : Nat) (w : World) (hf : f < n) :
    Calls Try.prog 25 #[.agg #[.slice A n c, .int .i64 (f : Int), .int .i64 0]] w fun e w' => e = .returned (.tuple #[.int .i64 0, .agg #[.slice A n c, .int .i64 (f : Int), .int .i64 0], .int .i64 4]) ∧ Below w.heap.size w w' := by
  have H : Hid (rightB n (f : Int) 0 = true) := rightB_of (M := 0) hf (Nat.zero_le _)
  have T0 := Lib.hid (two_new w A n c (f : Int) 0)
  go_enter Try.func25, Try.ntmps25
  go_wp2_with fail
  generalize ((w.alloc (.cells #[.slice A n c, .int .i64 (f : Int), .int .i64 0] 52)).alloc (.cells #[.slice none 0 0, .int .i64 0, .int .i64 0] 52)) = w0 at *
  refine (right_any A n c (f : Int) 0 _).mono ?_
  rintro e w1 ⟨rfl, b1⟩
  rw [H.out]
  have T1 := Lib.hid (T0.out.step b1)
  obtain ⟨⟨x0, x1, x2⟩, ⟨y0, y1, y2⟩, ⟨f0, f1, f2⟩, _, _, _⟩ := T1.out
  clear b1
  go_wp2_with fail
  go_region
  all_goals
    go_wp2_with fail
    refine bodyPost_ret (v := .tuple #[.int .i64 0, .agg #[.slice A n c, .int .i64 (f : Int), .int .i64 0], .int .i64 4]) (by simp [results, Try.results25, go_sem, y0, y1, y2]) rfl ?_
    exact ⟨rfl, Below.drew (T1.out.out _ _ _)⟩

end Rn
end Go.Proofs.Ytfkcplnjhelclaa

/-
  Layer 3 (ring): Pop of a message, List.
-/
namespace Go.Proofs.Ytfkcplnjhelclaa
open Go.RowKit
namespace Rn
attribute [local go_sem ↓] Go.wp_at_zero Go.wp_at_succ
attribute [local go_sem ↓] build_ring build_some build_none build_ref build_refSome

/-- the first message, and the ring without it -/
def PopOf (w : World) (A : Option Addr) (c : Nat) (b : List Int) (f m : Nat) (e : Ending) (w' : World) : Prop :=
  ∃ p : Nat, p = (f + 1) % b.length ∧ e = .returned (.tuple #[.int .i64 (at_ b f), .agg #[.slice A b.length c, .int .i64 (p : Int), .int .i64 (m : Int)], .int .i64 0]) ∧ Below w.heap.size w w'

set_option maxHeartbeats 1600000 in
theorem pop_some (A : Option Addr) (c : Nat) (b : List Int) (f m : Nat) (M : Int) (w : World) (hbig : b.length ≤ 100000) (hf : f < b.length) (hm : m < b.length) (hM : M = (m : Int) + 1) (hr : Rd w A c b) :
    Calls Try.prog 25 #[.agg #[.slice A b.length c, .int .i64 (f : Int), .int .i64 M]] w (PopOf w A c b f m) := by
  have H : Hid (rightB b.length (f : Int) M = true) := by
    have := rightB_of (n := b.length) (F := f) (M := m + 1) hf (by omega)
    rw [show ((m + 1 : Nat) : Int) = M from by omega] at this
    exact this
  have T0 := Lib.hid (two_new w A b.length c (f : Int) M)
  have hne : (M == 0) = false := beq_eq_false_iff_ne.2 (by omega)
  have hf0 : (0 : Int) ≤ (f : Int) := by omega
  have hf1 : (f : Int) < (b.length : Int) := by omega
  obtain ⟨B, off, rfl, hc⟩ := hr.2 (by omega)
  have hbw := lt_of_cell (hc f hf)
  have HC := Lib.hid (hc f hf)
  have HM := Lib.hid hM
  clear hr hc hM
  go_enter Try.func25, Try.ntmps25
  go_wp2_with fail
  generalize ((w.alloc (.cells #[.slice (some ⟨B, off, none⟩) b.length c, .int .i64 (f : Int), .int .i64 M] 52)).alloc (.cells #[.slice none 0 0, .int .i64 0, .int .i64 0] 52)) = w0 at *
  refine (right_any (some ⟨B, off, none⟩) b.length c (f : Int) M _).mono ?_
  rintro e w1 ⟨rfl, b1⟩
  rw [H.out]
  have T1 := Lib.hid (T0.out.step b1)
  obtain ⟨⟨x0, x1, x2⟩, _, _, _, HBw, _⟩ := T1.out
  have x3 := cell_below HBw HC.out
  clear b1 HBw
  go_wp2_with fail
  go_region_held3 (fun w' => w'.cell? ⟨w.heap.size, 0, none⟩ = some (.slice (some ⟨B, off, none⟩) b.length c) ∧ w'.cell? ⟨w.heap.size, 1, none⟩ = some (.int .i64 (f : Int)) ∧ w'.cell? ⟨w.heap.size, 2, none⟩ = some (.int .i64 M) ∧ w'.cell? ⟨B, off + f, none⟩ = some (.int .i64 (at_ b f)) ∧ Hid (Below w.heap.size w w'))
    (first
      | (exact ⟨cell_far (cell_far (cell_far z0 (by simp) _) (by simp) _) (by simp) _, cell_far (cell_far (cell_far z1 (by simp) _) (by simp) _) (by simp) _, cell_far (cell_far (cell_far z2 (by simp) _) (by simp) _) (by simp) _, cell_far (cell_far (cell_far z3 (by simp; omega) _) (by simp; omega) _) (by simp; omega) _, T2.out.out _ _ _⟩)
      | (exact ⟨z0, z1, z2, z3, T2.out.2.2.2.2.1⟩)
      | (exact ⟨x0, x1, x2, x3, T1.out.2.2.2.2.1.drew⟩))
    (first
      | (go_at_call 42; refine (less_any (some ⟨B, off, none⟩) b.length c f m _ _ (by omega) hf hm HM.out).mono ?_; rintro e w2 ⟨p, rfl, hp, b2⟩
         have HPl := Lib.hid hp
         have T2 := Lib.hid (T1.out.step ((Below.refl _ w1).drew.trans b2))
         obtain ⟨⟨z0, z1, z2⟩, ⟨y0, y1, y2⟩, ⟨f0, f1, f2⟩, _, HBw, _⟩ := T2.out
         have z3 := cell_below HBw HC.out
         clear hp b2 HBw))
  go_split_ands
  go_wp2_with fail
  refine bodyPost_ret (v := .tuple #[.int .i64 (at_ b f), .agg #[.slice (some ⟨B, off, none⟩) b.length c, .int .i64 (p : Int), .int .i64 (m : Int)], .int .i64 0]) (by simp [results, Try.results25, go_sem, y0, y1, y2]) rfl ?_
  exact ⟨p, HPl.out, rfl, T2.out.out _ _ _⟩

theorem list_no (A : Option Addr) (n c : Nat) (f m : Int) (w : World) (h : rightB n f m = false) :
    Calls Try.prog 30 #[.agg #[.slice A n c, .int .i64 f, .int .i64 m]] w fun e w' => e = .returned (.slice none 0 0) ∧ Below w.heap.size w w' := by
  have H := Lib.hid h
  have B0 : Hid (Below w.heap.size w (w.alloc (.cells #[.slice A n c, .int .i64 f, .int .i64 m] 52))) := below_one _ _
  clear h
  go_enter Try.func30, Try.ntmps30
  go_wp2_with fail
  refine (right_any A n c f m _).mono ?_
  rintro e w1 ⟨rfl, b1⟩
  rw [H.out]
  have B1 := Lib.hid (below_step B0.out b1)
  clear b1
  go_wp2_with fail
  go_ret
  exact ⟨rfl, B1.out⟩

/-- the messages, in new memory -/
def ListOf (w : World) (l : List Int) (e : Ending) (w' : World) : Prop :=
  ∃ (A : Option Addr) (c : Nat), e = .returned (.slice A l.length c) ∧ Ow w' w.heap.size A c l ∧ Below w.heap.size w w'
/-- the loop: the first k messages are there -/
def ListRel (w : World) (g : Nat) (A : Option Addr) (c : Nat) (b : List Int) (f m k : Nat) (l : List Int) (wr : World) : Prop :=
  k ≤ m ∧ l.length = m ∧ (∀ j, j < k → at_ l j = at_ (msgs b f m) j) ∧ Ow wr (w.heap.size + 1) (some ⟨g, 0, none⟩) m l ∧ Below w.heap.size w wr ∧
    wr.cell? ⟨w.heap.size, 0, none⟩ = some (.slice A b.length c) ∧ wr.cell? ⟨w.heap.size, 1, none⟩ = some (.int .i64 (f : Int)) ∧ wr.cell? ⟨w.heap.size, 2, none⟩ = some (.int .i64 (m : Int))

set_option maxHeartbeats 3200000 in
theorem list_some (A : Option Addr) (c : Nat) (b : List Int) (f m : Nat) (w : World) (hbig : b.length ≤ 100000) (hf : f < b.length) (hm : m ≤ b.length) (hr : Rd w A c b) :
    Calls Try.prog 30 #[.agg #[.slice A b.length c, .int .i64 (f : Int), .int .i64 (m : Int)]] w (ListOf w (msgs b f m)) := by
  have H := Lib.hid (rightB_of hf hm)
  have B0 : Hid (Below w.heap.size w (w.alloc (.cells #[.slice A b.length c, .int .i64 (f : Int), .int .i64 (m : Int)] 52))) := below_one _ _
  have Z0 : Hid ((w.alloc (.cells #[.slice A b.length c, .int .i64 (f : Int), .int .i64 (m : Int)] 52)).heap.size = w.heap.size + 1) := by show _ = _; simp
  have x0 : (w.alloc (.cells #[.slice A b.length c, .int .i64 (f : Int), .int .i64 (m : Int)] 52)).cell? ⟨w.heap.size, 0, none⟩ = some (.slice A b.length c) := by go_simp
  have x1 : (w.alloc (.cells #[.slice A b.length c, .int .i64 (f : Int), .int .i64 (m : Int)] 52)).cell? ⟨w.heap.size, 1, none⟩ = some (.int .i64 (f : Int)) := by go_simp
  have x2 : (w.alloc (.cells #[.slice A b.length c, .int .i64 (f : Int), .int .i64 (m : Int)] 52)).cell? ⟨w.heap.size, 2, none⟩ = some (.int .i64 (m : Int)) := by go_simp
  have hm0 : (0 : Int) ≤ (m : Int) := by omega
  obtain ⟨B, off, rfl, hc⟩ := hr.2 (by omega)
  have hbw := lt_of_cell (hc f hf)
  have HC := Lib.hid hc
  clear hr hc
  go_enter Try.func30, Try.ntmps30
  go_wp2_with fail
  generalize (w.alloc (.cells #[.slice (some ⟨B, off, none⟩) b.length c, .int .i64 (f : Int), .int .i64 (m : Int)] 52)) = w0 at *
  refine (right_any (some ⟨B, off, none⟩) b.length c (f : Int) (m : Int) _).mono ?_
  rintro e w1 ⟨rfl, b1⟩
  rw [H.out]
  have X0 := cell_below b1 x0
  have X1 := cell_below b1 x1
  have X2 := cell_below b1 x2
  have B1 := Lib.hid (below_step B0.out b1)
  have Z1 : Hid (w.heap.size + 1 ≤ w1.heap.size) := by show _ ≤ _; rw [← Z0.out]; exact b1.size
  clear b1 x0 x1 x2
  go_wp2_with (at_make; refine list_mk rfl _ _ rfl (base := w.heap.size + 1) m rfl rfl (by omega) (by exact Z1.out) ?_)
  intro w2 k1 k2
  have b2 : Below w1.heap.size w1 w2 := (Below.refl _ _).grown k2 (Nat.le_refl _) (fun k hk => by cases hk)
  have O2 := Lib.hid k1
  have x0 := cell_below b2 X0
  have x1 := cell_below b2 X1
  have x2 := cell_below b2 X2
  have B2 := Lib.hid (below_step B1.out b2)
  clear b2 k1 k2 X0 X1 X2
  generalize hg : w1.heap.size = g at *
  go_wp2_with fail
  go_loopw [13] (fun i wr => ∃ (k : Nat) (l : List Int), i = .int .i64 (k : Int) ∧ ListRel w g (some ⟨B, off, none⟩) c b f m k l wr) (fun i _ => m - (intOf i).toNat)
  case atStart => exact ⟨0, zeros m, rfl, Nat.zero_le _, zeros_length m, fun j hj => by omega, O2.out, B2.out, x0, x1, x2⟩
  case round =>
    obtain ⟨k, l, rfl, hk, hl, hall, ho, hb, X0, X1, X2⟩ := hrel
    have HL := Lib.hid hl
    have HA := Lib.hid hall
    have HO := Lib.hid ho
    have HB := Lib.hid hb
    clear hl hall ho hb x0 x1 x2 O2
    by_cases hlt : k < m
    · have q0 : (0 : Int) ≤ (k : Int) := by omega
      have q1 : (k : Int) < (m : Int) := by omega
      have q2 : IntKind.i64.wrap ((k : Int) + 1) = (k : Int) + 1 := IntWalk.i64_in _ (by omega)
      have HP : ∃ p, Hid (p = (f + k) % b.length) := ⟨_, rfl⟩
      obtain ⟨P, HP⟩ := HP
      have hPn : P < b.length := by rw [HP.out]; exact place_lt _ (by omega)
      have q3 : (0 : Int) ≤ (P : Int) := by omega
      have q4 : (P : Int) < (b.length : Int) := by omega
      have X3 := cell_below HB.out (HC.out P hPn)
      have hg1 : w.heap.size + 1 ≤ g := Z1.out
      have hgl : g < wr.heap.size := HO.out.new g rfl
      have g1 := HO.out.cell k (by rw [HL.out]; exact hlt)
      have g2 := World.ownsRow.frozenAt HO.out k
      have n0 : w.heap.size ≠ g := by omega
      have n3 : B ≠ g := by have hbw' : B < w.heap.size := hbw; omega
      go_wp2_with fail
      go_region_held3 (fun w' => w'.cell? ⟨w.heap.size, 0, none⟩ = some (.slice (some ⟨B, off, none⟩) b.length c) ∧ w'.cell? ⟨w.heap.size, 1, none⟩ = some (.int .i64 (f : Int)) ∧ w'.cell? ⟨w.heap.size, 2, none⟩ = some (.int .i64 (m : Int)) ∧ w'.cell? ⟨B, off + P, none⟩ = some (.int .i64 (at_ b P)))
        (first
          | (exact ⟨cell_far z0 n0 _, cell_far z1 n0 _, cell_far z2 n0 _, cell_far z3 n3 _⟩)
          | (exact ⟨z0, z1, z2, z3⟩)
          | (exact ⟨X0, X1, X2, X3⟩))
        (first
          | (go_at_call 43; refine (place_any (some ⟨B, off, none⟩) b.length c f k _ _ _ (by omega) hf (by omega) rfl).mono ?_; rintro e w3 ⟨p, rfl, hp, b3⟩
             have hpP : p = P := hp.trans HP.out.symm
             subst hpP
             have b3' : Below wr.heap.size wr w3 := (Below.refl _ wr).drew.trans b3
             have z0 := cell_below b3' X0
             have z1 := cell_below b3' X1
             have z2 := cell_below b3' X2
             have z3 := cell_below b3' X3
             have e1 := cell_below b3' g1
             have e2 := frozen_below b3' g1 g2
             have HB3 := Lib.hid (below_step HB.out b3')
             have HO3 := Lib.hid (HO.out.below b3' (Nat.le_refl _))
             clear hp b3 b3'))
      go_split_ands
      have HB4 : Hid (Below w.heap.size w (w3.setCell ⟨g, k, none⟩ (.int .i64 (at_ b p)))) := HB3.out.setCell (by show w.heap.size ≤ g; omega) _
      have HO4 := Lib.hid (HO3.out.put k (at_ b p)).1
      have HL4 : Hid ((l.set k (at_ b p)).length = m) := by show List.length _ = _; rw [List.length_set]; exact HL.out
      have HA4 : Hid (∀ j, j < k + 1 → at_ (l.set k (at_ b p)) j = at_ (msgs b f m) j) := by
        intro j hj
        rw [at_set _ _ _ _ (by rw [HL.out]; exact hlt)]
        split
        · rename_i e
          rw [e, msgs_at _ _ _ _ hlt, HP.out]
        · exact HA.out j (by omega)
      have W0 := cell_far (p := ⟨g, k, none⟩) z0 n0 (.int .i64 (at_ b p))
      have W1 := cell_far (p := ⟨g, k, none⟩) z1 n0 (.int .i64 (at_ b p))
      have W2 := cell_far (p := ⟨g, k, none⟩) z2 n0 (.int .i64 (at_ b p))
      clear z0 z1 z2 z3 e1 e2 HO3 HB3 X0 X1 X2 X3 g1 g2
      generalize l.set k (at_ b p) = l' at *
      generalize w3.setCell ⟨g, k, none⟩ (.int .i64 (at_ b p)) = w4 at *
      go_wp2_with fail
      go_roundw
      case rel => exact ⟨k + 1, l', by go_num, by omega, HL4.out, HA4.out, HO4.out, HB4.out, W0, W1, W2⟩
      case measure => simp [intOf]; omega
    · have hkm : k = m := by omega
      subst hkm
      have hlm : l = msgs b f k := list_ext (by rw [HL.out, msgs_length]) (fun i hi => HA.out i (by rw [HL.out] at hi; exact hi))
      have HLM := Lib.hid hlm
      clear hlm
      go_wp2_with fail
      go_ret
      refine ⟨some ⟨g, 0, none⟩, k, by rw [msgs_length]; rfl, ?_, HB.out⟩
      rw [← HLM.out]
      exact HO.out.rebase (by omega)

end Rn
end Go.Proofs.Ytfkcplnjhelclaa

