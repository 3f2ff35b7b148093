/-
  Memory, for every layer: an argument that can be read as data reads as a list, a struct, .. of Lean's (ints, bools, structs, slices, in whatever nesting).
-/
import Derived.Test.YtldiplnccgoeiaaMem
import Derived.ProofKit
import Derived.OpenShut
import Derived.ChangeOld
import Derived.Carry
import Derived.Deep.SlicePairs
import Derived.Lib.SmallJoins
import Derived.Deep.Grids
namespace Go.Proofs.Ytldiplnccgoeiaa
open Go.ChangeShapes Go.WideShapes Go.ChangeAt Go.RowKit Go.Deep Go.Joins
namespace Mm

/-- what can be read at a type reads as an α -/
def Opens (P : Program) (t : TypeId) (α : Type) [Dat α] : Prop :=
  P.cellsOf t = Dat.k α ∧ ∀ (H : Type) (enc : TypeId × Value → H) (w : World) (base : Nat) (spare : Nat → Bool) (held : Bool) (fuel : Nat) (cs : List Value) (y : DataW H × List MemPlace),
    DataW.trod enc P w base spare held fuel t cs = some y → ∃ x : α, Dat.rd w (fun _ => True) cs x

theorem opens_int {P : Program} {t : TypeId} (ht : P.underlying t = some (.int .i64)) (hc : P.cellsOf t = 1) : Opens P t Int := by
  refine ⟨hc, fun H enc w base spare held fuel cs y h => ?_⟩
  obtain ⟨n, rfl, _, hw⟩ := DataW.trod_int ht h
  exact ⟨n, rfl, bounds_i64 hw⟩
theorem opens_bool {P : Program} {t : TypeId} (ht : P.underlying t = some .bool) (hc : P.cellsOf t = 1) : Opens P t Bool := by
  refine ⟨hc, fun H enc w base spare held fuel cs y h => ?_⟩
  obtain ⟨b, rfl, _⟩ := DataW.trod_bool ht h
  exact ⟨b, rfl⟩

theorem opens_slice {P : Program} {t e : TypeId} {α : Type} [Inhabited α] [Dat α] (ht : P.underlying t = some (.slice e)) (hc : P.cellsOf t = 1) (he : Opens P e α) : Opens P t (List α) := by
  refine ⟨hc, fun H enc w base spare held fuel cs y h => ?_⟩
  rcases open_slice ht h with ⟨rfl, _⟩ | ⟨a, len, cap, m, n, D, Pl, rfl, hb, hl, hm, hmm, _, hx⟩
  · exact ⟨[], none, 0, rfl, rd_nil (fun _ => rfl) (Nat.zero_le _)⟩
  · have hlm : len ≤ m := by rw [hmm]; split <;> omega
    have hk := he.1
    have each : ∀ i, i < len → ∃ x : α, ∃ vs, Dat.rd w (fun _ => True) vs x ∧ ∀ j v, vs[j]? = some v → w.cell? (a.add (i * Dat.k α + j)) = some v := by
      intro i hi
      obtain ⟨cs', h1, h2⟩ := hx i (by omega)
      obtain ⟨x, hx⟩ := he.2 _ _ _ _ _ _ _ _ _ h2
      obtain ⟨_, hlen, hcell⟩ := World.cells?_some h1
      refine ⟨x, cs', hx, fun j v hv => ?_⟩
      have hj : j < cs'.length := by
        rcases Nat.lt_or_ge j cs'.length with h | h
        · exact h
        · rw [List.getElem?_eq_none h] at hv; cases hv
      have := hcell j (by omega)
      rw [add_add, hk] at this
      rw [this, hv]
    obtain ⟨f, hf⟩ := choose_lt each
    refine ⟨(List.range len).map f, some a, cap, by simp, fun h => (by cases h), ⟨by simpa using hl, hm⟩, fun h0 => ?_⟩
    have hl0 : 0 < len := by simpa using h0
    have ea : a = ⟨a.block, a.off, none⟩ := by
      obtain ⟨vs, h1, h2⟩ := hf 0 hl0
      have hp := Dat.pos (α := α)
      have hlen := Dat.len h1
      have := h2 0 (vs[0]'(by omega)) (by simp)
      obtain ⟨b, o, s⟩ := a
      cases s with
      | none => rfl
      | some s => unfold World.cell? at this; split at this <;> simp [Addr.add] at this
    refine ⟨a.block, a.off, by rw [← ea], trivial, fun j hj => ?_⟩
    have hj' : j < len := by simpa using hj
    obtain ⟨vs, h1, h2⟩ := hf j hj'
    have e1 : at_ ((List.range len).map f) j = f j := by simp [at_, List.getD_eq_getElem?_getD, hj']
    refine ⟨vs, by rw [e1]; exact h1, fun i v hv => ?_⟩
    have := h2 i v hv
    rw [ea, add_plain] at this
    rw [Nat.add_assoc]
    exact this

/-- the fields of a struct, from a place on -/
def FieldsOpen (P : Program) (o : Nat) (fs : List Field) (α : Type) [Dat α] : Prop :=
  ∀ (H : Type) (enc : TypeId × Value → H) (w : World) (base : Nat) (spare : Nat → Bool) (held : Bool) (n : Nat) (cs : List Value),
    (∀ f ∈ fs, ∃ y, DataW.trod enc P w base spare held n f.type ((cs.drop f.offset).take (P.cellsOf f.type)) = some y) → ∃ x : α, Dat.rd w (fun _ => True) ((cs.drop o).take (Dat.k α)) x
theorem fieldsOpen_one {P : Program} {o : Nat} {f : Field} {α : Type} [Dat α] (ho : f.offset = o) (h : Opens P f.type α) : FieldsOpen P o [f] α := by
  intro H enc w base spare held n cs hy
  obtain ⟨y, hy⟩ := hy f (by simp)
  rw [ho, h.1] at hy
  exact h.2 _ _ _ _ _ _ _ _ _ hy
theorem fieldsOpen_cons {P : Program} {o : Nat} {f : Field} {fs : List Field} {α β : Type} [Dat α] [Dat β] (ho : f.offset = o) (h : Opens P f.type α) (hr : FieldsOpen P (o + Dat.k α) fs β) : FieldsOpen P o (f :: fs) (α × β) := by
  intro H enc w base spare held n cs hy
  obtain ⟨y, hy1⟩ := hy f (by simp)
  rw [ho, h.1] at hy1
  obtain ⟨x, hx⟩ := h.2 _ _ _ _ _ _ _ _ _ hy1
  obtain ⟨z, hz⟩ := hr H enc w base spare held n cs (fun g hg => hy g (by simp [hg]))
  refine ⟨(x, z), _, _, ?_, hx, hz⟩
  show (cs.drop o).take (Dat.k α + Dat.k β) = _
  rw [List.take_add, List.drop_drop]
theorem opens_struct {P : Program} {t : TypeId} {fs : Array Field} {α : Type} [Dat α] (ht : P.underlying t = some (.struct fs)) (hk : P.cellsOf t = Dat.k α) (h : FieldsOpen P 0 fs.toList α) : Opens P t α := by
  refine ⟨hk, fun H enc w base spare held fuel cs y hh => ?_⟩
  obtain ⟨xs, n, _, _, hl, hx, hf⟩ := DataW.trod_struct ht hh
  obtain ⟨x, hx'⟩ := h H enc w base spare held n cs (fun f hf' => by
    obtain ⟨i, hi, e⟩ := List.mem_iff_getElem.1 hf'
    have hi' : i < fs.size := by simpa using hi
    have := hf i f (by simp at e; rw [← e]; simp [hi'])
    have hxi : xs[i]? = some (xs[i]'(by omega)) := List.getElem?_eq_getElem (by omega)
    rw [hxi] at this
    exact ⟨_, this⟩)
  refine ⟨x, ?_⟩
  rw [List.drop_zero, List.take_of_length_le (by omega)] at hx'
  exact hx'

section
variable {H : Type} {enc : TypeId × Value → H} {P : Program} {w : World} {base : Nat} {spare : Nat → Bool} {held : Bool}
theorem open_list {α : Type} [Inhabited α] [Dat α] {t e : TypeId} (ht : P.underlying t = some (.slice e)) (ho : Opens P t (List α)) {r : Reach} {b0 : Nat} {v : Value} {d : DataW H} {ps : List MemPlace} (hv : Value.okWide P w r b0 t v) (h : DataW.Trod enc P w base spare held t v d ps) :
    ∃ (A : Option Addr) (c : Nat) (l : List α), v = .slice A l.length c ∧ Rd w A c l := by
  obtain ⟨A, n, c, rfl⟩ := okWide_slice ht hv
  obtain ⟨fuel, hf⟩ := h
  obtain ⟨l, A', c', e, hr⟩ := ho.2 _ _ _ _ _ _ _ _ _ hf
  have e' : Value.slice A n c = .slice A' l.length c' := by simpa [Value.cells] using e
  exact ⟨A', c', l, e', hr⟩
theorem open_strct {α : Type} [Dat α] {t : TypeId} {fs : Array Field} (ht : P.underlying t = some (.struct fs)) (ho : Opens P t α) {r : Reach} {b0 : Nat} {v : Value} {d : DataW H} {ps : List MemPlace} (hv : Value.okWide P w r b0 t v) (h : DataW.Trod enc P w base spare held t v d ps) :
    ∃ (cs : List Value) (x : α), v = .agg cs.toArray ∧ Dat.rd w (fun _ => True) cs x := by
  obtain ⟨cs, rfl, _⟩ := okWide_struct ht hv
  obtain ⟨fuel, hf⟩ := h
  obtain ⟨x, hx⟩ := ho.2 _ _ _ _ _ _ _ _ _ hf
  exact ⟨cs.toList, x, by simp, by simpa [Value.cells] using hx⟩
theorem open_u8' {t : TypeId} (ht : P.underlying t = some (.int .u8)) {r : Reach} {b0 : Nat} {v : Value} {d : DataW H} {ps : List MemPlace} (hv : Value.okWide P w r b0 t v) (h : DataW.Trod enc P w base spare held t v d ps) :
    ∃ n : Nat, v = .int .u8 n ∧ n < 256 := by
  obtain ⟨a, rfl, _, _, hw⟩ := open_int ht hv h
  have hb : 0 ≤ a ∧ a ≤ 255 := by simpa [Lit.wf, IntKind.min, IntKind.max, IntKind.signed, IntKind.bits] using hw
  exact ⟨a.toNat, by rw [Int.toNat_of_nonneg hb.1], by omega⟩
theorem open_num' {t : TypeId} (ht : P.underlying t = some (.int .i64)) {r : Reach} {b0 : Nat} {v : Value} {d : DataW H} {ps : List MemPlace} (hv : Value.okWide P w r b0 t v) (h : DataW.Trod enc P w base spare held t v d ps) :
    ∃ n : Int, v = .int .i64 n ∧ Fit n := by
  obtain ⟨a, rfl, _, _, hw⟩ := open_int ht hv h
  exact ⟨a, rfl, bounds_i64 hw⟩
theorem open_flag' {t : TypeId} (ht : P.underlying t = some .bool) {r : Reach} {b0 : Nat} {v : Value} {d : DataW H} {ps : List MemPlace} (hv : Value.okWide P w r b0 t v) (h : DataW.Trod enc P w base spare held t v d ps) :
    ∃ b : Bool, v = .bool b := by
  obtain ⟨fuel, hf⟩ := h
  obtain ⟨b, e, _⟩ := DataW.trod_bool ht hf
  refine ⟨b, ?_⟩
  cases v <;> simp [Value.cells] at e <;> first | (rw [e]) | skip
  all_goals simp_all [Value.okWide, Cell.okWide, Cell.ok]
end

theorem own : ownKnob Try.prog.godebug = none := by kernel_rfl
theorem laidOut : laidOutB Try.prog = true := by kernel_rfl

theorem trodAll_five {H : Type} {enc : TypeId × Value → H} {P : Program} {w : World} {base : Nat} {spare : Nat → Bool} {held : Bool} {t0 t1 t2 t3 t4 : TypeId} {args : Array Value} {ds : List (DataW H)} {ps : List MemPlace} (h : DataW.TrodAll enc P w base spare held [t0, t1, t2, t3, t4] args.toList ds ps) :
    ∃ v0 v1 v2 v3 v4 d0 d1 d2 d3 d4 p0 p1 p2 p3 p4, args = #[v0, v1, v2, v3, v4] ∧ ds = [d0, d1, d2, d3, d4] ∧ ps = p0 ++ p1 ++ p2 ++ p3 ++ p4 ∧ DataW.Trod enc P w base spare held t0 v0 d0 p0 ∧ DataW.Trod enc P w base spare held t1 v1 d1 p1 ∧ DataW.Trod enc P w base spare held t2 v2 d2 p2 ∧ DataW.Trod enc P w base spare held t3 v3 d3 p3 ∧ DataW.Trod enc P w base spare held t4 v4 d4 p4 := by
  obtain ⟨v0, vs, d0, ds0, p0, q0, hargs, rfl, rfl, h0, r0⟩ := trodAll_cons h
  obtain ⟨v1, vs1, d1, ds1, p1, q1, rfl, rfl, rfl, h1, r1⟩ := trodAll_cons r0
  obtain ⟨v2, vs2, d2, ds2, p2, q2, rfl, rfl, rfl, h2, r2⟩ := trodAll_cons r1
  obtain ⟨v3, vs3, d3, ds3, p3, q3, rfl, rfl, rfl, h3, r3⟩ := trodAll_cons r2
  obtain ⟨v4, vs4, d4, ds4, p4, q4, rfl, rfl, rfl, h4, r4⟩ := trodAll_cons r3
  obtain ⟨rfl, rfl, rfl⟩ := trodAll_nil r4
  exact ⟨v0, v1, v2, v3, v4, d0, d1, d2, d3, d4, p0, p1, p2, p3, p4, by cases args; simp_all, rfl, by simp, h0, h1, h2, h3, h4⟩
theorem trodAll_four' {H : Type} {enc : TypeId × Value → H} {P : Program} {w : World} {base : Nat} {spare : Nat → Bool} {held : Bool} {t0 t1 t2 t3 : TypeId} {args : Array Value} {ds : List (DataW H)} {ps : List MemPlace} (h : DataW.TrodAll enc P w base spare held [t0, t1, t2, t3] args.toList ds ps) :
    ∃ v0 v1 v2 v3 d0 d1 d2 d3 p0 p1 p2 p3, args = #[v0, v1, v2, v3] ∧ ds = [d0, d1, d2, d3] ∧ ps = p0 ++ p1 ++ p2 ++ p3 ∧ DataW.Trod enc P w base spare held t0 v0 d0 p0 ∧ DataW.Trod enc P w base spare held t1 v1 d1 p1 ∧ DataW.Trod enc P w base spare held t2 v2 d2 p2 ∧ DataW.Trod enc P w base spare held t3 v3 d3 p3 := by
  obtain ⟨v0, vs, d0, ds0, p0, q0, hargs, rfl, rfl, h0, r0⟩ := trodAll_cons h
  obtain ⟨v1, vs1, d1, ds1, p1, q1, rfl, rfl, rfl, h1, r1⟩ := trodAll_cons r0
  obtain ⟨v2, vs2, d2, ds2, p2, q2, rfl, rfl, rfl, h2, r2⟩ := trodAll_cons r1
  obtain ⟨v3, vs3, d3, ds3, p3, q3, rfl, rfl, rfl, h3, r3⟩ := trodAll_cons r2
  obtain ⟨rfl, rfl, rfl⟩ := trodAll_nil r3
  exact ⟨v0, v1, v2, v3, d0, d1, d2, d3, p0, p1, p2, p3, by cases args; simp_all, rfl, by simp, h0, h1, h2, h3⟩
theorem trodAll_mk5 {H : Type} {enc : TypeId × Value → H} {P : Program} {w : World} {base : Nat} {spare : Nat → Bool} {held : Bool} {t0 t1 t2 t3 t4 : TypeId} {v0 v1 v2 v3 v4 : Value} {d0 d1 d2 d3 d4 : DataW H} {p0 p1 p2 p3 p4 : List MemPlace}
    (h0 : DataW.Trod enc P w base spare held t0 v0 d0 p0) (h1 : DataW.Trod enc P w base spare held t1 v1 d1 p1) (h2 : DataW.Trod enc P w base spare held t2 v2 d2 p2) (h3 : DataW.Trod enc P w base spare held t3 v3 d3 p3) (h4 : DataW.Trod enc P w base spare held t4 v4 d4 p4) :
    DataW.TrodAll enc P w base spare held [t0, t1, t2, t3, t4] [v0, v1, v2, v3, v4] [d0, d1, d2, d3, d4] (p0 ++ (p1 ++ (p2 ++ (p3 ++ p4)))) := ⟨p0, p1 ++ (p2 ++ (p3 ++ p4)), h0, trodAll_mk4 h1 h2 h3 h4, rfl⟩

end Mm
end Go.Proofs.Ytldiplnccgoeiaa
