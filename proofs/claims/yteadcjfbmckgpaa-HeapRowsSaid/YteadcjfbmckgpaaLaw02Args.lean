/-
  Layer 2: the arguments of the statements, opened: a slice of items, an item, a slice of bools.
-/
import Derived.Test.YteadcjfbmckgpaaLaw02Knows
import Derived.ProofKit
import Derived.OpenShut
import Derived.ChangeOld
import Derived.Carry
import Derived.Deep.SlicePairs
import Derived.Lib.SmallJoins
import Derived.Deep.Grids
namespace Go.Proofs.Yteadcjfbmckgpaa
open Go.ChangeShapes Go.WideShapes Go.ChangeAt Go.RowKit Go.Deep Go.Joins
namespace Hp

theorem own : ownKnob Try.prog.godebug = none := by kernel_rfl
theorem laidOut : laidOutB Try.prog = true := by kernel_rfl
theorem cellsIt : Try.prog.cellsOf 24 = 2 := by kernel_rfl
theorem cellsBool : Try.prog.cellsOf 4 = 1 := by kernel_rfl
theorem cellsInt : Try.prog.cellsOf 3 = 1 := by kernel_rfl

theorem plain_addr {w : World} {a : Addr} {v : Value} (h : w.cell? a = some v) : a = ⟨a.block, a.off, none⟩ := by
  obtain ⟨b, o, s⟩ := a
  cases s with
  | none => rfl
  | some s =>
    unfold World.cell? at h
    split at h <;> simp at h

section
variable {H : Type} {enc : TypeId × Value → H} {w : World} {base : Nat} {spare : Nat → Bool} {held : Bool}

theorem open_items {r : Reach} {b0 : Nat} {v : Value} {d : DataW H} {ps : List MemPlace} (hv : Value.okWide Try.prog w r b0 22 v) (h : DataW.Trod enc Try.prog w base spare held 22 v d ps) :
    ∃ (A : Option Addr) (c : Nat) (l : List It), v = .slice A l.length c ∧ l.length ≤ c ∧ c ≤ maxLen ∧ Rd w A c l := by
  obtain ⟨A, n, c, rfl⟩ := okWide_slice Try.underlying22 hv
  obtain ⟨fuel, hf⟩ := h
  rcases open_slice_pairs Try.underlying22 Try.underlying24 cellsIt rfl rfl cellsInt cellsInt hf with ⟨h1, _⟩ | ⟨a, len, cap, m, k, V0, V1, D0, D1, P0, P1, h1, _, hl, hm, hmm, _, hc⟩
  · have e : Value.slice A n c = .slice none 0 0 := by simpa [Value.cells] using h1
    injection e with e1 e2 e3
    subst e1; subst e2; subst e3
    exact ⟨none, 0, [], rfl, by simp, by simp, Rd.nil _⟩
  · have e : Value.slice A n c = .slice (some a) len cap := by simpa [Value.cells] using h1
    injection e with e1 e2 e3
    subst e1; subst e2; subst e3
    have hlm : n ≤ m := by rw [hmm]; split <;> omega
    refine ⟨some a, c, (List.range n).map (fun i => (intOf (V0 i), intOf (V1 i))), by simp, by simpa using hl, hm, fun h => (by cases h), fun h0 => ?_⟩
    have hn0 : 0 < n := by simpa using h0
    have h00 := (hc 0 (by omega)).1
    have ea : a = ⟨a.block, a.off, none⟩ := by
      have := plain_addr (w := w) (a := a) (v := V0 0) (by simpa [Addr.add] using h00)
      exact this
    refine ⟨a.block, a.off, by rw [← ea], fun j hj => ?_⟩
    have hj' : j < n := by simpa using hj
    obtain ⟨c1, c2, t1, t2⟩ := hc j (by omega)
    obtain ⟨n1, e1, _, _⟩ := DataW.trod_int Try.underlying3 t1
    obtain ⟨n2, e2, _, _⟩ := DataW.trod_int Try.underlying3 t2
    have e1' : V0 j = .int .i64 n1 := by injection e1
    have e2' : V1 j = .int .i64 n2 := by injection e2
    rw [ea, add_plain] at c1 c2
    have ej : at_ ((List.range n).map (fun i => (intOf (V0 i), intOf (V1 i)))) j = (n1, n2) := by
      simp [at_, List.getD_eq_getElem?_getD, hj', e1', e2', intOf]
    rw [ej]
    exact ⟨by rw [← e1']; exact c1, by rw [← e2']; exact c2⟩

theorem open_item {r : Reach} {b0 : Nat} {v : Value} {d : DataW H} {ps : List MemPlace} (hv : Value.okWide Try.prog w r b0 24 v) (h : DataW.Trod enc Try.prog w base spare held 24 v d ps) :
    ∃ x : It, v = .agg #[.int .i64 x.1, .int .i64 x.2] := by
  obtain ⟨v0, v1, y0, y1, n, rfl, _, _, t0, t1⟩ := open_agg2 Try.underlying24 (by kernel_rfl) cellsIt hv h
  obtain ⟨n0, e0, _, _⟩ := DataW.trod_int Try.underlying3 t0
  obtain ⟨n1, e1, _, _⟩ := DataW.trod_int Try.underlying3 t1
  have e0' : v0 = .int .i64 n0 := by injection e0
  have e1' : v1 = .int .i64 n1 := by injection e1
  exact ⟨(n0, n1), by rw [e0', e1']⟩

theorem open_u8 {r : Reach} {b0 : Nat} {v : Value} {d : DataW H} {ps : List MemPlace} (hv : Value.okWide Try.prog w r b0 5 v) (h : DataW.Trod enc Try.prog w base spare held 5 v d ps) :
    ∃ n : Nat, v = .int .u8 n ∧ n < 256 := by
  obtain ⟨a, rfl, _, _, hw⟩ := open_int Try.underlying5 hv h
  have hb : 0 ≤ a ∧ a ≤ 255 := by simpa [Lit.wf, IntKind.min, IntKind.max, IntKind.signed, IntKind.bits] using hw
  exact ⟨a.toNat, by rw [Int.toNat_of_nonneg hb.1], by omega⟩

/-- the slice at A reads as these bools -/
def RdB (w : World) (A : Option Addr) (l : List Bool) : Prop :=
  0 < l.length → ∃ b off, A = some ⟨b, off, none⟩ ∧ ∀ j, j < l.length → w.cell? ⟨b, off + j, none⟩ = some (.bool (l.getD j false))
theorem RdB.below {w w' : World} {A : Option Addr} {l : List Bool} (h : RdB w A l) (hb : Below w.heap.size w w') : RdB w' A l := fun h0 => by
  obtain ⟨b, off, e, hc⟩ := h h0
  exact ⟨b, off, e, fun j hj => (hb.cell (lt_of_cell (hc j hj))).trans (hc j hj)⟩

theorem open_flags {r : Reach} {b0 : Nat} {v : Value} {d : DataW H} {ps : List MemPlace} (hv : Value.okWide Try.prog w r b0 42 v) (h : DataW.Trod enc Try.prog w base (fun _ => true) held 42 v d ps) :
    ∃ (A : Option Addr) (c : Nat) (l : List Bool), v = .slice A l.length c ∧ RdB w A l := by
  obtain ⟨A, n, c, rfl⟩ := okWide_slice Try.underlying42 hv
  obtain ⟨fuel, hf⟩ := h
  rcases open_bools Try.underlying42 Try.underlying4 cellsBool hf with ⟨h1, _⟩ | ⟨a, len, cap, Z, h1, _, hl, _, _, hc⟩
  · have e : Value.slice A n c = .slice none 0 0 := by simpa [Value.cells] using h1
    injection e with e1 e2 e3
    subst e1; subst e2; subst e3
    exact ⟨none, 0, [], rfl, fun h => by simp at h⟩
  · have e : Value.slice A n c = .slice (some a) len cap := by simpa [Value.cells] using h1
    injection e with e1 e2 e3
    subst e1; subst e2; subst e3
    refine ⟨some a, c, (List.range n).map Z, by simp, fun h0 => ?_⟩
    have hn0 : 0 < n := by simpa using h0
    have h00 := hc 0 (by omega)
    have ea : a = ⟨a.block, a.off, none⟩ := plain_addr (w := w) (a := a) (v := .bool (Z 0)) (by simpa [Addr.add] using h00)
    refine ⟨a.block, a.off, by rw [← ea], fun j hj => ?_⟩
    have hj' : j < n := by simpa using hj
    have c1 := hc j (by omega)
    rw [ea, add_plain] at c1
    have ej : ((List.range n).map Z).getD j false = Z j := by simp [List.getD_eq_getElem?_getD, hj']
    rw [ej]
    exact c1

end
end Hp
end Go.Proofs.Yteadcjfbmckgpaa
