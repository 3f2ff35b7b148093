/-
  Layer 3: the arguments of the statements, opened: a ring, an int, a slice of ints, a slice of bools.
-/
import Derived.Test.YtilabonjjiiabaaLaw03Knows
import Derived.ProofKit
import Derived.OpenShut
import Derived.ChangeOld
import Derived.Carry
import Derived.ChangeSlices
import Derived.Lib.SmallJoins
import Derived.Deep.Grids
namespace Go.Proofs.Ytilabonjjiiabaa
open Go.ChangeShapes Go.WideShapes Go.ChangeAt Go.RowKit Go.Deep Go.Joins
namespace Rn

theorem own : ownKnob Try.prog.godebug = none := by kernel_rfl
theorem laidOut : laidOutB Try.prog = true := by kernel_rfl
theorem cellsRing : Try.prog.cellsOf 24 = 3 := by kernel_rfl
theorem cellsBool : Try.prog.cellsOf 4 = 1 := by kernel_rfl
theorem cellsInt : Try.prog.cellsOf 3 = 1 := by kernel_rfl

theorem plain_addr {w : World} {a : Addr} {v : Value} (h : w.cell? a = some v) : a = ⟨a.block, a.off, none⟩ := by
  obtain ⟨b, o, s⟩ := a
  cases s with
  | none => rfl
  | some s =>
    unfold World.cell? at h
    split at h <;> simp at h

section
variable {H : Type} {enc : TypeId × Value → H} {w : World} {base : Nat} {spare : Nat → Bool} {held : Bool}

theorem ints_of {fuel : Nat} {cs : List Value} {x : DataW H × List MemPlace} (h : DataW.trod enc Try.prog w base spare held fuel 22 cs = some x) :
    ∃ (A : Option Addr) (c : Nat) (l : List Int), cs = [.slice A l.length c] ∧ l.length ≤ c ∧ Rd w A c l := by
  rcases Go.ChangeShapes.open_ints Try.underlying22 Try.underlying3 cellsInt h with ⟨h1, _⟩ | ⟨a, len, cap, zs, h1, _, hl, _, hz, _, hc, _⟩
  · exact ⟨none, 0, [], h1, by simp, Rd.nil _⟩
  · have hlz : len ≤ zs.length := by rw [hz]; split <;> omega
    have hlen : (zs.take len).length = len := by simp; omega
    refine ⟨some a, cap, zs.take len, by rw [hlen]; exact h1, by rw [hlen]; exact hl, fun h => (by cases h), fun h0 => ?_⟩
    rw [hlen] at h0
    have h00 := hc 0 (by omega)
    have ea : a = ⟨a.block, a.off, none⟩ := plain_addr (w := w) (a := a) (v := _) (by simpa [Addr.add] using h00)
    refine ⟨a.block, a.off, by rw [← ea], fun j hj => ?_⟩
    rw [hlen] at hj
    have c1 := hc j (by omega)
    rw [ea, add_plain] at c1
    have ej : at_ (zs.take len) j = zs.getD j 0 := by simp [at_, List.getD_eq_getElem?_getD, hj]
    rw [ej]
    exact c1

theorem open_ring {r : Reach} {b0 : Nat} {v : Value} {d : DataW H} {ps : List MemPlace} (hv : Value.okWide Try.prog w r b0 24 v) (h : DataW.Trod enc Try.prog w base spare held 24 v d ps) :
    ∃ (A : Option Addr) (c : Nat) (b : List Int) (f m : Int), v = .agg #[.slice A b.length c, .int .i64 f, .int .i64 m] ∧ b.length ≤ c ∧ Rd w A c b := by
  obtain ⟨v0, v1, v2, y0, y1, y2, n, rfl, _, _, t0, t1, t2⟩ := open_agg3 Try.underlying24 (by kernel_rfl) cellsRing hv h
  obtain ⟨A, c, b, e0, hl, hr⟩ := ints_of t0
  obtain ⟨n1, e1, _, _⟩ := DataW.trod_int Try.underlying3 t1
  obtain ⟨n2, e2, _, _⟩ := DataW.trod_int Try.underlying3 t2
  have e0' : v0 = .slice A b.length c := by injection e0
  have e1' : v1 = .int .i64 n1 := by injection e1
  have e2' : v2 = .int .i64 n2 := by injection e2
  exact ⟨A, c, b, n1, n2, by rw [e0', e1', e2'], hl, hr⟩

theorem open_num {r : Reach} {b0 : Nat} {v : Value} {d : DataW H} {ps : List MemPlace} (hv : Value.okWide Try.prog w r b0 3 v) (h : DataW.Trod enc Try.prog w base spare held 3 v d ps) :
    ∃ n : Int, v = .int .i64 n := by
  obtain ⟨a, rfl, _, _, _⟩ := open_int Try.underlying3 hv h
  exact ⟨a, rfl⟩

theorem open_nums {r : Reach} {b0 : Nat} {v : Value} {d : DataW H} {ps : List MemPlace} (hv : Value.okWide Try.prog w r b0 22 v) (h : DataW.Trod enc Try.prog w base spare held 22 v d ps) :
    ∃ (A : Option Addr) (c : Nat) (l : List Int), v = .slice A l.length c ∧ l.length ≤ c ∧ Rd w A c l := by
  obtain ⟨A, n, c, rfl⟩ := okWide_slice Try.underlying22 hv
  obtain ⟨fuel, hf⟩ := h
  obtain ⟨A', c', l, e, hl, hr⟩ := ints_of hf
  have e' : Value.slice A n c = .slice A' l.length c' := by simpa [Value.cells] using e
  exact ⟨A', c', l, e', hl, hr⟩

/-- the slice at A reads as these bools -/
def RdB (w : World) (A : Option Addr) (l : List Bool) : Prop :=
  0 < l.length → ∃ b off, A = some ⟨b, off, none⟩ ∧ ∀ j, j < l.length → w.cell? ⟨b, off + j, none⟩ = some (.bool (l.getD j false))
theorem RdB.below {w w' : World} {A : Option Addr} {l : List Bool} (h : RdB w A l) (hb : Below w.heap.size w w') : RdB w' A l := fun h0 => by
  obtain ⟨b, off, e, hc⟩ := h h0
  exact ⟨b, off, e, fun j hj => (hb.cell (lt_of_cell (hc j hj))).trans (hc j hj)⟩

theorem open_flags {r : Reach} {b0 : Nat} {v : Value} {d : DataW H} {ps : List MemPlace} (hv : Value.okWide Try.prog w r b0 44 v) (h : DataW.Trod enc Try.prog w base (fun _ => true) held 44 v d ps) :
    ∃ (A : Option Addr) (c : Nat) (l : List Bool), v = .slice A l.length c ∧ RdB w A l := by
  obtain ⟨A, n, c, rfl⟩ := okWide_slice Try.underlying44 hv
  obtain ⟨fuel, hf⟩ := h
  rcases open_bools Try.underlying44 Try.underlying4 cellsBool hf with ⟨h1, _⟩ | ⟨a, len, cap, Z, h1, _, hl, _, _, hc⟩
  · have e : Value.slice A n c = .slice none 0 0 := by simpa [Value.cells] using h1
    injection e with e1 e2 e3
    subst e1; subst e2; subst e3
    exact ⟨none, 0, [], rfl, fun h => by simp at h⟩
  · have e : Value.slice A n c = .slice (some a) len cap := by simpa [Value.cells] using h1
    injection e with e1 e2 e3
    subst e1; subst e2; subst e3
    refine ⟨some a, c, (List.range n).map Z, by simp, fun h0 => ?_⟩
    have hn0 : 0 < n := by simpa using h0
    have h00 := hc 0 (by omega)
    have ea : a = ⟨a.block, a.off, none⟩ := plain_addr (w := w) (a := a) (v := .bool (Z 0)) (by simpa [Addr.add] using h00)
    refine ⟨a.block, a.off, by rw [← ea], fun j hj => ?_⟩
    have hj' : j < n := by simpa using hj
    have c1 := hc j (by omega)
    rw [ea, add_plain] at c1
    have ej : ((List.range n).map Z).getD j false = Z j := by simp [List.getD_eq_getElem?_getD, hj']
    rw [ej]
    exact c1

end
end Rn
end Go.Proofs.Ytilabonjjiiabaa
