/-
  Layer 4: the arguments of the statements, opened: a slice of spans, a span, an int, a byte.
-/
import Derived.Test.YtdgemmhaddnbdaaLaw04Knows
import Derived.ProofKit
import Derived.OpenShut
import Derived.ChangeOld
import Derived.Carry
import Derived.Deep.SlicePairs
import Derived.Lib.SmallJoins
import Derived.Deep.Grids
namespace Go.Proofs.Ytdgemmhaddnbdaa
open Go.ChangeShapes Go.WideShapes Go.ChangeAt Go.RowKit Go.Deep Go.Joins
namespace Hp

theorem own : ownKnob Try.prog.godebug = none := by kernel_rfl
theorem laidOut : laidOutB Try.prog = true := by kernel_rfl
theorem cellsIt : Try.prog.cellsOf 29 = 2 := by kernel_rfl
theorem cellsInt : Try.prog.cellsOf 3 = 1 := by kernel_rfl

theorem plain_addr {w : World} {a : Addr} {v : Value} (h : w.cell? a = some v) : a = ⟨a.block, a.off, none⟩ := by
  obtain ⟨b, o, s⟩ := a
  cases s with
  | none => rfl
  | some s =>
    unfold World.cell? at h
    split at h <;> simp at h

section
variable {H : Type} {enc : TypeId × Value → H} {w : World} {base : Nat} {spare : Nat → Bool} {held : Bool}

theorem open_items {r : Reach} {b0 : Nat} {v : Value} {d : DataW H} {ps : List MemPlace} (hv : Value.okWide Try.prog w r b0 22 v) (h : DataW.Trod enc Try.prog w base spare held 22 v d ps) :
    ∃ (A : Option Addr) (c : Nat) (l : List It), v = .slice A l.length c ∧ l.length ≤ c ∧ c ≤ maxLen ∧ Rd w A c l := by
  obtain ⟨A, n, c, rfl⟩ := okWide_slice Try.underlying22 hv
  obtain ⟨fuel, hf⟩ := h
  rcases open_slice_pairs Try.underlying22 Try.underlying29 cellsIt rfl rfl cellsInt cellsInt hf with ⟨h1, _⟩ | ⟨a, len, cap, m, k, V0, V1, D0, D1, P0, P1, h1, _, hl, hm, hmm, _, hc⟩
  · have e : Value.slice A n c = .slice none 0 0 := by simpa [Value.cells] using h1
    injection e with e1 e2 e3
    subst e1; subst e2; subst e3
    exact ⟨none, 0, [], rfl, by simp, by simp, Rd.nil _⟩
  · have e : Value.slice A n c = .slice (some a) len cap := by simpa [Value.cells] using h1
    injection e with e1 e2 e3
    subst e1; subst e2; subst e3
    have hlm : n ≤ m := by rw [hmm]; split <;> omega
    refine ⟨some a, c, (List.range n).map (fun i => (intOf (V0 i), intOf (V1 i))), by simp, by simpa using hl, hm, fun h => (by cases h), fun h0 => ?_⟩
    have hn0 : 0 < n := by simpa using h0
    have h00 := (hc 0 (by omega)).1
    have ea : a = ⟨a.block, a.off, none⟩ := by
      have := plain_addr (w := w) (a := a) (v := V0 0) (by simpa [Addr.add] using h00)
      exact this
    refine ⟨a.block, a.off, by rw [← ea], fun j hj => ?_⟩
    have hj' : j < n := by simpa using hj
    obtain ⟨c1, c2, t1, t2⟩ := hc j (by omega)
    obtain ⟨n1, e1, _, _⟩ := DataW.trod_int Try.underlying3 t1
    obtain ⟨n2, e2, _, _⟩ := DataW.trod_int Try.underlying3 t2
    have e1' : V0 j = .int .i64 n1 := by injection e1
    have e2' : V1 j = .int .i64 n2 := by injection e2
    rw [ea, add_plain] at c1 c2
    have ej : at_ ((List.range n).map (fun i => (intOf (V0 i), intOf (V1 i)))) j = (n1, n2) := by
      simp [at_, List.getD_eq_getElem?_getD, hj', e1', e2', intOf]
    rw [ej]
    exact ⟨by rw [← e1']; exact c1, by rw [← e2']; exact c2⟩

theorem open_item {r : Reach} {b0 : Nat} {v : Value} {d : DataW H} {ps : List MemPlace} (hv : Value.okWide Try.prog w r b0 29 v) (h : DataW.Trod enc Try.prog w base spare held 29 v d ps) :
    ∃ x : It, v = .agg #[.int .i64 x.1, .int .i64 x.2] := by
  obtain ⟨v0, v1, y0, y1, n, rfl, _, _, t0, t1⟩ := open_agg2 Try.underlying29 (by kernel_rfl) cellsIt hv h
  obtain ⟨n0, e0, _, _⟩ := DataW.trod_int Try.underlying3 t0
  obtain ⟨n1, e1, _, _⟩ := DataW.trod_int Try.underlying3 t1
  have e0' : v0 = .int .i64 n0 := by injection e0
  have e1' : v1 = .int .i64 n1 := by injection e1
  exact ⟨(n0, n1), by rw [e0', e1']⟩

theorem open_u8 {r : Reach} {b0 : Nat} {v : Value} {d : DataW H} {ps : List MemPlace} (hv : Value.okWide Try.prog w r b0 5 v) (h : DataW.Trod enc Try.prog w base spare held 5 v d ps) :
    ∃ n : Nat, v = .int .u8 n ∧ n < 256 := by
  obtain ⟨a, rfl, _, _, hw⟩ := open_int Try.underlying5 hv h
  have hb : 0 ≤ a ∧ a ≤ 255 := by simpa [Lit.wf, IntKind.min, IntKind.max, IntKind.signed, IntKind.bits] using hw
  exact ⟨a.toNat, by rw [Int.toNat_of_nonneg hb.1], by omega⟩

theorem open_num {r : Reach} {b0 : Nat} {v : Value} {d : DataW H} {ps : List MemPlace} (hv : Value.okWide Try.prog w r b0 3 v) (h : DataW.Trod enc Try.prog w base spare held 3 v d ps) :
    ∃ n : Int, v = .int .i64 n := by
  obtain ⟨a, rfl, _⟩ := open_int Try.underlying3 hv h
  exact ⟨a, rfl⟩

end
end Hp
end Go.Proofs.Ytdgemmhaddnbdaa
