/-
  Layer 9: the arguments of the statements, opened: an interface.
-/
import Derived.Test.YtldiplnccgoeiaaMemOpen
import Derived.Test.YtldiplnccgoeiaaSupplyFace
namespace Go.Proofs.Ytldiplnccgoeiaa
open Go.ChangeShapes Go.WideShapes Go.ChangeAt Go.RowKit Go.Deep Go.Joins Mm
namespace Sp

theorem opNum : Opens Try.prog 3 Int := opens_int Try.underlying3 (by kernel_rfl)
theorem opFace : Opens Try.prog 31 (Int × Int) := opens_struct Try.underlying31 (by kernel_rfl) (fieldsOpen_cons rfl opNum (fieldsOpen_one rfl opNum))
section
variable {H : Type} {enc : TypeId × Value → H} {w : World} {base : Nat} {spare : Nat → Bool} {held : Bool}
theorem open_face {r : Reach} {b0 : Nat} {v : Value} {d : DataW H} {ps : List MemPlace} (hv : Value.okWide Try.prog w r b0 31 v) (h : DataW.Trod enc Try.prog w base spare held 31 v d ps) :
    ∃ P B : Int, v = .agg #[.int .i64 P, .int .i64 B] ∧ Fit P ∧ Fit B := by
  obtain ⟨cs, x, rfl, hx⟩ := open_strct (α := Int × Int) Try.underlying31 opFace hv h
  obtain ⟨v, r, rfl, ⟨rfl, f1⟩, ⟨rfl, f2⟩⟩ := hx
  exact ⟨x.1, x.2, rfl, f1, f2⟩
end

end Sp
end Go.Proofs.Ytldiplnccgoeiaa
