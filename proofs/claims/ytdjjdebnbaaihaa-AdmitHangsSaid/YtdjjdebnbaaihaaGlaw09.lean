/-
  Merged texts: Law09Args.
-/
import Derived.Test.YtdjjdebnbaaihaaGmem
import Derived.Test.YtdjjdebnbaaihaaGsupply
/-
  Layer 9: the arguments of the statements, opened: an interface.
-/
namespace Go.Proofs.Ytdjjdebnbaaihaa
open Go.ChangeShapes Go.WideShapes Go.ChangeAt Go.RowKit Go.Deep Go.Joins Mm
namespace Sp

theorem opNum : Opens Try.prog 3 Int := opens_int Try.underlying3 (by kernel_rfl)
theorem opFace : Opens Try.prog 30 (Int × Int) := opens_struct Try.underlying30 (by kernel_rfl) (fieldsOpen_cons rfl opNum (fieldsOpen_one rfl opNum))
section
variable {H : Type} {enc : TypeId × Value → H} {w : World} {base : Nat} {spare : Nat → Bool} {held : Bool}
set_option maxRecDepth 20000 in
theorem open_face {r : Reach} {b0 : Nat} {v : Value} {d : DataW H} {ps : List MemPlace} (hv : Value.okWide Try.prog w r b0 30 v) (h : DataW.Trod enc Try.prog w base spare held 30 v d ps) :
    ∃ P B : Int, v = .agg #[.int .i64 P, .int .i64 B] ∧ Fit P ∧ Fit B := by
  obtain ⟨cs, x, rfl, hx⟩ := open_strct (α := Int × Int) Try.underlying30 opFace hv h
  obtain ⟨v, r, rfl, ⟨rfl, f1⟩, ⟨rfl, f2⟩⟩ := hx
  exact ⟨x.1, x.2, rfl, f1, f2⟩
end

end Sp
end Go.Proofs.Ytdjjdebnbaaihaa

