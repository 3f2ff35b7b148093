/-
  Memory, for every layer: a slice of ints as an argument, opened.
-/
import Derived.Test.YthghnbbcmmjcfaaMemOpen
import Derived.Test.YthghnbbcmmjcfaaMemInts
namespace Go.Proofs.Ythghnbbcmmjcfaa
open Go.RowKit
namespace Mm

theorem opInts : Opens Try.prog 41 (List Int) := opens_slice Try.underlying41 (by kernel_rfl) (opens_int Try.underlying3 (by kernel_rfl))

end Mm
end Go.Proofs.Ythghnbbcmmjcfaa
