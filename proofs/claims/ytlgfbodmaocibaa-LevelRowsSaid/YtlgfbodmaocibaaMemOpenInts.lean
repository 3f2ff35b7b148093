/-
  Memory, for every layer: a slice of ints as an argument, opened.
-/
import Derived.Test.YtlgfbodmaocibaaMemOpen
import Derived.Test.YtlgfbodmaocibaaMemInts
namespace Go.Proofs.Ytlgfbodmaocibaa
open Go.RowKit
namespace Mm

theorem opInts : Opens Try.prog 23 (List Int) := opens_slice Try.underlying23 (by kernel_rfl) (opens_int Try.underlying3 (by kernel_rfl))

end Mm
end Go.Proofs.Ytlgfbodmaocibaa
