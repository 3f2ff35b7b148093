/-
  Memory, for every layer: a slice of bools as an argument, opened.
-/
import Derived.Test.YtjpenmldoaepfaaMemOpen
import Derived.Test.YtjpenmldoaepfaaMemFlags
namespace Go.Proofs.Ytjpenmldoaepfaa
open Go.RowKit
namespace Mm

theorem opFlags : Opens Try.prog 31 (List Bool) := opens_slice Try.underlying31 (by kernel_rfl) (opens_bool Try.underlying4 (by kernel_rfl))

end Mm
end Go.Proofs.Ytjpenmldoaepfaa
