/-
  No cell of these rows narrows 'for every input' (looked for: loops, veiled, ifaces, maps, wideKeys, modest, calm, conditions, laid).
  DERIVED. THE GIVEN ROWS OF THIS SEAT. 6 by the template 'for every input the law returns true; each argument reads behind the call as it read before'; 0 by the template 'total and deterministic' (their statements: YtjpenmldoaepfaaTotals.lean).
  GIVEN WITH THE SEED: the statements are not yours to turn. If you find one false, say at which input.
  Laid BY PROGRAM, IN A SANDBOX (cutbox-rows.mjs): the forced cells as the released guide's own fill.sh prints them over the translation b616432a5db4d3c8… (all of the seat's roots in one cut). By AI agents, Wed Nov 11 2026. No macro, syntax, notation, axiom, sorry.
-/
import Derived.Test.YtjpenmldoaepfaaChecked
import GoSem.Claim
import GoSem.ClaimJoined
import GoSem.ClaimMapViews
import Derived.JoinedTies
import Derived.KernelRfl
namespace Go.Proofs.Ytjpenmldoaepfaa
/- THE CELL 'sum', in the pinned program and in every row, IS THE sha256 OF THE DUMP (.gsa) THAT YtjpenmldoaepfaaProg.lean LOADS. Nothing in Lean hashes anything: it is a label: what it is worth is what the hold of that sum in a sandbox is worth. -/
noncomputable def Try.pinned : Pinned := { name := "ytjpenmldoaepfaa", sum := "b616432a5db4d3c8d67388d92a06ff5aeab60cb47213ce47aff9c78632de63f9", checked := Try.checked }
namespace Rows
def none {H : Type} : Left H := { results := [], args := [] }

/-- 'remontoirlaw09.SupplyBounds': WHATEVER THE INPUT: true; the input reads as it did. -/
def supplyBoundsSpec : ChangeSpec := { name := "supplyBounds", fn := fun _ => fun
  | [d1, d2] => { results := [.lit (.bool true)], args := [d1, d2] }
  | _ => none }
def supplyBoundsRow : OpenClaim := { program := "ytjpenmldoaepfaa", sum := "b616432a5db4d3c8d67388d92a06ff5aeab60cb47213ce47aff9c78632de63f9", func := "remontoir/remontoirlaw09.SupplyBounds", spec := "supplyBounds", apart := false }
def SupplyBoundsSaid : Prop := supplyBoundsRow.holds Try.pinned (OpenSpec.ofChange supplyBoundsSpec)

/-- ITS FALSE NEIGHBOUR: 'it returns false'. Refute it at one input. -/
def supplyBoundsWrong : ChangeSpec := { name := "supplyBounds", fn := fun _ => fun
  | [d1, d2] => { results := [.lit (.bool false)], args := [d1, d2] }
  | _ => none }
def SupplyBoundsWrongFalsely : Prop := supplyBoundsRow.holds Try.pinned (OpenSpec.ofChange supplyBoundsWrong)

/-- 'remontoirlaw09.SupplyPatterns': WHATEVER THE INPUT: true; the input reads as it did. -/
def supplyPatternsSpec : ChangeSpec := { name := "supplyPatterns", fn := fun _ => fun
  | [d1, d2, d3] => { results := [.lit (.bool true)], args := [d1, d2, d3] }
  | _ => none }
def supplyPatternsRow : OpenClaim := { program := "ytjpenmldoaepfaa", sum := "b616432a5db4d3c8d67388d92a06ff5aeab60cb47213ce47aff9c78632de63f9", func := "remontoir/remontoirlaw09.SupplyPatterns", spec := "supplyPatterns", apart := false }
def SupplyPatternsSaid : Prop := supplyPatternsRow.holds Try.pinned (OpenSpec.ofChange supplyPatternsSpec)

/-- ITS FALSE NEIGHBOUR: 'it returns false'. Refute it at one input. -/
def supplyPatternsWrong : ChangeSpec := { name := "supplyPatterns", fn := fun _ => fun
  | [d1, d2, d3] => { results := [.lit (.bool false)], args := [d1, d2, d3] }
  | _ => none }
def SupplyPatternsWrongFalsely : Prop := supplyPatternsRow.holds Try.pinned (OpenSpec.ofChange supplyPatternsWrong)

/-- 'remontoirlaw09.SupplyLeast': WHATEVER THE INPUT: true; the input reads as it did. -/
def supplyLeastSpec : ChangeSpec := { name := "supplyLeast", fn := fun _ => fun
  | [d1, d2, d3] => { results := [.lit (.bool true)], args := [d1, d2, d3] }
  | _ => none }
def supplyLeastRow : OpenClaim := { program := "ytjpenmldoaepfaa", sum := "b616432a5db4d3c8d67388d92a06ff5aeab60cb47213ce47aff9c78632de63f9", func := "remontoir/remontoirlaw09.SupplyLeast", spec := "supplyLeast", apart := false }
def SupplyLeastSaid : Prop := supplyLeastRow.holds Try.pinned (OpenSpec.ofChange supplyLeastSpec)

/-- ITS FALSE NEIGHBOUR: 'it returns false'. Refute it at one input. -/
def supplyLeastWrong : ChangeSpec := { name := "supplyLeast", fn := fun _ => fun
  | [d1, d2, d3] => { results := [.lit (.bool false)], args := [d1, d2, d3] }
  | _ => none }
def SupplyLeastWrongFalsely : Prop := supplyLeastRow.holds Try.pinned (OpenSpec.ofChange supplyLeastWrong)

/-- 'remontoirlaw09.SupplyWorst': WHATEVER THE INPUT: true; the input reads as it did. -/
def supplyWorstSpec : ChangeSpec := { name := "supplyWorst", fn := fun _ => fun
  | [d1, d2] => { results := [.lit (.bool true)], args := [d1, d2] }
  | _ => none }
def supplyWorstRow : OpenClaim := { program := "ytjpenmldoaepfaa", sum := "b616432a5db4d3c8d67388d92a06ff5aeab60cb47213ce47aff9c78632de63f9", func := "remontoir/remontoirlaw09.SupplyWorst", spec := "supplyWorst", apart := false }
def SupplyWorstSaid : Prop := supplyWorstRow.holds Try.pinned (OpenSpec.ofChange supplyWorstSpec)

/-- ITS FALSE NEIGHBOUR: 'it returns false'. Refute it at one input. -/
def supplyWorstWrong : ChangeSpec := { name := "supplyWorst", fn := fun _ => fun
  | [d1, d2] => { results := [.lit (.bool false)], args := [d1, d2] }
  | _ => none }
def SupplyWorstWrongFalsely : Prop := supplyWorstRow.holds Try.pinned (OpenSpec.ofChange supplyWorstWrong)

/-- 'remontoirlaw09.SupplyRises': WHATEVER THE INPUT: true; the input reads as it did. -/
def supplyRisesSpec : ChangeSpec := { name := "supplyRises", fn := fun _ => fun
  | [d1, d2] => { results := [.lit (.bool true)], args := [d1, d2] }
  | _ => none }
def supplyRisesRow : OpenClaim := { program := "ytjpenmldoaepfaa", sum := "b616432a5db4d3c8d67388d92a06ff5aeab60cb47213ce47aff9c78632de63f9", func := "remontoir/remontoirlaw09.SupplyRises", spec := "supplyRises", apart := false }
def SupplyRisesSaid : Prop := supplyRisesRow.holds Try.pinned (OpenSpec.ofChange supplyRisesSpec)

/-- ITS FALSE NEIGHBOUR: 'it returns false'. Refute it at one input. -/
def supplyRisesWrong : ChangeSpec := { name := "supplyRises", fn := fun _ => fun
  | [d1, d2] => { results := [.lit (.bool false)], args := [d1, d2] }
  | _ => none }
def SupplyRisesWrongFalsely : Prop := supplyRisesRow.holds Try.pinned (OpenSpec.ofChange supplyRisesWrong)

/-- 'remontoirlaw09.SupplyMore': WHATEVER THE INPUT: true; the input reads as it did. -/
def supplyMoreSpec : ChangeSpec := { name := "supplyMore", fn := fun _ => fun
  | [d1, d2] => { results := [.lit (.bool true)], args := [d1, d2] }
  | _ => none }
def supplyMoreRow : OpenClaim := { program := "ytjpenmldoaepfaa", sum := "b616432a5db4d3c8d67388d92a06ff5aeab60cb47213ce47aff9c78632de63f9", func := "remontoir/remontoirlaw09.SupplyMore", spec := "supplyMore", apart := false }
def SupplyMoreSaid : Prop := supplyMoreRow.holds Try.pinned (OpenSpec.ofChange supplyMoreSpec)

/-- ITS FALSE NEIGHBOUR: 'it returns false'. Refute it at one input. -/
def supplyMoreWrong : ChangeSpec := { name := "supplyMore", fn := fun _ => fun
  | [d1, d2] => { results := [.lit (.bool false)], args := [d1, d2] }
  | _ => none }
def SupplyMoreWrongFalsely : Prop := supplyMoreRow.holds Try.pinned (OpenSpec.ofChange supplyMoreWrong)

/- THE SECOND FORM. 'bulk': how many values and letters a reading holds, each counted each time it is reached (what is shared counts as often as it is met; a slice's spare places count too). A statement '..UptoSaid' is the law's where the arguments, and the package variables that the reading takes, are together of bulk at most 1048576: NARROWER than '..Said'. Prove '..Said' where nothing that the law and all that it calls make is longer than what came in: it says more and counts as full. Else prove '..UptoSaid'. A law counts once. -/
mutual
def uptoBulk {H : Type} : DataW H → Nat
  | .lit (.string bytes) => bytes.length + 1
  | .lit _ => 1
  | .nil => 1
  | .ptr d => uptoBulk d + 1
  | .slice elems spare => uptoBulkAll elems + uptoBulkAll spare + 1
  | .agg parts => uptoBulkAll parts + 1
  | .iface _ d => uptoBulk d + 1
  | .map entries => uptoBulkEntries entries + 1
  | .held _ => 1
def uptoBulkAll {H : Type} : List (DataW H) → Nat
  | [] => 0
  | d :: r => uptoBulk d + uptoBulkAll r
def uptoBulkEntries {H : Type} : List (Lit × DataW H) → Nat
  | [] => 0
  | x :: r => uptoBulkEntry x + uptoBulkEntries r
def uptoBulkEntry {H : Type} : Lit × DataW H → Nat
  | (.string bytes, d) => bytes.length + uptoBulk d + 1
  | (_, d) => uptoBulk d + 1
 end
def uptoSmall : (H : Type) → List (DataW H) → Bool := fun _ ds => decide (uptoBulkAll ds ≤ 1048576)
def OpenSpec.upto (s : _root_.Go.ChangeSpec) : _root_.Go.OpenSpec := { _root_.Go.OpenSpec.ofChange s with cond := some uptoSmall }

/-- 'remontoirlaw09.SupplyBounds', WHERE WHAT IT READS IS OF BULK AT MOST 1048576: true; the input reads as it did. -/
def supplyBoundsUptoRow : OpenClaim := { program := "ytjpenmldoaepfaa", sum := "b616432a5db4d3c8d67388d92a06ff5aeab60cb47213ce47aff9c78632de63f9", func := "remontoir/remontoirlaw09.SupplyBounds", spec := "supplyBounds", apart := false, narrowed := true }
def SupplyBoundsUptoSaid : Prop := supplyBoundsUptoRow.holds Try.pinned (OpenSpec.upto supplyBoundsSpec)

/-- 'remontoirlaw09.SupplyPatterns', WHERE WHAT IT READS IS OF BULK AT MOST 1048576: true; the input reads as it did. -/
def supplyPatternsUptoRow : OpenClaim := { program := "ytjpenmldoaepfaa", sum := "b616432a5db4d3c8d67388d92a06ff5aeab60cb47213ce47aff9c78632de63f9", func := "remontoir/remontoirlaw09.SupplyPatterns", spec := "supplyPatterns", apart := false, narrowed := true }
def SupplyPatternsUptoSaid : Prop := supplyPatternsUptoRow.holds Try.pinned (OpenSpec.upto supplyPatternsSpec)

/-- 'remontoirlaw09.SupplyLeast', WHERE WHAT IT READS IS OF BULK AT MOST 1048576: true; the input reads as it did. -/
def supplyLeastUptoRow : OpenClaim := { program := "ytjpenmldoaepfaa", sum := "b616432a5db4d3c8d67388d92a06ff5aeab60cb47213ce47aff9c78632de63f9", func := "remontoir/remontoirlaw09.SupplyLeast", spec := "supplyLeast", apart := false, narrowed := true }
def SupplyLeastUptoSaid : Prop := supplyLeastUptoRow.holds Try.pinned (OpenSpec.upto supplyLeastSpec)

/-- 'remontoirlaw09.SupplyWorst', WHERE WHAT IT READS IS OF BULK AT MOST 1048576: true; the input reads as it did. -/
def supplyWorstUptoRow : OpenClaim := { program := "ytjpenmldoaepfaa", sum := "b616432a5db4d3c8d67388d92a06ff5aeab60cb47213ce47aff9c78632de63f9", func := "remontoir/remontoirlaw09.SupplyWorst", spec := "supplyWorst", apart := false, narrowed := true }
def SupplyWorstUptoSaid : Prop := supplyWorstUptoRow.holds Try.pinned (OpenSpec.upto supplyWorstSpec)

/-- 'remontoirlaw09.SupplyRises', WHERE WHAT IT READS IS OF BULK AT MOST 1048576: true; the input reads as it did. -/
def supplyRisesUptoRow : OpenClaim := { program := "ytjpenmldoaepfaa", sum := "b616432a5db4d3c8d67388d92a06ff5aeab60cb47213ce47aff9c78632de63f9", func := "remontoir/remontoirlaw09.SupplyRises", spec := "supplyRises", apart := false, narrowed := true }
def SupplyRisesUptoSaid : Prop := supplyRisesUptoRow.holds Try.pinned (OpenSpec.upto supplyRisesSpec)

/-- 'remontoirlaw09.SupplyMore', WHERE WHAT IT READS IS OF BULK AT MOST 1048576: true; the input reads as it did. -/
def supplyMoreUptoRow : OpenClaim := { program := "ytjpenmldoaepfaa", sum := "b616432a5db4d3c8d67388d92a06ff5aeab60cb47213ce47aff9c78632de63f9", func := "remontoir/remontoirlaw09.SupplyMore", spec := "supplyMore", apart := false, narrowed := true }
def SupplyMoreUptoSaid : Prop := supplyMoreUptoRow.holds Try.pinned (OpenSpec.upto supplyMoreSpec)

end Rows
end Go.Proofs.Ytjpenmldoaepfaa
