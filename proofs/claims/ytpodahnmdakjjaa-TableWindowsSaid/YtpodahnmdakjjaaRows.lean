/-
  No cell of these rows narrows 'for every input' (looked for: loops, veiled, ifaces, maps, wideKeys, modest, calm, conditions, laid).
  DERIVED. THE GIVEN ROWS OF THIS SEAT. 5 by the template 'for every input the law returns true; each argument reads behind the call as it read before'; 0 by the template 'total and deterministic' (their statements: YtpodahnmdakjjaaTotals.lean).
  GIVEN WITH THE SEED: the statements are not yours to turn. If you find one false, say at which input.
  Laid BY PROGRAM, IN A SANDBOX (cutbox-rows.mjs): the forced cells as the released guide's own fill.sh prints them over the translation 92b381fefcc76ddb… (all of the seat's roots in one cut). By AI agents, Wed Nov 11 2026. No macro, syntax, notation, axiom, sorry.
-/
import Derived.Test.YtpodahnmdakjjaaChecked
import GoSem.Claim
import GoSem.ClaimJoined
import GoSem.ClaimMapViews
import Derived.JoinedTies
import Derived.KernelRfl
namespace Go.Proofs.Ytpodahnmdakjjaa
/- THE CELL 'sum', in the pinned program and in every row, IS THE sha256 OF THE DUMP (.gsa) THAT YtpodahnmdakjjaaProg.lean LOADS. Nothing in Lean hashes anything: it is a label: what it is worth is what the hold of that sum in a sandbox is worth. -/
noncomputable def Try.pinned : Pinned := { name := "ytpodahnmdakjjaa", sum := "92b381fefcc76ddb8a96405bd80878dc7bf8529f190a87acff13818dd7228ccf", checked := Try.checked }
namespace Rows
def none {H : Type} : Left H := { results := [], args := [] }

/-- 'remontoirlaw13.TableRights': WHATEVER THE INPUT: true; the input reads as it did. -/
def tableRightsSpec : ChangeSpec := { name := "tableRights", fn := fun _ => fun
  | [d1, d2] => { results := [.lit (.bool true)], args := [d1, d2] }
  | _ => none }
def tableRightsRow : OpenClaim := { program := "ytpodahnmdakjjaa", sum := "92b381fefcc76ddb8a96405bd80878dc7bf8529f190a87acff13818dd7228ccf", func := "remontoir/remontoirlaw13.TableRights", spec := "tableRights", unfollowed := true, recurses := true, apart := false }
def TableRightsSaid : Prop := tableRightsRow.holds Try.pinned (OpenSpec.ofChange tableRightsSpec)

/-- ITS FALSE NEIGHBOUR: 'it returns false'. Refute it at one input. -/
def tableRightsWrong : ChangeSpec := { name := "tableRights", fn := fun _ => fun
  | [d1, d2] => { results := [.lit (.bool false)], args := [d1, d2] }
  | _ => none }
def TableRightsWrongFalsely : Prop := tableRightsRow.holds Try.pinned (OpenSpec.ofChange tableRightsWrong)

/-- 'remontoirlaw13.TableBack': WHATEVER THE INPUT: true; the input reads as it did. -/
def tableBackSpec : ChangeSpec := { name := "tableBack", fn := fun _ => fun
  | [d1, d2] => { results := [.lit (.bool true)], args := [d1, d2] }
  | _ => none }
def tableBackRow : OpenClaim := { program := "ytpodahnmdakjjaa", sum := "92b381fefcc76ddb8a96405bd80878dc7bf8529f190a87acff13818dd7228ccf", func := "remontoir/remontoirlaw13.TableBack", spec := "tableBack", unfollowed := true, recurses := true, apart := false }
def TableBackSaid : Prop := tableBackRow.holds Try.pinned (OpenSpec.ofChange tableBackSpec)

/-- ITS FALSE NEIGHBOUR: 'it returns false'. Refute it at one input. -/
def tableBackWrong : ChangeSpec := { name := "tableBack", fn := fun _ => fun
  | [d1, d2] => { results := [.lit (.bool false)], args := [d1, d2] }
  | _ => none }
def TableBackWrongFalsely : Prop := tableBackRow.holds Try.pinned (OpenSpec.ofChange tableBackWrong)

/-- 'remontoirlaw13.TableLeast': WHATEVER THE INPUT: true; the input reads as it did. -/
def tableLeastSpec : ChangeSpec := { name := "tableLeast", fn := fun _ => fun
  | [d1, d2, d3] => { results := [.lit (.bool true)], args := [d1, d2, d3] }
  | _ => none }
def tableLeastRow : OpenClaim := { program := "ytpodahnmdakjjaa", sum := "92b381fefcc76ddb8a96405bd80878dc7bf8529f190a87acff13818dd7228ccf", func := "remontoir/remontoirlaw13.TableLeast", spec := "tableLeast", unfollowed := true, recurses := true, apart := false }
def TableLeastSaid : Prop := tableLeastRow.holds Try.pinned (OpenSpec.ofChange tableLeastSpec)

/-- ITS FALSE NEIGHBOUR: 'it returns false'. Refute it at one input. -/
def tableLeastWrong : ChangeSpec := { name := "tableLeast", fn := fun _ => fun
  | [d1, d2, d3] => { results := [.lit (.bool false)], args := [d1, d2, d3] }
  | _ => none }
def TableLeastWrongFalsely : Prop := tableLeastRow.holds Try.pinned (OpenSpec.ofChange tableLeastWrong)

/-- 'remontoirlaw13.TableSupplies': WHATEVER THE INPUT: true; the input reads as it did. -/
def tableSuppliesSpec : ChangeSpec := { name := "tableSupplies", fn := fun _ => fun
  | [d1, d2, d3] => { results := [.lit (.bool true)], args := [d1, d2, d3] }
  | _ => none }
def tableSuppliesRow : OpenClaim := { program := "ytpodahnmdakjjaa", sum := "92b381fefcc76ddb8a96405bd80878dc7bf8529f190a87acff13818dd7228ccf", func := "remontoir/remontoirlaw13.TableSupplies", spec := "tableSupplies", unfollowed := true, recurses := true, apart := false }
def TableSuppliesSaid : Prop := tableSuppliesRow.holds Try.pinned (OpenSpec.ofChange tableSuppliesSpec)

/-- ITS FALSE NEIGHBOUR: 'it returns false'. Refute it at one input. -/
def tableSuppliesWrong : ChangeSpec := { name := "tableSupplies", fn := fun _ => fun
  | [d1, d2, d3] => { results := [.lit (.bool false)], args := [d1, d2, d3] }
  | _ => none }
def TableSuppliesWrongFalsely : Prop := tableSuppliesRow.holds Try.pinned (OpenSpec.ofChange tableSuppliesWrong)

/-- 'remontoirlaw13.TableWindows': WHATEVER THE INPUT: true; the input reads as it did. -/
def tableWindowsSpec : ChangeSpec := { name := "tableWindows", fn := fun _ => fun
  | [d1, d2] => { results := [.lit (.bool true)], args := [d1, d2] }
  | _ => none }
def tableWindowsRow : OpenClaim := { program := "ytpodahnmdakjjaa", sum := "92b381fefcc76ddb8a96405bd80878dc7bf8529f190a87acff13818dd7228ccf", func := "remontoir/remontoirlaw13.TableWindows", spec := "tableWindows", unfollowed := true, recurses := true, apart := false }
def TableWindowsSaid : Prop := tableWindowsRow.holds Try.pinned (OpenSpec.ofChange tableWindowsSpec)

/-- ITS FALSE NEIGHBOUR: 'it returns false'. Refute it at one input. -/
def tableWindowsWrong : ChangeSpec := { name := "tableWindows", fn := fun _ => fun
  | [d1, d2] => { results := [.lit (.bool false)], args := [d1, d2] }
  | _ => none }
def TableWindowsWrongFalsely : Prop := tableWindowsRow.holds Try.pinned (OpenSpec.ofChange tableWindowsWrong)

/- THE SECOND FORM. 'bulk': how many values and letters a reading holds, each counted each time it is reached (what is shared counts as often as it is met; a slice's spare places count too). A statement '..UptoSaid' is the law's where the arguments, and the package variables that the reading takes, are together of bulk at most 1048576: NARROWER than '..Said'. Prove '..Said' where nothing that the law and all that it calls make is longer than what came in: it says more and counts as full. Else prove '..UptoSaid'. A law counts once. -/
mutual
def uptoBulk {H : Type} : DataW H → Nat
  | .lit (.string bytes) => bytes.length + 1
  | .lit _ => 1
  | .nil => 1
  | .ptr d => uptoBulk d + 1
  | .slice elems spare => uptoBulkAll elems + uptoBulkAll spare + 1
  | .agg parts => uptoBulkAll parts + 1
  | .iface _ d => uptoBulk d + 1
  | .map entries => uptoBulkEntries entries + 1
  | .held _ => 1
def uptoBulkAll {H : Type} : List (DataW H) → Nat
  | [] => 0
  | d :: r => uptoBulk d + uptoBulkAll r
def uptoBulkEntries {H : Type} : List (Lit × DataW H) → Nat
  | [] => 0
  | x :: r => uptoBulkEntry x + uptoBulkEntries r
def uptoBulkEntry {H : Type} : Lit × DataW H → Nat
  | (.string bytes, d) => bytes.length + uptoBulk d + 1
  | (_, d) => uptoBulk d + 1
 end
def uptoSmall : (H : Type) → List (DataW H) → Bool := fun _ ds => decide (uptoBulkAll ds ≤ 1048576)
def OpenSpec.upto (s : _root_.Go.ChangeSpec) : _root_.Go.OpenSpec := { _root_.Go.OpenSpec.ofChange s with cond := some uptoSmall }

/-- 'remontoirlaw13.TableRights', WHERE WHAT IT READS IS OF BULK AT MOST 1048576: true; the input reads as it did. -/
def tableRightsUptoRow : OpenClaim := { program := "ytpodahnmdakjjaa", sum := "92b381fefcc76ddb8a96405bd80878dc7bf8529f190a87acff13818dd7228ccf", func := "remontoir/remontoirlaw13.TableRights", spec := "tableRights", unfollowed := true, recurses := true, apart := false, narrowed := true }
def TableRightsUptoSaid : Prop := tableRightsUptoRow.holds Try.pinned (OpenSpec.upto tableRightsSpec)

/-- 'remontoirlaw13.TableBack', WHERE WHAT IT READS IS OF BULK AT MOST 1048576: true; the input reads as it did. -/
def tableBackUptoRow : OpenClaim := { program := "ytpodahnmdakjjaa", sum := "92b381fefcc76ddb8a96405bd80878dc7bf8529f190a87acff13818dd7228ccf", func := "remontoir/remontoirlaw13.TableBack", spec := "tableBack", unfollowed := true, recurses := true, apart := false, narrowed := true }
def TableBackUptoSaid : Prop := tableBackUptoRow.holds Try.pinned (OpenSpec.upto tableBackSpec)

/-- 'remontoirlaw13.TableLeast', WHERE WHAT IT READS IS OF BULK AT MOST 1048576: true; the input reads as it did. -/
def tableLeastUptoRow : OpenClaim := { program := "ytpodahnmdakjjaa", sum := "92b381fefcc76ddb8a96405bd80878dc7bf8529f190a87acff13818dd7228ccf", func := "remontoir/remontoirlaw13.TableLeast", spec := "tableLeast", unfollowed := true, recurses := true, apart := false, narrowed := true }
def TableLeastUptoSaid : Prop := tableLeastUptoRow.holds Try.pinned (OpenSpec.upto tableLeastSpec)

/-- 'remontoirlaw13.TableSupplies', WHERE WHAT IT READS IS OF BULK AT MOST 1048576: true; the input reads as it did. -/
def tableSuppliesUptoRow : OpenClaim := { program := "ytpodahnmdakjjaa", sum := "92b381fefcc76ddb8a96405bd80878dc7bf8529f190a87acff13818dd7228ccf", func := "remontoir/remontoirlaw13.TableSupplies", spec := "tableSupplies", unfollowed := true, recurses := true, apart := false, narrowed := true }
def TableSuppliesUptoSaid : Prop := tableSuppliesUptoRow.holds Try.pinned (OpenSpec.upto tableSuppliesSpec)

/-- 'remontoirlaw13.TableWindows', WHERE WHAT IT READS IS OF BULK AT MOST 1048576: true; the input reads as it did. -/
def tableWindowsUptoRow : OpenClaim := { program := "ytpodahnmdakjjaa", sum := "92b381fefcc76ddb8a96405bd80878dc7bf8529f190a87acff13818dd7228ccf", func := "remontoir/remontoirlaw13.TableWindows", spec := "tableWindows", unfollowed := true, recurses := true, apart := false, narrowed := true }
def TableWindowsUptoSaid : Prop := tableWindowsUptoRow.holds Try.pinned (OpenSpec.upto tableWindowsSpec)

end Rows
end Go.Proofs.Ytpodahnmdakjjaa
