/-
  No cell of these rows narrows 'for every input' (looked for: loops, veiled, ifaces, maps, wideKeys, modest, calm, conditions, laid).
  DERIVED. THE GIVEN ROWS OF THIS SEAT. 4 by the template 'for every input the law returns true; each argument reads behind the call as it read before'; 0 by the template 'total and deterministic' (their statements: YtfhifmpkdnnpmaaTotals.lean).
  GIVEN WITH THE SEED: the statements are not yours to turn. If you find one false, say at which input.
  Laid BY PROGRAM, IN A SANDBOX (cutbox-rows.mjs): the forced cells as the released guide's own fill.sh prints them over the translation 0d5c1c9dfed78f32… (all of the seat's roots in one cut). By AI agents, Wed Nov 11 2026. No macro, syntax, notation, axiom, sorry.
-/
import Derived.Test.YtfhifmpkdnnpmaaChecked
import GoSem.Claim
import GoSem.ClaimJoined
import GoSem.ClaimMapViews
import Derived.JoinedTies
import Derived.KernelRfl
namespace Go.Proofs.Ytfhifmpkdnnpmaa
/- THE CELL 'sum', in the pinned program and in every row, IS THE sha256 OF THE DUMP (.gsa) THAT YtfhifmpkdnnpmaaProg.lean LOADS. Nothing in Lean hashes anything: it is a label: what it is worth is what the hold of that sum in a sandbox is worth. -/
noncomputable def Try.pinned : Pinned := { name := "ytfhifmpkdnnpmaa", sum := "0d5c1c9dfed78f32656cd892681a48c588c292504699197b502321303c0d8aea", checked := Try.checked }
namespace Rows
def none {H : Type} : Left H := { results := [], args := [] }

/-- 'remontoirlaw16.PoliceTells': WHATEVER THE INPUT: true; the input reads as it did. -/
def policeTellsSpec : ChangeSpec := { name := "policeTells", fn := fun _ => fun
  | [d1, d2, d3, d4] => { results := [.lit (.bool true)], args := [d1, d2, d3, d4] }
  | _ => none }
def policeTellsRow : OpenClaim := { program := "ytfhifmpkdnnpmaa", sum := "0d5c1c9dfed78f32656cd892681a48c588c292504699197b502321303c0d8aea", func := "remontoir/remontoirlaw16.PoliceTells", spec := "policeTells", unfollowed := true, recurses := true, apart := false }
def PoliceTellsSaid : Prop := policeTellsRow.holds Try.pinned (OpenSpec.ofChange policeTellsSpec)

/-- ITS FALSE NEIGHBOUR: 'it returns false'. Refute it at one input. -/
def policeTellsWrong : ChangeSpec := { name := "policeTells", fn := fun _ => fun
  | [d1, d2, d3, d4] => { results := [.lit (.bool false)], args := [d1, d2, d3, d4] }
  | _ => none }
def PoliceTellsWrongFalsely : Prop := policeTellsRow.holds Try.pinned (OpenSpec.ofChange policeTellsWrong)

/-- 'remontoirlaw16.PoliceFilters': WHATEVER THE INPUT: true; the input reads as it did. -/
def policeFiltersSpec : ChangeSpec := { name := "policeFilters", fn := fun _ => fun
  | [d1, d2] => { results := [.lit (.bool true)], args := [d1, d2] }
  | _ => none }
def policeFiltersRow : OpenClaim := { program := "ytfhifmpkdnnpmaa", sum := "0d5c1c9dfed78f32656cd892681a48c588c292504699197b502321303c0d8aea", func := "remontoir/remontoirlaw16.PoliceFilters", spec := "policeFilters", unfollowed := true, recurses := true, apart := false }
def PoliceFiltersSaid : Prop := policeFiltersRow.holds Try.pinned (OpenSpec.ofChange policeFiltersSpec)

/-- ITS FALSE NEIGHBOUR: 'it returns false'. Refute it at one input. -/
def policeFiltersWrong : ChangeSpec := { name := "policeFilters", fn := fun _ => fun
  | [d1, d2] => { results := [.lit (.bool false)], args := [d1, d2] }
  | _ => none }
def PoliceFiltersWrongFalsely : Prop := policeFiltersRow.holds Try.pinned (OpenSpec.ofChange policeFiltersWrong)

/-- 'remontoirlaw16.PolicePatterns': WHATEVER THE INPUT: true; the input reads as it did. -/
def policePatternsSpec : ChangeSpec := { name := "policePatterns", fn := fun _ => fun
  | [d1, d2] => { results := [.lit (.bool true)], args := [d1, d2] }
  | _ => none }
def policePatternsRow : OpenClaim := { program := "ytfhifmpkdnnpmaa", sum := "0d5c1c9dfed78f32656cd892681a48c588c292504699197b502321303c0d8aea", func := "remontoir/remontoirlaw16.PolicePatterns", spec := "policePatterns", unfollowed := true, recurses := true, apart := false }
def PolicePatternsSaid : Prop := policePatternsRow.holds Try.pinned (OpenSpec.ofChange policePatternsSpec)

/-- ITS FALSE NEIGHBOUR: 'it returns false'. Refute it at one input. -/
def policePatternsWrong : ChangeSpec := { name := "policePatterns", fn := fun _ => fun
  | [d1, d2] => { results := [.lit (.bool false)], args := [d1, d2] }
  | _ => none }
def PolicePatternsWrongFalsely : Prop := policePatternsRow.holds Try.pinned (OpenSpec.ofChange policePatternsWrong)

/-- 'remontoirlaw16.PoliceLater': WHATEVER THE INPUT: true; the input reads as it did. -/
def policeLaterSpec : ChangeSpec := { name := "policeLater", fn := fun _ => fun
  | [d1, d2, d3, d4, d5] => { results := [.lit (.bool true)], args := [d1, d2, d3, d4, d5] }
  | _ => none }
def policeLaterRow : OpenClaim := { program := "ytfhifmpkdnnpmaa", sum := "0d5c1c9dfed78f32656cd892681a48c588c292504699197b502321303c0d8aea", func := "remontoir/remontoirlaw16.PoliceLater", spec := "policeLater", unfollowed := true, recurses := true, apart := false }
def PoliceLaterSaid : Prop := policeLaterRow.holds Try.pinned (OpenSpec.ofChange policeLaterSpec)

/-- ITS FALSE NEIGHBOUR: 'it returns false'. Refute it at one input. -/
def policeLaterWrong : ChangeSpec := { name := "policeLater", fn := fun _ => fun
  | [d1, d2, d3, d4, d5] => { results := [.lit (.bool false)], args := [d1, d2, d3, d4, d5] }
  | _ => none }
def PoliceLaterWrongFalsely : Prop := policeLaterRow.holds Try.pinned (OpenSpec.ofChange policeLaterWrong)

/- THE SECOND FORM. 'bulk': how many values and letters a reading holds, each counted each time it is reached (what is shared counts as often as it is met; a slice's spare places count too). A statement '..UptoSaid' is the law's where the arguments, and the package variables that the reading takes, are together of bulk at most 1048576: NARROWER than '..Said'. Prove '..Said' where nothing that the law and all that it calls make is longer than what came in: it says more and counts as full. Else prove '..UptoSaid'. A law counts once. -/
mutual
def uptoBulk {H : Type} : DataW H → Nat
  | .lit (.string bytes) => bytes.length + 1
  | .lit _ => 1
  | .nil => 1
  | .ptr d => uptoBulk d + 1
  | .slice elems spare => uptoBulkAll elems + uptoBulkAll spare + 1
  | .agg parts => uptoBulkAll parts + 1
  | .iface _ d => uptoBulk d + 1
  | .map entries => uptoBulkEntries entries + 1
  | .held _ => 1
def uptoBulkAll {H : Type} : List (DataW H) → Nat
  | [] => 0
  | d :: r => uptoBulk d + uptoBulkAll r
def uptoBulkEntries {H : Type} : List (Lit × DataW H) → Nat
  | [] => 0
  | x :: r => uptoBulkEntry x + uptoBulkEntries r
def uptoBulkEntry {H : Type} : Lit × DataW H → Nat
  | (.string bytes, d) => bytes.length + uptoBulk d + 1
  | (_, d) => uptoBulk d + 1
 end
def uptoSmall : (H : Type) → List (DataW H) → Bool := fun _ ds => decide (uptoBulkAll ds ≤ 1048576)
def OpenSpec.upto (s : _root_.Go.ChangeSpec) : _root_.Go.OpenSpec := { _root_.Go.OpenSpec.ofChange s with cond := some uptoSmall }

/-- 'remontoirlaw16.PoliceTells', WHERE WHAT IT READS IS OF BULK AT MOST 1048576: true; the input reads as it did. -/
def policeTellsUptoRow : OpenClaim := { program := "ytfhifmpkdnnpmaa", sum := "0d5c1c9dfed78f32656cd892681a48c588c292504699197b502321303c0d8aea", func := "remontoir/remontoirlaw16.PoliceTells", spec := "policeTells", unfollowed := true, recurses := true, apart := false, narrowed := true }
def PoliceTellsUptoSaid : Prop := policeTellsUptoRow.holds Try.pinned (OpenSpec.upto policeTellsSpec)

/-- 'remontoirlaw16.PoliceFilters', WHERE WHAT IT READS IS OF BULK AT MOST 1048576: true; the input reads as it did. -/
def policeFiltersUptoRow : OpenClaim := { program := "ytfhifmpkdnnpmaa", sum := "0d5c1c9dfed78f32656cd892681a48c588c292504699197b502321303c0d8aea", func := "remontoir/remontoirlaw16.PoliceFilters", spec := "policeFilters", unfollowed := true, recurses := true, apart := false, narrowed := true }
def PoliceFiltersUptoSaid : Prop := policeFiltersUptoRow.holds Try.pinned (OpenSpec.upto policeFiltersSpec)

/-- 'remontoirlaw16.PolicePatterns', WHERE WHAT IT READS IS OF BULK AT MOST 1048576: true; the input reads as it did. -/
def policePatternsUptoRow : OpenClaim := { program := "ytfhifmpkdnnpmaa", sum := "0d5c1c9dfed78f32656cd892681a48c588c292504699197b502321303c0d8aea", func := "remontoir/remontoirlaw16.PolicePatterns", spec := "policePatterns", unfollowed := true, recurses := true, apart := false, narrowed := true }
def PolicePatternsUptoSaid : Prop := policePatternsUptoRow.holds Try.pinned (OpenSpec.upto policePatternsSpec)

/-- 'remontoirlaw16.PoliceLater', WHERE WHAT IT READS IS OF BULK AT MOST 1048576: true; the input reads as it did. -/
def policeLaterUptoRow : OpenClaim := { program := "ytfhifmpkdnnpmaa", sum := "0d5c1c9dfed78f32656cd892681a48c588c292504699197b502321303c0d8aea", func := "remontoir/remontoirlaw16.PoliceLater", spec := "policeLater", unfollowed := true, recurses := true, apart := false, narrowed := true }
def PoliceLaterUptoSaid : Prop := policeLaterUptoRow.holds Try.pinned (OpenSpec.upto policeLaterSpec)

end Rows
end Go.Proofs.Ytfhifmpkdnnpmaa
