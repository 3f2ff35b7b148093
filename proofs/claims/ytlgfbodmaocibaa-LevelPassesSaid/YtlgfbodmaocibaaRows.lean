/-
  No cell of these rows narrows 'for every input' (looked for: loops, veiled, ifaces, maps, wideKeys, modest, calm, conditions, laid).
  DERIVED. THE GIVEN ROWS OF THIS SEAT. 4 by the template 'for every input the law returns true; each argument reads behind the call as it read before'; 0 by the template 'total and deterministic' (their statements: YtlgfbodmaocibaaTotals.lean).
  GIVEN WITH THE SEED: the statements are not yours to turn. If you find one false, say at which input.
  Laid BY PROGRAM, IN A SANDBOX (cutbox-rows.mjs): the forced cells as the released guide's own fill.sh prints them over the translation 7bc2e0081ae908c1… (all of the seat's roots in one cut). By AI agents, Wed Nov 11 2026. No macro, syntax, notation, axiom, sorry.
-/
import Derived.Test.YtlgfbodmaocibaaChecked
import GoSem.Claim
import GoSem.ClaimJoined
import GoSem.ClaimMapViews
import Derived.JoinedTies
import Derived.KernelRfl
namespace Go.Proofs.Ytlgfbodmaocibaa
/- THE CELL 'sum', in the pinned program and in every row, IS THE sha256 OF THE DUMP (.gsa) THAT YtlgfbodmaocibaaProg.lean LOADS. Nothing in Lean hashes anything: it is a label: what it is worth is what the hold of that sum in a sandbox is worth. -/
noncomputable def Try.pinned : Pinned := { name := "ytlgfbodmaocibaa", sum := "7bc2e0081ae908c1b3fd0f8c22768784308e82b70f84b2b3c521c3951b078fa6", checked := Try.checked }
namespace Rows
def none {H : Type} : Left H := { results := [], args := [] }

/-- 'remontoirlaw06.LevelTells': WHATEVER THE INPUT: true; the input reads as it did. -/
def levelTellsSpec : ChangeSpec := { name := "levelTells", fn := fun _ => fun
  | [d1, d2, d3, d4] => { results := [.lit (.bool true)], args := [d1, d2, d3, d4] }
  | _ => none }
def levelTellsRow : OpenClaim := { program := "ytlgfbodmaocibaa", sum := "7bc2e0081ae908c1b3fd0f8c22768784308e82b70f84b2b3c521c3951b078fa6", func := "remontoir/remontoirlaw06.LevelTells", spec := "levelTells", unfollowed := true, recurses := true, apart := false }
def LevelTellsSaid : Prop := levelTellsRow.holds Try.pinned (OpenSpec.ofChange levelTellsSpec)

/-- ITS FALSE NEIGHBOUR: 'it returns false'. Refute it at one input. -/
def levelTellsWrong : ChangeSpec := { name := "levelTells", fn := fun _ => fun
  | [d1, d2, d3, d4] => { results := [.lit (.bool false)], args := [d1, d2, d3, d4] }
  | _ => none }
def LevelTellsWrongFalsely : Prop := levelTellsRow.holds Try.pinned (OpenSpec.ofChange levelTellsWrong)

/-- 'remontoirlaw06.LevelOrders': WHATEVER THE INPUT: true; the input reads as it did. -/
def levelOrdersSpec : ChangeSpec := { name := "levelOrders", fn := fun _ => fun
  | [d1, d2, d3] => { results := [.lit (.bool true)], args := [d1, d2, d3] }
  | _ => none }
def levelOrdersRow : OpenClaim := { program := "ytlgfbodmaocibaa", sum := "7bc2e0081ae908c1b3fd0f8c22768784308e82b70f84b2b3c521c3951b078fa6", func := "remontoir/remontoirlaw06.LevelOrders", spec := "levelOrders", unfollowed := true, recurses := true, apart := false }
def LevelOrdersSaid : Prop := levelOrdersRow.holds Try.pinned (OpenSpec.ofChange levelOrdersSpec)

/-- ITS FALSE NEIGHBOUR: 'it returns false'. Refute it at one input. -/
def levelOrdersWrong : ChangeSpec := { name := "levelOrders", fn := fun _ => fun
  | [d1, d2, d3] => { results := [.lit (.bool false)], args := [d1, d2, d3] }
  | _ => none }
def LevelOrdersWrongFalsely : Prop := levelOrdersRow.holds Try.pinned (OpenSpec.ofChange levelOrdersWrong)

/-- 'remontoirlaw06.LevelPasses': WHATEVER THE INPUT: true; the input reads as it did. -/
def levelPassesSpec : ChangeSpec := { name := "levelPasses", fn := fun _ => fun
  | [d1, d2, d3, d4] => { results := [.lit (.bool true)], args := [d1, d2, d3, d4] }
  | _ => none }
def levelPassesRow : OpenClaim := { program := "ytlgfbodmaocibaa", sum := "7bc2e0081ae908c1b3fd0f8c22768784308e82b70f84b2b3c521c3951b078fa6", func := "remontoir/remontoirlaw06.LevelPasses", spec := "levelPasses", unfollowed := true, recurses := true, apart := false }
def LevelPassesSaid : Prop := levelPassesRow.holds Try.pinned (OpenSpec.ofChange levelPassesSpec)

/-- ITS FALSE NEIGHBOUR: 'it returns false'. Refute it at one input. -/
def levelPassesWrong : ChangeSpec := { name := "levelPasses", fn := fun _ => fun
  | [d1, d2, d3, d4] => { results := [.lit (.bool false)], args := [d1, d2, d3, d4] }
  | _ => none }
def LevelPassesWrongFalsely : Prop := levelPassesRow.holds Try.pinned (OpenSpec.ofChange levelPassesWrong)

/-- 'remontoirlaw06.LevelRows': WHATEVER THE INPUT: true; the input reads as it did. -/
def levelRowsSpec : ChangeSpec := { name := "levelRows", fn := fun _ => fun
  | [d1, d2, d3] => { results := [.lit (.bool true)], args := [d1, d2, d3] }
  | _ => none }
def levelRowsRow : OpenClaim := { program := "ytlgfbodmaocibaa", sum := "7bc2e0081ae908c1b3fd0f8c22768784308e82b70f84b2b3c521c3951b078fa6", func := "remontoir/remontoirlaw06.LevelRows", spec := "levelRows", unfollowed := true, recurses := true, apart := false }
def LevelRowsSaid : Prop := levelRowsRow.holds Try.pinned (OpenSpec.ofChange levelRowsSpec)

/-- ITS FALSE NEIGHBOUR: 'it returns false'. Refute it at one input. -/
def levelRowsWrong : ChangeSpec := { name := "levelRows", fn := fun _ => fun
  | [d1, d2, d3] => { results := [.lit (.bool false)], args := [d1, d2, d3] }
  | _ => none }
def LevelRowsWrongFalsely : Prop := levelRowsRow.holds Try.pinned (OpenSpec.ofChange levelRowsWrong)

/- THE SECOND FORM. 'bulk': how many values and letters a reading holds, each counted each time it is reached (what is shared counts as often as it is met; a slice's spare places count too). A statement '..UptoSaid' is the law's where the arguments, and the package variables that the reading takes, are together of bulk at most 1048576: NARROWER than '..Said'. Prove '..Said' where nothing that the law and all that it calls make is longer than what came in: it says more and counts as full. Else prove '..UptoSaid'. A law counts once. -/
mutual
def uptoBulk {H : Type} : DataW H → Nat
  | .lit (.string bytes) => bytes.length + 1
  | .lit _ => 1
  | .nil => 1
  | .ptr d => uptoBulk d + 1
  | .slice elems spare => uptoBulkAll elems + uptoBulkAll spare + 1
  | .agg parts => uptoBulkAll parts + 1
  | .iface _ d => uptoBulk d + 1
  | .map entries => uptoBulkEntries entries + 1
  | .held _ => 1
def uptoBulkAll {H : Type} : List (DataW H) → Nat
  | [] => 0
  | d :: r => uptoBulk d + uptoBulkAll r
def uptoBulkEntries {H : Type} : List (Lit × DataW H) → Nat
  | [] => 0
  | x :: r => uptoBulkEntry x + uptoBulkEntries r
def uptoBulkEntry {H : Type} : Lit × DataW H → Nat
  | (.string bytes, d) => bytes.length + uptoBulk d + 1
  | (_, d) => uptoBulk d + 1
 end
def uptoSmall : (H : Type) → List (DataW H) → Bool := fun _ ds => decide (uptoBulkAll ds ≤ 1048576)
def OpenSpec.upto (s : _root_.Go.ChangeSpec) : _root_.Go.OpenSpec := { _root_.Go.OpenSpec.ofChange s with cond := some uptoSmall }

/-- 'remontoirlaw06.LevelTells', WHERE WHAT IT READS IS OF BULK AT MOST 1048576: true; the input reads as it did. -/
def levelTellsUptoRow : OpenClaim := { program := "ytlgfbodmaocibaa", sum := "7bc2e0081ae908c1b3fd0f8c22768784308e82b70f84b2b3c521c3951b078fa6", func := "remontoir/remontoirlaw06.LevelTells", spec := "levelTells", unfollowed := true, recurses := true, apart := false, narrowed := true }
def LevelTellsUptoSaid : Prop := levelTellsUptoRow.holds Try.pinned (OpenSpec.upto levelTellsSpec)

/-- 'remontoirlaw06.LevelOrders', WHERE WHAT IT READS IS OF BULK AT MOST 1048576: true; the input reads as it did. -/
def levelOrdersUptoRow : OpenClaim := { program := "ytlgfbodmaocibaa", sum := "7bc2e0081ae908c1b3fd0f8c22768784308e82b70f84b2b3c521c3951b078fa6", func := "remontoir/remontoirlaw06.LevelOrders", spec := "levelOrders", unfollowed := true, recurses := true, apart := false, narrowed := true }
def LevelOrdersUptoSaid : Prop := levelOrdersUptoRow.holds Try.pinned (OpenSpec.upto levelOrdersSpec)

/-- 'remontoirlaw06.LevelPasses', WHERE WHAT IT READS IS OF BULK AT MOST 1048576: true; the input reads as it did. -/
def levelPassesUptoRow : OpenClaim := { program := "ytlgfbodmaocibaa", sum := "7bc2e0081ae908c1b3fd0f8c22768784308e82b70f84b2b3c521c3951b078fa6", func := "remontoir/remontoirlaw06.LevelPasses", spec := "levelPasses", unfollowed := true, recurses := true, apart := false, narrowed := true }
def LevelPassesUptoSaid : Prop := levelPassesUptoRow.holds Try.pinned (OpenSpec.upto levelPassesSpec)

/-- 'remontoirlaw06.LevelRows', WHERE WHAT IT READS IS OF BULK AT MOST 1048576: true; the input reads as it did. -/
def levelRowsUptoRow : OpenClaim := { program := "ytlgfbodmaocibaa", sum := "7bc2e0081ae908c1b3fd0f8c22768784308e82b70f84b2b3c521c3951b078fa6", func := "remontoir/remontoirlaw06.LevelRows", spec := "levelRows", unfollowed := true, recurses := true, apart := false, narrowed := true }
def LevelRowsUptoSaid : Prop := levelRowsUptoRow.holds Try.pinned (OpenSpec.upto levelRowsSpec)

end Rows
end Go.Proofs.Ytlgfbodmaocibaa
