/-
  No cell of these rows narrows 'for every input' (looked for: loops, veiled, ifaces, maps, wideKeys, modest, calm, conditions, laid).
  DERIVED. THE GIVEN ROWS OF THIS SEAT. 5 by the template 'for every input the law returns true; each argument reads behind the call as it read before'; 0 by the template 'total and deterministic' (their statements: YtmfbmbbndiafiaaTotals.lean).
  GIVEN WITH THE SEED: the statements are not yours to turn. If you find one false, say at which input.
  Laid BY PROGRAM, IN A SANDBOX (cutbox-rows.mjs): the forced cells as the released guide's own fill.sh prints them over the translation 30e389bc8e7cb3ac… (all of the seat's roots in one cut). By AI agents, Wed Nov 11 2026. No macro, syntax, notation, axiom, sorry.
-/
import Derived.Test.YtmfbmbbndiafiaaChecked
import GoSem.Claim
import GoSem.ClaimJoined
import GoSem.ClaimMapViews
import Derived.JoinedTies
import Derived.KernelRfl
namespace Go.Proofs.Ytmfbmbbndiafiaa
/- THE CELL 'sum', in the pinned program and in every row, IS THE sha256 OF THE DUMP (.gsa) THAT YtmfbmbbndiafiaaProg.lean LOADS. Nothing in Lean hashes anything: it is a label: what it is worth is what the hold of that sum in a sandbox is worth. -/
noncomputable def Try.pinned : Pinned := { name := "ytmfbmbbndiafiaa", sum := "30e389bc8e7cb3aceada4e70e9baf92e783ef8f3cd556ceb563abea6e1bf1e8d", checked := Try.checked }
namespace Rows
def none {H : Type} : Left H := { results := [], args := [] }

/-- 'remontoirlaw12.SynthFrames': WHATEVER THE INPUT: true; the input reads as it did. -/
def synthFramesSpec : ChangeSpec := { name := "synthFrames", fn := fun _ => fun
  | [d] => { results := [.lit (.bool true)], args := [d] }
  | _ => none }
def synthFramesRow : OpenClaim := { program := "ytmfbmbbndiafiaa", sum := "30e389bc8e7cb3aceada4e70e9baf92e783ef8f3cd556ceb563abea6e1bf1e8d", func := "remontoir/remontoirlaw12.SynthFrames", spec := "synthFrames", unfollowed := true, recurses := true, apart := false }
def SynthFramesSaid : Prop := synthFramesRow.holds Try.pinned (OpenSpec.ofChange synthFramesSpec)

/-- ITS FALSE NEIGHBOUR: 'it returns false'. Refute it at one input. -/
def synthFramesWrong : ChangeSpec := { name := "synthFrames", fn := fun _ => fun
  | [d] => { results := [.lit (.bool false)], args := [d] }
  | _ => none }
def SynthFramesWrongFalsely : Prop := synthFramesRow.holds Try.pinned (OpenSpec.ofChange synthFramesWrong)

/-- 'remontoirlaw12.SynthLays': WHATEVER THE INPUT: true; the input reads as it did. -/
def synthLaysSpec : ChangeSpec := { name := "synthLays", fn := fun _ => fun
  | [d] => { results := [.lit (.bool true)], args := [d] }
  | _ => none }
def synthLaysRow : OpenClaim := { program := "ytmfbmbbndiafiaa", sum := "30e389bc8e7cb3aceada4e70e9baf92e783ef8f3cd556ceb563abea6e1bf1e8d", func := "remontoir/remontoirlaw12.SynthLays", spec := "synthLays", unfollowed := true, recurses := true, apart := false }
def SynthLaysSaid : Prop := synthLaysRow.holds Try.pinned (OpenSpec.ofChange synthLaysSpec)

/-- ITS FALSE NEIGHBOUR: 'it returns false'. Refute it at one input. -/
def synthLaysWrong : ChangeSpec := { name := "synthLays", fn := fun _ => fun
  | [d] => { results := [.lit (.bool false)], args := [d] }
  | _ => none }
def SynthLaysWrongFalsely : Prop := synthLaysRow.holds Try.pinned (OpenSpec.ofChange synthLaysWrong)

/-- 'remontoirlaw12.SynthShares': WHATEVER THE INPUT: true; the input reads as it did. -/
def synthSharesSpec : ChangeSpec := { name := "synthShares", fn := fun _ => fun
  | [d] => { results := [.lit (.bool true)], args := [d] }
  | _ => none }
def synthSharesRow : OpenClaim := { program := "ytmfbmbbndiafiaa", sum := "30e389bc8e7cb3aceada4e70e9baf92e783ef8f3cd556ceb563abea6e1bf1e8d", func := "remontoir/remontoirlaw12.SynthShares", spec := "synthShares", unfollowed := true, recurses := true, apart := false }
def SynthSharesSaid : Prop := synthSharesRow.holds Try.pinned (OpenSpec.ofChange synthSharesSpec)

/-- ITS FALSE NEIGHBOUR: 'it returns false'. Refute it at one input. -/
def synthSharesWrong : ChangeSpec := { name := "synthShares", fn := fun _ => fun
  | [d] => { results := [.lit (.bool false)], args := [d] }
  | _ => none }
def SynthSharesWrongFalsely : Prop := synthSharesRow.holds Try.pinned (OpenSpec.ofChange synthSharesWrong)

/-- 'remontoirlaw12.SynthSupplies': WHATEVER THE INPUT: true; the input reads as it did. -/
def synthSuppliesSpec : ChangeSpec := { name := "synthSupplies", fn := fun _ => fun
  | [d1, d2, d3] => { results := [.lit (.bool true)], args := [d1, d2, d3] }
  | _ => none }
def synthSuppliesRow : OpenClaim := { program := "ytmfbmbbndiafiaa", sum := "30e389bc8e7cb3aceada4e70e9baf92e783ef8f3cd556ceb563abea6e1bf1e8d", func := "remontoir/remontoirlaw12.SynthSupplies", spec := "synthSupplies", unfollowed := true, recurses := true, apart := false }
def SynthSuppliesSaid : Prop := synthSuppliesRow.holds Try.pinned (OpenSpec.ofChange synthSuppliesSpec)

/-- ITS FALSE NEIGHBOUR: 'it returns false'. Refute it at one input. -/
def synthSuppliesWrong : ChangeSpec := { name := "synthSupplies", fn := fun _ => fun
  | [d1, d2, d3] => { results := [.lit (.bool false)], args := [d1, d2, d3] }
  | _ => none }
def SynthSuppliesWrongFalsely : Prop := synthSuppliesRow.holds Try.pinned (OpenSpec.ofChange synthSuppliesWrong)

/-- 'remontoirlaw12.SynthPeriods': WHATEVER THE INPUT: true; the input reads as it did. -/
def synthPeriodsSpec : ChangeSpec := { name := "synthPeriods", fn := fun _ => fun
  | [d1, d2, d3] => { results := [.lit (.bool true)], args := [d1, d2, d3] }
  | _ => none }
def synthPeriodsRow : OpenClaim := { program := "ytmfbmbbndiafiaa", sum := "30e389bc8e7cb3aceada4e70e9baf92e783ef8f3cd556ceb563abea6e1bf1e8d", func := "remontoir/remontoirlaw12.SynthPeriods", spec := "synthPeriods", unfollowed := true, recurses := true, apart := false }
def SynthPeriodsSaid : Prop := synthPeriodsRow.holds Try.pinned (OpenSpec.ofChange synthPeriodsSpec)

/-- ITS FALSE NEIGHBOUR: 'it returns false'. Refute it at one input. -/
def synthPeriodsWrong : ChangeSpec := { name := "synthPeriods", fn := fun _ => fun
  | [d1, d2, d3] => { results := [.lit (.bool false)], args := [d1, d2, d3] }
  | _ => none }
def SynthPeriodsWrongFalsely : Prop := synthPeriodsRow.holds Try.pinned (OpenSpec.ofChange synthPeriodsWrong)

/- THE SECOND FORM. 'bulk': how many values and letters a reading holds, each counted each time it is reached (what is shared counts as often as it is met; a slice's spare places count too). A statement '..UptoSaid' is the law's where the arguments, and the package variables that the reading takes, are together of bulk at most 1048576: NARROWER than '..Said'. Prove '..Said' where nothing that the law and all that it calls make is longer than what came in: it says more and counts as full. Else prove '..UptoSaid'. A law counts once. -/
mutual
def uptoBulk {H : Type} : DataW H → Nat
  | .lit (.string bytes) => bytes.length + 1
  | .lit _ => 1
  | .nil => 1
  | .ptr d => uptoBulk d + 1
  | .slice elems spare => uptoBulkAll elems + uptoBulkAll spare + 1
  | .agg parts => uptoBulkAll parts + 1
  | .iface _ d => uptoBulk d + 1
  | .map entries => uptoBulkEntries entries + 1
  | .held _ => 1
def uptoBulkAll {H : Type} : List (DataW H) → Nat
  | [] => 0
  | d :: r => uptoBulk d + uptoBulkAll r
def uptoBulkEntries {H : Type} : List (Lit × DataW H) → Nat
  | [] => 0
  | x :: r => uptoBulkEntry x + uptoBulkEntries r
def uptoBulkEntry {H : Type} : Lit × DataW H → Nat
  | (.string bytes, d) => bytes.length + uptoBulk d + 1
  | (_, d) => uptoBulk d + 1
 end
def uptoSmall : (H : Type) → List (DataW H) → Bool := fun _ ds => decide (uptoBulkAll ds ≤ 1048576)
def OpenSpec.upto (s : _root_.Go.ChangeSpec) : _root_.Go.OpenSpec := { _root_.Go.OpenSpec.ofChange s with cond := some uptoSmall }

/-- 'remontoirlaw12.SynthFrames', WHERE WHAT IT READS IS OF BULK AT MOST 1048576: true; the input reads as it did. -/
def synthFramesUptoRow : OpenClaim := { program := "ytmfbmbbndiafiaa", sum := "30e389bc8e7cb3aceada4e70e9baf92e783ef8f3cd556ceb563abea6e1bf1e8d", func := "remontoir/remontoirlaw12.SynthFrames", spec := "synthFrames", unfollowed := true, recurses := true, apart := false, narrowed := true }
def SynthFramesUptoSaid : Prop := synthFramesUptoRow.holds Try.pinned (OpenSpec.upto synthFramesSpec)

/-- 'remontoirlaw12.SynthLays', WHERE WHAT IT READS IS OF BULK AT MOST 1048576: true; the input reads as it did. -/
def synthLaysUptoRow : OpenClaim := { program := "ytmfbmbbndiafiaa", sum := "30e389bc8e7cb3aceada4e70e9baf92e783ef8f3cd556ceb563abea6e1bf1e8d", func := "remontoir/remontoirlaw12.SynthLays", spec := "synthLays", unfollowed := true, recurses := true, apart := false, narrowed := true }
def SynthLaysUptoSaid : Prop := synthLaysUptoRow.holds Try.pinned (OpenSpec.upto synthLaysSpec)

/-- 'remontoirlaw12.SynthShares', WHERE WHAT IT READS IS OF BULK AT MOST 1048576: true; the input reads as it did. -/
def synthSharesUptoRow : OpenClaim := { program := "ytmfbmbbndiafiaa", sum := "30e389bc8e7cb3aceada4e70e9baf92e783ef8f3cd556ceb563abea6e1bf1e8d", func := "remontoir/remontoirlaw12.SynthShares", spec := "synthShares", unfollowed := true, recurses := true, apart := false, narrowed := true }
def SynthSharesUptoSaid : Prop := synthSharesUptoRow.holds Try.pinned (OpenSpec.upto synthSharesSpec)

/-- 'remontoirlaw12.SynthSupplies', WHERE WHAT IT READS IS OF BULK AT MOST 1048576: true; the input reads as it did. -/
def synthSuppliesUptoRow : OpenClaim := { program := "ytmfbmbbndiafiaa", sum := "30e389bc8e7cb3aceada4e70e9baf92e783ef8f3cd556ceb563abea6e1bf1e8d", func := "remontoir/remontoirlaw12.SynthSupplies", spec := "synthSupplies", unfollowed := true, recurses := true, apart := false, narrowed := true }
def SynthSuppliesUptoSaid : Prop := synthSuppliesUptoRow.holds Try.pinned (OpenSpec.upto synthSuppliesSpec)

/-- 'remontoirlaw12.SynthPeriods', WHERE WHAT IT READS IS OF BULK AT MOST 1048576: true; the input reads as it did. -/
def synthPeriodsUptoRow : OpenClaim := { program := "ytmfbmbbndiafiaa", sum := "30e389bc8e7cb3aceada4e70e9baf92e783ef8f3cd556ceb563abea6e1bf1e8d", func := "remontoir/remontoirlaw12.SynthPeriods", spec := "synthPeriods", unfollowed := true, recurses := true, apart := false, narrowed := true }
def SynthPeriodsUptoSaid : Prop := synthPeriodsUptoRow.holds Try.pinned (OpenSpec.upto synthPeriodsSpec)

end Rows
end Go.Proofs.Ytmfbmbbndiafiaa
