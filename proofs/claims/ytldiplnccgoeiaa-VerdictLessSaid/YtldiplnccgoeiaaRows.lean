/-
  No cell of these rows narrows 'for every input' (looked for: loops, veiled, ifaces, maps, wideKeys, modest, calm, conditions, laid).
  DERIVED. THE GIVEN ROWS OF THIS SEAT. 6 by the template 'for every input the law returns true; each argument reads behind the call as it read before'; 0 by the template 'total and deterministic' (their statements: YtldiplnccgoeiaaTotals.lean).
  GIVEN WITH THE SEED: the statements are not yours to turn. If you find one false, say at which input.
  Laid BY PROGRAM, IN A SANDBOX (cutbox-rows.mjs): the forced cells as the released guide's own fill.sh prints them over the translation 3c91f0a3bc7bd569… (all of the seat's roots in one cut). By AI agents, Wed Nov 11 2026. No macro, syntax, notation, axiom, sorry.
-/
import Derived.Test.YtldiplnccgoeiaaChecked
import GoSem.Claim
import GoSem.ClaimJoined
import GoSem.ClaimMapViews
import Derived.JoinedTies
import Derived.KernelRfl
namespace Go.Proofs.Ytldiplnccgoeiaa
/- THE CELL 'sum', in the pinned program and in every row, IS THE sha256 OF THE DUMP (.gsa) THAT YtldiplnccgoeiaaProg.lean LOADS. Nothing in Lean hashes anything: it is a label: what it is worth is what the hold of that sum in a sandbox is worth. -/
noncomputable def Try.pinned : Pinned := { name := "ytldiplnccgoeiaa", sum := "3c91f0a3bc7bd569dc2747a2bc57547636b666aa8f489b993914dca62c86f0b1", checked := Try.checked }
namespace Rows
def none {H : Type} : Left H := { results := [], args := [] }

/-- 'remontoirlaw10.VerdictNeeds': WHATEVER THE INPUT: true; the input reads as it did. -/
def verdictNeedsSpec : ChangeSpec := { name := "verdictNeeds", fn := fun _ => fun
  | [d1, d2] => { results := [.lit (.bool true)], args := [d1, d2] }
  | _ => none }
def verdictNeedsRow : OpenClaim := { program := "ytldiplnccgoeiaa", sum := "3c91f0a3bc7bd569dc2747a2bc57547636b666aa8f489b993914dca62c86f0b1", func := "remontoir/remontoirlaw10.VerdictNeeds", spec := "verdictNeeds", unfollowed := true, recurses := true, apart := false }
def VerdictNeedsSaid : Prop := verdictNeedsRow.holds Try.pinned (OpenSpec.ofChange verdictNeedsSpec)

/-- ITS FALSE NEIGHBOUR: 'it returns false'. Refute it at one input. -/
def verdictNeedsWrong : ChangeSpec := { name := "verdictNeeds", fn := fun _ => fun
  | [d1, d2] => { results := [.lit (.bool false)], args := [d1, d2] }
  | _ => none }
def VerdictNeedsWrongFalsely : Prop := verdictNeedsRow.holds Try.pinned (OpenSpec.ofChange verdictNeedsWrong)

/-- 'remontoirlaw10.VerdictCycles': WHATEVER THE INPUT: true; the input reads as it did. -/
def verdictCyclesSpec : ChangeSpec := { name := "verdictCycles", fn := fun _ => fun
  | [d1, d2] => { results := [.lit (.bool true)], args := [d1, d2] }
  | _ => none }
def verdictCyclesRow : OpenClaim := { program := "ytldiplnccgoeiaa", sum := "3c91f0a3bc7bd569dc2747a2bc57547636b666aa8f489b993914dca62c86f0b1", func := "remontoir/remontoirlaw10.VerdictCycles", spec := "verdictCycles", unfollowed := true, recurses := true, apart := false }
def VerdictCyclesSaid : Prop := verdictCyclesRow.holds Try.pinned (OpenSpec.ofChange verdictCyclesSpec)

/-- ITS FALSE NEIGHBOUR: 'it returns false'. Refute it at one input. -/
def verdictCyclesWrong : ChangeSpec := { name := "verdictCycles", fn := fun _ => fun
  | [d1, d2] => { results := [.lit (.bool false)], args := [d1, d2] }
  | _ => none }
def VerdictCyclesWrongFalsely : Prop := verdictCyclesRow.holds Try.pinned (OpenSpec.ofChange verdictCyclesWrong)

/-- 'remontoirlaw10.VerdictTells': WHATEVER THE INPUT: true; the input reads as it did. -/
def verdictTellsSpec : ChangeSpec := { name := "verdictTells", fn := fun _ => fun
  | [d1, d2] => { results := [.lit (.bool true)], args := [d1, d2] }
  | _ => none }
def verdictTellsRow : OpenClaim := { program := "ytldiplnccgoeiaa", sum := "3c91f0a3bc7bd569dc2747a2bc57547636b666aa8f489b993914dca62c86f0b1", func := "remontoir/remontoirlaw10.VerdictTells", spec := "verdictTells", unfollowed := true, recurses := true, apart := false }
def VerdictTellsSaid : Prop := verdictTellsRow.holds Try.pinned (OpenSpec.ofChange verdictTellsSpec)

/-- ITS FALSE NEIGHBOUR: 'it returns false'. Refute it at one input. -/
def verdictTellsWrong : ChangeSpec := { name := "verdictTells", fn := fun _ => fun
  | [d1, d2] => { results := [.lit (.bool false)], args := [d1, d2] }
  | _ => none }
def VerdictTellsWrongFalsely : Prop := verdictTellsRow.holds Try.pinned (OpenSpec.ofChange verdictTellsWrong)

/-- 'remontoirlaw10.VerdictAll': WHATEVER THE INPUT: true; the input reads as it did. -/
def verdictAllSpec : ChangeSpec := { name := "verdictAll", fn := fun _ => fun
  | [d1, d2, d3] => { results := [.lit (.bool true)], args := [d1, d2, d3] }
  | _ => none }
def verdictAllRow : OpenClaim := { program := "ytldiplnccgoeiaa", sum := "3c91f0a3bc7bd569dc2747a2bc57547636b666aa8f489b993914dca62c86f0b1", func := "remontoir/remontoirlaw10.VerdictAll", spec := "verdictAll", unfollowed := true, recurses := true, apart := false }
def VerdictAllSaid : Prop := verdictAllRow.holds Try.pinned (OpenSpec.ofChange verdictAllSpec)

/-- ITS FALSE NEIGHBOUR: 'it returns false'. Refute it at one input. -/
def verdictAllWrong : ChangeSpec := { name := "verdictAll", fn := fun _ => fun
  | [d1, d2, d3] => { results := [.lit (.bool false)], args := [d1, d2, d3] }
  | _ => none }
def VerdictAllWrongFalsely : Prop := verdictAllRow.holds Try.pinned (OpenSpec.ofChange verdictAllWrong)

/-- 'remontoirlaw10.VerdictSome': WHATEVER THE INPUT: true; the input reads as it did. -/
def verdictSomeSpec : ChangeSpec := { name := "verdictSome", fn := fun _ => fun
  | [d1, d2] => { results := [.lit (.bool true)], args := [d1, d2] }
  | _ => none }
def verdictSomeRow : OpenClaim := { program := "ytldiplnccgoeiaa", sum := "3c91f0a3bc7bd569dc2747a2bc57547636b666aa8f489b993914dca62c86f0b1", func := "remontoir/remontoirlaw10.VerdictSome", spec := "verdictSome", unfollowed := true, recurses := true, apart := false }
def VerdictSomeSaid : Prop := verdictSomeRow.holds Try.pinned (OpenSpec.ofChange verdictSomeSpec)

/-- ITS FALSE NEIGHBOUR: 'it returns false'. Refute it at one input. -/
def verdictSomeWrong : ChangeSpec := { name := "verdictSome", fn := fun _ => fun
  | [d1, d2] => { results := [.lit (.bool false)], args := [d1, d2] }
  | _ => none }
def VerdictSomeWrongFalsely : Prop := verdictSomeRow.holds Try.pinned (OpenSpec.ofChange verdictSomeWrong)

/-- 'remontoirlaw10.VerdictLess': WHATEVER THE INPUT: true; the input reads as it did. -/
def verdictLessSpec : ChangeSpec := { name := "verdictLess", fn := fun _ => fun
  | [d1, d2, d3] => { results := [.lit (.bool true)], args := [d1, d2, d3] }
  | _ => none }
def verdictLessRow : OpenClaim := { program := "ytldiplnccgoeiaa", sum := "3c91f0a3bc7bd569dc2747a2bc57547636b666aa8f489b993914dca62c86f0b1", func := "remontoir/remontoirlaw10.VerdictLess", spec := "verdictLess", unfollowed := true, recurses := true, apart := false }
def VerdictLessSaid : Prop := verdictLessRow.holds Try.pinned (OpenSpec.ofChange verdictLessSpec)

/-- ITS FALSE NEIGHBOUR: 'it returns false'. Refute it at one input. -/
def verdictLessWrong : ChangeSpec := { name := "verdictLess", fn := fun _ => fun
  | [d1, d2, d3] => { results := [.lit (.bool false)], args := [d1, d2, d3] }
  | _ => none }
def VerdictLessWrongFalsely : Prop := verdictLessRow.holds Try.pinned (OpenSpec.ofChange verdictLessWrong)

/- THE SECOND FORM. 'bulk': how many values and letters a reading holds, each counted each time it is reached (what is shared counts as often as it is met; a slice's spare places count too). A statement '..UptoSaid' is the law's where the arguments, and the package variables that the reading takes, are together of bulk at most 1048576: NARROWER than '..Said'. Prove '..Said' where nothing that the law and all that it calls make is longer than what came in: it says more and counts as full. Else prove '..UptoSaid'. A law counts once. -/
mutual
def uptoBulk {H : Type} : DataW H → Nat
  | .lit (.string bytes) => bytes.length + 1
  | .lit _ => 1
  | .nil => 1
  | .ptr d => uptoBulk d + 1
  | .slice elems spare => uptoBulkAll elems + uptoBulkAll spare + 1
  | .agg parts => uptoBulkAll parts + 1
  | .iface _ d => uptoBulk d + 1
  | .map entries => uptoBulkEntries entries + 1
  | .held _ => 1
def uptoBulkAll {H : Type} : List (DataW H) → Nat
  | [] => 0
  | d :: r => uptoBulk d + uptoBulkAll r
def uptoBulkEntries {H : Type} : List (Lit × DataW H) → Nat
  | [] => 0
  | x :: r => uptoBulkEntry x + uptoBulkEntries r
def uptoBulkEntry {H : Type} : Lit × DataW H → Nat
  | (.string bytes, d) => bytes.length + uptoBulk d + 1
  | (_, d) => uptoBulk d + 1
 end
def uptoSmall : (H : Type) → List (DataW H) → Bool := fun _ ds => decide (uptoBulkAll ds ≤ 1048576)
def OpenSpec.upto (s : _root_.Go.ChangeSpec) : _root_.Go.OpenSpec := { _root_.Go.OpenSpec.ofChange s with cond := some uptoSmall }

/-- 'remontoirlaw10.VerdictNeeds', WHERE WHAT IT READS IS OF BULK AT MOST 1048576: true; the input reads as it did. -/
def verdictNeedsUptoRow : OpenClaim := { program := "ytldiplnccgoeiaa", sum := "3c91f0a3bc7bd569dc2747a2bc57547636b666aa8f489b993914dca62c86f0b1", func := "remontoir/remontoirlaw10.VerdictNeeds", spec := "verdictNeeds", unfollowed := true, recurses := true, apart := false, narrowed := true }
def VerdictNeedsUptoSaid : Prop := verdictNeedsUptoRow.holds Try.pinned (OpenSpec.upto verdictNeedsSpec)

/-- 'remontoirlaw10.VerdictCycles', WHERE WHAT IT READS IS OF BULK AT MOST 1048576: true; the input reads as it did. -/
def verdictCyclesUptoRow : OpenClaim := { program := "ytldiplnccgoeiaa", sum := "3c91f0a3bc7bd569dc2747a2bc57547636b666aa8f489b993914dca62c86f0b1", func := "remontoir/remontoirlaw10.VerdictCycles", spec := "verdictCycles", unfollowed := true, recurses := true, apart := false, narrowed := true }
def VerdictCyclesUptoSaid : Prop := verdictCyclesUptoRow.holds Try.pinned (OpenSpec.upto verdictCyclesSpec)

/-- 'remontoirlaw10.VerdictTells', WHERE WHAT IT READS IS OF BULK AT MOST 1048576: true; the input reads as it did. -/
def verdictTellsUptoRow : OpenClaim := { program := "ytldiplnccgoeiaa", sum := "3c91f0a3bc7bd569dc2747a2bc57547636b666aa8f489b993914dca62c86f0b1", func := "remontoir/remontoirlaw10.VerdictTells", spec := "verdictTells", unfollowed := true, recurses := true, apart := false, narrowed := true }
def VerdictTellsUptoSaid : Prop := verdictTellsUptoRow.holds Try.pinned (OpenSpec.upto verdictTellsSpec)

/-- 'remontoirlaw10.VerdictAll', WHERE WHAT IT READS IS OF BULK AT MOST 1048576: true; the input reads as it did. -/
def verdictAllUptoRow : OpenClaim := { program := "ytldiplnccgoeiaa", sum := "3c91f0a3bc7bd569dc2747a2bc57547636b666aa8f489b993914dca62c86f0b1", func := "remontoir/remontoirlaw10.VerdictAll", spec := "verdictAll", unfollowed := true, recurses := true, apart := false, narrowed := true }
def VerdictAllUptoSaid : Prop := verdictAllUptoRow.holds Try.pinned (OpenSpec.upto verdictAllSpec)

/-- 'remontoirlaw10.VerdictSome', WHERE WHAT IT READS IS OF BULK AT MOST 1048576: true; the input reads as it did. -/
def verdictSomeUptoRow : OpenClaim := { program := "ytldiplnccgoeiaa", sum := "3c91f0a3bc7bd569dc2747a2bc57547636b666aa8f489b993914dca62c86f0b1", func := "remontoir/remontoirlaw10.VerdictSome", spec := "verdictSome", unfollowed := true, recurses := true, apart := false, narrowed := true }
def VerdictSomeUptoSaid : Prop := verdictSomeUptoRow.holds Try.pinned (OpenSpec.upto verdictSomeSpec)

/-- 'remontoirlaw10.VerdictLess', WHERE WHAT IT READS IS OF BULK AT MOST 1048576: true; the input reads as it did. -/
def verdictLessUptoRow : OpenClaim := { program := "ytldiplnccgoeiaa", sum := "3c91f0a3bc7bd569dc2747a2bc57547636b666aa8f489b993914dca62c86f0b1", func := "remontoir/remontoirlaw10.VerdictLess", spec := "verdictLess", unfollowed := true, recurses := true, apart := false, narrowed := true }
def VerdictLessUptoSaid : Prop := verdictLessUptoRow.holds Try.pinned (OpenSpec.upto verdictLessSpec)

end Rows
end Go.Proofs.Ytldiplnccgoeiaa
