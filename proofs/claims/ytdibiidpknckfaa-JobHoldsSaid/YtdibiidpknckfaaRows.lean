/-
  No cell of these rows narrows 'for every input' (looked for: loops, veiled, ifaces, maps, wideKeys, modest, calm, conditions, laid).
  DERIVED. THE GIVEN ROWS OF THIS SEAT. 3 by the template 'for every input the law returns true; each argument reads behind the call as it read before'; 0 by the template 'total and deterministic' (their statements: YtdibiidpknckfaaTotals.lean).
  GIVEN WITH THE SEED: the statements are not yours to turn. If you find one false, say at which input.
  Laid BY PROGRAM, IN A SANDBOX (cutbox-rows.mjs): the forced cells as the released guide's own fill.sh prints them over the translation d0119bbc802b747d… (all of the seat's roots in one cut). By AI agents, Wed Nov 11 2026. No macro, syntax, notation, axiom, sorry.
-/
import Derived.Test.YtdibiidpknckfaaChecked
import GoSem.Claim
import GoSem.ClaimJoined
import GoSem.ClaimMapViews
import Derived.JoinedTies
import Derived.KernelRfl
namespace Go.Proofs.Ytdibiidpknckfaa
/- THE CELL 'sum', in the pinned program and in every row, IS THE sha256 OF THE DUMP (.gsa) THAT YtdibiidpknckfaaProg.lean LOADS. Nothing in Lean hashes anything: it is a label: what it is worth is what the hold of that sum in a sandbox is worth. -/
noncomputable def Try.pinned : Pinned := { name := "ytdibiidpknckfaa", sum := "d0119bbc802b747d6848001e15139cde1fe8b1a7733837ea68e424c308028f01", checked := Try.checked }
namespace Rows
def none {H : Type} : Left H := { results := [], args := [] }

/-- 'remontoirlaw14.JobHolds': WHATEVER THE INPUT: true; the input reads as it did. -/
def jobHoldsSpec : ChangeSpec := { name := "jobHolds", fn := fun _ => fun
  | [d1, d2] => { results := [.lit (.bool true)], args := [d1, d2] }
  | _ => none }
def jobHoldsRow : OpenClaim := { program := "ytdibiidpknckfaa", sum := "d0119bbc802b747d6848001e15139cde1fe8b1a7733837ea68e424c308028f01", func := "remontoir/remontoirlaw14.JobHolds", spec := "jobHolds", unfollowed := true, recurses := true, apart := false }
def JobHoldsSaid : Prop := jobHoldsRow.holds Try.pinned (OpenSpec.ofChange jobHoldsSpec)

/-- ITS FALSE NEIGHBOUR: 'it returns false'. Refute it at one input. -/
def jobHoldsWrong : ChangeSpec := { name := "jobHolds", fn := fun _ => fun
  | [d1, d2] => { results := [.lit (.bool false)], args := [d1, d2] }
  | _ => none }
def JobHoldsWrongFalsely : Prop := jobHoldsRow.holds Try.pinned (OpenSpec.ofChange jobHoldsWrong)

/-- 'remontoirlaw14.JobOne': WHATEVER THE INPUT: true; the input reads as it did. -/
def jobOneSpec : ChangeSpec := { name := "jobOne", fn := fun _ => fun
  | [d1, d2, d3, d4, d5] => { results := [.lit (.bool true)], args := [d1, d2, d3, d4, d5] }
  | _ => none }
def jobOneRow : OpenClaim := { program := "ytdibiidpknckfaa", sum := "d0119bbc802b747d6848001e15139cde1fe8b1a7733837ea68e424c308028f01", func := "remontoir/remontoirlaw14.JobOne", spec := "jobOne", unfollowed := true, recurses := true, apart := false }
def JobOneSaid : Prop := jobOneRow.holds Try.pinned (OpenSpec.ofChange jobOneSpec)

/-- ITS FALSE NEIGHBOUR: 'it returns false'. Refute it at one input. -/
def jobOneWrong : ChangeSpec := { name := "jobOne", fn := fun _ => fun
  | [d1, d2, d3, d4, d5] => { results := [.lit (.bool false)], args := [d1, d2, d3, d4, d5] }
  | _ => none }
def JobOneWrongFalsely : Prop := jobOneRow.holds Try.pinned (OpenSpec.ofChange jobOneWrong)

/-- 'remontoirlaw14.JobFirst': WHATEVER THE INPUT: true; the input reads as it did. -/
def jobFirstSpec : ChangeSpec := { name := "jobFirst", fn := fun _ => fun
  | [d1, d2, d3] => { results := [.lit (.bool true)], args := [d1, d2, d3] }
  | _ => none }
def jobFirstRow : OpenClaim := { program := "ytdibiidpknckfaa", sum := "d0119bbc802b747d6848001e15139cde1fe8b1a7733837ea68e424c308028f01", func := "remontoir/remontoirlaw14.JobFirst", spec := "jobFirst", unfollowed := true, recurses := true, apart := false }
def JobFirstSaid : Prop := jobFirstRow.holds Try.pinned (OpenSpec.ofChange jobFirstSpec)

/-- ITS FALSE NEIGHBOUR: 'it returns false'. Refute it at one input. -/
def jobFirstWrong : ChangeSpec := { name := "jobFirst", fn := fun _ => fun
  | [d1, d2, d3] => { results := [.lit (.bool false)], args := [d1, d2, d3] }
  | _ => none }
def JobFirstWrongFalsely : Prop := jobFirstRow.holds Try.pinned (OpenSpec.ofChange jobFirstWrong)

/- THE SECOND FORM. 'bulk': how many values and letters a reading holds, each counted each time it is reached (what is shared counts as often as it is met; a slice's spare places count too). A statement '..UptoSaid' is the law's where the arguments, and the package variables that the reading takes, are together of bulk at most 1048576: NARROWER than '..Said'. Prove '..Said' where nothing that the law and all that it calls make is longer than what came in: it says more and counts as full. Else prove '..UptoSaid'. A law counts once. -/
mutual
def uptoBulk {H : Type} : DataW H → Nat
  | .lit (.string bytes) => bytes.length + 1
  | .lit _ => 1
  | .nil => 1
  | .ptr d => uptoBulk d + 1
  | .slice elems spare => uptoBulkAll elems + uptoBulkAll spare + 1
  | .agg parts => uptoBulkAll parts + 1
  | .iface _ d => uptoBulk d + 1
  | .map entries => uptoBulkEntries entries + 1
  | .held _ => 1
def uptoBulkAll {H : Type} : List (DataW H) → Nat
  | [] => 0
  | d :: r => uptoBulk d + uptoBulkAll r
def uptoBulkEntries {H : Type} : List (Lit × DataW H) → Nat
  | [] => 0
  | x :: r => uptoBulkEntry x + uptoBulkEntries r
def uptoBulkEntry {H : Type} : Lit × DataW H → Nat
  | (.string bytes, d) => bytes.length + uptoBulk d + 1
  | (_, d) => uptoBulk d + 1
 end
def uptoSmall : (H : Type) → List (DataW H) → Bool := fun _ ds => decide (uptoBulkAll ds ≤ 1048576)
def OpenSpec.upto (s : _root_.Go.ChangeSpec) : _root_.Go.OpenSpec := { _root_.Go.OpenSpec.ofChange s with cond := some uptoSmall }

/-- 'remontoirlaw14.JobHolds', WHERE WHAT IT READS IS OF BULK AT MOST 1048576: true; the input reads as it did. -/
def jobHoldsUptoRow : OpenClaim := { program := "ytdibiidpknckfaa", sum := "d0119bbc802b747d6848001e15139cde1fe8b1a7733837ea68e424c308028f01", func := "remontoir/remontoirlaw14.JobHolds", spec := "jobHolds", unfollowed := true, recurses := true, apart := false, narrowed := true }
def JobHoldsUptoSaid : Prop := jobHoldsUptoRow.holds Try.pinned (OpenSpec.upto jobHoldsSpec)

/-- 'remontoirlaw14.JobOne', WHERE WHAT IT READS IS OF BULK AT MOST 1048576: true; the input reads as it did. -/
def jobOneUptoRow : OpenClaim := { program := "ytdibiidpknckfaa", sum := "d0119bbc802b747d6848001e15139cde1fe8b1a7733837ea68e424c308028f01", func := "remontoir/remontoirlaw14.JobOne", spec := "jobOne", unfollowed := true, recurses := true, apart := false, narrowed := true }
def JobOneUptoSaid : Prop := jobOneUptoRow.holds Try.pinned (OpenSpec.upto jobOneSpec)

/-- 'remontoirlaw14.JobFirst', WHERE WHAT IT READS IS OF BULK AT MOST 1048576: true; the input reads as it did. -/
def jobFirstUptoRow : OpenClaim := { program := "ytdibiidpknckfaa", sum := "d0119bbc802b747d6848001e15139cde1fe8b1a7733837ea68e424c308028f01", func := "remontoir/remontoirlaw14.JobFirst", spec := "jobFirst", unfollowed := true, recurses := true, apart := false, narrowed := true }
def JobFirstUptoSaid : Prop := jobFirstUptoRow.holds Try.pinned (OpenSpec.upto jobFirstSpec)

end Rows
end Go.Proofs.Ytdibiidpknckfaa
