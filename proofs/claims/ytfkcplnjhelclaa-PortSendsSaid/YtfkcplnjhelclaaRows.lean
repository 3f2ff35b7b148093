/-
  No cell of these rows narrows 'for every input' (looked for: loops, veiled, ifaces, maps, wideKeys, modest, calm, conditions, laid).
  DERIVED. THE GIVEN ROWS OF THIS SEAT. 4 by the template 'for every input the law returns true; each argument reads behind the call as it read before'; 0 by the template 'total and deterministic' (their statements: YtfkcplnjhelclaaTotals.lean).
  GIVEN WITH THE SEED: the statements are not yours to turn. If you find one false, say at which input.
  Laid BY PROGRAM, IN A SANDBOX (cutbox-rows.mjs): the forced cells as the released guide's own fill.sh prints them over the translation ed37db4293ca8c00… (all of the seat's roots in one cut). By AI agents, Wed Nov 11 2026. No macro, syntax, notation, axiom, sorry.
-/
import Derived.Test.YtfkcplnjhelclaaChecked
import GoSem.Claim
import GoSem.ClaimJoined
import GoSem.ClaimMapViews
import Derived.JoinedTies
import Derived.KernelRfl
namespace Go.Proofs.Ytfkcplnjhelclaa
/- THE CELL 'sum', in the pinned program and in every row, IS THE sha256 OF THE DUMP (.gsa) THAT YtfkcplnjhelclaaProg.lean LOADS. Nothing in Lean hashes anything: it is a label: what it is worth is what the hold of that sum in a sandbox is worth. -/
noncomputable def Try.pinned : Pinned := { name := "ytfkcplnjhelclaa", sum := "ed37db4293ca8c0074492f02cc0c32ad59e02260ed48747b35036876e085dc71", checked := Try.checked }
namespace Rows
def none {H : Type} : Left H := { results := [], args := [] }

/-- 'remontoirlaw18.PortSends': WHATEVER THE INPUT: true; the input reads as it did. -/
def portSendsSpec : ChangeSpec := { name := "portSends", fn := fun _ => fun
  | [d1, d2, d3, d4] => { results := [.lit (.bool true)], args := [d1, d2, d3, d4] }
  | _ => none }
def portSendsRow : OpenClaim := { program := "ytfkcplnjhelclaa", sum := "ed37db4293ca8c0074492f02cc0c32ad59e02260ed48747b35036876e085dc71", func := "remontoir/remontoirlaw18.PortSends", spec := "portSends", unfollowed := true, recurses := true, apart := false }
def PortSendsSaid : Prop := portSendsRow.holds Try.pinned (OpenSpec.ofChange portSendsSpec)

/-- ITS FALSE NEIGHBOUR: 'it returns false'. Refute it at one input. -/
def portSendsWrong : ChangeSpec := { name := "portSends", fn := fun _ => fun
  | [d1, d2, d3, d4] => { results := [.lit (.bool false)], args := [d1, d2, d3, d4] }
  | _ => none }
def PortSendsWrongFalsely : Prop := portSendsRow.holds Try.pinned (OpenSpec.ofChange portSendsWrong)

/-- 'remontoirlaw18.PortDelivers': WHATEVER THE INPUT: true; the input reads as it did. -/
def portDeliversSpec : ChangeSpec := { name := "portDelivers", fn := fun _ => fun
  | [d] => { results := [.lit (.bool true)], args := [d] }
  | _ => none }
def portDeliversRow : OpenClaim := { program := "ytfkcplnjhelclaa", sum := "ed37db4293ca8c0074492f02cc0c32ad59e02260ed48747b35036876e085dc71", func := "remontoir/remontoirlaw18.PortDelivers", spec := "portDelivers", unfollowed := true, recurses := true, apart := false }
def PortDeliversSaid : Prop := portDeliversRow.holds Try.pinned (OpenSpec.ofChange portDeliversSpec)

/-- ITS FALSE NEIGHBOUR: 'it returns false'. Refute it at one input. -/
def portDeliversWrong : ChangeSpec := { name := "portDelivers", fn := fun _ => fun
  | [d] => { results := [.lit (.bool false)], args := [d] }
  | _ => none }
def PortDeliversWrongFalsely : Prop := portDeliversRow.holds Try.pinned (OpenSpec.ofChange portDeliversWrong)

/-- 'remontoirlaw18.PortOrders': WHATEVER THE INPUT: true; the input reads as it did. -/
def portOrdersSpec : ChangeSpec := { name := "portOrders", fn := fun _ => fun
  | [d1, d2] => { results := [.lit (.bool true)], args := [d1, d2] }
  | _ => none }
def portOrdersRow : OpenClaim := { program := "ytfkcplnjhelclaa", sum := "ed37db4293ca8c0074492f02cc0c32ad59e02260ed48747b35036876e085dc71", func := "remontoir/remontoirlaw18.PortOrders", spec := "portOrders", unfollowed := true, recurses := true, apart := false }
def PortOrdersSaid : Prop := portOrdersRow.holds Try.pinned (OpenSpec.ofChange portOrdersSpec)

/-- ITS FALSE NEIGHBOUR: 'it returns false'. Refute it at one input. -/
def portOrdersWrong : ChangeSpec := { name := "portOrders", fn := fun _ => fun
  | [d1, d2] => { results := [.lit (.bool false)], args := [d1, d2] }
  | _ => none }
def PortOrdersWrongFalsely : Prop := portOrdersRow.holds Try.pinned (OpenSpec.ofChange portOrdersWrong)

/-- 'remontoirlaw18.PortAlone': WHATEVER THE INPUT: true; the input reads as it did. -/
def portAloneSpec : ChangeSpec := { name := "portAlone", fn := fun _ => fun
  | [d1, d2] => { results := [.lit (.bool true)], args := [d1, d2] }
  | _ => none }
def portAloneRow : OpenClaim := { program := "ytfkcplnjhelclaa", sum := "ed37db4293ca8c0074492f02cc0c32ad59e02260ed48747b35036876e085dc71", func := "remontoir/remontoirlaw18.PortAlone", spec := "portAlone", unfollowed := true, recurses := true, apart := false }
def PortAloneSaid : Prop := portAloneRow.holds Try.pinned (OpenSpec.ofChange portAloneSpec)

/-- ITS FALSE NEIGHBOUR: 'it returns false'. Refute it at one input. -/
def portAloneWrong : ChangeSpec := { name := "portAlone", fn := fun _ => fun
  | [d1, d2] => { results := [.lit (.bool false)], args := [d1, d2] }
  | _ => none }
def PortAloneWrongFalsely : Prop := portAloneRow.holds Try.pinned (OpenSpec.ofChange portAloneWrong)

/- THE SECOND FORM. 'bulk': how many values and letters a reading holds, each counted each time it is reached (what is shared counts as often as it is met; a slice's spare places count too). A statement '..UptoSaid' is the law's where the arguments, and the package variables that the reading takes, are together of bulk at most 1048576: NARROWER than '..Said'. Prove '..Said' where nothing that the law and all that it calls make is longer than what came in: it says more and counts as full. Else prove '..UptoSaid'. A law counts once. -/
mutual
def uptoBulk {H : Type} : DataW H → Nat
  | .lit (.string bytes) => bytes.length + 1
  | .lit _ => 1
  | .nil => 1
  | .ptr d => uptoBulk d + 1
  | .slice elems spare => uptoBulkAll elems + uptoBulkAll spare + 1
  | .agg parts => uptoBulkAll parts + 1
  | .iface _ d => uptoBulk d + 1
  | .map entries => uptoBulkEntries entries + 1
  | .held _ => 1
def uptoBulkAll {H : Type} : List (DataW H) → Nat
  | [] => 0
  | d :: r => uptoBulk d + uptoBulkAll r
def uptoBulkEntries {H : Type} : List (Lit × DataW H) → Nat
  | [] => 0
  | x :: r => uptoBulkEntry x + uptoBulkEntries r
def uptoBulkEntry {H : Type} : Lit × DataW H → Nat
  | (.string bytes, d) => bytes.length + uptoBulk d + 1
  | (_, d) => uptoBulk d + 1
 end
def uptoSmall : (H : Type) → List (DataW H) → Bool := fun _ ds => decide (uptoBulkAll ds ≤ 1048576)
def OpenSpec.upto (s : _root_.Go.ChangeSpec) : _root_.Go.OpenSpec := { _root_.Go.OpenSpec.ofChange s with cond := some uptoSmall }

/-- 'remontoirlaw18.PortSends', WHERE WHAT IT READS IS OF BULK AT MOST 1048576: true; the input reads as it did. -/
def portSendsUptoRow : OpenClaim := { program := "ytfkcplnjhelclaa", sum := "ed37db4293ca8c0074492f02cc0c32ad59e02260ed48747b35036876e085dc71", func := "remontoir/remontoirlaw18.PortSends", spec := "portSends", unfollowed := true, recurses := true, apart := false, narrowed := true }
def PortSendsUptoSaid : Prop := portSendsUptoRow.holds Try.pinned (OpenSpec.upto portSendsSpec)

/-- 'remontoirlaw18.PortDelivers', WHERE WHAT IT READS IS OF BULK AT MOST 1048576: true; the input reads as it did. -/
def portDeliversUptoRow : OpenClaim := { program := "ytfkcplnjhelclaa", sum := "ed37db4293ca8c0074492f02cc0c32ad59e02260ed48747b35036876e085dc71", func := "remontoir/remontoirlaw18.PortDelivers", spec := "portDelivers", unfollowed := true, recurses := true, apart := false, narrowed := true }
def PortDeliversUptoSaid : Prop := portDeliversUptoRow.holds Try.pinned (OpenSpec.upto portDeliversSpec)

/-- 'remontoirlaw18.PortOrders', WHERE WHAT IT READS IS OF BULK AT MOST 1048576: true; the input reads as it did. -/
def portOrdersUptoRow : OpenClaim := { program := "ytfkcplnjhelclaa", sum := "ed37db4293ca8c0074492f02cc0c32ad59e02260ed48747b35036876e085dc71", func := "remontoir/remontoirlaw18.PortOrders", spec := "portOrders", unfollowed := true, recurses := true, apart := false, narrowed := true }
def PortOrdersUptoSaid : Prop := portOrdersUptoRow.holds Try.pinned (OpenSpec.upto portOrdersSpec)

/-- 'remontoirlaw18.PortAlone', WHERE WHAT IT READS IS OF BULK AT MOST 1048576: true; the input reads as it did. -/
def portAloneUptoRow : OpenClaim := { program := "ytfkcplnjhelclaa", sum := "ed37db4293ca8c0074492f02cc0c32ad59e02260ed48747b35036876e085dc71", func := "remontoir/remontoirlaw18.PortAlone", spec := "portAlone", unfollowed := true, recurses := true, apart := false, narrowed := true }
def PortAloneUptoSaid : Prop := portAloneUptoRow.holds Try.pinned (OpenSpec.upto portAloneSpec)

end Rows
end Go.Proofs.Ytfkcplnjhelclaa
