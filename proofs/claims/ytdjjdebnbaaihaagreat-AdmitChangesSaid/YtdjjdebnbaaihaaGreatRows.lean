/-
  No cell of these rows narrows 'for every input' (looked for: loops, veiled, ifaces, maps, wideKeys, modest, calm, conditions, laid).
  DERIVED. THE GIVEN ROWS OF THIS SEAT. 3 by the template 'for every input the law returns true; each argument reads behind the call as it read before'; 0 by the template 'total and deterministic' (their statements: YtdjjdebnbaaihaaGreatTotals.lean).
  GIVEN WITH THE SEED: the statements are not yours to turn. If you find one false, say at which input.
  Laid BY PROGRAM, IN A SANDBOX (cutbox-rows.mjs): the forced cells as the released guide's own fill.sh prints them over the translation ac82019be98c52f4… (all of the seat's roots in one cut). By AI agents, Wed Nov 11 2026. No macro, syntax, notation, axiom, sorry.
-/
import Derived.Test.YtdjjdebnbaaihaaGreatChecked
import GoSem.Claim
import GoSem.ClaimJoined
import GoSem.ClaimMapViews
import Derived.JoinedTies
import Derived.KernelRfl
namespace Go.Proofs.YtdjjdebnbaaihaaGreat
/- THE CELL 'sum', in the pinned program and in every row, IS THE sha256 OF THE DUMP (.gsa) THAT YtdjjdebnbaaihaaGreatProg.lean LOADS. Nothing in Lean hashes anything: it is a label: what it is worth is what the hold of that sum in a sandbox is worth. -/
noncomputable def Tryz.pinned : Pinned := { name := "ytdjjdebnbaaihaagreat", sum := "ac82019be98c52f41d8c569d85f5ef95bfed5b6b885628b51b7cb96a5b747975", checked := Tryz.checked }
namespace Rows
def none {H : Type} : Left H := { results := [], args := [] }

/-- 'remontoirlaw20.AdmitBoots': WHATEVER THE INPUT: true; the input reads as it did. -/
def admitBootsSpec : ChangeSpec := { name := "admitBoots", fn := fun _ => fun
  | [d] => { results := [.lit (.bool true)], args := [d] }
  | _ => none }
def admitBootsRow : OpenClaim := { program := "ytdjjdebnbaaihaagreat", sum := "ac82019be98c52f41d8c569d85f5ef95bfed5b6b885628b51b7cb96a5b747975", func := "remontoir/remontoirlaw20.AdmitBoots", spec := "admitBoots", unfollowed := true, recurses := true, apart := false }
def AdmitBootsSaid : Prop := admitBootsRow.holds Tryz.pinned (OpenSpec.ofChange admitBootsSpec)

/-- ITS FALSE NEIGHBOUR: 'it returns false'. Refute it at one input. -/
def admitBootsWrong : ChangeSpec := { name := "admitBoots", fn := fun _ => fun
  | [d] => { results := [.lit (.bool false)], args := [d] }
  | _ => none }
def AdmitBootsWrongFalsely : Prop := admitBootsRow.holds Tryz.pinned (OpenSpec.ofChange admitBootsWrong)

/-- 'remontoirlaw20.AdmitAdds': WHATEVER THE INPUT: true; the input reads as it did. -/
def admitAddsSpec : ChangeSpec := { name := "admitAdds", fn := fun _ => fun
  | [d1, d2, d3] => { results := [.lit (.bool true)], args := [d1, d2, d3] }
  | _ => none }
def admitAddsRow : OpenClaim := { program := "ytdjjdebnbaaihaagreat", sum := "ac82019be98c52f41d8c569d85f5ef95bfed5b6b885628b51b7cb96a5b747975", func := "remontoir/remontoirlaw20.AdmitAdds", spec := "admitAdds", unfollowed := true, recurses := true, apart := false }
def AdmitAddsSaid : Prop := admitAddsRow.holds Tryz.pinned (OpenSpec.ofChange admitAddsSpec)

/-- ITS FALSE NEIGHBOUR: 'it returns false'. Refute it at one input. -/
def admitAddsWrong : ChangeSpec := { name := "admitAdds", fn := fun _ => fun
  | [d1, d2, d3] => { results := [.lit (.bool false)], args := [d1, d2, d3] }
  | _ => none }
def AdmitAddsWrongFalsely : Prop := admitAddsRow.holds Tryz.pinned (OpenSpec.ofChange admitAddsWrong)

/-- 'remontoirlaw20.AdmitChanges': WHATEVER THE INPUT: true; the input reads as it did. -/
def admitChangesSpec : ChangeSpec := { name := "admitChanges", fn := fun _ => fun
  | [d1, d2, d3, d4] => { results := [.lit (.bool true)], args := [d1, d2, d3, d4] }
  | _ => none }
def admitChangesRow : OpenClaim := { program := "ytdjjdebnbaaihaagreat", sum := "ac82019be98c52f41d8c569d85f5ef95bfed5b6b885628b51b7cb96a5b747975", func := "remontoir/remontoirlaw20.AdmitChanges", spec := "admitChanges", unfollowed := true, recurses := true, apart := false }
def AdmitChangesSaid : Prop := admitChangesRow.holds Tryz.pinned (OpenSpec.ofChange admitChangesSpec)

/-- ITS FALSE NEIGHBOUR: 'it returns false'. Refute it at one input. -/
def admitChangesWrong : ChangeSpec := { name := "admitChanges", fn := fun _ => fun
  | [d1, d2, d3, d4] => { results := [.lit (.bool false)], args := [d1, d2, d3, d4] }
  | _ => none }
def AdmitChangesWrongFalsely : Prop := admitChangesRow.holds Tryz.pinned (OpenSpec.ofChange admitChangesWrong)

/- THE SECOND FORM. 'bulk': how many values and letters a reading holds, each counted each time it is reached (what is shared counts as often as it is met; a slice's spare places count too). A statement '..UptoSaid' is the law's where the arguments, and the package variables that the reading takes, are together of bulk at most 1048576: NARROWER than '..Said'. Prove '..Said' where nothing that the law and all that it calls make is longer than what came in: it says more and counts as full. Else prove '..UptoSaid'. A law counts once. -/
mutual
def uptoBulk {H : Type} : DataW H → Nat
  | .lit (.string bytes) => bytes.length + 1
  | .lit _ => 1
  | .nil => 1
  | .ptr d => uptoBulk d + 1
  | .slice elems spare => uptoBulkAll elems + uptoBulkAll spare + 1
  | .agg parts => uptoBulkAll parts + 1
  | .iface _ d => uptoBulk d + 1
  | .map entries => uptoBulkEntries entries + 1
  | .held _ => 1
def uptoBulkAll {H : Type} : List (DataW H) → Nat
  | [] => 0
  | d :: r => uptoBulk d + uptoBulkAll r
def uptoBulkEntries {H : Type} : List (Lit × DataW H) → Nat
  | [] => 0
  | x :: r => uptoBulkEntry x + uptoBulkEntries r
def uptoBulkEntry {H : Type} : Lit × DataW H → Nat
  | (.string bytes, d) => bytes.length + uptoBulk d + 1
  | (_, d) => uptoBulk d + 1
 end
def uptoSmall : (H : Type) → List (DataW H) → Bool := fun _ ds => decide (uptoBulkAll ds ≤ 1048576)
def OpenSpec.upto (s : _root_.Go.ChangeSpec) : _root_.Go.OpenSpec := { _root_.Go.OpenSpec.ofChange s with cond := some uptoSmall }

/-- 'remontoirlaw20.AdmitBoots', WHERE WHAT IT READS IS OF BULK AT MOST 1048576: true; the input reads as it did. -/
def admitBootsUptoRow : OpenClaim := { program := "ytdjjdebnbaaihaagreat", sum := "ac82019be98c52f41d8c569d85f5ef95bfed5b6b885628b51b7cb96a5b747975", func := "remontoir/remontoirlaw20.AdmitBoots", spec := "admitBoots", unfollowed := true, recurses := true, apart := false, narrowed := true }
def AdmitBootsUptoSaid : Prop := admitBootsUptoRow.holds Tryz.pinned (OpenSpec.upto admitBootsSpec)

/-- 'remontoirlaw20.AdmitAdds', WHERE WHAT IT READS IS OF BULK AT MOST 1048576: true; the input reads as it did. -/
def admitAddsUptoRow : OpenClaim := { program := "ytdjjdebnbaaihaagreat", sum := "ac82019be98c52f41d8c569d85f5ef95bfed5b6b885628b51b7cb96a5b747975", func := "remontoir/remontoirlaw20.AdmitAdds", spec := "admitAdds", unfollowed := true, recurses := true, apart := false, narrowed := true }
def AdmitAddsUptoSaid : Prop := admitAddsUptoRow.holds Tryz.pinned (OpenSpec.upto admitAddsSpec)

/-- 'remontoirlaw20.AdmitChanges', WHERE WHAT IT READS IS OF BULK AT MOST 1048576: true; the input reads as it did. -/
def admitChangesUptoRow : OpenClaim := { program := "ytdjjdebnbaaihaagreat", sum := "ac82019be98c52f41d8c569d85f5ef95bfed5b6b885628b51b7cb96a5b747975", func := "remontoir/remontoirlaw20.AdmitChanges", spec := "admitChanges", unfollowed := true, recurses := true, apart := false, narrowed := true }
def AdmitChangesUptoSaid : Prop := admitChangesUptoRow.holds Tryz.pinned (OpenSpec.upto admitChangesSpec)

end Rows
end Go.Proofs.YtdjjdebnbaaihaaGreat
