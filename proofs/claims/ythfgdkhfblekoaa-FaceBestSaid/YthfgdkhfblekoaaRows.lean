/-
  No cell of these rows narrows 'for every input' (looked for: loops, veiled, ifaces, maps, wideKeys, modest, calm, conditions, laid).
  DERIVED. THE GIVEN ROWS OF THIS SEAT. 4 by the template 'for every input the law returns true; each argument reads behind the call as it read before'; 0 by the template 'total and deterministic' (their statements: YthfgdkhfblekoaaTotals.lean).
  GIVEN WITH THE SEED: the statements are not yours to turn. If you find one false, say at which input.
  Laid BY PROGRAM, IN A SANDBOX (cutbox-rows.mjs): the forced cells as the released guide's own fill.sh prints them over the translation 62dac9405d395894… (all of the seat's roots in one cut). By AI agents, Wed Nov 11 2026. No macro, syntax, notation, axiom, sorry.
-/
import Derived.Test.YthfgdkhfblekoaaChecked
import GoSem.Claim
import GoSem.ClaimJoined
import GoSem.ClaimMapViews
import Derived.JoinedTies
import Derived.KernelRfl
namespace Go.Proofs.Ythfgdkhfblekoaa
/- THE CELL 'sum', in the pinned program and in every row, IS THE sha256 OF THE DUMP (.gsa) THAT YthfgdkhfblekoaaProg.lean LOADS. Nothing in Lean hashes anything: it is a label: what it is worth is what the hold of that sum in a sandbox is worth. -/
noncomputable def Try.pinned : Pinned := { name := "ythfgdkhfblekoaa", sum := "62dac9405d395894d362ba3a6cf6ca07f2862a2139ea81e91e193fc1c842e58d", checked := Try.checked }
namespace Rows
def none {H : Type} : Left H := { results := [], args := [] }

/-- 'remontoirlaw11.FaceLeast': WHATEVER THE INPUT: true; the input reads as it did. -/
def faceLeastSpec : ChangeSpec := { name := "faceLeast", fn := fun _ => fun
  | [d1, d2] => { results := [.lit (.bool true)], args := [d1, d2] }
  | _ => none }
def faceLeastRow : OpenClaim := { program := "ythfgdkhfblekoaa", sum := "62dac9405d395894d362ba3a6cf6ca07f2862a2139ea81e91e193fc1c842e58d", func := "remontoir/remontoirlaw11.FaceLeast", spec := "faceLeast", unfollowed := true, recurses := true, apart := false }
def FaceLeastSaid : Prop := faceLeastRow.holds Try.pinned (OpenSpec.ofChange faceLeastSpec)

/-- ITS FALSE NEIGHBOUR: 'it returns false'. Refute it at one input. -/
def faceLeastWrong : ChangeSpec := { name := "faceLeast", fn := fun _ => fun
  | [d1, d2] => { results := [.lit (.bool false)], args := [d1, d2] }
  | _ => none }
def FaceLeastWrongFalsely : Prop := faceLeastRow.holds Try.pinned (OpenSpec.ofChange faceLeastWrong)

/-- 'remontoirlaw11.FaceEnough': WHATEVER THE INPUT: true; the input reads as it did. -/
def faceEnoughSpec : ChangeSpec := { name := "faceEnough", fn := fun _ => fun
  | [d1, d2, d3] => { results := [.lit (.bool true)], args := [d1, d2, d3] }
  | _ => none }
def faceEnoughRow : OpenClaim := { program := "ythfgdkhfblekoaa", sum := "62dac9405d395894d362ba3a6cf6ca07f2862a2139ea81e91e193fc1c842e58d", func := "remontoir/remontoirlaw11.FaceEnough", spec := "faceEnough", unfollowed := true, recurses := true, apart := false }
def FaceEnoughSaid : Prop := faceEnoughRow.holds Try.pinned (OpenSpec.ofChange faceEnoughSpec)

/-- ITS FALSE NEIGHBOUR: 'it returns false'. Refute it at one input. -/
def faceEnoughWrong : ChangeSpec := { name := "faceEnough", fn := fun _ => fun
  | [d1, d2, d3] => { results := [.lit (.bool false)], args := [d1, d2, d3] }
  | _ => none }
def FaceEnoughWrongFalsely : Prop := faceEnoughRow.holds Try.pinned (OpenSpec.ofChange faceEnoughWrong)

/-- 'remontoirlaw11.FaceBest': WHATEVER THE INPUT: true; the input reads as it did. -/
def faceBestSpec : ChangeSpec := { name := "faceBest", fn := fun _ => fun
  | [d1, d2] => { results := [.lit (.bool true)], args := [d1, d2] }
  | _ => none }
def faceBestRow : OpenClaim := { program := "ythfgdkhfblekoaa", sum := "62dac9405d395894d362ba3a6cf6ca07f2862a2139ea81e91e193fc1c842e58d", func := "remontoir/remontoirlaw11.FaceBest", spec := "faceBest", unfollowed := true, recurses := true, apart := false }
def FaceBestSaid : Prop := faceBestRow.holds Try.pinned (OpenSpec.ofChange faceBestSpec)

/-- ITS FALSE NEIGHBOUR: 'it returns false'. Refute it at one input. -/
def faceBestWrong : ChangeSpec := { name := "faceBest", fn := fun _ => fun
  | [d1, d2] => { results := [.lit (.bool false)], args := [d1, d2] }
  | _ => none }
def FaceBestWrongFalsely : Prop := faceBestRow.holds Try.pinned (OpenSpec.ofChange faceBestWrong)

/-- 'remontoirlaw11.FaceAsks': WHATEVER THE INPUT: true; the input reads as it did. -/
def faceAsksSpec : ChangeSpec := { name := "faceAsks", fn := fun _ => fun
  | [d1, d2] => { results := [.lit (.bool true)], args := [d1, d2] }
  | _ => none }
def faceAsksRow : OpenClaim := { program := "ythfgdkhfblekoaa", sum := "62dac9405d395894d362ba3a6cf6ca07f2862a2139ea81e91e193fc1c842e58d", func := "remontoir/remontoirlaw11.FaceAsks", spec := "faceAsks", unfollowed := true, recurses := true, apart := false }
def FaceAsksSaid : Prop := faceAsksRow.holds Try.pinned (OpenSpec.ofChange faceAsksSpec)

/-- ITS FALSE NEIGHBOUR: 'it returns false'. Refute it at one input. -/
def faceAsksWrong : ChangeSpec := { name := "faceAsks", fn := fun _ => fun
  | [d1, d2] => { results := [.lit (.bool false)], args := [d1, d2] }
  | _ => none }
def FaceAsksWrongFalsely : Prop := faceAsksRow.holds Try.pinned (OpenSpec.ofChange faceAsksWrong)

/- THE SECOND FORM. 'bulk': how many values and letters a reading holds, each counted each time it is reached (what is shared counts as often as it is met; a slice's spare places count too). A statement '..UptoSaid' is the law's where the arguments, and the package variables that the reading takes, are together of bulk at most 1048576: NARROWER than '..Said'. Prove '..Said' where nothing that the law and all that it calls make is longer than what came in: it says more and counts as full. Else prove '..UptoSaid'. A law counts once. -/
mutual
def uptoBulk {H : Type} : DataW H → Nat
  | .lit (.string bytes) => bytes.length + 1
  | .lit _ => 1
  | .nil => 1
  | .ptr d => uptoBulk d + 1
  | .slice elems spare => uptoBulkAll elems + uptoBulkAll spare + 1
  | .agg parts => uptoBulkAll parts + 1
  | .iface _ d => uptoBulk d + 1
  | .map entries => uptoBulkEntries entries + 1
  | .held _ => 1
def uptoBulkAll {H : Type} : List (DataW H) → Nat
  | [] => 0
  | d :: r => uptoBulk d + uptoBulkAll r
def uptoBulkEntries {H : Type} : List (Lit × DataW H) → Nat
  | [] => 0
  | x :: r => uptoBulkEntry x + uptoBulkEntries r
def uptoBulkEntry {H : Type} : Lit × DataW H → Nat
  | (.string bytes, d) => bytes.length + uptoBulk d + 1
  | (_, d) => uptoBulk d + 1
 end
def uptoSmall : (H : Type) → List (DataW H) → Bool := fun _ ds => decide (uptoBulkAll ds ≤ 1048576)
def OpenSpec.upto (s : _root_.Go.ChangeSpec) : _root_.Go.OpenSpec := { _root_.Go.OpenSpec.ofChange s with cond := some uptoSmall }

/-- 'remontoirlaw11.FaceLeast', WHERE WHAT IT READS IS OF BULK AT MOST 1048576: true; the input reads as it did. -/
def faceLeastUptoRow : OpenClaim := { program := "ythfgdkhfblekoaa", sum := "62dac9405d395894d362ba3a6cf6ca07f2862a2139ea81e91e193fc1c842e58d", func := "remontoir/remontoirlaw11.FaceLeast", spec := "faceLeast", unfollowed := true, recurses := true, apart := false, narrowed := true }
def FaceLeastUptoSaid : Prop := faceLeastUptoRow.holds Try.pinned (OpenSpec.upto faceLeastSpec)

/-- 'remontoirlaw11.FaceEnough', WHERE WHAT IT READS IS OF BULK AT MOST 1048576: true; the input reads as it did. -/
def faceEnoughUptoRow : OpenClaim := { program := "ythfgdkhfblekoaa", sum := "62dac9405d395894d362ba3a6cf6ca07f2862a2139ea81e91e193fc1c842e58d", func := "remontoir/remontoirlaw11.FaceEnough", spec := "faceEnough", unfollowed := true, recurses := true, apart := false, narrowed := true }
def FaceEnoughUptoSaid : Prop := faceEnoughUptoRow.holds Try.pinned (OpenSpec.upto faceEnoughSpec)

/-- 'remontoirlaw11.FaceBest', WHERE WHAT IT READS IS OF BULK AT MOST 1048576: true; the input reads as it did. -/
def faceBestUptoRow : OpenClaim := { program := "ythfgdkhfblekoaa", sum := "62dac9405d395894d362ba3a6cf6ca07f2862a2139ea81e91e193fc1c842e58d", func := "remontoir/remontoirlaw11.FaceBest", spec := "faceBest", unfollowed := true, recurses := true, apart := false, narrowed := true }
def FaceBestUptoSaid : Prop := faceBestUptoRow.holds Try.pinned (OpenSpec.upto faceBestSpec)

/-- 'remontoirlaw11.FaceAsks', WHERE WHAT IT READS IS OF BULK AT MOST 1048576: true; the input reads as it did. -/
def faceAsksUptoRow : OpenClaim := { program := "ythfgdkhfblekoaa", sum := "62dac9405d395894d362ba3a6cf6ca07f2862a2139ea81e91e193fc1c842e58d", func := "remontoir/remontoirlaw11.FaceAsks", spec := "faceAsks", unfollowed := true, recurses := true, apart := false, narrowed := true }
def FaceAsksUptoSaid : Prop := faceAsksUptoRow.holds Try.pinned (OpenSpec.upto faceAsksSpec)

end Rows
end Go.Proofs.Ythfgdkhfblekoaa
