/-
  Tasks in a slice of the call's own: append, a literal of one task.
-/
import Derived.Test.YtldiplnccgoeiaaTaskMem
import Derived.Test.YtldiplnccgoeiaaMemBig
namespace Go.Proofs.Ytldiplnccgoeiaa
open Go.RowKit Mm
namespace Tk

theorem slTask : SlT Try.prog 22 47 (Dat.k Tsk) := slT_of Try.underlying22 (show _ = some (some (.agg #[.int .i64 0, .int .i64 0, .int .i64 0, .slice none 0 0]), 4, 48) by kernel_rfl) rfl (by omega)
theorem slTaskB : SlB Try.prog 22 47 (Dat.k Tsk) 48 := slB_of Try.underlying22 (show _ = some (some (.agg #[.int .i64 0, .int .i64 0, .int .i64 0, .slice none 0 0]), 4, 48) by kernel_rfl) rfl
/-- a literal of one task, told by its cells, in another block than a slice -/
theorem lit_else {w : World} {A1 : Option Addr} {Y : Nat} {x : Tsk} {B : Option Addr} {d : Nat} (f1 : Fit x.1) (f2 : Fit x.2.1) (f3 : Fit x.2.2.1) (hb : Box w Y x.1 x.2.1 x.2.2.1 B x.2.2.2.length d) (hne : A1 ≠ some ⟨Y, 0, none⟩) (hr : RdS w (Else w A1) B d x.2.2.2) :
    RdS w (Else w A1) (some ⟨Y, 0, none⟩) 1 [x] := by
  refine ⟨fun h => (by cases h), ⟨Nat.le_refl _, by decide⟩, fun _ => ⟨Y, 0, rfl, ⟨lt_of_cell hb.1, hne⟩, fun j hj => ?_⟩⟩
  have : j = 0 := by simpa using hj
  subst this
  refine ⟨_, rd_task.2 ⟨B, d, rfl, f1, f2, f3, hr⟩, fun i v hv => ?_⟩
  obtain ⟨h1, h2, h3, h4⟩ := hb
  match i, hv with
  | 0, hv => injection hv with hv; subst hv; exact h1
  | 1, hv => injection hv with hv; subst hv; exact h2
  | 2, hv => injection hv with hv; subst hv; exact h3
  | 3, hv => injection hv with hv; subst hv; exact h4
  | i + 4, hv => simp at hv
theorem Box.gb {w w' : World} {X : Nat} {C D T : Int} {A : Option Addr} {n c : Nat} {row : Option Nat} (h : Box w X C D T A n c) (hg : w.grownBy w' row) (hne : some X ≠ row) : Box w' X C D T A n c :=
  ⟨gb_cell hg h.1 hne, gb_cell hg h.2.1 hne, gb_cell hg h.2.2.1 hne, gb_cell hg h.2.2.2 hne⟩

end Tk
end Go.Proofs.Ytldiplnccgoeiaa
