/-
  Layer 5: the arguments of the statements, opened: a slice of tasks, a task, an int, a byte.
-/
import Derived.Test.YtnkgfkmdfplneaaMemOpen
import Derived.Test.YtnkgfkmdfplneaaTaskMem
namespace Go.Proofs.Ytnkgfkmdfplneaa
open Go.ChangeShapes Go.WideShapes Go.ChangeAt Go.RowKit Go.Deep Go.Joins Mm
namespace Tk

theorem opInt : Opens Try.prog 3 Int := opens_int Try.underlying3 (by kernel_rfl)
theorem opSec : Opens Try.prog 39 Sc := opens_struct Try.underlying39 (by kernel_rfl) (fieldsOpen_cons rfl opInt (fieldsOpen_cons rfl opInt (fieldsOpen_one rfl opInt)))
theorem opSecs : Opens Try.prog 35 (List Sc) := opens_slice Try.underlying35 (by kernel_rfl) opSec
theorem opTask : Opens Try.prog 37 Tsk := opens_struct Try.underlying37 (by kernel_rfl) (fieldsOpen_cons rfl opInt (fieldsOpen_cons rfl opInt (fieldsOpen_cons rfl opInt (fieldsOpen_one rfl opSecs))))
theorem opTasks : Opens Try.prog 22 (List Tsk) := opens_slice Try.underlying22 (by kernel_rfl) opTask

section
variable {H : Type} {enc : TypeId × Value → H} {w : World} {base : Nat} {spare : Nat → Bool} {held : Bool}
theorem open_task {r : Reach} {b0 : Nat} {v : Value} {d : DataW H} {ps : List MemPlace} (hv : Value.okWide Try.prog w r b0 37 v) (h : DataW.Trod enc Try.prog w base spare held 37 v d ps) :
    ∃ (A : Option Addr) (c : Nat) (x : Tsk), v = .agg #[.int .i64 x.1, .int .i64 x.2.1, .int .i64 x.2.2.1, .slice A x.2.2.2.length c] ∧ Fit x.1 ∧ Fit x.2.1 ∧ Fit x.2.2.1 ∧ Rd w A c x.2.2.2 := by
  obtain ⟨cs, x, rfl, hx⟩ := open_strct (α := Tsk) Try.underlying37 opTask hv h
  obtain ⟨B, d, rfl, f1, f2, f3, hr⟩ := rd_task.1 hx
  exact ⟨B, d, x, rfl, f1, f2, f3, hr⟩
end

end Tk
end Go.Proofs.Ytnkgfkmdfplneaa
