/-
  Layer 5: the arguments of the statements, opened: a slice of tasks, a task, an int, a byte.
-/
import Derived.Test.YtldiplnccgoeiaaMemOpen
import Derived.Test.YtldiplnccgoeiaaTaskMem
namespace Go.Proofs.Ytldiplnccgoeiaa
open Go.ChangeShapes Go.WideShapes Go.ChangeAt Go.RowKit Go.Deep Go.Joins Mm
namespace Tk

theorem opInt : Opens Try.prog 3 Int := opens_int Try.underlying3 (by kernel_rfl)
theorem opSec : Opens Try.prog 61 Sc := opens_struct Try.underlying61 (by kernel_rfl) (fieldsOpen_cons rfl opInt (fieldsOpen_cons rfl opInt (fieldsOpen_one rfl opInt)))
theorem opSecs : Opens Try.prog 45 (List Sc) := opens_slice Try.underlying45 (by kernel_rfl) opSec
theorem opTask : Opens Try.prog 47 Tsk := opens_struct Try.underlying47 (by kernel_rfl) (fieldsOpen_cons rfl opInt (fieldsOpen_cons rfl opInt (fieldsOpen_cons rfl opInt (fieldsOpen_one rfl opSecs))))
theorem opTasks : Opens Try.prog 22 (List Tsk) := opens_slice Try.underlying22 (by kernel_rfl) opTask

section
variable {H : Type} {enc : TypeId × Value → H} {w : World} {base : Nat} {spare : Nat → Bool} {held : Bool}
theorem open_task {r : Reach} {b0 : Nat} {v : Value} {d : DataW H} {ps : List MemPlace} (hv : Value.okWide Try.prog w r b0 47 v) (h : DataW.Trod enc Try.prog w base spare held 47 v d ps) :
    ∃ (A : Option Addr) (c : Nat) (x : Tsk), v = .agg #[.int .i64 x.1, .int .i64 x.2.1, .int .i64 x.2.2.1, .slice A x.2.2.2.length c] ∧ Fit x.1 ∧ Fit x.2.1 ∧ Fit x.2.2.1 ∧ Rd w A c x.2.2.2 := by
  obtain ⟨cs, x, rfl, hx⟩ := open_strct (α := Tsk) Try.underlying47 opTask hv h
  obtain ⟨B, d, rfl, f1, f2, f3, hr⟩ := rd_task.1 hx
  exact ⟨B, d, x, rfl, f1, f2, f3, hr⟩
end

end Tk
end Go.Proofs.Ytldiplnccgoeiaa
