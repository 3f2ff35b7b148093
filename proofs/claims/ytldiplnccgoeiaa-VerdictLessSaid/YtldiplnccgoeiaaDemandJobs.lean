/-
  Layer 7 (demand): the call jobs.
-/
import Derived.Test.YtldiplnccgoeiaaDemandMath
import Derived.Test.YtldiplnccgoeiaaTaskMem
import Derived.Test.YtldiplnccgoeiaaMost
import Derived.WalkSmall
namespace Go.Proofs.Ytldiplnccgoeiaa
open Go.RowKit Mm Tk
namespace Dm

theorem task_times {L : List Tsk} (h : allB L = true) {k : Nat} (hk : k < L.length) : 1 ≤ (at_ L k).1 ∧ (at_ L k).1 ≤ (at_ L k).2.1 ∧ (at_ L k).2.1 ≤ (at_ L k).2.2.1 ∧ (at_ L k).2.2.1 ≤ 200 := right_T (all_right h k hk)
set_option maxHeartbeats 800000 in
theorem jobs_any (C D T : Int) (A : Option Addr) (n c : Nat) (t : Int) (w : World) (hD : 0 ≤ D ∧ D ≤ 200) (hT : 1 ≤ T ∧ T ≤ 200) (ht : 0 ≤ t ∧ t ≤ 4611686018427387903) :
    Calls Try.prog 36 #[.agg #[.int .i64 C, .int .i64 D, .int .i64 T, .slice A n c], .int .i64 t] w fun e w' => e = .returned (.int .i64 (njobs D T t)) ∧ Below w.heap.size w w' := by
  obtain ⟨t1, t2, t3, t4⟩ := box_new w C D T A n c
  have b0 := below_one w (Obj.cells #[.int .i64 C, .int .i64 D, .int .i64 T, .slice A n c] 47)
  by_cases h : t < D
  · have HV : Hid (njobs D T t = 0) := njobs_zero h
    go_enter Try.func36, Try.ntmps36
    go_wp2_with fail
    go_ret
    exact ⟨ret_int HV.out.symm, b0⟩
  · have HV : Hid (njobs D T t = (t - D) / T + 1) := njobs_eq (by omega)
    have q := IntWalk.tdiv_le (t - D) T (by omega) hT.1
    have e0 : IntKind.i64.wrap (t - D) = t - D := IntWalk.i64_in _ (by omega)
    have e1 : IntKind.i64.wrap ((t - D).tdiv T) = (t - D) / T := IntWalk.i64_quo _ _ ⟨by omega, by omega, hT.1⟩
    have e2 : IntKind.i64.wrap ((t - D) / T + 1) = (t - D) / T + 1 := IntWalk.i64_in _ (by omega)
    go_enter Try.func36, Try.ntmps36
    go_wp2_with fail
    go_ret
    exact ⟨ret_int HV.out.symm, b0⟩

end Dm
end Go.Proofs.Ytldiplnccgoeiaa
