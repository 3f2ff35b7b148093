/-
  Layer 5 (task): validSecs.
-/
import Derived.Test.YtldiplnccgoeiaaTaskWalks
namespace Go.Proofs.Ytldiplnccgoeiaa
open Go.RowKit Mm
namespace Tk

set_option maxHeartbeats 800000 in
theorem validSecs_any (C D T : Int) (A : Option Addr) (c : Nat) (l : List Sc) (w : World) (hC0 : 1 ≤ C) (hC1 : C ≤ 200) (hbig : l.length ≤ 1000000) (hr : Rd w A c l) :
    Calls Try.prog 53 #[.agg #[.int .i64 C, .int .i64 D, .int .i64 T, .slice A l.length c]] w fun e w' => e = .returned (.bool (secsB C l)) ∧ Below w.heap.size w w' := by
  have hR := hr.alloc (Obj.cells #[.int .i64 C, .int .i64 D, .int .i64 T, .slice A l.length c] 47)
  obtain ⟨t1, t2, t3, t4⟩ := box_new w C D T A l.length c
  have b0 := below_one w (Obj.cells #[.int .i64 C, .int .i64 D, .int .i64 T, .slice A l.length c] 47)
  clear hr
  go_enter Try.func53, Try.ntmps53
  go_wp2_with fail
  have HR := Lib.hid hR
  have B0 := Lib.hid b0
  clear hR b0
  generalize w.alloc (Obj.cells #[.int .i64 C, .int .i64 D, .int .i64 T, .slice A l.length c] 47) = w0 at *
  go_loopw [8] (fun i wr => ∃ k : Nat, i = .int .i64 k ∧ k ≤ l.length ∧ Hid (∀ j, j < k → secB C (at_ l j) = true) ∧ Hid (Below w0.heap.size w0 wr)) (fun i _ => l.length - (intOf i).toNat)
  case atStart => exact ⟨0, rfl, Nat.zero_le _, (fun j h1 => by omega), Below.refl _ _⟩
  case round =>
    obtain ⟨k, rfl, hk, HH, HB⟩ := hrel
    have t1 := cell_below HB.out t1
    by_cases hlt : k < l.length
    · obtain ⟨b, off, rfl, hc⟩ := sec_at (HR.out.below HB.out) (by omega)
      obtain ⟨x1, x2, x3, f1, f2, f3⟩ := hc k hlt
      have B1 := Lib.hid (below_step HB.out (below_one wr (Obj.cells #[.int .i64 (at_ l k).1, .int .i64 (at_ l k).2.1, .int .i64 (at_ l k).2.2] 61)))
      have y1 := cell_new t1 (Obj.cells #[.int .i64 (at_ l k).1, .int .i64 (at_ l k).2.1, .int .i64 (at_ l k).2.2] 61)
      clear hc t2 t3 t4
      unfold Fit at f1 f2 f3
      cases hs : secB C (at_ l k) with
      | false =>
        have HF := Lib.hid (secsB_false hlt hs)
        have HS : Hid ¬ (0 ≤ (at_ l k).1 ∧ (at_ l k).1 < 4 ∧ 0 ≤ (at_ l k).2.1 ∧ 1 ≤ (at_ l k).2.2 ∧ (at_ l k).2.1 + (at_ l k).2.2 ≤ C) := fun h => by rw [sec_iff.2 h] at hs; cases hs
        clear hs
        generalize at_ l k = x at *
        go_wp2
        all_goals first
          | (go_ret; exact ⟨ret_bool HF.out.symm, below_step B0.out B1.out⟩)
          | (exfalso; have := HS.out; omega)
      | true =>
        obtain ⟨s1, s2, s3, s4, s5⟩ := sec_iff.1 hs
        have HS := Lib.hid hs
        clear hs
        generalize hx : at_ l k = x at *
        have HX := Lib.hid hx
        clear hx
        go_wp2
        go_roundw
        case rel =>
          refine ⟨k + 1, by go_num, hlt, ?_, B1⟩
          intro j hj
          by_cases e : j = k
          · subst e; rw [HX.out]; exact HS.out
          · exact HH.out j (by omega)
        case measure => simp [intOf]; omega
    · go_wp2
      go_ret
      exact ⟨ret_bool (secsB_iff.2 fun j hj => HH.out j (by omega)).symm, below_step B0.out HB.out⟩

end Tk
end Go.Proofs.Ytldiplnccgoeiaa
