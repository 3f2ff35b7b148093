/-
  Layer 10: the helper knows: the document's examples.
-/
import Derived.Test.YtldiplnccgoeiaaVerdictFits
import Derived.Test.YtldiplnccgoeiaaTaskLit
namespace Go.Proofs.Ytldiplnccgoeiaa
open Go.RowKit Mm Tk
namespace Vd

theorem buildTask3 (C D T : Int) (w : World) : (Instr.build 47 #[(0, .int .i64 C), (1, .int .i64 D), (2, .int .i64 T)]).run Try.prog w = .ok (.agg #[.int .i64 C, .int .i64 D, .int .i64 T, .slice none 0 0]) w := by kernel_rfl
theorem buildFace2 (P B : Int) (w : World) : (Instr.build 31 #[(0, .int .i64 P), (1, .int .i64 B)]).run Try.prog w = .ok (.agg #[.int .i64 P, .int .i64 B]) w := by kernel_rfl
attribute [local go_sem ↓] buildTask3 buildFace2

def kL : List Tsk := [(1, 4, 4, [])]
theorem kL_tl (w : World) : TL (w.alloc (.cells #[.int .i64 1, .int .i64 4, .int .i64 4, .slice none 0 0] 47)) (some ⟨w.heap.size, 0, none⟩) 1 kL :=
  ⟨by decide, fun j hj => by
    have : j = 0 := by simpa [kL] using hj
    subst this
    decide, rd_lit w kL 1 rfl _ _ (by decide) (rows_task (1, 4, 4, []) rfl (fit_small rfl) (fit_small rfl) (fit_small rfl) (rd_nil (fun _ => rfl) (by unfold maxLen; omega)) rows_none)⟩
theorem kF2 : fitsB kL 2 1 = true := by decide +kernel
theorem kE2 : cycE kL 2 1 = 0 := by decide +kernel
theorem kF4 : fitsB kL 4 1 = false := by decide +kernel
theorem kE4 : cycE kL 4 1 = 0 := by decide +kernel
theorem kT4 : firstT kL 4 1 = 4 := by decide +kernel
theorem kB4 : firstB kL 4 1 = true := by decide +kernel

set_option maxHeartbeats 1600000 in
theorem knows10_any (w : World) :
    Calls Try.prog 10 #[] w fun e w' => e = .returned (.bool true) ∧ Below w.heap.size w w' := by
  have HT := Lib.hid (kL_tl w)
  have B0 := Lib.hid (below_one w (.cells #[.int .i64 1, .int .i64 4, .int .i64 4, .slice none 0 0] 47))
  go_enter Try.func10, Try.ntmps10
  go_wp2_with fail
  generalize w.alloc (.cells #[.int .i64 1, .int .i64 4, .int .i64 4, .slice none 0 0] 47) = w0 at *
  generalize (some ⟨w.heap.size, 0, none⟩ : Option Addr) = A at *
  refine (fits_v A 1 kL 2 1 true 0 kF2 kE2 1 rfl _ HT.out).mono ?_
  rintro e w1 ⟨rfl, b1⟩
  have B1 := Lib.hid (below_step B0.out b1)
  replace HT := Lib.hid (HT.out.below b1)
  clear b1
  go_wp2_with fail
  refine (fits_v A 1 kL 4 1 false 0 kF4 kE4 1 rfl _ HT.out).mono ?_
  rintro e w2 ⟨rfl, b2⟩
  have B2 := Lib.hid (below_step B1.out b2)
  replace HT := Lib.hid (HT.out.below b2)
  clear b2
  go_wp2_with fail
  refine (first_v A 1 kL 4 1 4 true 0 kT4 kB4 kE4 1 rfl _ HT.out).mono ?_
  rintro e w3 ⟨rfl, b3⟩
  have B3 := Lib.hid (below_step B2.out b3)
  replace HT := Lib.hid (HT.out.below b3)
  clear b3
  go_wp2_with fail
  go_ret
  exact ⟨rfl, B3.out⟩

end Vd
end Go.Proofs.Ytldiplnccgoeiaa
