/-
  Layer 5 (task): Right.
-/
import Derived.Test.YtldiplnccgoeiaaTaskValid
import Derived.Test.YtldiplnccgoeiaaTaskPairs
namespace Go.Proofs.Ytldiplnccgoeiaa
open Go.RowKit Mm
namespace Tk

theorem ticks_of {C : Int} {l : List Sc} (hC : C ≤ 200) (h : secsB C l = true) : ∀ j, j < l.length → 0 ≤ (at_ l j).2.1 ∧ 0 ≤ (at_ l j).2.2 ∧ (at_ l j).2.1 + (at_ l j).2.2 ≤ 200 := fun j hj => by
  have := sec_iff.1 (secsB_iff.1 h j hj)
  omega

set_option maxHeartbeats 800000 in
theorem right_any (C D T : Int) (A : Option Addr) (c : Nat) (l : List Sc) (w : World) (hbig : l.length ≤ 1000000) (hr : Rd w A c l) :
    Calls Try.prog 43 #[.agg #[.int .i64 C, .int .i64 D, .int .i64 T, .slice A l.length c]] w fun e w' => e = .returned (.bool (rightB C D T l)) ∧ Below w.heap.size w w' := by
  obtain ⟨t1, t2, t3, t4⟩ := box_new w C D T A l.length c
  have b0 := below_one w (Obj.cells #[.int .i64 C, .int .i64 D, .int .i64 T, .slice A l.length c] 47)
  cases ht : timesB C D T with
  | false =>
    have HF := Lib.hid (rightB_times (l := l) ht)
    go_enter Try.func43, Try.ntmps43
    go_wp2_with fail
    have HR := Lib.hid hr
    have B0 := Lib.hid b0
    clear hr b0
    generalize w.alloc (Obj.cells #[.int .i64 C, .int .i64 D, .int .i64 T, .slice A l.length c] 47) = w0 at *
    refine (validTimes_any C D T _ _).mono ?_
    rintro e w1 ⟨rfl, b1⟩
    have B1 := Lib.hid (below_step B0.out b1)
    clear b1
    go_wp2_with fail
    go_ret
    exact ⟨ret_bool HF.out.symm, B1.out⟩
  | true =>
    obtain ⟨hC0, _, _, _⟩ := times_iff.1 ht
    by_cases hl : l.length ≤ 4
    · cases hs : secsB C l with
      | false =>
        have HF := Lib.hid (rightB_secs (D := D) (T := T) hs)
        go_enter Try.func43, Try.ntmps43
        go_wp2_with fail
        have HR := Lib.hid hr
        have B0 := Lib.hid b0
        clear hr b0
        generalize w.alloc (Obj.cells #[.int .i64 C, .int .i64 D, .int .i64 T, .slice A l.length c] 47) = w0 at *
        refine (validTimes_any C D T _ _).mono ?_
        rintro e w1 ⟨rfl, b1⟩
        replace t1 := cell_below b1 t1
        replace t2 := cell_below b1 t2
        replace t3 := cell_below b1 t3
        replace t4 := cell_below b1 t4
        have B1 := Lib.hid (below_step B0.out b1)
        clear b1
        go_wp2_with fail
        refine (validSecs_any C D T A c l _ (by omega) (by omega) hbig (HR.out.below B1.out)).mono ?_
        rintro e w2 ⟨rfl, b2⟩
        replace t1 := cell_below b2 t1
        replace t2 := cell_below b2 t2
        replace t3 := cell_below b2 t3
        replace t4 := cell_below b2 t4
        have B2 := Lib.hid (below_step B1.out b2)
        clear b2
        go_wp2_with fail
        go_ret
        exact ⟨ret_bool HF.out.symm, B2.out⟩
      | true =>
        have HT := Lib.hid (ticks_of (by omega) hs)
        have HF : Hid (pairsB l = rightB C D T l) := by show pairsB l = rightB C D T l; simp [rightB, ht, hl, hs]
        go_enter Try.func43, Try.ntmps43
        go_wp2_with fail
        have HR := Lib.hid hr
        have B0 := Lib.hid b0
        clear hr b0
        generalize w.alloc (Obj.cells #[.int .i64 C, .int .i64 D, .int .i64 T, .slice A l.length c] 47) = w0 at *
        refine (validTimes_any C D T _ _).mono ?_
        rintro e w1 ⟨rfl, b1⟩
        replace t1 := cell_below b1 t1
        replace t2 := cell_below b1 t2
        replace t3 := cell_below b1 t3
        replace t4 := cell_below b1 t4
        have B1 := Lib.hid (below_step B0.out b1)
        clear b1
        go_wp2_with fail
        refine (validSecs_any C D T A c l _ (by omega) (by omega) hbig (HR.out.below B1.out)).mono ?_
        rintro e w2 ⟨rfl, b2⟩
        replace t1 := cell_below b2 t1
        replace t2 := cell_below b2 t2
        replace t3 := cell_below b2 t3
        replace t4 := cell_below b2 t4
        have B2 := Lib.hid (below_step B1.out b2)
        clear b2
        go_wp2_with fail
        refine (validPairs_any A c l _ hbig (HR.out.below B2.out) HT.out).mono ?_
        rintro e w3 ⟨rfl, b3⟩
        have B3 := Lib.hid (below_step B2.out b3)
        clear b3
        go_wp2_with fail
        go_ret
        exact ⟨ret_bool HF.out, B3.out⟩
    · have HF := Lib.hid (rightB_long (C := C) (D := D) (T := T) hl)
      go_enter Try.func43, Try.ntmps43
      go_wp2_with fail
      have HR := Lib.hid hr
      have B0 := Lib.hid b0
      clear hr b0
      generalize w.alloc (Obj.cells #[.int .i64 C, .int .i64 D, .int .i64 T, .slice A l.length c] 47) = w0 at *
      refine (validTimes_any C D T _ _).mono ?_
      rintro e w1 ⟨rfl, b1⟩
      replace t1 := cell_below b1 t1
      replace t2 := cell_below b1 t2
      replace t3 := cell_below b1 t3
      replace t4 := cell_below b1 t4
      have B1 := Lib.hid (below_step B0.out b1)
      clear b1
      go_wp2_with fail
      go_ret
      exact ⟨ret_bool HF.out.symm, B1.out⟩

end Tk
end Go.Proofs.Ytldiplnccgoeiaa
