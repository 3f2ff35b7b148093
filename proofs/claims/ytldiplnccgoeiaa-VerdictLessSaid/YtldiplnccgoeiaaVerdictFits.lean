/-
  Layer 10 (verdict): Fits; the calls under other names.
-/
import Derived.Test.YtldiplnccgoeiaaVerdictFirst
namespace Go.Proofs.Ytldiplnccgoeiaa
open Go.RowKit Mm Tk
namespace Vd

theorem first_v (A : Option Addr) (c : Nat) (L : List Tsk) (P B : Int) (t : Nat) (v : Bool) (e : Nat) (ht : firstT L P B = t) (hv : firstB L P B = v) (he : cycE L P B = e) (n : Nat) (hn : L.length = n) (w : World) (H : TL w A c L) :
    Calls Try.prog 17 #[.slice A n c, .agg #[.int .i64 P, .int .i64 B]] w fun x w' => x = .returned (.tuple #[.int .i64 t, .bool v, .int .i64 e]) ∧ Below w.heap.size w w' := by
  subst ht; subst hv; subst he; subst hn
  exact first_any P B A c L w H

set_option maxHeartbeats 800000 in
theorem fits_any (P B : Int) (A : Option Addr) (c : Nat) (L : List Tsk) (w : World) (H : TL w A c L) :
    Calls Try.prog 16 #[.slice A L.length c, .agg #[.int .i64 P, .int .i64 B]] w fun e w' => e = .returned (.tuple #[.bool (fitsB L P B), .int .i64 (cycE L P B : Nat)]) ∧ Below w.heap.size w w' := by
  obtain ⟨t1, t2⟩ := Sp.fc_new w P B
  have b0 := below_one w (Obj.cells #[.int .i64 P, .int .i64 B] 31)
  have HT := Lib.hid (H.below b0)
  have hF := fits_is (L := L) (P := P) (B := B)
  obtain ⟨t, ht⟩ : ∃ t, firstT L P B = t := ⟨_, rfl⟩
  obtain ⟨v, hv⟩ : ∃ v, firstB L P B = v := ⟨_, rfl⟩
  obtain ⟨e, he⟩ : ∃ e, cycE L P B = e := ⟨_, rfl⟩
  have HC := Lib.hid (first_v A c L P B t v e ht hv he L.length rfl)
  rw [hv, he] at hF
  rw [he]
  clear H ht hv he
  have B0 := Lib.hid b0
  clear b0
  by_cases h0 : e = 0
  · subst h0
    have HF : Hid (fitsB L P B = !v) := by show _ = _; rw [hF]; rfl
    clear hF
    go_enter Try.func16, Try.ntmps16
    go_wp2_with fail
    refine (HC.out _ HT.out).mono ?_
    rintro e w1 ⟨rfl, b1⟩
    replace t1 := cell_below b1 t1
    replace t2 := cell_below b1 t2
    have B1 := Lib.hid (below_step B0.out b1)
    clear b1
    go_wp2_with fail
    go_ret2
    exact ⟨by rw [HF.out]; rfl, B1.out⟩
  · have HF : Hid (fitsB L P B = false) := by show _ = _; rw [hF, decide_eq_false h0]; rfl
    have i1 : ¬ (e : Int) = 0 := by omega
    have i2 : ((e : Int) == 0) = false := beq_eq_false_iff_ne.2 i1
    clear hF
    go_enter Try.func16, Try.ntmps16
    go_wp2_with fail
    refine (HC.out _ HT.out).mono ?_
    rintro e w1 ⟨rfl, b1⟩
    replace t1 := cell_below b1 t1
    replace t2 := cell_below b1 t2
    have B1 := Lib.hid (below_step B0.out b1)
    clear b1
    go_wp2_with fail
    go_ret2
    exact ⟨by rw [HF.out]; rfl, B1.out⟩
theorem fits_v (A : Option Addr) (c : Nat) (L : List Tsk) (P B : Int) (v : Bool) (e : Nat) (hv : fitsB L P B = v) (he : cycE L P B = e) (n : Nat) (hn : L.length = n) (w : World) (H : TL w A c L) :
    Calls Try.prog 16 #[.slice A n c, .agg #[.int .i64 P, .int .i64 B]] w fun x w' => x = .returned (.tuple #[.bool v, .int .i64 e]) ∧ Below w.heap.size w w' := by
  subst hv; subst he; subst hn
  exact fits_any P B A c L w H

end Vd
end Go.Proofs.Ytldiplnccgoeiaa
