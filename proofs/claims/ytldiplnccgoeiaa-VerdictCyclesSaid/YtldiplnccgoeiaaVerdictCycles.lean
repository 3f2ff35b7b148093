/-
  For all tasks and any interface the statement VerdictCycles of layer 10 returns true (the cycle, and up to where is tested, is what the document says, or the error is told), and its arguments read as before. No condition.
-/
import Derived.Test.YtldiplnccgoeiaaLaw05Args
import Derived.Test.YtldiplnccgoeiaaLaw09Args
import Derived.Test.YtldiplnccgoeiaaLaw10Refs
import Derived.Test.YtldiplnccgoeiaaLaw10Knows
namespace Go.Proofs.Ytldiplnccgoeiaa.verdictCycles
open Go.ChangeShapes Go.WideShapes Go.ChangeAt Go.RowKit
open Mm Tk Vd

theorem cycle_v (A : Option Addr) (c : Nat) (L : List Tsk) (P B : Int) (z y e : Nat) (hz : cycZ L P B = z) (hy : endZ L P B = y) (he : cycE L P B = e) (w : World) (H : TL w A c L) :
    Calls Try.prog 14 #[.slice A L.length c, .agg #[.int .i64 P, .int .i64 B]] w fun x w' => x = .returned (.tuple #[.int .i64 z, .int .i64 y, .int .i64 e]) ∧ Below w.heap.size w w' := by
  subst hz; subst hy; subst he
  exact cycle_any P B A c L w H

set_option maxHeartbeats 1600000 in
theorem walk (A : Option Addr) (c : Nat) (L : List Tsk) (P B : Int) (w : World) (hr : Rd w A c L) (_ : Fit P) (_ : Fit B) :
    Calls Try.prog 4 #[.slice A L.length c, .agg #[.int .i64 P, .int .i64 B]] w fun e w' => e = .returned (.bool true) ∧ Below w.heap.size w w' := by
  obtain ⟨t1, t2⟩ := Sp.fc_new w P B
  have b0 := below_one w (Obj.cells #[.int .i64 P, .int .i64 B] 31)
  replace hr := hr.below b0
  have HR := Lib.hid hr
  have B0 := Lib.hid b0
  clear hr b0
  cases hg : greatB L with
  | true =>
    have HG := Lib.hid hg
    clear hg
    go_enter Try.func4, Try.ntmps4
    go_wp2_with fail
    refine (great_any A c L _ HR.out).mono ?_
    rintro e w1 ⟨rfl, b1⟩
    rw [HG.out]
    have B1 := Lib.hid (below_step B0.out b1)
    clear b1
    go_wp2_with fail
    refine (knows10_any _).mono ?_
    rintro e w2 ⟨rfl, b2⟩
    have B2 := Lib.hid (below_step B1.out b2)
    clear b2
    go_wp2_with fail
    go_ret
    exact ⟨rfl, B2.out⟩
  | false =>
    obtain ⟨hL, hin⟩ := great_no hg
    have HT : Hid (TL _ A c L) := ⟨by omega, fun j hj => by have := hin j hj; omega, HR.out⟩
    obtain ⟨z, hz⟩ : ∃ z, cycZ L P B = z := ⟨_, rfl⟩
    obtain ⟨y, hy⟩ : ∃ y, endZ L P B = y := ⟨_, rfl⟩
    obtain ⟨e, he⟩ : ∃ e, cycE L P B = e := ⟨_, rfl⟩
    have HC := Lib.hid (cycle_v A c L P B z y e hz hy he)
    have HD := Lib.hid (refCycle_v A c L P B z y e hz hy he L.length rfl)
    have HG := Lib.hid hg
    have HL := Lib.hid hL
    have HIN := Lib.hid hin
    clear hg hL hin
    clear hz hy he
    go_enter Try.func4, Try.ntmps4
    go_wp2_with fail
    refine (great_any A c L _ HR.out).mono ?_
    rintro e w1 ⟨rfl, b1⟩
    rw [HG.out]
    replace t1 := (cell_below b1) t1
    replace t2 := (cell_below b1) t2
    replace HT := Lib.hid (HT.out.below b1)
    have B1 := Lib.hid (below_step B0.out b1)
    clear b1
    go_wp2_with fail
    refine (HC.out _ HT.out).mono ?_
    rintro e w2 ⟨rfl, b2⟩
    replace t1 := cell_below b2 t1
    replace t2 := cell_below b2 t2
    have B2 := Lib.hid (below_step B1.out b2)
    replace HT := Lib.hid (HT.out.below b2)
    clear b2
    go_wp2_with fail
    refine (HD.out _ HT.out).mono ?_
    rintro e w3 ⟨rfl, b3⟩
    replace t1 := cell_below b3 t1
    replace t2 := cell_below b3 t2
    have B3 := Lib.hid (below_step B2.out b3)
    replace HT := Lib.hid (HT.out.below b3)
    clear b3
    go_wp2_with fail
    refine (knows10_any _).mono ?_
    rintro e w4 ⟨rfl, b4⟩
    have B4 := Lib.hid (below_step B3.out b4)
    clear b4
    go_wp2_with fail
    go_ret
    exact ⟨rfl, B4.out⟩

set_option maxRecDepth 100000 in
theorem lifted (os : Os) (started : os.Started) (H : Type) (enc : TypeId × Value → H) :
    ReturnsInHanded {} Try.checked os 4 .any (Rows.verdictCyclesSpec.pre6 enc Try.prog Try.f4 Rows.verdictCyclesRow.domain false) (Rows.verdictCyclesSpec.post enc Try.prog Try.f4 false true false false) := by
  refine returnsInHanded_of_change (C := Try.checked) own started (by kernel_rfl) Try.func4
    (ChangeSpec.witness6 (enc := enc) (C := Try.checked) false ⟨#[], #[.slice none 0 0, .agg #[.int .i64 0, .int .i64 0]], []⟩ 8 (by kernel_rfl) (by kernel_rfl) (by kernel_rfl) (by kernel_rfl)) ?_
  intro W base args ds gs before hval0 hW hcnd _
  have hval : ∀ (j : Nat) t v, Try.f4.params[j]? = some t → args[j]? = some v → Value.okWide Try.prog W .any base t v := hval0
  have hW' := hW
  obtain ⟨p, q, hA0, hV, rfl, hfz, hnd⟩ := hW
  have hA : DataW.TrodAll enc Try.prog W 0 (fun _ => true) true Try.f4.params.toList args.toList ds p := hA0
  rw [Try.params4] at hA hval
  obtain ⟨v0, v1, d0, d1, p0, p1, rfl, rfl, rfl, h0, h1⟩ := trodAll_two hA
  obtain ⟨rfl, rfl⟩ := trodVars_none hV
  obtain ⟨A0, c0, l0, rfl, hr0⟩ := Mm.open_list (α := Tk.Tsk) Try.underlying22 Tk.opTasks (hval 0 22 v0 rfl rfl) h0
  obtain ⟨P1, B1, rfl, fp1, fb1⟩ := Sp.open_face (hval 1 31 v1 rfl rfl) h1
  clear hA0 hval0
  refine (walk A0 c0 l0 P1 B1 W hr0 fp1 fb1).mono fun e W' ⟨he, bel⟩ => ?_
  subst he
  have hlt0 : ∀ x ∈ p0, x.block < W.heap.size := fun x hx => hW'.lt x (by simp [hx])
  have hlt1 : ∀ x ∈ p1, x.block < W.heap.size := fun x hx => hW'.lt x (by simp [hx])
  exact ⟨_, rfl, _, _, _, [], _, [], hW', trodAll_mk1 (shut_bool Try.underlying4 _), trodAll_mk2 (Below.trod laidOut (by kernel_rfl) (of_decide_eq_true (by kernel_rfl)) h0 bel hlt0) (Below.trod laidOut (by kernel_rfl) (of_decide_eq_true (by kernel_rfl)) h1 bel hlt1), rfl, bel.frame _, fun h => by cases h⟩

/-- The statement. -/
theorem proved : Rows.VerdictCyclesSaid :=
  OpenClaim.holds_of_wide 4 Try.f4 rfl rfl rfl rfl rfl rfl rfl ⟨rfl, rfl, rfl, rfl, rfl⟩ rfl rfl rfl rfl rfl (by kernel_rfl) Try.func4 (by kernel_rfl)
    (of_decide_eq_true (by kernel_rfl)) (by unfold Func.isWrapper; first | (rw [if_pos (by decide +kernel)]; kernel_rfl) | (rw [if_neg (by decide +kernel)]; exact ⟨rfl, rfl⟩))
    (fun os started H enc _ => lifted os started H enc)
#print axioms proved

end Go.Proofs.Ytldiplnccgoeiaa.verdictCycles
