/-
  For all tasks and any interface the statement VerdictTells of layer 10 returns true (whether tasks fit an interface, and the first tick for which they don't, is what the document says, or the error is told), and its arguments read as before. No condition.
-/
import Derived.Test.YtldiplnccgoeiaaLaw05Args
import Derived.Test.YtldiplnccgoeiaaLaw09Args
import Derived.Test.YtldiplnccgoeiaaLaw10Refs
import Derived.Test.YtldiplnccgoeiaaLaw10Knows
namespace Go.Proofs.Ytldiplnccgoeiaa.verdictTells
open Go.ChangeShapes Go.WideShapes Go.ChangeAt Go.RowKit
open Mm Tk Vd

set_option maxHeartbeats 3200000 in
theorem walk (A : Option Addr) (c : Nat) (L : List Tsk) (P B : Int) (w : World) (hr : Rd w A c L) (_ : Fit P) (_ : Fit B) :
    Calls Try.prog 5 #[.slice A L.length c, .agg #[.int .i64 P, .int .i64 B]] w fun e w' => e = .returned (.bool true) ∧ Below w.heap.size w w' := by
  obtain ⟨t1, t2⟩ := Sp.fc_new w P B
  have b0 := below_one w (Obj.cells #[.int .i64 P, .int .i64 B] 31)
  replace hr := hr.below b0
  have HR := Lib.hid hr
  have B0 := Lib.hid b0
  clear hr b0
  cases hg : greatB L with
  | true =>
    have HG := Lib.hid hg
    clear hg
    go_enter Try.func5, Try.ntmps5
    go_wp2_with fail
    refine (great_any A c L _ HR.out).mono ?_
    rintro e w1 ⟨rfl, b1⟩
    rw [HG.out]
    have B1 := Lib.hid (below_step B0.out b1)
    clear b1
    go_wp2_with fail
    refine (knows10_any _).mono ?_
    rintro e w2 ⟨rfl, b2⟩
    have B2 := Lib.hid (below_step B1.out b2)
    clear b2
    go_wp2_with fail
    go_ret
    exact ⟨rfl, B2.out⟩
  | false =>
    obtain ⟨hL, hin⟩ := great_no hg
    have HT : Hid (TL _ A c L) := ⟨by omega, fun j hj => by have := hin j hj; omega, HR.out⟩
    have HG := Lib.hid hg
    have HL := Lib.hid hL
    have HIN := Lib.hid hin
    clear hg hL hin
    cases hc : cycOk L P B with
    | false =>
      obtain ⟨e, he⟩ : ∃ e, cycE L P B = e := ⟨_, rfl⟩
      have he0 : ¬ e = 0 := fun h => by rw [cycE_zero.1 (he.trans h)] at hc; cases hc
      have hz : cycZ L P B = 0 := by unfold cycZ; rw [hc]; rfl
      have hy : endZ L P B = 0 := by unfold endZ; rw [hc]; rfl
      have hf : fitsB L P B = false := by unfold fitsB; rw [hc]; rfl
      have ht : firstT L P B = 0 := by unfold firstT; rw [hc]; rfl
      have hb : firstB L P B = false := by unfold firstB; rw [hc]; rfl
      have HD := Lib.hid (refCycle_v A c L P B 0 0 e hz hy he L.length rfl)
      have HF := Lib.hid (fits_v A c L P B false e hf he L.length rfl)
      have HS := Lib.hid (first_v A c L P B 0 false e ht hb he L.length rfl)
      have i1 : ¬ (e : Int) = 0 := by omega
      have i2 : ((e : Int) == 0) = false := beq_eq_false_iff_ne.2 i1
      clear hc he hz hy hf ht hb he0
      go_enter Try.func5, Try.ntmps5
      go_wp2_with fail
      refine (great_any A c L _ HR.out).mono ?_
      rintro e' w1 ⟨rfl, b1⟩
      rw [HG.out]
      replace t1 := (cell_below b1) t1
      replace t2 := (cell_below b1) t2
      replace HT := Lib.hid (HT.out.below b1)
      have B1 := Lib.hid (below_step B0.out b1)
      clear b1
      go_wp2_with fail
      refine (HD.out _ HT.out).mono ?_
      rintro e w2 ⟨rfl, b2⟩
      replace t1 := cell_below b2 t1
      replace t2 := cell_below b2 t2
      have B2 := Lib.hid (below_step B1.out b2)
      replace HT := Lib.hid (HT.out.below b2)
      clear b2
      go_wp2_with fail
      refine (HF.out _ HT.out).mono ?_
      rintro e w3 ⟨rfl, b3⟩
      replace t1 := cell_below b3 t1
      replace t2 := cell_below b3 t2
      have B3 := Lib.hid (below_step B2.out b3)
      replace HT := Lib.hid (HT.out.below b3)
      clear b3
      go_wp2_with fail
      refine (HS.out _ HT.out).mono ?_
      rintro e w4 ⟨rfl, b4⟩
      replace t1 := cell_below b4 t1
      replace t2 := cell_below b4 t2
      have B4 := Lib.hid (below_step B3.out b4)
      replace HT := Lib.hid (HT.out.below b4)
      clear b4
      go_wp2_with fail
      refine (knows10_any _).mono ?_
      rintro e w5 ⟨rfl, b5⟩
      have B5 := Lib.hid (below_step B4.out b5)
      clear b5
      go_wp2_with fail
      go_ret
      exact ⟨rfl, B5.out⟩
    | true =>
      obtain ⟨g1, g2⟩ := cycOk_iff.1 hc
      obtain ⟨g3, g4⟩ := in_iff.1 g1
      obtain ⟨p, b, rfl, rfl, h1, h2, h3⟩ := Sp.right_nat g4
      obtain ⟨z1, z2, z3⟩ := cyc_fine hc
      obtain ⟨z, hz⟩ : ∃ z, cycZ L (p : Int) (b : Int) = z := ⟨_, rfl⟩
      obtain ⟨y, hy⟩ : ∃ y, endZ L (p : Int) (b : Int) = y := ⟨_, rfl⟩
      have HD := Lib.hid (refCycle_v A c L p b z y 0 hz hy z3 L.length rfl)
      by_cases hbig : 400 < y
      · clear hc g1 g2 g3 g4 z1 z2 z3 hz hy
        go_enter Try.func5, Try.ntmps5
        go_wp2_with fail
        refine (great_any A c L _ HR.out).mono ?_
        rintro e' w1 ⟨rfl, b1⟩
        rw [HG.out]
        replace t1 := (cell_below b1) t1
        replace t2 := (cell_below b1) t2
        replace HT := Lib.hid (HT.out.below b1)
        have B1 := Lib.hid (below_step B0.out b1)
        clear b1
        go_wp2_with fail
        refine (HD.out _ HT.out).mono ?_
        rintro e w2 ⟨rfl, b2⟩
        replace t1 := cell_below b2 t1
        replace t2 := cell_below b2 t2
        have B2 := Lib.hid (below_step B1.out b2)
        replace HT := Lib.hid (HT.out.below b2)
        clear b2
        go_wp2_with fail
        refine (knows10_any _).mono ?_
        rintro e w3 ⟨rfl, b3⟩
        have B3 := Lib.hid (below_step B2.out b3)
        clear b3
        go_wp2_with fail
        go_ret
        exact ⟨rfl, B3.out⟩
      · obtain ⟨u, hu⟩ : ∃ u, firT L p b y = u := ⟨_, rfl⟩
        obtain ⟨v, hv⟩ : ∃ v, firB L p b y = v := ⟨_, rfl⟩
        obtain ⟨f, hf⟩ : ∃ f, fitsB L (p : Int) (b : Int) = f := ⟨_, rfl⟩
        have ht : firstT L (p : Int) (b : Int) = u := by unfold firstT; rw [if_pos hc, hy, Int.toNat_natCast, Int.toNat_natCast, hu]
        have hb : firstB L (p : Int) (b : Int) = v := by unfold firstB; rw [hc, hy, Int.toNat_natCast, Int.toNat_natCast, hv, Bool.true_and]
        have HF := Lib.hid (fits_v A c L p b f 0 hf z3 L.length rfl)
        have HS := Lib.hid (first_v A c L p b u v 0 ht hb z3 L.length rfl)
        have HU := Lib.hid (refFirst_n A c L p b y g3 h1 h2 h3 (by omega) u v hu hv L.length rfl)
        have HV := Lib.hid (refFits_v A c L p b hc f hf L.length rfl)
        clear hc g1 g2 g3 g4 z1 z2 z3 hz hy hu hv hf ht hb
        go_enter Try.func5, Try.ntmps5
        go_wp2_with fail
        refine (great_any A c L _ HR.out).mono ?_
        rintro e' w1 ⟨rfl, b1⟩
        rw [HG.out]
        replace t1 := (cell_below b1) t1
        replace t2 := (cell_below b1) t2
        replace HT := Lib.hid (HT.out.below b1)
        have B1 := Lib.hid (below_step B0.out b1)
        clear b1
        go_wp2_with fail
        refine (HD.out _ HT.out).mono ?_
        rintro e w2 ⟨rfl, b2⟩
        replace t1 := cell_below b2 t1
        replace t2 := cell_below b2 t2
        have B2 := Lib.hid (below_step B1.out b2)
        replace HT := Lib.hid (HT.out.below b2)
        clear b2
        go_wp2_with fail
        refine (HF.out _ HT.out).mono ?_
        rintro e w3 ⟨rfl, b3⟩
        replace t1 := cell_below b3 t1
        replace t2 := cell_below b3 t2
        have B3 := Lib.hid (below_step B2.out b3)
        replace HT := Lib.hid (HT.out.below b3)
        clear b3
        go_wp2_with fail
        refine (HS.out _ HT.out).mono ?_
        rintro e w4 ⟨rfl, b4⟩
        replace t1 := cell_below b4 t1
        replace t2 := cell_below b4 t2
        have B4 := Lib.hid (below_step B3.out b4)
        replace HT := Lib.hid (HT.out.below b4)
        clear b4
        go_wp2_with fail
        refine (HU.out _ HT.out).mono ?_
        rintro e w5 ⟨rfl, b5⟩
        replace t1 := cell_below b5 t1
        replace t2 := cell_below b5 t2
        have B5 := Lib.hid (below_step B4.out b5)
        replace HT := Lib.hid (HT.out.below b5)
        clear b5
        go_wp2_with fail
        refine (HV.out _ HT.out).mono ?_
        rintro e w6 ⟨rfl, b6⟩
        replace t1 := cell_below b6 t1
        replace t2 := cell_below b6 t2
        have B6 := Lib.hid (below_step B5.out b6)
        replace HT := Lib.hid (HT.out.below b6)
        clear b6
        go_wp2_with fail
        refine (knows10_any _).mono ?_
        rintro e w7 ⟨rfl, b7⟩
        have B7 := Lib.hid (below_step B6.out b7)
        clear b7
        go_wp2_with fail
        go_ret
        exact ⟨rfl, B7.out⟩

set_option maxRecDepth 100000 in
theorem lifted (os : Os) (started : os.Started) (H : Type) (enc : TypeId × Value → H) :
    ReturnsInHanded {} Try.checked os 5 .any (Rows.verdictTellsSpec.pre6 enc Try.prog Try.f5 Rows.verdictTellsRow.domain false) (Rows.verdictTellsSpec.post enc Try.prog Try.f5 false true false false) := by
  refine returnsInHanded_of_change (C := Try.checked) own started (by kernel_rfl) Try.func5
    (ChangeSpec.witness6 (enc := enc) (C := Try.checked) false ⟨#[], #[.slice none 0 0, .agg #[.int .i64 0, .int .i64 0]], []⟩ 8 (by kernel_rfl) (by kernel_rfl) (by kernel_rfl) (by kernel_rfl)) ?_
  intro W base args ds gs before hval0 hW hcnd _
  have hval : ∀ (j : Nat) t v, Try.f5.params[j]? = some t → args[j]? = some v → Value.okWide Try.prog W .any base t v := hval0
  have hW' := hW
  obtain ⟨p, q, hA0, hV, rfl, hfz, hnd⟩ := hW
  have hA : DataW.TrodAll enc Try.prog W 0 (fun _ => true) true Try.f5.params.toList args.toList ds p := hA0
  rw [Try.params5] at hA hval
  obtain ⟨v0, v1, d0, d1, p0, p1, rfl, rfl, rfl, h0, h1⟩ := trodAll_two hA
  obtain ⟨rfl, rfl⟩ := trodVars_none hV
  obtain ⟨A0, c0, l0, rfl, hr0⟩ := Mm.open_list (α := Tk.Tsk) Try.underlying22 Tk.opTasks (hval 0 22 v0 rfl rfl) h0
  obtain ⟨P1, B1, rfl, fp1, fb1⟩ := Sp.open_face (hval 1 31 v1 rfl rfl) h1
  clear hA0 hval0
  refine (walk A0 c0 l0 P1 B1 W hr0 fp1 fb1).mono fun e W' ⟨he, bel⟩ => ?_
  subst he
  have hlt0 : ∀ x ∈ p0, x.block < W.heap.size := fun x hx => hW'.lt x (by simp [hx])
  have hlt1 : ∀ x ∈ p1, x.block < W.heap.size := fun x hx => hW'.lt x (by simp [hx])
  exact ⟨_, rfl, _, _, _, [], _, [], hW', trodAll_mk1 (shut_bool Try.underlying4 _), trodAll_mk2 (Below.trod laidOut (by kernel_rfl) (of_decide_eq_true (by kernel_rfl)) h0 bel hlt0) (Below.trod laidOut (by kernel_rfl) (of_decide_eq_true (by kernel_rfl)) h1 bel hlt1), rfl, bel.frame _, fun h => by cases h⟩

/-- The statement. -/
theorem proved : Rows.VerdictTellsSaid :=
  OpenClaim.holds_of_wide 5 Try.f5 rfl rfl rfl rfl rfl rfl rfl ⟨rfl, rfl, rfl, rfl, rfl⟩ rfl rfl rfl rfl rfl (by kernel_rfl) Try.func5 (by kernel_rfl)
    (of_decide_eq_true (by kernel_rfl)) (by unfold Func.isWrapper; first | (rw [if_pos (by decide +kernel)]; kernel_rfl) | (rw [if_neg (by decide +kernel)]; exact ⟨rfl, rfl⟩))
    (fun os started H enc _ => lifted os started H enc)
#print axioms proved

end Go.Proofs.Ytldiplnccgoeiaa.verdictTells
