/-
  For all tasks and every number the statement VerdictNeeds of layer 10 returns true (what tasks may ask and wait for is what the document says, or the error is told), and its arguments read as before. No condition.
-/
import Derived.Test.YtldiplnccgoeiaaLaw05Args
import Derived.Test.YtldiplnccgoeiaaLaw10Need
import Derived.Test.YtldiplnccgoeiaaLaw10Cycle
import Derived.Test.YtldiplnccgoeiaaLaw10Knows
namespace Go.Proofs.Ytldiplnccgoeiaa.verdictNeeds
open Go.ChangeShapes Go.WideShapes Go.ChangeAt Go.RowKit
open Mm Tk Vd

set_option maxHeartbeats 1600000 in
theorem walk (A : Option Addr) (c : Nat) (L : List Tsk) (t : Int) (w : World) (hr : Rd w A c L) (ft : Fit t) :
    Calls Try.prog 3 #[.slice A L.length c, .int .i64 t] w fun e w' => e = .returned (.bool true) ∧ Below w.heap.size w w' := by
  unfold Fit at ft
  have HR := Lib.hid hr
  clear hr
  cases hg : greatB L with
  | true =>
    go_enter Try.func3, Try.ntmps3
    go_wp2_with fail
    refine (great_any A c L _ HR.out).mono ?_
    rintro e w1 ⟨rfl, b1⟩
    rw [hg]
    have B1 := Lib.hid b1
    clear b1
    go_wp2_with fail
    refine (knows10_any _).mono ?_
    rintro e w2 ⟨rfl, b2⟩
    have B2 := Lib.hid (below_step B1.out b2)
    clear b2
    go_wp2_with fail
    go_ret
    exact ⟨rfl, B2.out⟩
  | false =>
    obtain ⟨hL, hin⟩ := great_no hg
    have HT : Hid (TL w A c L) := ⟨by omega, fun j hj => by have := hin j hj; omega, HR.out⟩
    have HGR := Lib.hid hg
    have HL := Lib.hid hL
    have HIN := Lib.hid hin
    clear hL hin
    clear hg
    by_cases h5 : 3000 < t
    · skip
      go_enter Try.func3, Try.ntmps3
      go_wp2_with fail
      refine (great_any A c L _ HR.out).mono ?_
      rintro e w1 ⟨rfl, b1⟩
      rw [HGR.out]
      replace HT := Lib.hid (HT.out.below b1)
      have B1 := Lib.hid b1
      clear b1
      go_wp2_with fail
      refine (knows10_any _).mono ?_
      rintro e w2 ⟨rfl, b2⟩
      have B2 := Lib.hid (below_step B1.out b2)
      clear b2
      go_wp2_with fail
      go_ret
      exact ⟨rfl, B2.out⟩
    · cases hv : allB L with
      | false =>
        obtain ⟨z1, z2⟩ := needZ_bad (L := L) (t := t) (by unfold needOk; rw [hv]; rfl)
        have Z1 := Lib.hid z1
        have Z2 := Lib.hid z2
        have HV := Lib.hid hv
        clear z1 z2 hv
        go_enter Try.func3, Try.ntmps3
        go_wp2_with fail
        refine (great_any A c L _ HR.out).mono ?_
        rintro e w1 ⟨rfl, b1⟩
        rw [HGR.out]
        replace HT := Lib.hid (HT.out.below b1)
        have B1 := Lib.hid b1
        clear b1
        go_wp2_with fail
        refine (need_v A c L t 0 1 Z1.out Z2.out _ rfl _ HT.out).mono ?_
        rintro e w2 ⟨rfl, b2⟩
        have B2 := Lib.hid (below_step B1.out b2)
        replace HT := Lib.hid (HT.out.below b2)
        clear b2
        go_wp2_with fail
        refine (refAll_v A c L false HV.out _ rfl _ HT.out).mono ?_
        rintro e w3 ⟨rfl, b3⟩
        have B3 := Lib.hid (below_step B2.out b3)
        replace HT := Lib.hid (HT.out.below b3)
        clear b3
        go_wp2_with fail
        refine (knows10_any _).mono ?_
        rintro e w4 ⟨rfl, b4⟩
        have B4 := Lib.hid (below_step B3.out b4)
        clear b4
        go_wp2_with fail
        go_ret
        exact ⟨rfl, B4.out⟩
      | true =>
        by_cases h0 : t < 0
        · obtain ⟨z1, z2⟩ := needZ_bad (L := L) (t := t) (by
            rw [← Bool.not_eq_true, needOk_iff]
            rintro ⟨_, h, _⟩
            omega)
          have Z1 := Lib.hid z1
          have Z2 := Lib.hid z2
          have HV := Lib.hid hv
          clear z1 z2 hv
          go_enter Try.func3, Try.ntmps3
          go_wp2_with fail
          refine (great_any A c L _ HR.out).mono ?_
          rintro e w1 ⟨rfl, b1⟩
          rw [HGR.out]
          replace HT := Lib.hid (HT.out.below b1)
          have B1 := Lib.hid b1
          clear b1
          go_wp2_with fail
          refine (need_v A c L t 0 1 Z1.out Z2.out _ rfl _ HT.out).mono ?_
          rintro e w2 ⟨rfl, b2⟩
          have B2 := Lib.hid (below_step B1.out b2)
          replace HT := Lib.hid (HT.out.below b2)
          clear b2
          go_wp2_with fail
          refine (refAll_v A c L true HV.out _ rfl _ HT.out).mono ?_
          rintro e w3 ⟨rfl, b3⟩
          have B3 := Lib.hid (below_step B2.out b3)
          replace HT := Lib.hid (HT.out.below b3)
          clear b3
          go_wp2_with fail
          refine (knows10_any _).mono ?_
          rintro e w4 ⟨rfl, b4⟩
          have B4 := Lib.hid (below_step B3.out b4)
          clear b4
          go_wp2_with fail
          go_ret
          exact ⟨rfl, B4.out⟩
        · obtain ⟨k, rfl⟩ : ∃ k : Nat, t = k := ⟨t.toNat, by omega⟩
          obtain ⟨z1, z2⟩ := need_of hv (t := k) (by omega)
          obtain ⟨z, hz⟩ : ∃ z, need L k = z := ⟨_, rfl⟩
          have HN := Lib.hid (refNeed_v A c L k z hz hv (by omega))
          rw [hz] at z1
          have Z1 := Lib.hid z1
          have Z2 := Lib.hid z2
          have HV := Lib.hid hv
          clear z1 z2 hv
          clear hz
          go_enter Try.func3, Try.ntmps3
          go_wp2_with fail
          refine (great_any A c L _ HR.out).mono ?_
          rintro e w1 ⟨rfl, b1⟩
          rw [HGR.out]
          replace HT := Lib.hid (HT.out.below b1)
          have B1 := Lib.hid b1
          clear b1
          go_wp2_with fail
          refine (need_v A c L k z 0 Z1.out Z2.out _ rfl _ HT.out).mono ?_
          rintro e w2 ⟨rfl, b2⟩
          have B2 := Lib.hid (below_step B1.out b2)
          replace HT := Lib.hid (HT.out.below b2)
          clear b2
          go_wp2_with fail
          refine (refAll_v A c L true HV.out _ rfl _ HT.out).mono ?_
          rintro e w3 ⟨rfl, b3⟩
          have B3 := Lib.hid (below_step B2.out b3)
          replace HT := Lib.hid (HT.out.below b3)
          clear b3
          go_wp2_with fail
          refine (HN.out _ rfl _ HT.out).mono ?_
          rintro e w4 ⟨rfl, b4⟩
          have B4 := Lib.hid (below_step B3.out b4)
          replace HT := Lib.hid (HT.out.below b4)
          clear b4
          go_wp2_with fail
          refine (knows10_any _).mono ?_
          rintro e w5 ⟨rfl, b5⟩
          have B5 := Lib.hid (below_step B4.out b5)
          clear b5
          go_wp2_with fail
          go_ret
          exact ⟨rfl, B5.out⟩

set_option maxRecDepth 100000 in
theorem lifted (os : Os) (started : os.Started) (H : Type) (enc : TypeId × Value → H) :
    ReturnsInHanded {} Try.checked os 3 .any (Rows.verdictNeedsSpec.pre6 enc Try.prog Try.f3 Rows.verdictNeedsRow.domain false) (Rows.verdictNeedsSpec.post enc Try.prog Try.f3 false true false false) := by
  refine returnsInHanded_of_change (C := Try.checked) own started (by kernel_rfl) Try.func3
    (ChangeSpec.witness6 (enc := enc) (C := Try.checked) false ⟨#[], #[.slice none 0 0, .int .i64 0], []⟩ 8 (by kernel_rfl) (by kernel_rfl) (by kernel_rfl) (by kernel_rfl)) ?_
  intro W base args ds gs before hval0 hW hcnd _
  have hval : ∀ (j : Nat) t v, Try.f3.params[j]? = some t → args[j]? = some v → Value.okWide Try.prog W .any base t v := hval0
  have hW' := hW
  obtain ⟨p, q, hA0, hV, rfl, hfz, hnd⟩ := hW
  have hA : DataW.TrodAll enc Try.prog W 0 (fun _ => true) true Try.f3.params.toList args.toList ds p := hA0
  rw [Try.params3] at hA hval
  obtain ⟨v0, v1, d0, d1, p0, p1, rfl, rfl, rfl, h0, h1⟩ := trodAll_two hA
  obtain ⟨rfl, rfl⟩ := trodVars_none hV
  obtain ⟨A0, c0, l0, rfl, hr0⟩ := Mm.open_list (α := Tk.Tsk) Try.underlying22 Tk.opTasks (hval 0 22 v0 rfl rfl) h0
  obtain ⟨n1, rfl, f1⟩ := Mm.open_num' Try.underlying3 (hval 1 3 v1 rfl rfl) h1
  clear hA0 hval0
  refine (walk A0 c0 l0 n1 W hr0 f1).mono fun e W' ⟨he, bel⟩ => ?_
  subst he
  have hlt0 : ∀ x ∈ p0, x.block < W.heap.size := fun x hx => hW'.lt x (by simp [hx])
  have hlt1 : ∀ x ∈ p1, x.block < W.heap.size := fun x hx => hW'.lt x (by simp [hx])
  exact ⟨_, rfl, _, _, _, [], _, [], hW', trodAll_mk1 (shut_bool Try.underlying4 _), trodAll_mk2 (Below.trod laidOut (by kernel_rfl) (of_decide_eq_true (by kernel_rfl)) h0 bel hlt0) (Below.trod laidOut (by kernel_rfl) (of_decide_eq_true (by kernel_rfl)) h1 bel hlt1), rfl, bel.frame _, fun h => by cases h⟩

/-- The statement. -/
theorem proved : Rows.VerdictNeedsSaid :=
  OpenClaim.holds_of_wide 3 Try.f3 rfl rfl rfl rfl rfl rfl rfl ⟨rfl, rfl, rfl, rfl, rfl⟩ rfl rfl rfl rfl rfl (by kernel_rfl) Try.func3 (by kernel_rfl)
    (of_decide_eq_true (by kernel_rfl)) (by unfold Func.isWrapper; first | (rw [if_pos (by decide +kernel)]; kernel_rfl) | (rw [if_neg (by decide +kernel)]; exact ⟨rfl, rfl⟩))
    (fun os started H enc _ => lifted os started H enc)
#print axioms proved

end Go.Proofs.Ytldiplnccgoeiaa.verdictNeeds
