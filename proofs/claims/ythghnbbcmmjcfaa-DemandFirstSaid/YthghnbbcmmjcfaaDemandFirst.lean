/-
  For all tasks and every number the statement DemandFirst of layer 7 returns true (the pattern in which all tasks are released at 0, and as soon as may be, has just the bound, from 0 on), and its arguments read as before. No condition.
-/
import Derived.Test.YthghnbbcmmjcfaaLaw05Args
import Derived.Test.YthghnbbcmmjcfaaLaw07Knows
import Derived.Test.YthghnbbcmmjcfaaLaw07First
namespace Go.Proofs.Ythghnbbcmmjcfaa.demandFirst
open Go.ChangeShapes Go.WideShapes Go.ChangeAt Go.RowKit
open Mm Tk Dm

theorem small_of {L : List Tsk} {t : Int} (h : allB L = true) (h0 : 0 ≤ t) (ht : t ≤ 900) : bndZ L t = bnd L t ∧ bndE L t = 0 := by
  have h1 := bnd_small h h0 ht
  obtain ⟨z1, z2⟩ := bnd_good h h0 (by omega)
  obtain ⟨s1, s2⟩ := sum_small (v := bnd L t) (by omega)
  rw [z1, z2, s1, s2]
  exact ⟨rfl, rfl⟩

theorem refFirst_v (A : Option Addr) (c : Nat) (L : List Tsk) (t : Int) (R : List (List Int)) (hR : firstR L t = R) (w : World) (ha : allB L = true) (ht : 0 ≤ t ∧ t ≤ 900) (H : TL w A c L) :
    Calls Try.prog 19 #[.slice A L.length c, .int .i64 t] w (FirstOf w R) := by
  subst hR
  exact refFirst_any A c L t w ha ht H

set_option maxHeartbeats 1600000 in
theorem walk (A : Option Addr) (c : Nat) (L : List Tsk) (t : Int) (w : World) (hr : Rd w A c L) (ft : Fit t) :
    Calls Try.prog 7 #[.slice A L.length c, .int .i64 t] w fun e w' => e = .returned (.bool true) ∧ Below w.heap.size w w' := by
  unfold Fit at ft
  have HR := Lib.hid hr
  clear hr
  cases hg : greatB L with
  | true =>
    go_enter Try.func7, Try.ntmps7
    go_wp2_with fail
    refine (great_any A c L _ HR.out).mono ?_
    rintro e w1 ⟨rfl, b1⟩
    rw [hg]
    have B1 := Lib.hid b1
    clear b1
    go_wp2_with fail
    refine (knows7_any _).mono ?_
    rintro e w2 ⟨rfl, b2⟩
    have B2 := Lib.hid (below_step B1.out b2)
    clear b2
    go_wp2_with fail
    go_ret
    exact ⟨rfl, B2.out⟩
  | false =>
    obtain ⟨hL, hin⟩ := great_no hg
    have HT : Hid (TL w A c L) := ⟨by omega, fun j hj => by have := hin j hj; omega, HR.out⟩
    have HGR := Lib.hid hg
    clear hL hin hg
    cases hv : allB L with
    | false =>
      have HV := Lib.hid hv
      clear hv
      go_enter Try.func7, Try.ntmps7
      go_wp2_with fail
      refine (great_any A c L _ HR.out).mono ?_
      rintro e w1 ⟨rfl, b1⟩
      rw [HGR.out]
      replace HT := Lib.hid (HT.out.below b1)
      have B1 := Lib.hid b1
      clear b1
      go_wp2_with fail
      refine (refAll_v A c L false HV.out _ rfl _ HT.out).mono ?_
      rintro e w2 ⟨rfl, b2⟩
      have B2 := Lib.hid (below_step B1.out b2)
      replace HT := Lib.hid (HT.out.below b2)
      clear b2
      go_wp2_with fail
      refine (knows7_any _).mono ?_
      rintro e w3 ⟨rfl, b3⟩
      have B3 := Lib.hid (below_step B2.out b3)
      clear b3
      go_wp2_with fail
      go_ret
      exact ⟨rfl, B3.out⟩
    | true =>
      by_cases hc : t < 0 ∨ 900 < t
      · have hcase : t < 0 ∨ (¬ t < 0 ∧ 900 < t) := by omega
        have HV := Lib.hid hv
        clear hv
        clear hc
        rcases hcase with h1 | ⟨h1, h2⟩
        all_goals
          go_enter Try.func7, Try.ntmps7
          go_wp2_with fail
          refine (great_any A c L _ HR.out).mono ?_
          rintro e w1 ⟨rfl, b1⟩
          rw [HGR.out]
          replace HT := Lib.hid (HT.out.below b1)
          have B1 := Lib.hid b1
          clear b1
          go_wp2_with fail
          refine (refAll_v A c L true HV.out _ rfl _ HT.out).mono ?_
          rintro e w2 ⟨rfl, b2⟩
          have B2 := Lib.hid (below_step B1.out b2)
          replace HT := Lib.hid (HT.out.below b2)
          clear b2
          go_wp2_with fail
          refine (knows7_any _).mono ?_
          rintro e w3 ⟨rfl, b3⟩
          have B3 := Lib.hid (below_step B2.out b3)
          clear b3
          go_wp2_with fail
          go_ret
          exact ⟨rfl, B3.out⟩
      · have h1 : ¬ t < 0 := by omega
        have h2 : ¬ 900 < t := by omega
        have HC : Hid (0 ≤ t ∧ t ≤ 900) := ⟨by omega, by omega⟩
        clear hc
        obtain ⟨z1, z2⟩ := small_of hv HC.out.1 HC.out.2
        have hleg := first_legal hv HC.out.1 HC.out.2
        have hdem := first_dem hv HC.out.1 HC.out.2
        have hlen := firstR_len L t
        have hin : ∀ j, j < (firstR L t).length → (at_ (firstR L t) j).length ≤ 1000000 := fun j hj => by
          have := (rowB_iff.1 ((legal_iff.1 hleg).2.2 j hj)).1
          omega
        have h8 := all_len hv
        obtain ⟨v, hb⟩ : ∃ v, bnd L t = v := ⟨_, rfl⟩
        obtain ⟨R, hR⟩ : ∃ R, firstR L t = R := ⟨_, rfl⟩
        rw [hb] at z1 hdem
        rw [hR] at hleg hdem hlen hin
        have Y1 : Hid (ofZ L R 0 t = v) := by show _ = _; simp [ofZ, hleg, hdem]
        have Y2 : Hid (ofE L R = 0) := by show _ = _; simp [ofE, hleg]
        have HRL : Hid (R.length ≤ 1000000 ∧ ∀ j, j < R.length → (at_ R j).length ≤ 1000000) := ⟨by omega, hin⟩
        have HR_ := Lib.hid hR
        have HV := Lib.hid hv
        have Z1 := Lib.hid z1
        have Z2 := Lib.hid z2
        have HLEG := Lib.hid hleg
        clear hv z1 z2 hleg
        clear hdem hlen hin h8 hb hR
        go_enter Try.func7, Try.ntmps7
        go_wp2_with fail
        refine (great_any A c L _ HR.out).mono ?_
        rintro e w1 ⟨rfl, b1⟩
        rw [HGR.out]
        replace HT := Lib.hid (HT.out.below b1)
        have B1 := Lib.hid b1
        clear b1
        go_wp2_with fail
        refine (refAll_v A c L true HV.out _ rfl _ HT.out).mono ?_
        rintro e w2 ⟨rfl, b2⟩
        have B2 := Lib.hid (below_step B1.out b2)
        replace HT := Lib.hid (HT.out.below b2)
        clear b2
        go_wp2_with fail
        refine (refFirst_v A c L t R HR_.out _ HV.out HC.out HT.out).mono ?_
        rintro e w3 ⟨A2, c2, rfl, r3, b3⟩
        replace HT := Lib.hid (HT.out.below b3)
        have HL : Hid (LL w3 A2 c2 R) := ⟨HRL.out.1, HRL.out.2, r3⟩
        have B3 := Lib.hid (below_step B2.out b3)
        clear r3 b3
        go_wp2_with fail
        refine (bound_v A c L t v 0 Z1.out Z2.out _ rfl _ HT.out).mono ?_
        rintro e w4 ⟨rfl, b4⟩
        have B4 := Lib.hid (below_step B3.out b4)
        replace HT := Lib.hid (HT.out.below b4)
        replace HL := Lib.hid (HL.out.below b4)
        clear b4
        go_wp2_with fail
        refine (of_v A c L A2 c2 R 0 t v 0 Y1.out Y2.out _ rfl _ rfl _ HT.out HL.out).mono ?_
        rintro e w5 ⟨rfl, b5⟩
        have B5 := Lib.hid (below_step B4.out b5)
        replace HT := Lib.hid (HT.out.below b5)
        replace HL := Lib.hid (HL.out.below b5)
        clear b5
        go_wp2_with fail
        refine (legal_v A c L A2 c2 R true HLEG.out _ rfl _ rfl _ HT.out HL.out).mono ?_
        rintro e w6 ⟨rfl, b6⟩
        have B6 := Lib.hid (below_step B5.out b6)
        replace HT := Lib.hid (HT.out.below b6)
        replace HL := Lib.hid (HL.out.below b6)
        clear b6
        go_wp2_with fail
        refine (knows7_any _).mono ?_
        rintro e w7 ⟨rfl, b7⟩
        have B7 := Lib.hid (below_step B6.out b7)
        clear b7
        go_wp2_with fail
        go_ret
        exact ⟨rfl, B7.out⟩

set_option maxRecDepth 100000 in
theorem lifted (os : Os) (started : os.Started) (H : Type) (enc : TypeId × Value → H) :
    ReturnsInHanded {} Try.checked os 7 .any (Rows.demandFirstSpec.pre6 enc Try.prog Try.f7 Rows.demandFirstRow.domain false) (Rows.demandFirstSpec.post enc Try.prog Try.f7 false true false false) := by
  refine returnsInHanded_of_change (C := Try.checked) own started (by kernel_rfl) Try.func7
    (ChangeSpec.witness6 (enc := enc) (C := Try.checked) false ⟨#[], #[.slice none 0 0, .int .i64 0], []⟩ 8 (by kernel_rfl) (by kernel_rfl) (by kernel_rfl) (by kernel_rfl)) ?_
  intro W base args ds gs before hval0 hW hcnd _
  have hval : ∀ (j : Nat) t v, Try.f7.params[j]? = some t → args[j]? = some v → Value.okWide Try.prog W .any base t v := hval0
  have hW' := hW
  obtain ⟨p, q, hA0, hV, rfl, hfz, hnd⟩ := hW
  have hA : DataW.TrodAll enc Try.prog W 0 (fun _ => true) true Try.f7.params.toList args.toList ds p := hA0
  rw [Try.params7] at hA hval
  obtain ⟨v0, v1, d0, d1, p0, p1, rfl, rfl, rfl, h0, h1⟩ := trodAll_two hA
  obtain ⟨rfl, rfl⟩ := trodVars_none hV
  obtain ⟨A0, c0, l0, rfl, hr0⟩ := Mm.open_list (α := Tk.Tsk) Try.underlying22 Tk.opTasks (hval 0 22 v0 rfl rfl) h0
  obtain ⟨n1, rfl, f1⟩ := Mm.open_num' Try.underlying3 (hval 1 3 v1 rfl rfl) h1
  clear hA0 hval0
  refine (walk A0 c0 l0 n1 W hr0 f1).mono fun e W' ⟨he, bel⟩ => ?_
  subst he
  have hlt0 : ∀ x ∈ p0, x.block < W.heap.size := fun x hx => hW'.lt x (by simp [hx])
  have hlt1 : ∀ x ∈ p1, x.block < W.heap.size := fun x hx => hW'.lt x (by simp [hx])
  exact ⟨_, rfl, _, _, _, [], _, [], hW', trodAll_mk1 (shut_bool Try.underlying4 _), trodAll_mk2 (Below.trod laidOut (by kernel_rfl) (of_decide_eq_true (by kernel_rfl)) h0 bel hlt0) (Below.trod laidOut (by kernel_rfl) (of_decide_eq_true (by kernel_rfl)) h1 bel hlt1), rfl, bel.frame _, fun h => by cases h⟩

/-- The statement. -/
theorem proved : Rows.DemandFirstSaid :=
  OpenClaim.holds_of_wide 7 Try.f7 rfl rfl rfl rfl rfl rfl rfl ⟨rfl, rfl, rfl, rfl, rfl⟩ rfl rfl rfl rfl rfl (by kernel_rfl) Try.func7 (by kernel_rfl)
    (of_decide_eq_true (by kernel_rfl)) (by unfold Func.isWrapper; first | (rw [if_pos (by decide +kernel)]; kernel_rfl) | (rw [if_neg (by decide +kernel)]; exact ⟨rfl, rfl⟩))
    (fun os started H enc _ => lifted os started H enc)
#print axioms proved

end Go.Proofs.Ythghnbbcmmjcfaa.demandFirst
