/-
  For all tasks and every number the statement DemandBounds of layer 7 returns true (the bound of tasks is the one that the document says, or the error is told), and its arguments read as before. No condition.
-/
import Derived.Test.YthghnbbcmmjcfaaLaw05Args
import Derived.Test.YthghnbbcmmjcfaaLaw07Knows
namespace Go.Proofs.Ythghnbbcmmjcfaa.demandBounds
open Go.ChangeShapes Go.WideShapes Go.ChangeAt Go.RowKit
open Mm Tk Dm

theorem small_of {L : List Tsk} {t : Int} (h : allB L = true) (h0 : 0 ≤ t) (ht : t ≤ 5000) : bndZ L t = bnd L t ∧ bndE L t = 0 := by
  have h1 := bnd_small h h0 ht
  obtain ⟨z1, z2⟩ := bnd_good h h0 (by omega)
  obtain ⟨s1, s2⟩ := sum_small (v := bnd L t) (by omega)
  rw [z1, z2, s1, s2]
  exact ⟨rfl, rfl⟩
theorem bad_of {L : List Tsk} {t : Int} (h : allB L = false ∨ t < 0 ∨ 4611686018427387903 < t) : bndZ L t = 0 ∧ bndE L t = 1 := bnd_bad fun ⟨h1, h2, h3⟩ => by
  rcases h with h | h | h
  · rw [h] at h1; cases h1
  · omega
  · omega
theorem refBound_v (A : Option Addr) (c : Nat) (L : List Tsk) (t v : Int) (hv : bnd L t = v) (w : World) (ha : allB L = true) (ht : 0 ≤ t ∧ t ≤ 5000) (H : TL w A c L) :
    Calls Try.prog 13 #[.slice A L.length c, .int .i64 t] w fun e w' => e = .returned (.int .i64 v) ∧ Below w.heap.size w w' := by
  subst hv
  exact refBound_any A c L t w ha ht H

set_option maxHeartbeats 1600000 in
theorem walk (A : Option Addr) (c : Nat) (L : List Tsk) (t : Int) (w : World) (hr : Rd w A c L) (ft : Fit t) :
    Calls Try.prog 3 #[.slice A L.length c, .int .i64 t] w fun e w' => e = .returned (.bool true) ∧ Below w.heap.size w w' := by
  unfold Fit at ft
  have HR := Lib.hid hr
  clear hr
  cases hg : greatB L with
  | true =>
    go_enter Try.func3, Try.ntmps3
    go_wp2_with fail
    refine (great_any A c L _ HR.out).mono ?_
    rintro e w1 ⟨rfl, b1⟩
    rw [hg]
    have B1 := Lib.hid b1
    clear b1
    go_wp2_with fail
    refine (knows7_any _).mono ?_
    rintro e w2 ⟨rfl, b2⟩
    have B2 := Lib.hid (below_step B1.out b2)
    clear b2
    go_wp2_with fail
    go_ret
    exact ⟨rfl, B2.out⟩
  | false =>
    obtain ⟨hL, hin⟩ := great_no hg
    have HT : Hid (TL w A c L) := ⟨by omega, fun j hj => by have := hin j hj; omega, HR.out⟩
    have HGR := Lib.hid hg
    have HL := Lib.hid hL
    have HIN := Lib.hid hin
    clear hL hin
    clear hg
    by_cases h5 : 5000 < t ∧ t ≤ 4611686018427387903
    · obtain ⟨h51, h52⟩ := h5
      go_enter Try.func3, Try.ntmps3
      go_wp2_with fail
      refine (great_any A c L _ HR.out).mono ?_
      rintro e w1 ⟨rfl, b1⟩
      rw [HGR.out]
      have B1 := Lib.hid b1
      clear b1
      go_wp2_with fail
      refine (knows7_any _).mono ?_
      rintro e w2 ⟨rfl, b2⟩
      have B2 := Lib.hid (below_step B1.out b2)
      clear b2
      go_wp2_with fail
      go_ret
      exact ⟨rfl, B2.out⟩
    · by_cases hM : 4611686018427387903 < t
      · have h51 : 5000 < t := by omega
        have h00 : ¬ t < 0 := by omega
        have h52 : ¬ t ≤ 4611686018427387903 := by omega
        obtain ⟨z1, z2⟩ := bad_of (L := L) (t := t) (.inr (.inr hM))
        have Z1 := Lib.hid z1
        have Z2 := Lib.hid z2
        clear z1 z2
        clear h5
        obtain ⟨v, hv⟩ : ∃ v, allB L = v := ⟨_, rfl⟩
        cases v with
        | true =>
          have HV := Lib.hid hv
          clear hv
          go_enter Try.func3, Try.ntmps3
          go_wp2_with fail
          refine (great_any A c L _ HR.out).mono ?_
          rintro e w1 ⟨rfl, b1⟩
          rw [HGR.out]
          replace HT := Lib.hid (HT.out.below b1)
          have B1 := Lib.hid b1
          clear b1
          go_wp2_with fail
          refine (bound_v A c L t 0 1 Z1.out Z2.out _ rfl _ HT.out).mono ?_
          rintro e w2 ⟨rfl, b2⟩
          have B2 := Lib.hid (below_step B1.out b2)
          replace HT := Lib.hid (HT.out.below b2)
          clear b2
          go_wp2_with fail
          refine (refAll_v A c L true HV.out _ rfl _ HT.out).mono ?_
          rintro e w3 ⟨rfl, b3⟩
          have B3 := Lib.hid (below_step B2.out b3)
          replace HT := Lib.hid (HT.out.below b3)
          clear b3
          go_wp2_with fail
          refine (knows7_any _).mono ?_
          rintro e w4 ⟨rfl, b4⟩
          have B4 := Lib.hid (below_step B3.out b4)
          clear b4
          go_wp2_with fail
          go_ret
          exact ⟨rfl, B4.out⟩
        | false =>
          have HV := Lib.hid hv
          clear hv
          go_enter Try.func3, Try.ntmps3
          go_wp2_with fail
          refine (great_any A c L _ HR.out).mono ?_
          rintro e w1 ⟨rfl, b1⟩
          rw [HGR.out]
          replace HT := Lib.hid (HT.out.below b1)
          have B1 := Lib.hid b1
          clear b1
          go_wp2_with fail
          refine (bound_v A c L t 0 1 Z1.out Z2.out _ rfl _ HT.out).mono ?_
          rintro e w2 ⟨rfl, b2⟩
          have B2 := Lib.hid (below_step B1.out b2)
          replace HT := Lib.hid (HT.out.below b2)
          clear b2
          go_wp2_with fail
          refine (refAll_v A c L false HV.out _ rfl _ HT.out).mono ?_
          rintro e w3 ⟨rfl, b3⟩
          have B3 := Lib.hid (below_step B2.out b3)
          replace HT := Lib.hid (HT.out.below b3)
          clear b3
          go_wp2_with fail
          refine (knows7_any _).mono ?_
          rintro e w4 ⟨rfl, b4⟩
          have B4 := Lib.hid (below_step B3.out b4)
          clear b4
          go_wp2_with fail
          go_ret
          exact ⟨rfl, B4.out⟩
      · have h51 : ¬ 5000 < t := by omega
        have hM' : ¬ 4611686018427387903 < t := hM
        clear h5
        cases hv : allB L with
        | false =>
          obtain ⟨z1, z2⟩ := bad_of (L := L) (t := t) (.inl hv)
          have Z1 := Lib.hid z1
          have Z2 := Lib.hid z2
          have HV := Lib.hid hv
          clear z1 z2 hv
          go_enter Try.func3, Try.ntmps3
          go_wp2_with fail
          refine (great_any A c L _ HR.out).mono ?_
          rintro e w1 ⟨rfl, b1⟩
          rw [HGR.out]
          replace HT := Lib.hid (HT.out.below b1)
          have B1 := Lib.hid b1
          clear b1
          go_wp2_with fail
          refine (bound_v A c L t 0 1 Z1.out Z2.out _ rfl _ HT.out).mono ?_
          rintro e w2 ⟨rfl, b2⟩
          have B2 := Lib.hid (below_step B1.out b2)
          replace HT := Lib.hid (HT.out.below b2)
          clear b2
          go_wp2_with fail
          refine (refAll_v A c L false HV.out _ rfl _ HT.out).mono ?_
          rintro e w3 ⟨rfl, b3⟩
          have B3 := Lib.hid (below_step B2.out b3)
          replace HT := Lib.hid (HT.out.below b3)
          clear b3
          go_wp2_with fail
          refine (knows7_any _).mono ?_
          rintro e w4 ⟨rfl, b4⟩
          have B4 := Lib.hid (below_step B3.out b4)
          clear b4
          go_wp2_with fail
          go_ret
          exact ⟨rfl, B4.out⟩
        | true =>
          by_cases h0 : t < 0
          · obtain ⟨z1, z2⟩ := bad_of (L := L) (t := t) (.inr (.inl h0))
            have Z1 := Lib.hid z1
            have Z2 := Lib.hid z2
            have HV := Lib.hid hv
            clear z1 z2 hv
            go_enter Try.func3, Try.ntmps3
            go_wp2_with fail
            refine (great_any A c L _ HR.out).mono ?_
            rintro e w1 ⟨rfl, b1⟩
            rw [HGR.out]
            replace HT := Lib.hid (HT.out.below b1)
            have B1 := Lib.hid b1
            clear b1
            go_wp2_with fail
            refine (bound_v A c L t 0 1 Z1.out Z2.out _ rfl _ HT.out).mono ?_
            rintro e w2 ⟨rfl, b2⟩
            have B2 := Lib.hid (below_step B1.out b2)
            replace HT := Lib.hid (HT.out.below b2)
            clear b2
            go_wp2_with fail
            refine (refAll_v A c L true HV.out _ rfl _ HT.out).mono ?_
            rintro e w3 ⟨rfl, b3⟩
            have B3 := Lib.hid (below_step B2.out b3)
            replace HT := Lib.hid (HT.out.below b3)
            clear b3
            go_wp2_with fail
            refine (knows7_any _).mono ?_
            rintro e w4 ⟨rfl, b4⟩
            have B4 := Lib.hid (below_step B3.out b4)
            clear b4
            go_wp2_with fail
            go_ret
            exact ⟨rfl, B4.out⟩
          · have h01 : 0 ≤ t := by omega
            have h02 : t ≤ 5000 := by omega
            obtain ⟨z1, z2⟩ := small_of hv h01 h02
            obtain ⟨v, hb⟩ : ∃ v, bnd L t = v := ⟨_, rfl⟩
            rw [hb] at z1
            have Z1 := Lib.hid z1
            have Z2 := Lib.hid z2
            have HV := Lib.hid hv
            have HB := Lib.hid hb
            clear z1 z2 hv hb
            go_enter Try.func3, Try.ntmps3
            go_wp2_with fail
            refine (great_any A c L _ HR.out).mono ?_
            rintro e w1 ⟨rfl, b1⟩
            rw [HGR.out]
            replace HT := Lib.hid (HT.out.below b1)
            have B1 := Lib.hid b1
            clear b1
            go_wp2_with fail
            refine (bound_v A c L t v 0 Z1.out Z2.out _ rfl _ HT.out).mono ?_
            rintro e w2 ⟨rfl, b2⟩
            have B2 := Lib.hid (below_step B1.out b2)
            replace HT := Lib.hid (HT.out.below b2)
            clear b2
            go_wp2_with fail
            refine (refAll_v A c L true HV.out _ rfl _ HT.out).mono ?_
            rintro e w3 ⟨rfl, b3⟩
            have B3 := Lib.hid (below_step B2.out b3)
            replace HT := Lib.hid (HT.out.below b3)
            clear b3
            go_wp2_with fail
            refine (refBound_v A c L t v HB.out _ HV.out ⟨h01, h02⟩ HT.out).mono ?_
            rintro e w4 ⟨rfl, b4⟩
            have B4 := Lib.hid (below_step B3.out b4)
            replace HT := Lib.hid (HT.out.below b4)
            clear b4
            go_wp2_with fail
            refine (knows7_any _).mono ?_
            rintro e w5 ⟨rfl, b5⟩
            have B5 := Lib.hid (below_step B4.out b5)
            clear b5
            go_wp2_with fail
            go_ret
            exact ⟨rfl, B5.out⟩

set_option maxRecDepth 100000 in
theorem lifted (os : Os) (started : os.Started) (H : Type) (enc : TypeId × Value → H) :
    ReturnsInHanded {} Try.checked os 3 .any (Rows.demandBoundsSpec.pre6 enc Try.prog Try.f3 Rows.demandBoundsRow.domain false) (Rows.demandBoundsSpec.post enc Try.prog Try.f3 false true false false) := by
  refine returnsInHanded_of_change (C := Try.checked) own started (by kernel_rfl) Try.func3
    (ChangeSpec.witness6 (enc := enc) (C := Try.checked) false ⟨#[], #[.slice none 0 0, .int .i64 0], []⟩ 8 (by kernel_rfl) (by kernel_rfl) (by kernel_rfl) (by kernel_rfl)) ?_
  intro W base args ds gs before hval0 hW hcnd _
  have hval : ∀ (j : Nat) t v, Try.f3.params[j]? = some t → args[j]? = some v → Value.okWide Try.prog W .any base t v := hval0
  have hW' := hW
  obtain ⟨p, q, hA0, hV, rfl, hfz, hnd⟩ := hW
  have hA : DataW.TrodAll enc Try.prog W 0 (fun _ => true) true Try.f3.params.toList args.toList ds p := hA0
  rw [Try.params3] at hA hval
  obtain ⟨v0, v1, d0, d1, p0, p1, rfl, rfl, rfl, h0, h1⟩ := trodAll_two hA
  obtain ⟨rfl, rfl⟩ := trodVars_none hV
  obtain ⟨A0, c0, l0, rfl, hr0⟩ := Mm.open_list (α := Tk.Tsk) Try.underlying22 Tk.opTasks (hval 0 22 v0 rfl rfl) h0
  obtain ⟨n1, rfl, f1⟩ := Mm.open_num' Try.underlying3 (hval 1 3 v1 rfl rfl) h1
  clear hA0 hval0
  refine (walk A0 c0 l0 n1 W hr0 f1).mono fun e W' ⟨he, bel⟩ => ?_
  subst he
  have hlt0 : ∀ x ∈ p0, x.block < W.heap.size := fun x hx => hW'.lt x (by simp [hx])
  have hlt1 : ∀ x ∈ p1, x.block < W.heap.size := fun x hx => hW'.lt x (by simp [hx])
  exact ⟨_, rfl, _, _, _, [], _, [], hW', trodAll_mk1 (shut_bool Try.underlying4 _), trodAll_mk2 (Below.trod laidOut (by kernel_rfl) (of_decide_eq_true (by kernel_rfl)) h0 bel hlt0) (Below.trod laidOut (by kernel_rfl) (of_decide_eq_true (by kernel_rfl)) h1 bel hlt1), rfl, bel.frame _, fun h => by cases h⟩

/-- The statement. -/
theorem proved : Rows.DemandBoundsSaid :=
  OpenClaim.holds_of_wide 3 Try.f3 rfl rfl rfl rfl rfl rfl rfl ⟨rfl, rfl, rfl, rfl, rfl⟩ rfl rfl rfl rfl rfl (by kernel_rfl) Try.func3 (by kernel_rfl)
    (of_decide_eq_true (by kernel_rfl)) (by unfold Func.isWrapper; first | (rw [if_pos (by decide +kernel)]; kernel_rfl) | (rw [if_neg (by decide +kernel)]; exact ⟨rfl, rfl⟩))
    (fun os started H enc _ => lifted os started H enc)
#print axioms proved

end Go.Proofs.Ythghnbbcmmjcfaa.demandBounds
