/-
  For all tasks, any two numbers and any place the statement DemandRises of layer 7 returns true (the bound never falls as ticks are more; of more tasks it is not less; and of tasks apart it is the sum), and its arguments read as before. No condition.
-/
import Derived.Test.YthghnbbcmmjcfaaLaw05Args
import Derived.Test.YthghnbbcmmjcfaaLaw07Knows
namespace Go.Proofs.Ythghnbbcmmjcfaa.demandRises
open Go.ChangeShapes Go.WideShapes Go.ChangeAt Go.RowKit
open Mm Tk Dm

theorem small_of {L : List Tsk} {t : Int} (h : allB L = true) (h0 : 0 ≤ t) (ht : t ≤ 5000) : bndZ L t = bnd L t ∧ bndE L t = 0 := by
  have h1 := bnd_small h h0 ht
  obtain ⟨z1, z2⟩ := bnd_good h h0 (by omega)
  obtain ⟨s1, s2⟩ := sum_small (v := bnd L t) (by omega)
  rw [z1, z2, s1, s2]
  exact ⟨rfl, rfl⟩
theorem len_take {L : List Tsk} {k : Nat} (h : k ≤ L.length) : (L.take k).length = k := by rw [List.length_take]; omega
theorem len_drop {L : List Tsk} {k : Nat} : (L.drop k).length = L.length - k := List.length_drop

set_option maxHeartbeats 1600000 in
theorem walk (A : Option Addr) (c : Nat) (L : List Tsk) (t u : Int) (a : Nat) (w : World) (hr : Rd w A c L) (ft : Fit t) (fu : Fit u) (ha : a < 256) :
    Calls Try.prog 8 #[.slice A L.length c, .int .i64 t, .int .i64 u, .int .u8 a] w fun e w' => e = .returned (.bool true) ∧ Below w.heap.size w w' := by
  unfold Fit at ft fu
  have HR := Lib.hid hr
  clear hr
  cases hg : greatB L with
  | true =>
    go_enter Try.func8, Try.ntmps8
    go_wp2_with fail
    refine (great_any A c L _ HR.out).mono ?_
    rintro e w1 ⟨rfl, b1⟩
    rw [hg]
    have B1 := Lib.hid b1
    clear b1
    go_wp2_with fail
    refine (knows7_any _).mono ?_
    rintro e w2 ⟨rfl, b2⟩
    have B2 := Lib.hid (below_step B1.out b2)
    clear b2
    go_wp2_with fail
    go_ret
    exact ⟨rfl, B2.out⟩
  | false =>
    obtain ⟨hL, hin⟩ := great_no hg
    have HT : Hid (TL w A c L) := ⟨by omega, fun j hj => by have := hin j hj; omega, HR.out⟩
    have HGR := Lib.hid hg
    have HIN := Lib.hid hin
    clear hin
    clear hg
    cases hv : allB L with
    | false =>
      have HV := Lib.hid hv
      have HL := Lib.hid hL
      clear hv hL
      go_enter Try.func8, Try.ntmps8
      go_wp2_with fail
      refine (great_any A c L _ HR.out).mono ?_
      rintro e w1 ⟨rfl, b1⟩
      rw [HGR.out]
      replace HT := Lib.hid (HT.out.below b1)
      have B1 := Lib.hid b1
      clear b1
      go_wp2_with fail
      refine (refAll_v A c L false HV.out _ rfl _ HT.out).mono ?_
      rintro e w2 ⟨rfl, b2⟩
      have B2 := Lib.hid (below_step B1.out b2)
      replace HT := Lib.hid (HT.out.below b2)
      clear b2
      go_wp2_with fail
      refine (knows7_any _).mono ?_
      rintro e w3 ⟨rfl, b3⟩
      have B3 := Lib.hid (below_step B2.out b3)
      clear b3
      go_wp2_with fail
      go_ret
      exact ⟨rfl, B3.out⟩
    | true =>
      by_cases hc : t < 0 ∨ u < t ∨ 5000 < u
      · have hcase : t < 0 ∨ (¬ t < 0 ∧ u < t) ∨ (¬ t < 0 ∧ ¬ u < t ∧ 5000 < u) := by omega
        have HV := Lib.hid hv
        have HL := Lib.hid hL
        clear hv hL
        clear hc
        rcases hcase with h1 | ⟨h1, h2⟩ | ⟨h1, h2, h3⟩
        all_goals
          go_enter Try.func8, Try.ntmps8
          go_wp2_with fail
          refine (great_any A c L _ HR.out).mono ?_
          rintro e w1 ⟨rfl, b1⟩
          rw [HGR.out]
          replace HT := Lib.hid (HT.out.below b1)
          have B1 := Lib.hid b1
          clear b1
          go_wp2_with fail
          refine (refAll_v A c L true HV.out _ rfl _ HT.out).mono ?_
          rintro e w2 ⟨rfl, b2⟩
          have B2 := Lib.hid (below_step B1.out b2)
          replace HT := Lib.hid (HT.out.below b2)
          clear b2
          go_wp2_with fail
          refine (knows7_any _).mono ?_
          rintro e w3 ⟨rfl, b3⟩
          have B3 := Lib.hid (below_step B2.out b3)
          clear b3
          go_wp2_with fail
          go_ret
          exact ⟨rfl, B3.out⟩
      · have h1 : ¬ t < 0 := by omega
        have h2 : ¬ u < t := by omega
        have h3 : ¬ 5000 < u := by omega
        clear hc
        obtain ⟨z1, y1⟩ := small_of hv (t := t) (by omega) (by omega)
        obtain ⟨z2, y2⟩ := small_of hv (t := u) (by omega) (by omega)
        have hk : a % (L.length + 1) < L.length + 1 := Nat.mod_lt _ (by omega)
        have e1 : Int.tmod (a : Int) ((L.length : Int) + 1) = ((a % (L.length + 1) : Nat) : Int) := by
          rw [Int.tmod_eq_emod_of_nonneg (by omega)]
          exact (Int.natCast_emod a (L.length + 1)).symm
        have e2 : IntKind.i64.wrap (a : Int) = (a : Int) := IntWalk.i64_in _ (by omega)
        have e3 : IntKind.i64.wrap ((L.length : Int) + 1) = (L.length : Int) + 1 := IntWalk.i64_in _ (by omega)
        generalize a % (L.length + 1) = k at *
        have e4 : IntKind.i64.wrap (k : Int) = (k : Int) := IntWalk.i64_in _ (by omega)
        have hkl : k ≤ L.length := by omega
        have hcl := HT.out.2.2.le
        have hcm := HT.out.2.2.max
        unfold maxLen at hcm
        have hm := bnd_mono hv (t := t) (u := u) (by omega)
        have hs := bnd_split L t hkl
        have hsm := bnd_small hv (t := t) (m := 5000) (by omega) (by omega)
        have hnn1 := bnd_nonneg (all_take hv k) t
        have hnn2 := bnd_nonneg (all_drop hv k) t
        obtain ⟨z3, y3⟩ := small_of (all_take hv k) (t := t) (by omega) (by omega)
        obtain ⟨z4, y4⟩ := small_of (all_drop hv k) (t := t) (by omega) (by omega)
        have HLT := Lib.hid (len_take hkl)
        have HLD := Lib.hid (len_drop (L := L) (k := k))
        have HTK := Lib.hid (HT.out.take k)
        have hL0 : L.length = 0 → L.drop k = [] := fun h => by rw [List.eq_nil_of_length_eq_zero h]; exact List.drop_nil
        have HNIL : Hid (L.length = k → L.drop k = []) := fun h => by rw [← h]; exact List.drop_length
        obtain ⟨v1, g1⟩ : ∃ v, bnd L t = v := ⟨_, rfl⟩
        obtain ⟨v2, g2⟩ : ∃ v, bnd L u = v := ⟨_, rfl⟩
        obtain ⟨v3, g3⟩ : ∃ v, bnd (L.take k) t = v := ⟨_, rfl⟩
        obtain ⟨v4, g4⟩ : ∃ v, bnd (L.drop k) t = v := ⟨_, rfl⟩
        rw [g1] at z1 hm hs hsm
        rw [g2] at z2 hm
        rw [g3] at z3 hs hnn1
        rw [g4] at z4 hs hnn2
        have Z1 := Lib.hid z1
        have Z2 := Lib.hid z2
        have Z3 := Lib.hid z3
        have Z4 := Lib.hid z4
        have Y1 := Lib.hid y1
        have Y2 := Lib.hid y2
        have Y3 := Lib.hid y3
        have Y4 := Lib.hid y4
        have G1 := Lib.hid g1
        have G2 := Lib.hid g2
        have G3 := Lib.hid g3
        have G4 := Lib.hid g4
        clear z1 z2 z3 z4 y1 y2 y3 y4 g1 g2 g3 g4
        have i1 : (0 : Int) ≤ (k : Int) := by omega
        have i2 : (k : Int) ≤ (c : Int) := by omega
        have i3 : (k : Int) ≤ (L.length : Int) := by omega
        have i4 : (L.length : Int) ≤ (c : Int) := by omega
        have hb8 : v3 + v4 ≤ 8000000 := by omega
        have hle1 : v1 ≤ v2 := hm
        have hle2 : v3 ≤ v1 := by omega
        have hv' := Lib.hid hv
        clear hv hm
        have HLL := Lib.hid hL
        clear hL
        by_cases h0 : 0 < L.length
        · by_cases hck : c = k
          · obtain rfl : k = L.length := by omega
            subst hck
            have W4 : Hid (bndZ [] t = v4) := by have := Z4.out; rwa [HNIL.out rfl] at this
            have V4 : Hid (bndE [] t = 0) := by have := Y4.out; rwa [HNIL.out rfl] at this
            go_enter Try.func8, Try.ntmps8
            go_wp2_with fail
            refine (great_any _ _ _ _ HR.out).mono ?_
            rintro e w1 ⟨rfl, b1⟩
            rw [HGR.out]
            replace HT := Lib.hid (HT.out.below b1)
            replace HTK := Lib.hid (HTK.out.below b1)
            have B1 := Lib.hid b1
            clear b1
            go_wp2_with fail
            refine (refAll_v _ _ _ true hv'.out _ rfl _ HT.out).mono ?_
            rintro e w2 ⟨rfl, b2⟩
            have B2 := Lib.hid (below_step B1.out b2)
            replace HT := Lib.hid (HT.out.below b2)
            replace HTK := Lib.hid (HTK.out.below b2)
            clear b2
            go_wp2_with fail
            refine (bound_v _ _ _ t v1 0 Z1.out Y1.out _ rfl _ HT.out).mono ?_
            rintro e w3 ⟨rfl, b3⟩
            have B3 := Lib.hid (below_step B2.out b3)
            replace HT := Lib.hid (HT.out.below b3)
            replace HTK := Lib.hid (HTK.out.below b3)
            clear b3
            go_wp2_with fail
            refine (bound_v _ _ _ u v2 0 Z2.out Y2.out _ rfl _ HT.out).mono ?_
            rintro e w4 ⟨rfl, b4⟩
            have B4 := Lib.hid (below_step B3.out b4)
            replace HT := Lib.hid (HT.out.below b4)
            replace HTK := Lib.hid (HTK.out.below b4)
            clear b4
            go_wp2_with fail
            refine (bound_v _ _ _ t v3 0 Z3.out Y3.out _ HLT.out _ HTK.out).mono ?_
            rintro e w5 ⟨rfl, b5⟩
            have B5 := Lib.hid (below_step B4.out b5)
            replace HT := Lib.hid (HT.out.below b5)
            replace HTK := Lib.hid (HTK.out.below b5)
            clear b5
            go_wp2_with fail
            refine (bound_v _ _ [] t v4 0 W4.out V4.out 0 rfl _ (tl_nil _ _ 0 (fun _ => rfl) (by unfold maxLen; omega))).mono ?_
            rintro e w6 ⟨rfl, b6⟩
            have B6 := Lib.hid (below_step B5.out b6)
            clear b6
            go_wp2_with fail
            refine (knows7_any _).mono ?_
            rintro e w7 ⟨rfl, b7⟩
            have B7 := Lib.hid (below_step B6.out b7)
            clear b7
            go_wp2_with fail
            go_ret
            exact ⟨rfl, B7.out⟩
          · obtain ⟨b, off, rfl, _⟩ := task_at HT.out.2.2 h0
            have HDR := Lib.hid (HT.out.drop k hkl)
            go_enter Try.func8, Try.ntmps8
            go_wp2_with fail
            refine (great_any _ c L _ HR.out).mono ?_
            rintro e w1 ⟨rfl, b1⟩
            rw [HGR.out]
            replace HT := Lib.hid (HT.out.below b1)
            replace HTK := Lib.hid (HTK.out.below b1)
            replace HDR := Lib.hid (HDR.out.below b1)
            have B1 := Lib.hid b1
            clear b1
            go_wp2_with fail
            refine (refAll_v _ c L true hv'.out _ rfl _ HT.out).mono ?_
            rintro e w2 ⟨rfl, b2⟩
            have B2 := Lib.hid (below_step B1.out b2)
            replace HT := Lib.hid (HT.out.below b2)
            replace HTK := Lib.hid (HTK.out.below b2)
            replace HDR := Lib.hid (HDR.out.below b2)
            clear b2
            go_wp2_with fail
            refine (bound_v _ c L t v1 0 Z1.out Y1.out _ rfl _ HT.out).mono ?_
            rintro e w3 ⟨rfl, b3⟩
            have B3 := Lib.hid (below_step B2.out b3)
            replace HT := Lib.hid (HT.out.below b3)
            replace HTK := Lib.hid (HTK.out.below b3)
            replace HDR := Lib.hid (HDR.out.below b3)
            clear b3
            go_wp2_with fail
            refine (bound_v _ c L u v2 0 Z2.out Y2.out _ rfl _ HT.out).mono ?_
            rintro e w4 ⟨rfl, b4⟩
            have B4 := Lib.hid (below_step B3.out b4)
            replace HT := Lib.hid (HT.out.below b4)
            replace HTK := Lib.hid (HTK.out.below b4)
            replace HDR := Lib.hid (HDR.out.below b4)
            clear b4
            go_wp2_with fail
            refine (bound_v _ c (L.take k) t v3 0 Z3.out Y3.out k HLT.out _ HTK.out).mono ?_
            rintro e w5 ⟨rfl, b5⟩
            have B5 := Lib.hid (below_step B4.out b5)
            replace HT := Lib.hid (HT.out.below b5)
            replace HTK := Lib.hid (HTK.out.below b5)
            replace HDR := Lib.hid (HDR.out.below b5)
            clear b5
            go_wp2_with fail
            refine (bound_v _ (c - k) (L.drop k) t v4 0 Z4.out Y4.out (L.length - k) HLD.out _ HDR.out).mono ?_
            rintro e w6 ⟨rfl, b6⟩
            have B6 := Lib.hid (below_step B5.out b6)
            replace HT := Lib.hid (HT.out.below b6)
            replace HTK := Lib.hid (HTK.out.below b6)
            replace HDR := Lib.hid (HDR.out.below b6)
            clear b6
            go_wp2_with fail
            refine (knows7_any _).mono ?_
            rintro e w7 ⟨rfl, b7⟩
            have B7 := Lib.hid (below_step B6.out b7)
            clear b7
            go_wp2_with fail
            go_ret
            exact ⟨rfl, B7.out⟩
        · obtain rfl : L = [] := List.eq_nil_of_length_eq_zero (by omega)
          obtain rfl : k = 0 := by simpa using hkl
          by_cases hc0 : c = 0
          · subst hc0
            have W4 : Hid (bndZ [] t = v4) := Z4.out
            have V4 : Hid (bndE [] t = 0) := Y4.out
            go_enter Try.func8, Try.ntmps8
            go_wp2_with fail
            refine (great_any _ _ _ _ HR.out).mono ?_
            rintro e w1 ⟨rfl, b1⟩
            rw [HGR.out]
            replace HT := Lib.hid (HT.out.below b1)
            replace HTK := Lib.hid (HTK.out.below b1)
            have B1 := Lib.hid b1
            clear b1
            go_wp2_with fail
            refine (refAll_v _ _ _ true hv'.out _ rfl _ HT.out).mono ?_
            rintro e w2 ⟨rfl, b2⟩
            have B2 := Lib.hid (below_step B1.out b2)
            replace HT := Lib.hid (HT.out.below b2)
            replace HTK := Lib.hid (HTK.out.below b2)
            clear b2
            go_wp2_with fail
            refine (bound_v _ _ _ t v1 0 Z1.out Y1.out _ rfl _ HT.out).mono ?_
            rintro e w3 ⟨rfl, b3⟩
            have B3 := Lib.hid (below_step B2.out b3)
            replace HT := Lib.hid (HT.out.below b3)
            replace HTK := Lib.hid (HTK.out.below b3)
            clear b3
            go_wp2_with fail
            refine (bound_v _ _ _ u v2 0 Z2.out Y2.out _ rfl _ HT.out).mono ?_
            rintro e w4 ⟨rfl, b4⟩
            have B4 := Lib.hid (below_step B3.out b4)
            replace HT := Lib.hid (HT.out.below b4)
            replace HTK := Lib.hid (HTK.out.below b4)
            clear b4
            go_wp2_with fail
            refine (bound_v _ _ _ t v3 0 Z3.out Y3.out _ HLT.out _ HTK.out).mono ?_
            rintro e w5 ⟨rfl, b5⟩
            have B5 := Lib.hid (below_step B4.out b5)
            replace HT := Lib.hid (HT.out.below b5)
            replace HTK := Lib.hid (HTK.out.below b5)
            clear b5
            go_wp2_with fail
            refine (bound_v _ _ [] t v4 0 W4.out V4.out 0 rfl _ (tl_nil _ _ 0 (fun _ => rfl) (by unfold maxLen; omega))).mono ?_
            rintro e w6 ⟨rfl, b6⟩
            have B6 := Lib.hid (below_step B5.out b6)
            clear b6
            go_wp2_with fail
            refine (knows7_any _).mono ?_
            rintro e w7 ⟨rfl, b7⟩
            have B7 := Lib.hid (below_step B6.out b7)
            clear b7
            go_wp2_with fail
            go_ret
            exact ⟨rfl, B7.out⟩
          · have hcp : 0 < c := by omega
            have W4 : Hid (bndZ [] t = v4) := Z4.out
            have V4 : Hid (bndE [] t = 0) := Y4.out
            go_enter Try.func8, Try.ntmps8
            go_wp2_with fail
            refine (great_any _ _ _ _ HR.out).mono ?_
            rintro e w1 ⟨rfl, b1⟩
            rw [HGR.out]
            replace HT := Lib.hid (HT.out.below b1)
            replace HTK := Lib.hid (HTK.out.below b1)
            have B1 := Lib.hid b1
            clear b1
            go_wp2_with fail
            refine (refAll_v _ _ _ true hv'.out _ rfl _ HT.out).mono ?_
            rintro e w2 ⟨rfl, b2⟩
            have B2 := Lib.hid (below_step B1.out b2)
            replace HT := Lib.hid (HT.out.below b2)
            replace HTK := Lib.hid (HTK.out.below b2)
            clear b2
            go_wp2_with fail
            refine (bound_v _ _ _ t v1 0 Z1.out Y1.out _ rfl _ HT.out).mono ?_
            rintro e w3 ⟨rfl, b3⟩
            have B3 := Lib.hid (below_step B2.out b3)
            replace HT := Lib.hid (HT.out.below b3)
            replace HTK := Lib.hid (HTK.out.below b3)
            clear b3
            go_wp2_with fail
            refine (bound_v _ _ _ u v2 0 Z2.out Y2.out _ rfl _ HT.out).mono ?_
            rintro e w4 ⟨rfl, b4⟩
            have B4 := Lib.hid (below_step B3.out b4)
            replace HT := Lib.hid (HT.out.below b4)
            replace HTK := Lib.hid (HTK.out.below b4)
            clear b4
            go_wp2_with fail
            refine (bound_v _ _ _ t v3 0 Z3.out Y3.out _ HLT.out _ HTK.out).mono ?_
            rintro e w5 ⟨rfl, b5⟩
            have B5 := Lib.hid (below_step B4.out b5)
            replace HT := Lib.hid (HT.out.below b5)
            replace HTK := Lib.hid (HTK.out.below b5)
            clear b5
            go_wp2_with fail
            refine (bound_v _ _ [] t v4 0 W4.out V4.out 0 rfl _ HT.out).mono ?_
            rintro e w6 ⟨rfl, b6⟩
            have B6 := Lib.hid (below_step B5.out b6)
            clear b6
            go_wp2_with fail
            refine (knows7_any _).mono ?_
            rintro e w7 ⟨rfl, b7⟩
            have B7 := Lib.hid (below_step B6.out b7)
            clear b7
            go_wp2_with fail
            go_ret
            exact ⟨rfl, B7.out⟩

set_option maxRecDepth 100000 in
theorem lifted (os : Os) (started : os.Started) (H : Type) (enc : TypeId × Value → H) :
    ReturnsInHanded {} Try.checked os 8 .any (Rows.demandRisesSpec.pre6 enc Try.prog Try.f8 Rows.demandRisesRow.domain false) (Rows.demandRisesSpec.post enc Try.prog Try.f8 false true false false) := by
  refine returnsInHanded_of_change (C := Try.checked) own started (by kernel_rfl) Try.func8
    (ChangeSpec.witness6 (enc := enc) (C := Try.checked) false ⟨#[], #[.slice none 0 0, .int .i64 0, .int .i64 0, .int .u8 0], []⟩ 8 (by kernel_rfl) (by kernel_rfl) (by kernel_rfl) (by kernel_rfl)) ?_
  intro W base args ds gs before hval0 hW hcnd _
  have hval : ∀ (j : Nat) t v, Try.f8.params[j]? = some t → args[j]? = some v → Value.okWide Try.prog W .any base t v := hval0
  have hW' := hW
  obtain ⟨p, q, hA0, hV, rfl, hfz, hnd⟩ := hW
  have hA : DataW.TrodAll enc Try.prog W 0 (fun _ => true) true Try.f8.params.toList args.toList ds p := hA0
  rw [Try.params8] at hA hval
  obtain ⟨v0, v1, v2, v3, d0, d1, d2, d3, p0, p1, p2, p3, rfl, rfl, rfl, h0, h1, h2, h3⟩ := trodAll_four' hA
  obtain ⟨rfl, rfl⟩ := trodVars_none hV
  obtain ⟨A0, c0, l0, rfl, hr0⟩ := Mm.open_list (α := Tk.Tsk) Try.underlying22 Tk.opTasks (hval 0 22 v0 rfl rfl) h0
  obtain ⟨n1, rfl, f1⟩ := Mm.open_num' Try.underlying3 (hval 1 3 v1 rfl rfl) h1
  obtain ⟨n2, rfl, f2⟩ := Mm.open_num' Try.underlying3 (hval 2 3 v2 rfl rfl) h2
  obtain ⟨n3, rfl, f3⟩ := Mm.open_u8' Try.underlying5 (hval 3 5 v3 rfl rfl) h3
  clear hA0 hval0
  refine (walk A0 c0 l0 n1 n2 n3 W hr0 f1 f2 f3).mono fun e W' ⟨he, bel⟩ => ?_
  subst he
  have hlt0 : ∀ x ∈ p0, x.block < W.heap.size := fun x hx => hW'.lt x (by simp [hx])
  have hlt1 : ∀ x ∈ p1, x.block < W.heap.size := fun x hx => hW'.lt x (by simp [hx])
  have hlt2 : ∀ x ∈ p2, x.block < W.heap.size := fun x hx => hW'.lt x (by simp [hx])
  have hlt3 : ∀ x ∈ p3, x.block < W.heap.size := fun x hx => hW'.lt x (by simp [hx])
  exact ⟨_, rfl, _, _, _, [], _, [], hW', trodAll_mk1 (shut_bool Try.underlying4 _), trodAll_mk4 (Below.trod laidOut (by kernel_rfl) (of_decide_eq_true (by kernel_rfl)) h0 bel hlt0) (Below.trod laidOut (by kernel_rfl) (of_decide_eq_true (by kernel_rfl)) h1 bel hlt1) (Below.trod laidOut (by kernel_rfl) (of_decide_eq_true (by kernel_rfl)) h2 bel hlt2) (Below.trod laidOut (by kernel_rfl) (of_decide_eq_true (by kernel_rfl)) h3 bel hlt3), rfl, bel.frame _, fun h => by cases h⟩

/-- The statement. -/
theorem proved : Rows.DemandRisesSaid :=
  OpenClaim.holds_of_wide 8 Try.f8 rfl rfl rfl rfl rfl rfl rfl ⟨rfl, rfl, rfl, rfl, rfl⟩ rfl rfl rfl rfl rfl (by kernel_rfl) Try.func8 (by kernel_rfl)
    (of_decide_eq_true (by kernel_rfl)) (by unfold Func.isWrapper; first | (rw [if_pos (by decide +kernel)]; kernel_rfl) | (rw [if_neg (by decide +kernel)]; exact ⟨rfl, rfl⟩))
    (fun os started H enc _ => lifted os started H enc)
#print axioms proved

end Go.Proofs.Ythghnbbcmmjcfaa.demandRises
