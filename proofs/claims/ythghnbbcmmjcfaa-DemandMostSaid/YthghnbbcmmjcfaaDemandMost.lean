/-
  For all tasks, all lists of releases and any two ticks the statement DemandMost of layer 7 returns true (no pattern has a greater demand than the bound), and its arguments read as before. No condition.
-/
import Derived.Test.YthghnbbcmmjcfaaLaw05Args
import Derived.Test.YthghnbbcmmjcfaaLaw07Knows
namespace Go.Proofs.Ythghnbbcmmjcfaa.demandMost
open Go.ChangeShapes Go.WideShapes Go.ChangeAt Go.RowKit
open Mm Tk Dm

theorem refOf_v (A : Option Addr) (c : Nat) (L : List Tsk) (A2 : Option Addr) (c2 : Nat) (R : List (List Int)) (a b v : Int) (hv : dem L R a b = v) (w : World) (hl : legalB L R = true) (H : TL w A c L) (H2 : LL w A2 c2 R) :
    Calls Try.prog 18 #[.slice A L.length c, .slice A2 R.length c2, .int .i64 a, .int .i64 b] w fun e w' => e = .returned (.int .i64 v) ∧ Below w.heap.size w w' := by
  subst hv
  exact refOf_any A c L A2 c2 R a b w hl H H2
theorem mid_of {L : List Tsk} {t : Int} (h : allB L = true) (h0 : 0 ≤ t) (ht : t ≤ 1099511627776) : bndZ L t = bnd L t ∧ bndE L t = 0 := by
  have h1 := bnd_small h h0 ht
  obtain ⟨z1, z2⟩ := bnd_good h h0 (by omega)
  obtain ⟨s1, s2⟩ := sum_small (v := bnd L t) (by omega)
  rw [z1, z2, s1, s2]
  exact ⟨rfl, rfl⟩

set_option maxHeartbeats 1600000 in
theorem walk (A : Option Addr) (c : Nat) (L : List Tsk) (A2 : Option Addr) (c2 : Nat) (R : List (List Int)) (a b : Int) (w : World) (hr : Rd w A c L) (hr2 : Rd w A2 c2 R) (fa : Fit a) (fb : Fit b) :
    Calls Try.prog 6 #[.slice A L.length c, .slice A2 R.length c2, .int .i64 a, .int .i64 b] w fun e w' => e = .returned (.bool true) ∧ Below w.heap.size w w' := by
  unfold Fit at fa fb
  have HR := Lib.hid hr
  have HR2 := Lib.hid hr2
  clear hr hr2
  cases hg : great7B L R with
  | true =>
    go_enter Try.func6, Try.ntmps6
    go_wp2_with fail
    refine (great7_any A c L A2 c2 R _ HR.out HR2.out).mono ?_
    rintro e w1 ⟨rfl, b1⟩
    rw [hg]
    have B1 := Lib.hid b1
    clear b1
    go_wp2_with fail
    refine (knows7_any _).mono ?_
    rintro e w2 ⟨rfl, b2⟩
    have B2 := Lib.hid (below_step B1.out b2)
    clear b2
    go_wp2_with fail
    go_ret
    exact ⟨rfl, B2.out⟩
  | false =>
    obtain ⟨⟨hL, hin⟩, hR, hin2⟩ := great7_no hg
    have HT : Hid (TL w A c L) := ⟨by omega, fun j hj => by have := hin j hj; omega, HR.out⟩
    have HL : Hid (LL w A2 c2 R) := ⟨by omega, fun j hj => by have := hin2 j hj; omega, HR2.out⟩
    clear hL hin hR hin2
    cases hv : legalB L R with
    | false =>
      have HV := Lib.hid hv
      clear hv
      go_enter Try.func6, Try.ntmps6
      go_wp2_with fail
      refine (great7_any A c L A2 c2 R _ HR.out HR2.out).mono ?_
      rintro e w1 ⟨rfl, b1⟩
      rw [hg]
      replace HT := Lib.hid (HT.out.below b1)
      replace HL := Lib.hid (HL.out.below b1)
      have B1 := Lib.hid b1
      clear b1
      go_wp2_with fail
      refine (refLegal_v A c L A2 c2 R false HV.out _ HT.out HL.out).mono ?_
      rintro e w2 ⟨rfl, b2⟩
      have B2 := Lib.hid (below_step B1.out b2)
      replace HT := Lib.hid (HT.out.below b2)
      replace HL := Lib.hid (HL.out.below b2)
      clear b2
      go_wp2_with fail
      refine (knows7_any _).mono ?_
      rintro e w3 ⟨rfl, b3⟩
      have B3 := Lib.hid (below_step B2.out b3)
      clear b3
      go_wp2_with fail
      go_ret
      exact ⟨rfl, B3.out⟩
    | true =>
      by_cases hab : a < 0 ∨ b < a ∨ 1099511627776 < b
      · have hcase : a < 0 ∨ (¬ a < 0 ∧ b < a) ∨ (¬ a < 0 ∧ ¬ b < a ∧ 1099511627776 < b) := by omega
        have HV := Lib.hid hv
        clear hv
        clear hab
        rcases hcase with h1 | ⟨h1, h2⟩ | ⟨h1, h2, h3⟩
        all_goals
          go_enter Try.func6, Try.ntmps6
          go_wp2_with fail
          refine (great7_any A c L A2 c2 R _ HR.out HR2.out).mono ?_
          rintro e w1 ⟨rfl, b1⟩
          rw [hg]
          replace HT := Lib.hid (HT.out.below b1)
          replace HL := Lib.hid (HL.out.below b1)
          have B1 := Lib.hid b1
          clear b1
          go_wp2_with fail
          refine (refLegal_v A c L A2 c2 R true HV.out _ HT.out HL.out).mono ?_
          rintro e w2 ⟨rfl, b2⟩
          have B2 := Lib.hid (below_step B1.out b2)
          replace HT := Lib.hid (HT.out.below b2)
          replace HL := Lib.hid (HL.out.below b2)
          clear b2
          go_wp2_with fail
          refine (knows7_any _).mono ?_
          rintro e w3 ⟨rfl, b3⟩
          have B3 := Lib.hid (below_step B2.out b3)
          clear b3
          go_wp2_with fail
          go_ret
          exact ⟨rfl, B3.out⟩
      · have h1 : ¬ a < 0 := by omega
        have h2 : ¬ b < a := by omega
        have h3 : ¬ 1099511627776 < b := by omega
        obtain ⟨z1, z2⟩ := mid_of (t := b - a) (legal_iff.1 hv).1 (by omega) (by omega)
        have hle := dem_most hv a b
        obtain ⟨v, hd⟩ : ∃ v, dem L R a b = v := ⟨_, rfl⟩
        obtain ⟨u, hu⟩ : ∃ u, bnd L (b - a) = u := ⟨_, rfl⟩
        rw [hu] at z1
        rw [hd, hu] at hle
        have HV := Lib.hid hv
        have HD := Lib.hid hd
        have HU := Lib.hid hu
        have Z1 := Lib.hid z1
        have Z2 := Lib.hid z2
        clear hv hd hu z1 z2
        clear hab
        go_enter Try.func6, Try.ntmps6
        go_wp2_with fail
        refine (great7_any A c L A2 c2 R _ HR.out HR2.out).mono ?_
        rintro e w1 ⟨rfl, b1⟩
        rw [hg]
        replace HT := Lib.hid (HT.out.below b1)
        replace HL := Lib.hid (HL.out.below b1)
        have B1 := Lib.hid b1
        clear b1
        go_wp2_with fail
        refine (refLegal_v A c L A2 c2 R true HV.out _ HT.out HL.out).mono ?_
        rintro e w2 ⟨rfl, b2⟩
        have B2 := Lib.hid (below_step B1.out b2)
        replace HT := Lib.hid (HT.out.below b2)
        replace HL := Lib.hid (HL.out.below b2)
        clear b2
        go_wp2_with fail
        refine (bound_v A c L (b - a) u 0 Z1.out Z2.out _ rfl _ HT.out).mono ?_
        rintro e w3 ⟨rfl, b3⟩
        have B3 := Lib.hid (below_step B2.out b3)
        replace HT := Lib.hid (HT.out.below b3)
        replace HL := Lib.hid (HL.out.below b3)
        clear b3
        go_wp2_with fail
        refine (refOf_v A c L A2 c2 R a b v HD.out _ HV.out HT.out HL.out).mono ?_
        rintro e w4 ⟨rfl, b4⟩
        have B4 := Lib.hid (below_step B3.out b4)
        replace HT := Lib.hid (HT.out.below b4)
        replace HL := Lib.hid (HL.out.below b4)
        clear b4
        go_wp2_with fail
        refine (knows7_any _).mono ?_
        rintro e w5 ⟨rfl, b5⟩
        have B5 := Lib.hid (below_step B4.out b5)
        clear b5
        go_wp2_with fail
        go_ret
        exact ⟨rfl, B5.out⟩

set_option maxRecDepth 100000 in
theorem lifted (os : Os) (started : os.Started) (H : Type) (enc : TypeId × Value → H) :
    ReturnsInHanded {} Try.checked os 6 .any (Rows.demandMostSpec.pre6 enc Try.prog Try.f6 Rows.demandMostRow.domain false) (Rows.demandMostSpec.post enc Try.prog Try.f6 false true false false) := by
  refine returnsInHanded_of_change (C := Try.checked) own started (by kernel_rfl) Try.func6
    (ChangeSpec.witness6 (enc := enc) (C := Try.checked) false ⟨#[], #[.slice none 0 0, .slice none 0 0, .int .i64 0, .int .i64 0], []⟩ 8 (by kernel_rfl) (by kernel_rfl) (by kernel_rfl) (by kernel_rfl)) ?_
  intro W base args ds gs before hval0 hW hcnd _
  have hval : ∀ (j : Nat) t v, Try.f6.params[j]? = some t → args[j]? = some v → Value.okWide Try.prog W .any base t v := hval0
  have hW' := hW
  obtain ⟨p, q, hA0, hV, rfl, hfz, hnd⟩ := hW
  have hA : DataW.TrodAll enc Try.prog W 0 (fun _ => true) true Try.f6.params.toList args.toList ds p := hA0
  rw [Try.params6] at hA hval
  obtain ⟨v0, v1, v2, v3, d0, d1, d2, d3, p0, p1, p2, p3, rfl, rfl, rfl, h0, h1, h2, h3⟩ := trodAll_four' hA
  obtain ⟨rfl, rfl⟩ := trodVars_none hV
  obtain ⟨A0, c0, l0, rfl, hr0⟩ := Mm.open_list (α := Tk.Tsk) Try.underlying22 Tk.opTasks (hval 0 22 v0 rfl rfl) h0
  obtain ⟨A1, c1, l1, rfl, hr1⟩ := Mm.open_list (α := List Int) Try.underlying34 Mm.opLists (hval 1 34 v1 rfl rfl) h1
  obtain ⟨n2, rfl, f2⟩ := Mm.open_num' Try.underlying3 (hval 2 3 v2 rfl rfl) h2
  obtain ⟨n3, rfl, f3⟩ := Mm.open_num' Try.underlying3 (hval 3 3 v3 rfl rfl) h3
  clear hA0 hval0
  refine (walk A0 c0 l0 A1 c1 l1 n2 n3 W hr0 hr1 f2 f3).mono fun e W' ⟨he, bel⟩ => ?_
  subst he
  have hlt0 : ∀ x ∈ p0, x.block < W.heap.size := fun x hx => hW'.lt x (by simp [hx])
  have hlt1 : ∀ x ∈ p1, x.block < W.heap.size := fun x hx => hW'.lt x (by simp [hx])
  have hlt2 : ∀ x ∈ p2, x.block < W.heap.size := fun x hx => hW'.lt x (by simp [hx])
  have hlt3 : ∀ x ∈ p3, x.block < W.heap.size := fun x hx => hW'.lt x (by simp [hx])
  exact ⟨_, rfl, _, _, _, [], _, [], hW', trodAll_mk1 (shut_bool Try.underlying4 _), trodAll_mk4 (Below.trod laidOut (by kernel_rfl) (of_decide_eq_true (by kernel_rfl)) h0 bel hlt0) (Below.trod laidOut (by kernel_rfl) (of_decide_eq_true (by kernel_rfl)) h1 bel hlt1) (Below.trod laidOut (by kernel_rfl) (of_decide_eq_true (by kernel_rfl)) h2 bel hlt2) (Below.trod laidOut (by kernel_rfl) (of_decide_eq_true (by kernel_rfl)) h3 bel hlt3), rfl, bel.frame _, fun h => by cases h⟩

/-- The statement. -/
theorem proved : Rows.DemandMostSaid :=
  OpenClaim.holds_of_wide 6 Try.f6 rfl rfl rfl rfl rfl rfl rfl ⟨rfl, rfl, rfl, rfl, rfl⟩ rfl rfl rfl rfl rfl (by kernel_rfl) Try.func6 (by kernel_rfl)
    (of_decide_eq_true (by kernel_rfl)) (by unfold Func.isWrapper; first | (rw [if_pos (by decide +kernel)]; kernel_rfl) | (rw [if_neg (by decide +kernel)]; exact ⟨rfl, rfl⟩))
    (fun os started H enc _ => lifted os started H enc)
#print axioms proved

end Go.Proofs.Ythghnbbcmmjcfaa.demandMost
