/-
  For every two ints the statement ArithWhole of layer 1 returns true (what divides both divides them, and times what both divide it is the product), and its arguments read as before. No condition.
-/
import Derived.Test.YtoihaicjjcmgeaaLaw01Refs2
import Derived.ProofKit
import Derived.OpenShut
import Derived.ChangeOld
import Derived.StillTailTactics
namespace Go.Proofs.Ytoihaicjjcmgeaa.arithWhole
open Go.ChangeShapes Go.WideShapes Go.ChangeAt Go.RowKit
open Ar
set_option linter.unusedVariables false

theorem own : ownKnob Try.prog.godebug = none := by kernel_rfl

theorem whole (a b : Int) (ha : 1 ≤ a) (hb : 1 ≤ b) : (a / gcdZ a b * b) % a = 0 ∧ (a / gcdZ a b * b) % b = 0 ∧ (a / gcdZ a b * b) / a = b / gcdZ a b := by
  have e := lcm_two a b ha hb
  refine ⟨?_, Int.mul_emod_left _ _, ?_⟩
  · rw [← e]; exact Int.mul_emod_right _ _
  · rw [← e, Int.mul_ediv_cancel_left _ (by omega)]

set_option maxHeartbeats 1600000 in
theorem walk (a b : Int) (_wa : (Lit.int .i64 a).wf = true) (_wb : (Lit.int .i64 b).wf = true) (w : World) :
    Calls Try.prog 7 #[.int .i64 a, .int .i64 b] w fun e w' => e = .returned (.bool true) ∧ Below w.heap.size w w' := by
  by_cases hbad : (perm a && perm b) = false ∨ a < 0 ∨ b < 0
  · have H1 := Lib.hid hbad
    have H2 : Hid ((perm a && perm b) = false ∨ a < 1 ∨ b < 1) := by rcases hbad with h | h; exact .inl h; exact .inr (by omega)
    clear hbad
    go_enter Try.func7, Try.ntmps7
    go_wp2_with fail
    refine (gcd_bad a b _ H1.out).mono ?_
    rintro e w1 ⟨rfl, b1⟩
    have B1 := Lib.hid b1
    clear b1
    go_wp2_with fail
    refine (lcm_bad a b _ H2.out).mono ?_
    rintro e w2 ⟨rfl, b2⟩
    have B2 := Lib.hid (B1.out.trans (b2.mono B1.out.size))
    clear b2 B1
    go_wp2_with fail
    refine (knows_any _).mono ?_
    rintro e w3 ⟨rfl, b3⟩
    have B3 := Lib.hid (B2.out.trans (b3.mono B2.out.size))
    clear b3 B2
    go_wp2_with fail
    go_ret
    exact ⟨rfl, B3.out⟩
  · have hp : (perm a && perm b) = true := by
      cases h : (perm a && perm b) with
      | true => rfl
      | false => exact (hbad (.inl h)).elim
    have ha0 : 0 ≤ a := by omega
    have hb0 : 0 ≤ b := by omega
    rw [Bool.and_eq_true] at hp
    have h1 := perm_iff.1 hp.1
    have h2 := perm_iff.1 hp.2
    have HA := Lib.hid hp.1
    have HB := Lib.hid hp.2
    clear hp hbad
    by_cases hz : a = 0 ∧ b = 0
    · obtain ⟨rfl, rfl⟩ := hz
      have HG : Hid (gcdZ 0 0 = 0) := rfl
      go_enter Try.func7, Try.ntmps7
      go_wp2_with fail
      refine (gcd_ok 0 0 _ HA.out HB.out ha0 hb0).mono ?_
      rintro e w1 ⟨rfl, b1⟩
      have B1 := Lib.hid b1
      clear b1
      rw [HG.out]
      go_wp2_with fail
      refine (lcm_bad 0 0 _ (by omega)).mono ?_
      rintro e w2 ⟨rfl, b2⟩
      have B2 := Lib.hid (B1.out.trans (b2.mono B1.out.size))
      clear b2 B1
      go_wp2_with fail
      refine (knows_any _).mono ?_
      rintro e w3 ⟨rfl, b3⟩
      have B3 := Lib.hid (B2.out.trans (b3.mono B2.out.size))
      clear b3 B2
      go_wp2_with fail
      go_ret
      exact ⟨rfl, B3.out⟩
    · have hg : 1 ≤ gcdZ a b := by
        by_cases h : 1 ≤ a
        · exact gcdZ_pos a b h
        · exact gcdZ_pos' a b (by omega)
      have hga := Int.emod_eq_zero_of_dvd (gcdZ_dvd_left a b ha0)
      have hgb := Int.emod_eq_zero_of_dvd (gcdZ_dvd_right a b hb0)
      clear hz
      by_cases hl : a < 1 ∨ b < 1
      · have HL : Hid (a < 1 ∨ b < 1) := hl
        clear hl
        have HG : ∃ g, Hid (gcdZ a b = g) ∧ 1 ≤ g ∧ a % g = 0 ∧ b % g = 0 := ⟨_, rfl, hg, hga, hgb⟩
        clear hg hga hgb
        obtain ⟨g, HG, hg, hga, hgb⟩ := HG
        go_enter Try.func7, Try.ntmps7
        go_wp2_with fail
        refine (gcd_ok a b _ HA.out HB.out ha0 hb0).mono ?_
        rintro e w1 ⟨rfl, b1⟩
        have B1 := Lib.hid b1
        clear b1
        rw [HG.out]
        go_wp2_with fail
        refine (lcm_bad a b _ (.inr HL.out)).mono ?_
        rintro e w2 ⟨rfl, b2⟩
        have B2 := Lib.hid (B1.out.trans (b2.mono B1.out.size))
        clear b2 B1
        go_wp2_with fail
        refine (knows_any _).mono ?_
        rintro e w3 ⟨rfl, b3⟩
        have B3 := Lib.hid (B2.out.trans (b3.mono B2.out.size))
        clear b3 B2
        go_wp2_with fail
        go_ret
        exact ⟨rfl, B3.out⟩
      · have ha1 : 1 ≤ a := by omega
        have hb1 : 1 ≤ b := by omega
        clear hl
        cases hs : perm (a / gcdZ a b * b) with
        | false =>
          have HS := Lib.hid hs
          clear hs
          have HG : ∃ g, Hid (gcdZ a b = g) ∧ 1 ≤ g ∧ a % g = 0 ∧ b % g = 0 := ⟨_, rfl, hg, hga, hgb⟩
          clear hg hga hgb
          obtain ⟨g, HG, hg, hga, hgb⟩ := HG
          go_enter Try.func7, Try.ntmps7
          go_wp2_with fail
          refine (gcd_ok a b _ HA.out HB.out ha0 hb0).mono ?_
          rintro e w1 ⟨rfl, b1⟩
          have B1 := Lib.hid b1
          clear b1
          rw [HG.out]
          go_wp2_with fail
          refine (lcm_large a b _ HA.out HB.out ha1 hb1 HS.out).mono ?_
          rintro e w2 ⟨rfl, b2⟩
          have B2 := Lib.hid (B1.out.trans (b2.mono B1.out.size))
          clear b2 B1
          go_wp2_with fail
          refine (knows_any _).mono ?_
          rintro e w3 ⟨rfl, b3⟩
          have B3 := Lib.hid (B2.out.trans (b3.mono B2.out.size))
          clear b3 B2
          go_wp2_with fail
          go_ret
          exact ⟨rfl, B3.out⟩
        | true =>
          have HS := Lib.hid hs
          have hl := perm_iff.1 hs
          have hw := whole a b ha1 hb1
          clear hs
          have HG : ∃ g l : Int, Hid (gcdZ a b = g) ∧ Hid (a / gcdZ a b * b = l) ∧ 1 ≤ g ∧ a % g = 0 ∧ b % g = 0 ∧ (0 ≤ l ∧ l ≤ 4611686018427387903) ∧ l % a = 0 ∧ l % b = 0 ∧ Hid (l / a = b / g) :=
            ⟨_, _, rfl, rfl, hg, hga, hgb, ⟨Int.mul_nonneg (Int.ediv_nonneg ha0 (by omega)) hb0, hl.2⟩, hw.1, hw.2.1, hw.2.2⟩
          clear hg hga hgb hl hw
          obtain ⟨g, l, HG, HL, hg, hga, hgb, hl, hla, hlb, HE⟩ := HG
          have hq1 := IntWalk.tdiv_le l a hl.1 ha1
          have hq2 := IntWalk.tdiv_le b g hb0 hg
          have HT1 : Hid (l.tmod a = 0) := by show l.tmod a = 0; rw [Int.tmod_eq_emod_of_nonneg hl.1]; exact hla
          have HT2 : Hid (l.tmod b = 0) := by show l.tmod b = 0; rw [Int.tmod_eq_emod_of_nonneg hl.1]; exact hlb
          have HT3 : Hid (IntKind.i64.wrap (l.tdiv a) = l / a) := IntWalk.i64_quo l a ⟨hl.1, by omega, ha1⟩
          have HT4 : Hid (IntKind.i64.wrap (b.tdiv g) = l / a) := by show IntKind.i64.wrap (b.tdiv g) = l / a; rw [HE.out]; exact IntWalk.i64_quo b g ⟨hb0, by omega, hg⟩
          go_enter Try.func7, Try.ntmps7
          go_wp2_with fail
          refine (gcd_ok a b _ HA.out HB.out ha0 hb0).mono ?_
          rintro e w1 ⟨rfl, b1⟩
          have B1 := Lib.hid b1
          clear b1
          rw [HG.out]
          go_wp2_with fail
          refine (lcm_ok a b _ HA.out HB.out ha1 hb1 HS.out).mono ?_
          rintro e w2 ⟨rfl, b2⟩
          have B2 := Lib.hid (B1.out.trans (b2.mono B1.out.size))
          clear b2 B1
          rw [HL.out]
          go_wp2_with fail
          have t1 := HT1.out
          have t2 := HT2.out
          have t3 := HT3.out
          have t4 := HT4.out
          have n1 : ¬ a = 0 := by omega
          have n2 : ¬ b = 0 := by omega
          have n3 : ¬ g = 0 := by omega
          clear hla hlb hga hgb
          go_still_tail 20, (by kernel_rfl)
          have B2d := Lib.hid B2.out.drew
          clear B2 t1 t2 t3 t4
          go_wp2_with fail
          refine (knows_any _).mono ?_
          rintro e w3 ⟨rfl, b3⟩
          have B3 := Lib.hid (B2d.out.trans (b3.mono B2d.out.size))
          clear b3 B2d
          go_wp2_with fail
          go_ret
          exact ⟨rfl, B3.out⟩

set_option maxRecDepth 100000 in
theorem lifted (os : Os) (started : os.Started) (H : Type) (enc : TypeId × Value → H) :
    ReturnsInHanded {} Try.checked os 7 .any (Rows.arithWholeSpec.pre6 enc Try.prog Try.f7 Rows.arithWholeRow.domain false) (Rows.arithWholeSpec.post enc Try.prog Try.f7 false true false false) := by
  refine returnsInHanded_of_change (C := Try.checked) own started (by kernel_rfl) Try.func7
    (ChangeSpec.witness6 (enc := enc) (C := Try.checked) false ⟨#[], #[.int .i64 0, .int .i64 0], []⟩ 8 (by kernel_rfl) (by kernel_rfl) (by kernel_rfl) (by kernel_rfl)) ?_
  intro W base args ds gs before hval0 hW hcnd _
  have hval : ∀ (j : Nat) t v, Try.f7.params[j]? = some t → args[j]? = some v → Value.okWide Try.prog W .any base t v := hval0
  have hW' := hW
  obtain ⟨p, q, hA0, hV, rfl, hfz, hnd⟩ := hW
  have hA : DataW.TrodAll enc Try.prog W 0 (fun _ => true) true Try.f7.params.toList args.toList ds p := hA0
  rw [Try.params7] at hA hval
  obtain ⟨v0, v1, d0, d1, p0, p1, rfl, rfl, rfl, h0, h1⟩ := trodAll_two hA
  obtain ⟨rfl, rfl⟩ := trodVars_none hV
  obtain ⟨a0, rfl, rfl, rfl, w0⟩ := open_int Try.underlying3 (hval 0 3 v0 rfl rfl) h0
  obtain ⟨a1, rfl, rfl, rfl, w1⟩ := open_int Try.underlying3 (hval 1 3 v1 rfl rfl) h1
  clear hA0 hval0
  refine (walk a0 a1 w0 w1 W).mono fun e W' ⟨he, bel⟩ => ?_
  subst he
  exact ⟨_, rfl, _, _, _, [], [], [], hW', trodAll_mk1 (shut_bool Try.underlying4 _), trodAll_mk2 (shut_int Try.underlying3 w0) (shut_int Try.underlying3 w1), rfl, bel.frame _, fun h => by cases h⟩

/-- The statement. -/
theorem proved : Rows.ArithWholeSaid :=
  OpenClaim.holds_of_wide 7 Try.f7 rfl rfl rfl rfl rfl rfl rfl ⟨rfl, rfl, rfl, rfl, rfl⟩ rfl rfl rfl rfl rfl (by kernel_rfl) Try.func7 (by kernel_rfl)
    (of_decide_eq_true (by kernel_rfl)) (by unfold Func.isWrapper; first | (rw [if_pos (by decide +kernel)]; kernel_rfl) | (rw [if_neg (by decide +kernel)]; exact ⟨rfl, rfl⟩))
    (fun os started H enc _ => lifted os started H enc)
#print axioms proved

end Go.Proofs.Ytoihaicjjcmgeaa.arithWhole
