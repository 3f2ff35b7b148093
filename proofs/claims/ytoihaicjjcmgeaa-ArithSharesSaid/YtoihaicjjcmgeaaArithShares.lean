/-
  For every two ints the statement ArithShares of layer 1 returns true (what divides both, and what both divide, or the error, is the document's), and its arguments read as before. No condition.
-/
import Derived.Test.YtoihaicjjcmgeaaLaw01Refs2
import Derived.ProofKit
import Derived.OpenShut
import Derived.ChangeOld
namespace Go.Proofs.Ytoihaicjjcmgeaa.arithShares
open Go.ChangeShapes Go.WideShapes Go.ChangeAt Go.RowKit
open Ar
set_option linter.unusedVariables false

theorem own : ownKnob Try.prog.godebug = none := by kernel_rfl

/-- What both divide, as it is told, is the document's. -/
theorem lcms (a b : Int) (ha : perm a = true) (hb : perm b = true) (ha1 : 1 ≤ a) (hb1 : 1 ≤ b) : ∃ (s e t : Int) (o : Bool),
    Hid (∀ w : World, Calls Try.prog 19 #[.int .i64 a, .int .i64 b] w fun x w' => x = .returned (.tuple #[.int .i64 s, .int .i64 e]) ∧ Below w.heap.size w w') ∧
    Hid (∀ w : World, Calls Try.prog 21 #[.int .i64 a, .int .i64 b] w fun x w' => x = .returned (.tuple #[.int .i64 t, .bool o]) ∧ w = w') ∧
    Hid (∀ w : World, Calls Try.prog 14 #[.int .i64 s, .int .i64 e, .int .i64 t, .bool o] w fun x w' => x = .returned (.bool true) ∧ w = w') := by
  cases hs : perm (a / gcdZ a b * b) with
  | true =>
    refine ⟨_, _, _, _, fun w => lcm_ok a b w ha hb ha1 hb1 hs, fun w => (refLcm a b w ha hb ha1 hb1).mono ?_, fun w => told_ok _ w⟩
    rintro x w' ⟨rfl, rfl⟩
    rw [hs]
    exact ⟨rfl, rfl⟩
  | false =>
    refine ⟨_, _, 0, _, fun w => lcm_large a b w ha hb ha1 hb1 hs, fun w => (refLcm a b w ha hb ha1 hb1).mono ?_, fun w => told_no _ w⟩
    rintro x w' ⟨rfl, rfl⟩
    rw [hs]
    exact ⟨rfl, rfl⟩

set_option maxHeartbeats 1600000 in
theorem walk (a b : Int) (_wa : (Lit.int .i64 a).wf = true) (_wb : (Lit.int .i64 b).wf = true) (w : World) :
    Calls Try.prog 5 #[.int .i64 a, .int .i64 b] w fun e w' => e = .returned (.bool true) ∧ Below w.heap.size w w' := by
  cases hp : (perm a && perm b) with
  | false =>
    have H := Lib.hid hp
    clear hp
    go_enter Try.func5, Try.ntmps5
    go_wp2_with fail
    refine (gcd_bad a b _ (.inl H.out)).mono ?_
    rintro e w1 ⟨rfl, b1⟩
    have B1 := Lib.hid b1
    clear b1
    go_wp2_with fail
    refine (lcm_bad a b _ (.inl H.out)).mono ?_
    rintro e w2 ⟨rfl, b2⟩
    have B2 := Lib.hid (B1.out.trans (b2.mono B1.out.size))
    clear b2 B1
    go_wp2_with fail
    refine (may_any a b _).mono ?_
    rintro e w9 ⟨rfl, rfl⟩
    rw [H.out]
    go_wp2_with fail
    refine (knows_any _).mono ?_
    rintro e w3 ⟨rfl, b3⟩
    have B3 := Lib.hid (B2.out.trans (b3.mono B2.out.size))
    clear b3 B2
    go_wp2_with fail
    go_ret
    exact ⟨rfl, B3.out⟩
  | true =>
    have H := Lib.hid hp
    rw [Bool.and_eq_true] at hp
    obtain ⟨ha, hb⟩ := hp
    have h1 := perm_iff.1 ha
    have h2 := perm_iff.1 hb
    have HA := Lib.hid ha
    have HB := Lib.hid hb
    clear ha hb
    by_cases hn : a < 0 ∨ b < 0
    · have hn' : a < 0 ∨ (0 ≤ a ∧ b < 0) := by omega
      clear hn
      rcases hn' with hn | ⟨hn, hn'⟩
      all_goals
        go_enter Try.func5, Try.ntmps5
        go_wp2_with fail
        refine (gcd_bad a b _ (by omega)).mono ?_
        rintro e w1 ⟨rfl, b1⟩
        have B1 := Lib.hid b1
        clear b1
        go_wp2_with fail
        refine (lcm_bad a b _ (by omega)).mono ?_
        rintro e w2 ⟨rfl, b2⟩
        have B2 := Lib.hid (B1.out.trans (b2.mono B1.out.size))
        clear b2 B1
        go_wp2_with fail
        refine (may_any a b _).mono ?_
        rintro e w9 ⟨rfl, rfl⟩
        rw [H.out]
        go_wp2_with fail
        refine (knows_any _).mono ?_
        rintro e w3 ⟨rfl, b3⟩
        have B3 := Lib.hid (B2.out.trans (b3.mono B2.out.size))
        clear b3 B2
        go_wp2_with fail
        go_ret
        exact ⟨rfl, B3.out⟩
    · have ha0 : 0 ≤ a := by omega
      have hb0 : 0 ≤ b := by omega
      clear hn
      by_cases hl : a < 1 ∨ b < 1
      · have hl' : a < 1 ∨ (1 ≤ a ∧ b < 1) := by omega
        clear hl
        rcases hl' with hl | ⟨hl, hl'⟩
        all_goals
          go_enter Try.func5, Try.ntmps5
          go_wp2_with fail
          refine (gcd_ok a b _ HA.out HB.out ha0 hb0).mono ?_
          rintro e w1 ⟨rfl, b1⟩
          have B1 := Lib.hid b1
          clear b1
          go_wp2_with fail
          refine (lcm_bad a b _ (by omega)).mono ?_
          rintro e w2 ⟨rfl, b2⟩
          have B2 := Lib.hid (B1.out.trans (b2.mono B1.out.size))
          clear b2 B1
          go_wp2_with fail
          refine (may_any a b _).mono ?_
          rintro e w9 ⟨rfl, rfl⟩
          rw [H.out]
          go_wp2_with fail
          refine (refGcd b.toNat a b _ (by omega) (by omega) (by omega) (by omega) (by omega)).mono ?_
          rintro e w9 ⟨rfl, rfl⟩
          go_wp2_with fail
          refine (knows_any _).mono ?_
          rintro e w3 ⟨rfl, b3⟩
          have B3 := Lib.hid (B2.out.trans (b3.mono B2.out.size))
          clear b3 B2
          go_wp2_with fail
          go_ret
          exact ⟨rfl, B3.out⟩
      · have ha1 : 1 ≤ a := by omega
        have hb1 : 1 ≤ b := by omega
        clear hl
        obtain ⟨s, x, t, o, L1, L2, L3⟩ := lcms a b HA.out HB.out ha1 hb1
        go_enter Try.func5, Try.ntmps5
        go_wp2_with fail
        refine (gcd_ok a b _ HA.out HB.out ha0 hb0).mono ?_
        rintro e w1 ⟨rfl, b1⟩
        have B1 := Lib.hid b1
        clear b1
        go_wp2_with fail
        refine (L1.out _).mono ?_
        rintro e w2 ⟨rfl, b2⟩
        have B2 := Lib.hid (B1.out.trans (b2.mono B1.out.size))
        clear b2 B1
        go_wp2_with fail
        refine (may_any a b _).mono ?_
        rintro e w9 ⟨rfl, rfl⟩
        rw [H.out]
        go_wp2_with fail
        refine (refGcd b.toNat a b _ (by omega) (by omega) (by omega) (by omega) (by omega)).mono ?_
        rintro e w9 ⟨rfl, rfl⟩
        go_wp2_with fail
        refine (L2.out _).mono ?_
        rintro e w9 ⟨rfl, rfl⟩
        go_wp2_with fail
        refine (L3.out _).mono ?_
        rintro e w9 ⟨rfl, rfl⟩
        go_wp2_with fail
        refine (knows_any _).mono ?_
        rintro e w3 ⟨rfl, b3⟩
        have B3 := Lib.hid (B2.out.trans (b3.mono B2.out.size))
        clear b3 B2
        go_wp2_with fail
        go_ret
        exact ⟨rfl, B3.out⟩

set_option maxRecDepth 100000 in
theorem lifted (os : Os) (started : os.Started) (H : Type) (enc : TypeId × Value → H) :
    ReturnsInHanded {} Try.checked os 5 .any (Rows.arithSharesSpec.pre6 enc Try.prog Try.f5 Rows.arithSharesRow.domain false) (Rows.arithSharesSpec.post enc Try.prog Try.f5 false true false false) := by
  refine returnsInHanded_of_change (C := Try.checked) own started (by kernel_rfl) Try.func5
    (ChangeSpec.witness6 (enc := enc) (C := Try.checked) false ⟨#[], #[.int .i64 0, .int .i64 0], []⟩ 8 (by kernel_rfl) (by kernel_rfl) (by kernel_rfl) (by kernel_rfl)) ?_
  intro W base args ds gs before hval0 hW hcnd _
  have hval : ∀ (j : Nat) t v, Try.f5.params[j]? = some t → args[j]? = some v → Value.okWide Try.prog W .any base t v := hval0
  have hW' := hW
  obtain ⟨p, q, hA0, hV, rfl, hfz, hnd⟩ := hW
  have hA : DataW.TrodAll enc Try.prog W 0 (fun _ => true) true Try.f5.params.toList args.toList ds p := hA0
  rw [Try.params5] at hA hval
  obtain ⟨v0, v1, d0, d1, p0, p1, rfl, rfl, rfl, h0, h1⟩ := trodAll_two hA
  obtain ⟨rfl, rfl⟩ := trodVars_none hV
  obtain ⟨a0, rfl, rfl, rfl, w0⟩ := open_int Try.underlying3 (hval 0 3 v0 rfl rfl) h0
  obtain ⟨a1, rfl, rfl, rfl, w1⟩ := open_int Try.underlying3 (hval 1 3 v1 rfl rfl) h1
  clear hA0 hval0
  refine (walk a0 a1 w0 w1 W).mono fun e W' ⟨he, bel⟩ => ?_
  subst he
  exact ⟨_, rfl, _, _, _, [], [], [], hW', trodAll_mk1 (shut_bool Try.underlying4 _), trodAll_mk2 (shut_int Try.underlying3 w0) (shut_int Try.underlying3 w1), rfl, bel.frame _, fun h => by cases h⟩

/-- The statement. -/
theorem proved : Rows.ArithSharesSaid :=
  OpenClaim.holds_of_wide 5 Try.f5 rfl rfl rfl rfl rfl rfl rfl ⟨rfl, rfl, rfl, rfl, rfl⟩ rfl rfl rfl rfl rfl (by kernel_rfl) Try.func5 (by kernel_rfl)
    (of_decide_eq_true (by kernel_rfl)) (by unfold Func.isWrapper; first | (rw [if_pos (by decide +kernel)]; kernel_rfl) | (rw [if_neg (by decide +kernel)]; exact ⟨rfl, rfl⟩))
    (fun os started H enc _ => lifted os started H enc)
#print axioms proved

end Go.Proofs.Ytoihaicjjcmgeaa.arithShares
