/-
  For every two ints the statement ArithDivides of layer 1 returns true (the quotients, rounded down and up, or the error, are the document's), and its arguments read as before. No condition.
-/
import Derived.Test.YtoihaicjjcmgeaaLaw01Refs2
import Derived.ProofKit
import Derived.OpenShut
import Derived.ChangeOld
namespace Go.Proofs.Ytoihaicjjcmgeaa.arithDivides
open Go.ChangeShapes Go.WideShapes Go.ChangeAt Go.RowKit
open Ar
set_option linter.unusedVariables false

theorem own : ownKnob Try.prog.godebug = none := by kernel_rfl

theorem div_bd (x b : Int) (h : perm x = true) (hb : 1 ≤ b) : -4611686018427387904 ≤ x / b ∧ x / b ≤ 4611686018427387903 := by
  have h1 := quo_bd x b h
  have h2 := floor_eq x b hb
  by_cases hm : x.tmod b < 0
  · have := h2.1 hm; omega
  · have := h2.2 (by omega); omega

set_option maxHeartbeats 800000 in
theorem walk (a b : Int) (_wa : (Lit.int .i64 a).wf = true) (_wb : (Lit.int .i64 b).wf = true) (w : World) :
    Calls Try.prog 4 #[.int .i64 a, .int .i64 b] w fun e w' => e = .returned (.bool true) ∧ Below w.heap.size w w' := by
  cases hp : (perm a && perm b) with
  | false =>
    have H := Lib.hid hp
    clear hp
    go_enter Try.func4, Try.ntmps4
    go_wp2_with fail
    refine (floor_bad a b _ (.inl H.out)).mono ?_
    rintro e w1 ⟨rfl, b1⟩
    have B1 := Lib.hid b1
    clear b1
    go_wp2_with fail
    refine (ceil_bad a b _ (.inl H.out)).mono ?_
    rintro e w2 ⟨rfl, b2⟩
    have B2 := Lib.hid (B1.out.trans (b2.mono B1.out.size))
    clear b2 B1
    go_wp2_with fail
    refine (may_any a b _).mono ?_
    rintro e w9 ⟨rfl, rfl⟩
    rw [H.out]
    go_wp2_with fail
    refine (knows_any _).mono ?_
    rintro e w3 ⟨rfl, b3⟩
    have B3 := Lib.hid (B2.out.trans (b3.mono B2.out.size))
    clear b3 B2
    go_wp2_with fail
    go_ret
    exact ⟨rfl, B3.out⟩
  | true =>
    have H := Lib.hid hp
    rw [Bool.and_eq_true] at hp
    obtain ⟨ha, hb⟩ := hp
    by_cases hb1 : b < 1
    · clear ha hb
      go_enter Try.func4, Try.ntmps4
      go_wp2_with fail
      refine (floor_bad a b _ (.inr (by omega))).mono ?_
      rintro e w1 ⟨rfl, b1⟩
      have B1 := Lib.hid b1
      clear b1
      go_wp2_with fail
      refine (ceil_bad a b _ (.inr (by omega))).mono ?_
      rintro e w2 ⟨rfl, b2⟩
      have B2 := Lib.hid (B1.out.trans (b2.mono B1.out.size))
      clear b2 B1
      go_wp2_with fail
      refine (may_any a b _).mono ?_
      rintro e w9 ⟨rfl, rfl⟩
      rw [H.out]
      go_wp2_with fail
      refine (knows_any _).mono ?_
      rintro e w3 ⟨rfl, b3⟩
      have B3 := Lib.hid (B2.out.trans (b3.mono B2.out.size))
      clear b3 B2
      go_wp2_with fail
      go_ret
      exact ⟨rfl, B3.out⟩
    · have hb2 : 1 ≤ b := by omega
      have h1 := perm_iff.1 ha
      have h2 := perm_iff.1 hb
      have h3 := div_bd (-a) b (by rw [perm_neg]; exact ha) hb2
      have HA := Lib.hid ha
      have HB := Lib.hid hb
      have HN : Hid (perm (-a) = true) := by show perm (-a) = true; rw [perm_neg]; exact ha
      clear ha hb hb1
      go_enter Try.func4, Try.ntmps4
      go_wp2_with fail
      refine (floor_ok a b _ HA.out HB.out hb2).mono ?_
      rintro e w1 ⟨rfl, b1⟩
      have B1 := Lib.hid b1
      clear b1
      go_wp2_with fail
      refine (ceil_ok a b _ HA.out HB.out hb2).mono ?_
      rintro e w2 ⟨rfl, b2⟩
      have B2 := Lib.hid (B1.out.trans (b2.mono B1.out.size))
      clear b2 B1
      rw [show up a b = -(-a / b) from rfl]
      go_wp2_with fail
      refine (may_any a b _).mono ?_
      rintro e w9 ⟨rfl, rfl⟩
      rw [H.out]
      go_wp2_with fail
      refine (refFloor a b _ HA.out HB.out hb2).mono ?_
      rintro e w9 ⟨rfl, rfl⟩
      go_wp2_with fail
      refine (refFloor (-a) b _ HN.out HB.out hb2).mono ?_
      rintro e w9 ⟨rfl, rfl⟩
      go_wp2_with fail
      refine (knows_any _).mono ?_
      rintro e w3 ⟨rfl, b3⟩
      have B3 := Lib.hid (B2.out.trans (b3.mono B2.out.size))
      clear b3 B2
      go_wp2_with fail
      go_ret
      exact ⟨rfl, B3.out⟩

set_option maxRecDepth 100000 in
theorem lifted (os : Os) (started : os.Started) (H : Type) (enc : TypeId × Value → H) :
    ReturnsInHanded {} Try.checked os 4 .any (Rows.arithDividesSpec.pre6 enc Try.prog Try.f4 Rows.arithDividesRow.domain false) (Rows.arithDividesSpec.post enc Try.prog Try.f4 false true false false) := by
  refine returnsInHanded_of_change (C := Try.checked) own started (by kernel_rfl) Try.func4
    (ChangeSpec.witness6 (enc := enc) (C := Try.checked) false ⟨#[], #[.int .i64 0, .int .i64 0], []⟩ 8 (by kernel_rfl) (by kernel_rfl) (by kernel_rfl) (by kernel_rfl)) ?_
  intro W base args ds gs before hval0 hW hcnd _
  have hval : ∀ (j : Nat) t v, Try.f4.params[j]? = some t → args[j]? = some v → Value.okWide Try.prog W .any base t v := hval0
  have hW' := hW
  obtain ⟨p, q, hA0, hV, rfl, hfz, hnd⟩ := hW
  have hA : DataW.TrodAll enc Try.prog W 0 (fun _ => true) true Try.f4.params.toList args.toList ds p := hA0
  rw [Try.params4] at hA hval
  obtain ⟨v0, v1, d0, d1, p0, p1, rfl, rfl, rfl, h0, h1⟩ := trodAll_two hA
  obtain ⟨rfl, rfl⟩ := trodVars_none hV
  obtain ⟨a0, rfl, rfl, rfl, w0⟩ := open_int Try.underlying3 (hval 0 3 v0 rfl rfl) h0
  obtain ⟨a1, rfl, rfl, rfl, w1⟩ := open_int Try.underlying3 (hval 1 3 v1 rfl rfl) h1
  clear hA0 hval0
  refine (walk a0 a1 w0 w1 W).mono fun e W' ⟨he, bel⟩ => ?_
  subst he
  exact ⟨_, rfl, _, _, _, [], [], [], hW', trodAll_mk1 (shut_bool Try.underlying4 _), trodAll_mk2 (shut_int Try.underlying3 w0) (shut_int Try.underlying3 w1), rfl, bel.frame _, fun h => by cases h⟩

/-- The statement. -/
theorem proved : Rows.ArithDividesSaid :=
  OpenClaim.holds_of_wide 4 Try.f4 rfl rfl rfl rfl rfl rfl rfl ⟨rfl, rfl, rfl, rfl, rfl⟩ rfl rfl rfl rfl rfl (by kernel_rfl) Try.func4 (by kernel_rfl)
    (of_decide_eq_true (by kernel_rfl)) (by unfold Func.isWrapper; first | (rw [if_pos (by decide +kernel)]; kernel_rfl) | (rw [if_neg (by decide +kernel)]; exact ⟨rfl, rfl⟩))
    (fun os started H enc _ => lifted os started H enc)
#print axioms proved

end Go.Proofs.Ytoihaicjjcmgeaa.arithDivides
