/-
  For every two ints the statement ArithAdds of layer 1 returns true (the sum and the product, or the error, are the document's), and its arguments read as before. No condition.
-/
import Derived.Test.YtoihaicjjcmgeaaLaw01Refs2
import Derived.ProofKit
import Derived.OpenShut
import Derived.ChangeOld
namespace Go.Proofs.Ytoihaicjjcmgeaa.arithAdds
open Go.ChangeShapes Go.WideShapes Go.ChangeAt Go.RowKit
open Ar
set_option linter.unusedVariables false

theorem own : ownKnob Try.prog.godebug = none := by kernel_rfl

/-- The sum that is told is the document's. -/
theorem adds (a b : Int) (ha : perm a = true) (hb : perm b = true) : ∃ (s e t : Int) (o : Bool),
    (∀ w : World, Calls Try.prog 8 #[.int .i64 a, .int .i64 b] w fun x w' => x = .returned (.tuple #[.int .i64 s, .int .i64 e]) ∧ Below w.heap.size w w') ∧
    (∀ w : World, Calls Try.prog 12 #[.int .i64 a, .int .i64 b] w fun x w' => x = .returned (.tuple #[.int .i64 t, .bool o]) ∧ w = w') ∧
    (∀ w : World, Calls Try.prog 14 #[.int .i64 s, .int .i64 e, .int .i64 t, .bool o] w fun x w' => x = .returned (.bool true) ∧ w = w') := by
  cases hs : perm (a + b) with
  | true => exact ⟨_, _, _, _, fun w => add_ok a b w ha hb hs, fun w => refAdd_ok a b w ha hb hs, fun w => told_ok _ w⟩
  | false => exact ⟨_, _, _, _, fun w => add_large a b w ha hb hs, fun w => refAdd_no a b w ha hb hs, fun w => told_no _ w⟩

/-- The product that is told is the document's. -/
theorem muls (a b : Int) (ha : perm a = true) (hb : perm b = true) : ∃ (s e t : Int) (o : Bool),
    (∀ w : World, Calls Try.prog 9 #[.int .i64 a, .int .i64 b] w fun x w' => x = .returned (.tuple #[.int .i64 s, .int .i64 e]) ∧ Below w.heap.size w w') ∧
    (∀ w : World, Calls Try.prog 13 #[.int .i64 a, .int .i64 b] w fun x w' => x = .returned (.tuple #[.int .i64 t, .bool o]) ∧ w = w') ∧
    (∀ w : World, Calls Try.prog 14 #[.int .i64 s, .int .i64 e, .int .i64 t, .bool o] w fun x w' => x = .returned (.bool true) ∧ w = w') := by
  cases hs : perm (a * b) with
  | true =>
    refine ⟨_, _, _, _, fun w => mul_ok a b w ha hb hs, fun w => (refMul a b w ha hb).mono ?_, fun w => told_ok _ w⟩
    rintro x w' ⟨rfl, rfl⟩
    rw [rm_yes hs, hs]
    exact ⟨rfl, rfl⟩
  | false =>
    refine ⟨_, _, 0, _, fun w => mul_large' a b w ha hb hs, fun w => (refMul a b w ha hb).mono ?_, fun w => told_no _ w⟩
    rintro x w' ⟨rfl, rfl⟩
    rw [rm_no hs, hs]
    exact ⟨rfl, rfl⟩

set_option maxHeartbeats 800000 in
theorem walk (a b : Int) (_wa : (Lit.int .i64 a).wf = true) (_wb : (Lit.int .i64 b).wf = true) (w : World) :
    Calls Try.prog 3 #[.int .i64 a, .int .i64 b] w fun e w' => e = .returned (.bool true) ∧ Below w.heap.size w w' := by
  cases hp : (perm a && perm b) with
  | false =>
    have H := Lib.hid hp
    clear hp
    go_enter Try.func3, Try.ntmps3
    go_wp2_with fail
    refine (add_bad a b _ H.out).mono ?_
    rintro e w1 ⟨rfl, b1⟩
    have B1 := Lib.hid b1
    clear b1
    go_wp2_with fail
    refine (mul_bad a b _ H.out).mono ?_
    rintro e w2 ⟨rfl, b2⟩
    have B2 := Lib.hid (B1.out.trans (b2.mono B1.out.size))
    clear b2 B1
    go_wp2_with fail
    refine (may_any a b _).mono ?_
    rintro e w3 ⟨rfl, rfl⟩
    rw [H.out]
    go_wp2_with fail
    refine (knows_any _).mono ?_
    rintro e w3 ⟨rfl, b3⟩
    have B3 := Lib.hid (B2.out.trans (b3.mono B2.out.size))
    clear b3 B2
    go_wp2_with fail
    go_ret
    exact ⟨rfl, B3.out⟩
  | true =>
    have H := Lib.hid hp
    rw [Bool.and_eq_true] at hp
    obtain ⟨s, e, t, o, A1, A2, A3⟩ := adds a b hp.1 hp.2
    obtain ⟨s', e', t', o', M1, M2, M3⟩ := muls a b hp.1 hp.2
    have A1 := Lib.hid A1
    have A2 := Lib.hid A2
    have A3 := Lib.hid A3
    have M1 := Lib.hid M1
    have M2 := Lib.hid M2
    have M3 := Lib.hid M3
    clear hp
    go_enter Try.func3, Try.ntmps3
    go_wp2_with fail
    refine (A1.out _).mono ?_
    rintro e w1 ⟨rfl, b1⟩
    have B1 := Lib.hid b1
    clear b1
    go_wp2_with fail
    refine (M1.out _).mono ?_
    rintro e w2 ⟨rfl, b2⟩
    have B2 := Lib.hid (B1.out.trans (b2.mono B1.out.size))
    clear b2 B1
    go_wp2_with fail
    refine (may_any a b _).mono ?_
    rintro e w3 ⟨rfl, rfl⟩
    rw [H.out]
    go_wp2_with fail
    refine (A2.out _).mono ?_
    rintro e w3 ⟨rfl, rfl⟩
    go_wp2_with fail
    refine (M2.out _).mono ?_
    rintro e w3 ⟨rfl, rfl⟩
    go_wp2_with fail
    refine (A3.out _).mono ?_
    rintro e w3 ⟨rfl, rfl⟩
    go_wp2_with fail
    refine (M3.out _).mono ?_
    rintro e w3 ⟨rfl, rfl⟩
    go_wp2_with fail
    refine (knows_any _).mono ?_
    rintro e w3 ⟨rfl, b3⟩
    have B3 := Lib.hid (B2.out.trans (b3.mono B2.out.size))
    clear b3 B2
    go_wp2_with fail
    go_ret
    exact ⟨rfl, B3.out⟩

set_option maxRecDepth 100000 in
theorem lifted (os : Os) (started : os.Started) (H : Type) (enc : TypeId × Value → H) :
    ReturnsInHanded {} Try.checked os 3 .any (Rows.arithAddsSpec.pre6 enc Try.prog Try.f3 Rows.arithAddsRow.domain false) (Rows.arithAddsSpec.post enc Try.prog Try.f3 false true false false) := by
  refine returnsInHanded_of_change (C := Try.checked) own started (by kernel_rfl) Try.func3
    (ChangeSpec.witness6 (enc := enc) (C := Try.checked) false ⟨#[], #[.int .i64 0, .int .i64 0], []⟩ 8 (by kernel_rfl) (by kernel_rfl) (by kernel_rfl) (by kernel_rfl)) ?_
  intro W base args ds gs before hval0 hW hcnd _
  have hval : ∀ (j : Nat) t v, Try.f3.params[j]? = some t → args[j]? = some v → Value.okWide Try.prog W .any base t v := hval0
  have hW' := hW
  obtain ⟨p, q, hA0, hV, rfl, hfz, hnd⟩ := hW
  have hA : DataW.TrodAll enc Try.prog W 0 (fun _ => true) true Try.f3.params.toList args.toList ds p := hA0
  rw [Try.params3] at hA hval
  obtain ⟨v0, v1, d0, d1, p0, p1, rfl, rfl, rfl, h0, h1⟩ := trodAll_two hA
  obtain ⟨rfl, rfl⟩ := trodVars_none hV
  obtain ⟨a0, rfl, rfl, rfl, w0⟩ := open_int Try.underlying3 (hval 0 3 v0 rfl rfl) h0
  obtain ⟨a1, rfl, rfl, rfl, w1⟩ := open_int Try.underlying3 (hval 1 3 v1 rfl rfl) h1
  clear hA0 hval0
  refine (walk a0 a1 w0 w1 W).mono fun e W' ⟨he, bel⟩ => ?_
  subst he
  exact ⟨_, rfl, _, _, _, [], [], [], hW', trodAll_mk1 (shut_bool Try.underlying4 _), trodAll_mk2 (shut_int Try.underlying3 w0) (shut_int Try.underlying3 w1), rfl, bel.frame _, fun h => by cases h⟩

/-- The statement. -/
theorem proved : Rows.ArithAddsSaid :=
  OpenClaim.holds_of_wide 3 Try.f3 rfl rfl rfl rfl rfl rfl rfl ⟨rfl, rfl, rfl, rfl, rfl⟩ rfl rfl rfl rfl rfl (by kernel_rfl) Try.func3 (by kernel_rfl)
    (of_decide_eq_true (by kernel_rfl)) (by unfold Func.isWrapper; first | (rw [if_pos (by decide +kernel)]; kernel_rfl) | (rw [if_neg (by decide +kernel)]; exact ⟨rfl, rfl⟩))
    (fun os started H enc _ => lifted os started H enc)
#print axioms proved

end Go.Proofs.Ytoihaicjjcmgeaa.arithAdds
