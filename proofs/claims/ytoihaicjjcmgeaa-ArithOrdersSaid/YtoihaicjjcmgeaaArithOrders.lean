/-
  For every two ints the statement ArithOrders of layer 1 returns true (sums and products in both orders; quotients times what divides), and its arguments read as before. No condition.
-/
import Derived.Test.YtoihaicjjcmgeaaLaw01Refs2
import Derived.ProofKit
import Derived.OpenShut
import Derived.ChangeOld
namespace Go.Proofs.Ytoihaicjjcmgeaa.arithOrders
open Go.ChangeShapes Go.WideShapes Go.ChangeAt Go.RowKit
open Ar
set_option linter.unusedVariables false

theorem own : ownKnob Try.prog.godebug = none := by kernel_rfl

theorem adds (a b : Int) : ∃ s e : Int,
    Hid (∀ w : World, Calls Try.prog 8 #[.int .i64 a, .int .i64 b] w fun x w' => x = .returned (.tuple #[.int .i64 s, .int .i64 e]) ∧ Below w.heap.size w w') ∧
    Hid (∀ w : World, Calls Try.prog 8 #[.int .i64 b, .int .i64 a] w fun x w' => x = .returned (.tuple #[.int .i64 s, .int .i64 e]) ∧ Below w.heap.size w w') := by
  cases hp : (perm a && perm b) with
  | false => exact ⟨0, 1, fun w => add_bad a b w hp, fun w => add_bad b a w (by rw [Bool.and_comm]; exact hp)⟩
  | true =>
    rw [Bool.and_eq_true] at hp
    cases hs : perm (a + b) with
    | true => exact ⟨a + b, 0, fun w => add_ok a b w hp.1 hp.2 hs, fun w => by have := add_ok b a w hp.2 hp.1 (by rw [Int.add_comm]; exact hs); rwa [Int.add_comm b a] at this⟩
    | false => exact ⟨0, 5, fun w => add_large a b w hp.1 hp.2 hs, fun w => add_large b a w hp.2 hp.1 (by rw [Int.add_comm]; exact hs)⟩

theorem muls (a b : Int) : ∃ s e : Int,
    Hid (∀ w : World, Calls Try.prog 9 #[.int .i64 a, .int .i64 b] w fun x w' => x = .returned (.tuple #[.int .i64 s, .int .i64 e]) ∧ Below w.heap.size w w') ∧
    Hid (∀ w : World, Calls Try.prog 9 #[.int .i64 b, .int .i64 a] w fun x w' => x = .returned (.tuple #[.int .i64 s, .int .i64 e]) ∧ Below w.heap.size w w') := by
  cases hp : (perm a && perm b) with
  | false => exact ⟨0, 1, fun w => mul_bad a b w hp, fun w => mul_bad b a w (by rw [Bool.and_comm]; exact hp)⟩
  | true =>
    rw [Bool.and_eq_true] at hp
    cases hs : perm (a * b) with
    | true => exact ⟨a * b, 0, fun w => mul_ok a b w hp.1 hp.2 hs, fun w => by have := mul_ok b a w hp.2 hp.1 (by rw [Int.mul_comm]; exact hs); rwa [Int.mul_comm b a] at this⟩
    | false => exact ⟨0, 5, fun w => mul_large' a b w hp.1 hp.2 hs, fun w => mul_large' b a w hp.2 hp.1 (by rw [Int.mul_comm]; exact hs)⟩

/-- Both quotients: both errors, or both numbers, near enough. -/
theorem quos (a b : Int) : ∃ d i c k : Int,
    Hid (∀ w : World, Calls Try.prog 15 #[.int .i64 a, .int .i64 b] w fun x w' => x = .returned (.tuple #[.int .i64 d, .int .i64 i]) ∧ Below w.heap.size w w') ∧
    Hid (∀ w : World, Calls Try.prog 16 #[.int .i64 a, .int .i64 b] w fun x w' => x = .returned (.tuple #[.int .i64 c, .int .i64 k]) ∧ Below w.heap.size w w') ∧
    ((i = 1 ∧ k = 1) ∨ (i = 0 ∧ k = 0 ∧ (-4611686018427387903 ≤ a ∧ a ≤ 4611686018427387903) ∧ (1 ≤ b ∧ b ≤ 4611686018427387903) ∧ d * b ≤ a ∧ a - d * b < b ∧ a ≤ c * b ∧ c * b - a < b)) := by
  by_cases hp : (perm a && perm b) = false ∨ b < 1
  · exact ⟨0, 1, 0, 1, fun w => floor_bad a b w hp, fun w => ceil_bad a b w hp, .inl ⟨rfl, rfl⟩⟩
  · have hp1 : (perm a && perm b) = true := by
      cases h : (perm a && perm b) with
      | true => rfl
      | false => exact (hp (.inl h)).elim
    have hb1 : 1 ≤ b := by omega
    rw [Bool.and_eq_true] at hp1
    have h1 := perm_iff.1 hp1.1
    have h2 := perm_iff.1 hp1.2
    refine ⟨_, _, _, _, fun w => floor_ok a b w hp1.1 hp1.2 hb1, fun w => ceil_ok a b w hp1.1 hp1.2 hb1, .inr ⟨rfl, rfl, h1, ⟨hb1, h2.2⟩, ?_⟩⟩
    have e1 := Int.mul_ediv_add_emod a b
    have e2 := Int.emod_nonneg a (show b ≠ 0 by omega)
    have e3 := Int.emod_lt_of_pos a (show 0 < b by omega)
    have f1 := Int.mul_ediv_add_emod (-a) b
    have f2 := Int.emod_nonneg (-a) (show b ≠ 0 by omega)
    have f3 := Int.emod_lt_of_pos (-a) (show 0 < b by omega)
    unfold up
    rw [Int.mul_comm] at e1 f1
    rw [Int.neg_mul]
    omega

set_option maxHeartbeats 1600000 in
theorem walk (a b : Int) (_wa : (Lit.int .i64 a).wf = true) (_wb : (Lit.int .i64 b).wf = true) (w : World) :
    Calls Try.prog 6 #[.int .i64 a, .int .i64 b] w fun e w' => e = .returned (.bool true) ∧ Below w.heap.size w w' := by
  obtain ⟨s, e, A1, A2⟩ := adds a b
  obtain ⟨p, g, M1, M2⟩ := muls a b
  obtain ⟨d, i, c, k, F, C, hq⟩ := quos a b
  rcases hq with ⟨rfl, rfl⟩ | ⟨rfl, rfl, h1, h2, h3, h4, h5, h6⟩
  all_goals
    go_enter Try.func6, Try.ntmps6
    go_wp2_with fail
    refine (A1.out _).mono ?_
    rintro e w1 ⟨rfl, b1⟩
    have B1 := Lib.hid b1
    clear b1
    go_wp2_with fail
    refine (A2.out _).mono ?_
    rintro e w2 ⟨rfl, b2⟩
    have B2 := Lib.hid (B1.out.trans (b2.mono B1.out.size))
    clear b2 B1
    go_wp2_with fail
    refine (M1.out _).mono ?_
    rintro e w3 ⟨rfl, b3⟩
    have B3 := Lib.hid (B2.out.trans (b3.mono B2.out.size))
    clear b3 B2
    go_wp2_with fail
    refine (M2.out _).mono ?_
    rintro e w4 ⟨rfl, b4⟩
    have B4 := Lib.hid (B3.out.trans (b4.mono B3.out.size))
    clear b4 B3
    go_wp2_with fail
    refine (F.out _).mono ?_
    rintro e w5 ⟨rfl, b5⟩
    have B5 := Lib.hid (B4.out.trans (b5.mono B4.out.size))
    clear b5 B4
    go_wp2_with fail
    refine (C.out _).mono ?_
    rintro e w6 ⟨rfl, b6⟩
    have B6 := Lib.hid (B5.out.trans (b6.mono B5.out.size))
    clear b6 B5
    go_wp2_with fail
    refine (knows_any _).mono ?_
    rintro e w7 ⟨rfl, b7⟩
    have B7 := Lib.hid (B6.out.trans (b7.mono B6.out.size))
    clear b7 B6
    go_wp2_with fail
    go_ret
    exact ⟨rfl, B7.out⟩

set_option maxRecDepth 100000 in
theorem lifted (os : Os) (started : os.Started) (H : Type) (enc : TypeId × Value → H) :
    ReturnsInHanded {} Try.checked os 6 .any (Rows.arithOrdersSpec.pre6 enc Try.prog Try.f6 Rows.arithOrdersRow.domain false) (Rows.arithOrdersSpec.post enc Try.prog Try.f6 false true false false) := by
  refine returnsInHanded_of_change (C := Try.checked) own started (by kernel_rfl) Try.func6
    (ChangeSpec.witness6 (enc := enc) (C := Try.checked) false ⟨#[], #[.int .i64 0, .int .i64 0], []⟩ 8 (by kernel_rfl) (by kernel_rfl) (by kernel_rfl) (by kernel_rfl)) ?_
  intro W base args ds gs before hval0 hW hcnd _
  have hval : ∀ (j : Nat) t v, Try.f6.params[j]? = some t → args[j]? = some v → Value.okWide Try.prog W .any base t v := hval0
  have hW' := hW
  obtain ⟨p, q, hA0, hV, rfl, hfz, hnd⟩ := hW
  have hA : DataW.TrodAll enc Try.prog W 0 (fun _ => true) true Try.f6.params.toList args.toList ds p := hA0
  rw [Try.params6] at hA hval
  obtain ⟨v0, v1, d0, d1, p0, p1, rfl, rfl, rfl, h0, h1⟩ := trodAll_two hA
  obtain ⟨rfl, rfl⟩ := trodVars_none hV
  obtain ⟨a0, rfl, rfl, rfl, w0⟩ := open_int Try.underlying3 (hval 0 3 v0 rfl rfl) h0
  obtain ⟨a1, rfl, rfl, rfl, w1⟩ := open_int Try.underlying3 (hval 1 3 v1 rfl rfl) h1
  clear hA0 hval0
  refine (walk a0 a1 w0 w1 W).mono fun e W' ⟨he, bel⟩ => ?_
  subst he
  exact ⟨_, rfl, _, _, _, [], [], [], hW', trodAll_mk1 (shut_bool Try.underlying4 _), trodAll_mk2 (shut_int Try.underlying3 w0) (shut_int Try.underlying3 w1), rfl, bel.frame _, fun h => by cases h⟩

/-- The statement. -/
theorem proved : Rows.ArithOrdersSaid :=
  OpenClaim.holds_of_wide 6 Try.f6 rfl rfl rfl rfl rfl rfl rfl ⟨rfl, rfl, rfl, rfl, rfl⟩ rfl rfl rfl rfl rfl (by kernel_rfl) Try.func6 (by kernel_rfl)
    (of_decide_eq_true (by kernel_rfl)) (by unfold Func.isWrapper; first | (rw [if_pos (by decide +kernel)]; kernel_rfl) | (rw [if_neg (by decide +kernel)]; exact ⟨rfl, rfl⟩))
    (fun os started H enc _ => lifted os started H enc)
#print axioms proved

end Go.Proofs.Ytoihaicjjcmgeaa.arithOrders
