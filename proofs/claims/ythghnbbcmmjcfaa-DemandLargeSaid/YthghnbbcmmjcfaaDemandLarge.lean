/-
  For every task and every number the statement DemandLarge of layer 7 returns true (a bound for any number is told, or that it is too great; it has as many ticks more for each T more), and its arguments read as before. No condition.
-/
import Derived.Test.YthghnbbcmmjcfaaLaw05Args
import Derived.Test.YthghnbbcmmjcfaaLaw07Knows
namespace Go.Proofs.Ythghnbbcmmjcfaa.demandLarge
open Go.ChangeShapes Go.WideShapes Go.ChangeAt Go.RowKit
open Mm Tk Dm

theorem all_one {x : Tsk} : allB [x] = rightT x := by simp [allB]
theorem bnd_one (x : Tsk) (t : Int) : bnd [x] t = x.1 * njobs x.2.1 x.2.2.1 t := by
  show bndTo [x] t 1 = _
  rw [bndTo, bndTo, at_zero]
  unfold bndT
  omega
theorem one_of {x : Tsk} (h : rightT x = true) {t : Int} (h0 : 0 ≤ t) (ht : t ≤ 4611686018427387903) : bndZ [x] t = x.1 * njobs x.2.1 x.2.2.1 t ∧ bndE [x] t = 0 := by
  obtain ⟨z1, z2⟩ := bnd_good (all_one.trans h) h0 ht
  have h1 := one_le h h0
  rw [bnd_one] at z1 z2
  obtain ⟨s1, s2⟩ := sum_small (v := x.1 * njobs x.2.1 x.2.2.1 t) (by omega)
  rw [z1, z2, s1, s2]
  exact ⟨rfl, rfl⟩

set_option maxHeartbeats 1600000 in
theorem walk (A : Option Addr) (c : Nat) (x : Tsk) (t : Int) (w : World) (f1 : Fit x.1) (f2 : Fit x.2.1) (f3 : Fit x.2.2.1) (hr : Rd w A c x.2.2.2) (ft : Fit t) :
    Calls Try.prog 4 #[.agg #[.int .i64 x.1, .int .i64 x.2.1, .int .i64 x.2.2.1, .slice A x.2.2.2.length c], .int .i64 t] w fun e w' => e = .returned (.bool true) ∧ Below w.heap.size w w' := by
  obtain ⟨t1, t2, t3, t4⟩ := box_new w x.1 x.2.1 x.2.2.1 A x.2.2.2.length c
  have b0 := below_one w (Obj.cells #[.int .i64 x.1, .int .i64 x.2.1, .int .i64 x.2.2.1, .slice A x.2.2.2.length c] 32)
  have hmax := Nat.le_trans hr.le hr.max
  unfold maxLen at hmax
  have HMX := Lib.hid hmax
  have HLT : Hid (Rd ((w.alloc (Obj.cells #[.int .i64 x.1, .int .i64 x.2.1, .int .i64 x.2.2.1, .slice A x.2.2.2.length c] 32)).alloc (Obj.cells #[.int .i64 x.1, .int .i64 x.2.1, .int .i64 x.2.2.1, .slice A x.2.2.2.length c] 32)) (some ⟨w.heap.size + 1, 0, none⟩) 1 [x]) := by
    have := rd_lit (w.alloc (Obj.cells #[.int .i64 x.1, .int .i64 x.2.1, .int .i64 x.2.2.1, .slice A x.2.2.2.length c] 32)) [x] 1 rfl #[.int .i64 x.1, .int .i64 x.2.1, .int .i64 x.2.2.1, .slice A x.2.2.2.length c] 32 (by decide)
      (rows_task x rfl f1 f2 f3 ((hr.below b0).alloc _) rows_none)
    rwa [World.size_alloc] at this
  have B0 := Lib.hid (below_two w (Obj.cells #[.int .i64 x.1, .int .i64 x.2.1, .int .i64 x.2.2.1, .slice A x.2.2.2.length c] 32) (Obj.cells #[.int .i64 x.1, .int .i64 x.2.1, .int .i64 x.2.2.1, .slice A x.2.2.2.length c] 32))
  replace t1 := cell_new t1 (Obj.cells #[.int .i64 x.1, .int .i64 x.2.1, .int .i64 x.2.2.1, .slice A x.2.2.2.length c] 32)
  replace t2 := cell_new t2 (Obj.cells #[.int .i64 x.1, .int .i64 x.2.1, .int .i64 x.2.2.1, .slice A x.2.2.2.length c] 32)
  replace t3 := cell_new t3 (Obj.cells #[.int .i64 x.1, .int .i64 x.2.1, .int .i64 x.2.2.1, .slice A x.2.2.2.length c] 32)
  unfold Fit at ft f1 f2 f3
  clear hr t4 b0
  cases hv : rightT x with
  | false =>
    have HV : Hid (allB [x] = false) := all_one.trans hv
    clear hv
    go_enter Try.func4, Try.ntmps4
    go_wp2_with fail
    generalize (w.alloc (Obj.cells #[.int .i64 x.1, .int .i64 x.2.1, .int .i64 x.2.2.1, .slice A x.2.2.2.length c] 32)).alloc (Obj.cells #[.int .i64 x.1, .int .i64 x.2.1, .int .i64 x.2.2.1, .slice A x.2.2.2.length c] 32) = w0 at *
    refine (refAll_max _ 1 [x] _ (by simp) (fun j hj => by
      have : j = 0 := by simpa using hj
      subst this
      exact HMX.out) HLT.out).mono ?_
    rintro e w1 ⟨rfl, b1⟩
    rw [HV.out]
    have B1 := Lib.hid (below_step B0.out b1)
    clear b1 t1 t2 t3
    go_wp2_with fail
    refine (knows7_any _).mono ?_
    rintro e w2 ⟨rfl, b2⟩
    have B2 := Lib.hid (below_step B1.out b2)
    clear b2
    go_wp2_with fail
    go_ret
    exact ⟨rfl, B2.out⟩
  | true =>
    have HV : Hid (allB [x] = true) := all_one.trans hv
    have hT := right_T hv
    have HTL : Hid (TL _ _ 1 [x]) := ⟨by simp, fun j hj => by
      have : j = 0 := by simpa using hj
      subst this
      have := (rightB_iff.1 hv).2.1
      show x.2.2.2.length ≤ _
      omega, HLT.out⟩
    by_cases hc : t < x.2.1 ∨ 4611686018427387903 - x.2.2.1 < t
    · have hcase : t < x.2.1 ∨ (¬ t < x.2.1 ∧ 4611686018427387903 - x.2.2.1 < t) := by omega
      clear hv hc
      rcases hcase with h1 | ⟨h1, h2⟩
      all_goals
        go_enter Try.func4, Try.ntmps4
        go_wp2_with fail
        generalize (w.alloc (Obj.cells #[.int .i64 x.1, .int .i64 x.2.1, .int .i64 x.2.2.1, .slice A x.2.2.2.length c] 32)).alloc (Obj.cells #[.int .i64 x.1, .int .i64 x.2.1, .int .i64 x.2.2.1, .slice A x.2.2.2.length c] 32) = w0 at *
        refine (refAll_v _ 1 [x] true HV.out 1 rfl _ HTL.out).mono ?_
        rintro e w1 ⟨rfl, b1⟩
        replace t1 := cell_below b1 t1
        replace t2 := cell_below b1 t2
        replace t3 := cell_below b1 t3
        have B1 := Lib.hid (below_step B0.out b1)
        clear b1
        go_wp2_with fail
        refine (knows7_any _).mono ?_
        rintro e w2 ⟨rfl, b2⟩
        have B2 := Lib.hid (below_step B1.out b2)
        clear b2
        go_wp2_with fail
        go_ret
        exact ⟨rfl, B2.out⟩
    · have h1 : ¬ t < x.2.1 := by omega
      have h2 : ¬ 4611686018427387903 - x.2.2.1 < t := by omega
      obtain ⟨z1, z2⟩ := one_of hv (t := t) (by omega) (by omega)
      obtain ⟨z3, z4⟩ := one_of hv (t := t + x.2.2.1) (by omega) (by omega)
      have hn := njobs_pos (D := x.2.1) (T := x.2.2.1) (t := t) (by omega) (by omega)
      rw [njobs_step (by omega) (by omega), Int.mul_add, Int.mul_one] at z3
      have hle := one_le hv (t := t) (by omega)
      have hge : x.1 ≤ x.1 * njobs x.2.1 x.2.2.1 t := by
        have : x.1 * 1 ≤ x.1 * njobs x.2.1 x.2.2.1 t := Int.mul_le_mul_of_nonneg_left hn (by omega)
        omega
      generalize x.1 * njobs x.2.1 x.2.2.1 t = v at *
      have Z1 := Lib.hid z1
      have Z2 := Lib.hid z2
      have Z3 := Lib.hid z3
      have Z4 := Lib.hid z4
      have HN := Lib.hid hn
      clear z1 z2 z3 z4 hn
      clear hv hc
      go_enter Try.func4, Try.ntmps4
      go_wp2_with fail
      generalize (w.alloc (Obj.cells #[.int .i64 x.1, .int .i64 x.2.1, .int .i64 x.2.2.1, .slice A x.2.2.2.length c] 32)).alloc (Obj.cells #[.int .i64 x.1, .int .i64 x.2.1, .int .i64 x.2.2.1, .slice A x.2.2.2.length c] 32) = w0 at *
      refine (refAll_v _ 1 [x] true HV.out 1 rfl _ HTL.out).mono ?_
      rintro e w1 ⟨rfl, b1⟩
      replace t1 := cell_below b1 t1
      replace t2 := cell_below b1 t2
      replace t3 := cell_below b1 t3
      have B1 := Lib.hid (below_step B0.out b1)
      replace HTL := Lib.hid (HTL.out.below b1)
      clear b1
      go_wp2_with fail
      refine (bound_v _ 1 [x] t v 0 Z1.out Z2.out 1 rfl _ HTL.out).mono ?_
      rintro e w2 ⟨rfl, b2⟩
      replace t1 := cell_below b2 t1
      replace t2 := cell_below b2 t2
      replace t3 := cell_below b2 t3
      have B2 := Lib.hid (below_step B1.out b2)
      replace HTL := Lib.hid (HTL.out.below b2)
      clear b2
      go_wp2_with fail
      refine (bound_v _ 1 [x] (t + x.2.2.1) (v + x.1) 0 Z3.out Z4.out 1 rfl _ HTL.out).mono ?_
      rintro e w3 ⟨rfl, b3⟩
      replace t1 := cell_below b3 t1
      replace t2 := cell_below b3 t2
      replace t3 := cell_below b3 t3
      have B3 := Lib.hid (below_step B2.out b3)
      replace HTL := Lib.hid (HTL.out.below b3)
      clear b3
      go_wp2_with fail
      refine (knows7_any _).mono ?_
      rintro e w4 ⟨rfl, b4⟩
      have B4 := Lib.hid (below_step B3.out b4)
      clear b4
      go_wp2_with fail
      go_ret
      exact ⟨rfl, B4.out⟩

set_option maxRecDepth 100000 in
theorem lifted (os : Os) (started : os.Started) (H : Type) (enc : TypeId × Value → H) :
    ReturnsInHanded {} Try.checked os 4 .any (Rows.demandLargeSpec.pre6 enc Try.prog Try.f4 Rows.demandLargeRow.domain false) (Rows.demandLargeSpec.post enc Try.prog Try.f4 false true false false) := by
  refine returnsInHanded_of_change (C := Try.checked) own started (by kernel_rfl) Try.func4
    (ChangeSpec.witness6 (enc := enc) (C := Try.checked) false ⟨#[], #[.agg #[.int .i64 0, .int .i64 0, .int .i64 0, .slice none 0 0], .int .i64 0], []⟩ 8 (by kernel_rfl) (by kernel_rfl) (by kernel_rfl) (by kernel_rfl)) ?_
  intro W base args ds gs before hval0 hW hcnd _
  have hval : ∀ (j : Nat) t v, Try.f4.params[j]? = some t → args[j]? = some v → Value.okWide Try.prog W .any base t v := hval0
  have hW' := hW
  obtain ⟨p, q, hA0, hV, rfl, hfz, hnd⟩ := hW
  have hA : DataW.TrodAll enc Try.prog W 0 (fun _ => true) true Try.f4.params.toList args.toList ds p := hA0
  rw [Try.params4] at hA hval
  obtain ⟨v0, v1, d0, d1, p0, p1, rfl, rfl, rfl, h0, h1⟩ := trodAll_two hA
  obtain ⟨rfl, rfl⟩ := trodVars_none hV
  obtain ⟨A0, c0, x0, rfl, fa0, fb0, fc0, hr0⟩ := Tk.open_task (hval 0 32 v0 rfl rfl) h0
  obtain ⟨n1, rfl, f1⟩ := Mm.open_num' Try.underlying3 (hval 1 3 v1 rfl rfl) h1
  clear hA0 hval0
  refine (walk A0 c0 x0 n1 W fa0 fb0 fc0 hr0 f1).mono fun e W' ⟨he, bel⟩ => ?_
  subst he
  have hlt0 : ∀ x ∈ p0, x.block < W.heap.size := fun x hx => hW'.lt x (by simp [hx])
  have hlt1 : ∀ x ∈ p1, x.block < W.heap.size := fun x hx => hW'.lt x (by simp [hx])
  exact ⟨_, rfl, _, _, _, [], _, [], hW', trodAll_mk1 (shut_bool Try.underlying4 _), trodAll_mk2 (Below.trod laidOut (by kernel_rfl) (of_decide_eq_true (by kernel_rfl)) h0 bel hlt0) (Below.trod laidOut (by kernel_rfl) (of_decide_eq_true (by kernel_rfl)) h1 bel hlt1), rfl, bel.frame _, fun h => by cases h⟩

/-- The statement. -/
theorem proved : Rows.DemandLargeSaid :=
  OpenClaim.holds_of_wide 4 Try.f4 rfl rfl rfl rfl rfl rfl rfl ⟨rfl, rfl, rfl, rfl, rfl⟩ rfl rfl rfl rfl rfl (by kernel_rfl) Try.func4 (by kernel_rfl)
    (of_decide_eq_true (by kernel_rfl)) (by unfold Func.isWrapper; first | (rw [if_pos (by decide +kernel)]; kernel_rfl) | (rw [if_neg (by decide +kernel)]; exact ⟨rfl, rfl⟩))
    (fun os started H enc _ => lifted os started H enc)
#print axioms proved

end Go.Proofs.Ythghnbbcmmjcfaa.demandLarge
