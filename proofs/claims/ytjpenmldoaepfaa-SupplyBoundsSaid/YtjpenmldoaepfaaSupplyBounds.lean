/-
  For any interface and any number the statement SupplyBounds of layer 9 returns true (which interfaces are right, and their bounds, is what the document says, or the error is told), and its arguments read as before. No condition.
-/
import Derived.Test.YtjpenmldoaepfaaLaw09Args
import Derived.Test.YtjpenmldoaepfaaLaw09Refs
import Derived.Test.YtjpenmldoaepfaaLaw09Knows
namespace Go.Proofs.Ytjpenmldoaepfaa.supplyBounds
open Go.ChangeShapes Go.WideShapes Go.ChangeAt Go.RowKit
open Mm Sp

set_option maxHeartbeats 1600000 in
theorem walk (P B t : Int) (w : World) (_ : Fit P) (_ : Fit B) (_ : Fit t) :
    Calls Try.prog 3 #[.agg #[.int .i64 P, .int .i64 B], .int .i64 t] w fun e w' => e = .returned (.bool true) ∧ Below w.heap.size w w' := by
  obtain ⟨t1, t2⟩ := fc_new w P B
  have B0 := Lib.hid (below_one w (Obj.cells #[.int .i64 P, .int .i64 B] 23))
  by_cases hg : 5000 < t
  · by_cases hm : t ≤ 4611686018427387903
    · go_enter Try.func3, Try.ntmps3
      go_wp2_with fail
      refine (knows9_any _).mono ?_
      rintro e w1 ⟨rfl, b1⟩
      have B1 := Lib.hid (below_step B0.out b1)
      clear b1
      go_wp2_with fail
      go_ret
      exact ⟨rfl, B1.out⟩
    · have HO : Hid (okB P B t = false) := by
        show _ = _
        rw [← Bool.not_eq_true, ok_iff]
        omega
      have HZ : Hid (((bndZ P B t : Nat) : Int) = 0) := by show _ = _; unfold bndZ; rw [HO.out]; rfl
      have HE : Hid (((bndE P B t : Nat) : Int) = 1) := by show _ = _; unfold bndE; rw [HO.out]; rfl
      cases hv : rightB P B with
      | true =>
        have HV := Lib.hid hv
        clear hv
        go_enter Try.func3, Try.ntmps3
        go_wp2_with fail
        generalize w.alloc (Obj.cells #[.int .i64 P, .int .i64 B] 23) = w0 at *
        refine (bound_v P B t _ _ HZ.out HE.out _).mono ?_
        rintro e w1 ⟨rfl, b1⟩
        replace t1 := cell_below b1 t1
        replace t2 := cell_below b1 t2
        have B1 := Lib.hid (below_step B0.out b1)
        clear b1
        go_wp2_with fail
        have z1 := t1
        have z2 := t2
        replace t1 := cell_bw t1
        replace t2 := cell_bw t2
        refine wp_region_bw (by kernel_rfl) (by kernel_rfl) ?_
        repeat
          (with_reducible refine wpQuiet_step (fun K hK => ?_)
           go_simp
           first
             | (with_reducible refine hK _ ?_
                clear hK K)
             | (rw [if_neg]
                rotate_left
                focus (intro h; cases h; done)
                with_reducible refine hK _ ?_
                clear hK K)
             | (apply Exists.intro
                refine ⟨fun _ => ?_, hK _ ?_⟩
                (first | exact Calls.bw (right_v P B _ HV.out _) | exact Calls.bw (refRight_v P B _ HV.out _))
                clear hK K))
        with_reducible refine wpQuiet_nil ?_
        intro wb hw'
        obtain ⟨⟨wb', lb⟩, hw''⟩ := hw'
        subst hw''
        replace z1 := cell_below lb z1
        replace z2 := cell_below lb z2
        have B2 := Lib.hid (below_step B1.out lb)
        clear lb t1 t2
        go_wp2_with fail
        refine (refRight_v P B _ HV.out _).mono ?_
        rintro e w3 ⟨rfl, b3⟩
        replace z1 := cell_below b3 z1
        replace z2 := cell_below b3 z2
        have B3 := Lib.hid (below_step B2.out b3)
        clear b3
        go_wp2_with fail
        refine (knows9_any _).mono ?_
        rintro e w4 ⟨rfl, b4⟩
        have B4 := Lib.hid (below_step B3.out b4)
        clear b4
        go_wp2_with fail
        go_ret
        exact ⟨rfl, B4.out⟩
      | false =>
        have HV := Lib.hid hv
        clear hv
        go_enter Try.func3, Try.ntmps3
        go_wp2_with fail
        generalize w.alloc (Obj.cells #[.int .i64 P, .int .i64 B] 23) = w0 at *
        refine (bound_v P B t _ _ HZ.out HE.out _).mono ?_
        rintro e w1 ⟨rfl, b1⟩
        replace t1 := cell_below b1 t1
        replace t2 := cell_below b1 t2
        have B1 := Lib.hid (below_step B0.out b1)
        clear b1
        go_wp2_with fail
        have z1 := t1
        have z2 := t2
        replace t1 := cell_bw t1
        replace t2 := cell_bw t2
        refine wp_region_bw (by kernel_rfl) (by kernel_rfl) ?_
        repeat
          (with_reducible refine wpQuiet_step (fun K hK => ?_)
           go_simp
           first
             | (with_reducible refine hK _ ?_
                clear hK K)
             | (rw [if_neg]
                rotate_left
                focus (intro h; cases h; done)
                with_reducible refine hK _ ?_
                clear hK K)
             | (apply Exists.intro
                refine ⟨fun _ => ?_, hK _ ?_⟩
                (first | exact Calls.bw (right_v P B _ HV.out _) | exact Calls.bw (refRight_v P B _ HV.out _))
                clear hK K))
        with_reducible refine wpQuiet_nil ?_
        intro wb hw'
        obtain ⟨⟨wb', lb⟩, hw''⟩ := hw'
        subst hw''
        replace z1 := cell_below lb z1
        replace z2 := cell_below lb z2
        have B2 := Lib.hid (below_step B1.out lb)
        clear lb t1 t2
        go_wp2_with fail
        refine (refRight_v P B _ HV.out _).mono ?_
        rintro e w3 ⟨rfl, b3⟩
        replace z1 := cell_below b3 z1
        replace z2 := cell_below b3 z2
        have B3 := Lib.hid (below_step B2.out b3)
        clear b3
        go_wp2_with fail
        refine (knows9_any _).mono ?_
        rintro e w4 ⟨rfl, b4⟩
        have B4 := Lib.hid (below_step B3.out b4)
        clear b4
        go_wp2_with fail
        go_ret
        exact ⟨rfl, B4.out⟩
  · by_cases h0 : t < 0
    · have HO : Hid (okB P B t = false) := by
        show _ = _
        rw [← Bool.not_eq_true, ok_iff]
        omega
      have HZ : Hid (((bndZ P B t : Nat) : Int) = 0) := by show _ = _; unfold bndZ; rw [HO.out]; rfl
      have HE : Hid (((bndE P B t : Nat) : Int) = 1) := by show _ = _; unfold bndE; rw [HO.out]; rfl
      cases hv : rightB P B with
      | true =>
        have HV := Lib.hid hv
        clear hv
        go_enter Try.func3, Try.ntmps3
        go_wp2_with fail
        generalize w.alloc (Obj.cells #[.int .i64 P, .int .i64 B] 23) = w0 at *
        refine (bound_v P B t _ _ HZ.out HE.out _).mono ?_
        rintro e w1 ⟨rfl, b1⟩
        replace t1 := cell_below b1 t1
        replace t2 := cell_below b1 t2
        have B1 := Lib.hid (below_step B0.out b1)
        clear b1
        go_wp2_with fail
        have z1 := t1
        have z2 := t2
        replace t1 := cell_bw t1
        replace t2 := cell_bw t2
        refine wp_region_bw (by kernel_rfl) (by kernel_rfl) ?_
        repeat
          (with_reducible refine wpQuiet_step (fun K hK => ?_)
           go_simp
           first
             | (with_reducible refine hK _ ?_
                clear hK K)
             | (rw [if_neg]
                rotate_left
                focus (intro h; cases h; done)
                with_reducible refine hK _ ?_
                clear hK K)
             | (apply Exists.intro
                refine ⟨fun _ => ?_, hK _ ?_⟩
                (first | exact Calls.bw (right_v P B _ HV.out _) | exact Calls.bw (refRight_v P B _ HV.out _))
                clear hK K))
        with_reducible refine wpQuiet_nil ?_
        intro wb hw'
        obtain ⟨⟨wb', lb⟩, hw''⟩ := hw'
        subst hw''
        replace z1 := cell_below lb z1
        replace z2 := cell_below lb z2
        have B2 := Lib.hid (below_step B1.out lb)
        clear lb t1 t2
        go_wp2_with fail
        refine (refRight_v P B _ HV.out _).mono ?_
        rintro e w3 ⟨rfl, b3⟩
        replace z1 := cell_below b3 z1
        replace z2 := cell_below b3 z2
        have B3 := Lib.hid (below_step B2.out b3)
        clear b3
        go_wp2_with fail
        refine (knows9_any _).mono ?_
        rintro e w4 ⟨rfl, b4⟩
        have B4 := Lib.hid (below_step B3.out b4)
        clear b4
        go_wp2_with fail
        go_ret
        exact ⟨rfl, B4.out⟩
      | false =>
        have HV := Lib.hid hv
        clear hv
        go_enter Try.func3, Try.ntmps3
        go_wp2_with fail
        generalize w.alloc (Obj.cells #[.int .i64 P, .int .i64 B] 23) = w0 at *
        refine (bound_v P B t _ _ HZ.out HE.out _).mono ?_
        rintro e w1 ⟨rfl, b1⟩
        replace t1 := cell_below b1 t1
        replace t2 := cell_below b1 t2
        have B1 := Lib.hid (below_step B0.out b1)
        clear b1
        go_wp2_with fail
        have z1 := t1
        have z2 := t2
        replace t1 := cell_bw t1
        replace t2 := cell_bw t2
        refine wp_region_bw (by kernel_rfl) (by kernel_rfl) ?_
        repeat
          (with_reducible refine wpQuiet_step (fun K hK => ?_)
           go_simp
           first
             | (with_reducible refine hK _ ?_
                clear hK K)
             | (rw [if_neg]
                rotate_left
                focus (intro h; cases h; done)
                with_reducible refine hK _ ?_
                clear hK K)
             | (apply Exists.intro
                refine ⟨fun _ => ?_, hK _ ?_⟩
                (first | exact Calls.bw (right_v P B _ HV.out _) | exact Calls.bw (refRight_v P B _ HV.out _))
                clear hK K))
        with_reducible refine wpQuiet_nil ?_
        intro wb hw'
        obtain ⟨⟨wb', lb⟩, hw''⟩ := hw'
        subst hw''
        replace z1 := cell_below lb z1
        replace z2 := cell_below lb z2
        have B2 := Lib.hid (below_step B1.out lb)
        clear lb t1 t2
        go_wp2_with fail
        refine (refRight_v P B _ HV.out _).mono ?_
        rintro e w3 ⟨rfl, b3⟩
        replace z1 := cell_below b3 z1
        replace z2 := cell_below b3 z2
        have B3 := Lib.hid (below_step B2.out b3)
        clear b3
        go_wp2_with fail
        refine (knows9_any _).mono ?_
        rintro e w4 ⟨rfl, b4⟩
        have B4 := Lib.hid (below_step B3.out b4)
        clear b4
        go_wp2_with fail
        go_ret
        exact ⟨rfl, B4.out⟩
    · cases hv : rightB P B with
      | false =>
        have HO : Hid (okB P B t = false) := by show _ = _; unfold okB; rw [hv]; rfl
        have HZ : Hid (((bndZ P B t : Nat) : Int) = 0) := by show _ = _; unfold bndZ; rw [HO.out]; rfl
        have HE : Hid (((bndE P B t : Nat) : Int) = 1) := by show _ = _; unfold bndE; rw [HO.out]; rfl
        have HV := Lib.hid hv
        clear hv
        go_enter Try.func3, Try.ntmps3
        go_wp2_with fail
        generalize w.alloc (Obj.cells #[.int .i64 P, .int .i64 B] 23) = w0 at *
        refine (bound_v P B t _ _ HZ.out HE.out _).mono ?_
        rintro e w1 ⟨rfl, b1⟩
        replace t1 := cell_below b1 t1
        replace t2 := cell_below b1 t2
        have B1 := Lib.hid (below_step B0.out b1)
        clear b1
        go_wp2_with fail
        have z1 := t1
        have z2 := t2
        replace t1 := cell_bw t1
        replace t2 := cell_bw t2
        refine wp_region_bw (by kernel_rfl) (by kernel_rfl) ?_
        repeat
          (with_reducible refine wpQuiet_step (fun K hK => ?_)
           go_simp
           first
             | (with_reducible refine hK _ ?_
                clear hK K)
             | (rw [if_neg]
                rotate_left
                focus (intro h; cases h; done)
                with_reducible refine hK _ ?_
                clear hK K)
             | (apply Exists.intro
                refine ⟨fun _ => ?_, hK _ ?_⟩
                (first | exact Calls.bw (right_v P B _ HV.out _) | exact Calls.bw (refRight_v P B _ HV.out _))
                clear hK K))
        with_reducible refine wpQuiet_nil ?_
        intro wb hw'
        obtain ⟨⟨wb', lb⟩, hw''⟩ := hw'
        subst hw''
        replace z1 := cell_below lb z1
        replace z2 := cell_below lb z2
        have B2 := Lib.hid (below_step B1.out lb)
        clear lb t1 t2
        go_wp2_with fail
        refine (refRight_v P B _ HV.out _).mono ?_
        rintro e w3 ⟨rfl, b3⟩
        replace z1 := cell_below b3 z1
        replace z2 := cell_below b3 z2
        have B3 := Lib.hid (below_step B2.out b3)
        clear b3
        go_wp2_with fail
        refine (knows9_any _).mono ?_
        rintro e w4 ⟨rfl, b4⟩
        have B4 := Lib.hid (below_step B3.out b4)
        clear b4
        go_wp2_with fail
        go_ret
        exact ⟨rfl, B4.out⟩
      | true =>
        have HO : Hid (okB P B t = true) := ok_iff.2 ⟨hv, by omega, by omega⟩
        obtain ⟨z, hz⟩ : ∃ z, ((bndZ P B t : Nat) : Int) = z := ⟨_, rfl⟩
        have HE : Hid (((bndE P B t : Nat) : Int) = 0) := by show _ = _; unfold bndE; rw [HO.out]; rfl
        have HRB : Hid (∀ w' : World, Calls Try.prog 13 #[.agg #[.int .i64 P, .int .i64 B], .int .i64 t] w' fun e w1 => e = .returned (.int .i64 z) ∧ Below w'.heap.size w' w1) := by
          intro w'
          rw [← hz]
          unfold bndZ
          rw [HO.out]
          obtain ⟨p, b, e1, e2, h4, h5, h6⟩ := right_nat hv
          obtain ⟨k, e3⟩ : ∃ k : Nat, t = k := ⟨t.toNat, by omega⟩
          subst e1
          subst e2
          subst e3
          simp only [if_true, Int.toNat_natCast]
          exact refBound_any p b k h4 h5 h6 (by omega) w'
        have HV := Lib.hid hv
        have HZ := Lib.hid hz
        clear hv hz
        go_enter Try.func3, Try.ntmps3
        go_wp2_with fail
        generalize w.alloc (Obj.cells #[.int .i64 P, .int .i64 B] 23) = w0 at *
        refine (bound_v P B t _ _ HZ.out HE.out _).mono ?_
        rintro e w1 ⟨rfl, b1⟩
        replace t1 := cell_below b1 t1
        replace t2 := cell_below b1 t2
        have B1 := Lib.hid (below_step B0.out b1)
        clear b1
        go_wp2_with fail
        have z1 := t1
        have z2 := t2
        replace t1 := cell_bw t1
        replace t2 := cell_bw t2
        refine wp_region_bw (by kernel_rfl) (by kernel_rfl) ?_
        repeat
          (with_reducible refine wpQuiet_step (fun K hK => ?_)
           go_simp
           first
             | (with_reducible refine hK _ ?_
                clear hK K)
             | (rw [if_neg]
                rotate_left
                focus (intro h; cases h; done)
                with_reducible refine hK _ ?_
                clear hK K)
             | (apply Exists.intro
                refine ⟨fun _ => ?_, hK _ ?_⟩
                (first | exact Calls.bw (right_v P B _ HV.out _) | exact Calls.bw (refRight_v P B _ HV.out _))
                clear hK K))
        with_reducible refine wpQuiet_nil ?_
        intro wb hw'
        obtain ⟨⟨wb', lb⟩, hw''⟩ := hw'
        subst hw''
        replace z1 := cell_below lb z1
        replace z2 := cell_below lb z2
        have B2 := Lib.hid (below_step B1.out lb)
        clear lb t1 t2
        go_wp2_with fail
        refine (refRight_v P B _ HV.out _).mono ?_
        rintro e w3 ⟨rfl, b3⟩
        replace z1 := cell_below b3 z1
        replace z2 := cell_below b3 z2
        have B3 := Lib.hid (below_step B2.out b3)
        clear b3
        go_wp2_with fail
        refine (HRB.out _).mono ?_
        rintro e w4 ⟨rfl, b4⟩
        have B4 := Lib.hid (below_step B3.out b4)
        clear b4
        go_wp2_with fail
        refine (knows9_any _).mono ?_
        rintro e w5 ⟨rfl, b5⟩
        have B5 := Lib.hid (below_step B4.out b5)
        clear b5
        go_wp2_with fail
        go_ret
        exact ⟨rfl, B5.out⟩

set_option maxRecDepth 100000 in
theorem lifted (os : Os) (started : os.Started) (H : Type) (enc : TypeId × Value → H) :
    ReturnsInHanded {} Try.checked os 3 .any (Rows.supplyBoundsSpec.pre6 enc Try.prog Try.f3 Rows.supplyBoundsRow.domain false) (Rows.supplyBoundsSpec.post enc Try.prog Try.f3 false true false false) := by
  refine returnsInHanded_of_change (C := Try.checked) own started (by kernel_rfl) Try.func3
    (ChangeSpec.witness6 (enc := enc) (C := Try.checked) false ⟨#[], #[.agg #[.int .i64 0, .int .i64 0], .int .i64 0], []⟩ 8 (by kernel_rfl) (by kernel_rfl) (by kernel_rfl) (by kernel_rfl)) ?_
  intro W base args ds gs before hval0 hW hcnd _
  have hval : ∀ (j : Nat) t v, Try.f3.params[j]? = some t → args[j]? = some v → Value.okWide Try.prog W .any base t v := hval0
  have hW' := hW
  obtain ⟨p, q, hA0, hV, rfl, hfz, hnd⟩ := hW
  have hA : DataW.TrodAll enc Try.prog W 0 (fun _ => true) true Try.f3.params.toList args.toList ds p := hA0
  rw [Try.params3] at hA hval
  obtain ⟨v0, v1, d0, d1, p0, p1, rfl, rfl, rfl, h0, h1⟩ := trodAll_two hA
  obtain ⟨rfl, rfl⟩ := trodVars_none hV
  obtain ⟨P0, B0, rfl, fp0, fb0⟩ := Sp.open_face (hval 0 23 v0 rfl rfl) h0
  obtain ⟨n1, rfl, f1⟩ := Mm.open_num' Try.underlying3 (hval 1 3 v1 rfl rfl) h1
  clear hA0 hval0
  refine (walk P0 B0 n1 W fp0 fb0 f1).mono fun e W' ⟨he, bel⟩ => ?_
  subst he
  have hlt0 : ∀ x ∈ p0, x.block < W.heap.size := fun x hx => hW'.lt x (by simp [hx])
  have hlt1 : ∀ x ∈ p1, x.block < W.heap.size := fun x hx => hW'.lt x (by simp [hx])
  exact ⟨_, rfl, _, _, _, [], _, [], hW', trodAll_mk1 (shut_bool Try.underlying4 _), trodAll_mk2 (Below.trod laidOut (by kernel_rfl) (of_decide_eq_true (by kernel_rfl)) h0 bel hlt0) (Below.trod laidOut (by kernel_rfl) (of_decide_eq_true (by kernel_rfl)) h1 bel hlt1), rfl, bel.frame _, fun h => by cases h⟩

/-- The statement. -/
theorem proved : Rows.SupplyBoundsSaid :=
  OpenClaim.holds_of_wide 3 Try.f3 rfl rfl rfl rfl rfl rfl rfl ⟨rfl, rfl, rfl, rfl, rfl⟩ rfl rfl rfl rfl rfl (by kernel_rfl) Try.func3 (by kernel_rfl)
    (of_decide_eq_true (by kernel_rfl)) (by unfold Func.isWrapper; first | (rw [if_pos (by decide +kernel)]; kernel_rfl) | (rw [if_neg (by decide +kernel)]; exact ⟨rfl, rfl⟩))
    (fun os started H enc _ => lifted os started H enc)
#print axioms proved

end Go.Proofs.Ytjpenmldoaepfaa.supplyBounds
