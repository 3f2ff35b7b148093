/-
  Merged texts: Law14Args, Law14Right, Law14All, Law14Held, Law14Knows.
-/
import Derived.Test.YtdibiidpknckfaaGmem
import Derived.Test.YtdibiidpknckfaaGlaw05
import Derived.Test.YtdibiidpknckfaaGjob
import Derived.Test.YtdibiidpknckfaaGtask
/-
  Layer 14: the arguments of the statements, opened: jobs.
-/
namespace Go.Proofs.Ytdibiidpknckfaa
open Go.ChangeShapes Go.WideShapes Go.ChangeAt Go.RowKit Go.Deep Go.Joins Mm Tk
namespace Pm

theorem opBool : Opens Try.prog 4 Bool := opens_bool Try.underlying4 (by kernel_rfl)
theorem opJob : Opens Try.prog 30 Jb := opens_struct Try.underlying30 (by kernel_rfl) (fieldsOpen_cons rfl opInt (fieldsOpen_cons rfl opInt (fieldsOpen_cons rfl opInt (fieldsOpen_cons rfl opInt (fieldsOpen_cons rfl opInt (fieldsOpen_one rfl opBool))))))
theorem opJobs : Opens Try.prog 23 (List Jb) := opens_slice Try.underlying23 (by kernel_rfl) opJob

end Pm
end Go.Proofs.Ytdibiidpknckfaa

/-
  Layer 14: the document's answer Right, of tasks that are right.
-/
namespace Go.Proofs.Ytdibiidpknckfaa
open Go.RowKit Mm Tk
namespace Pm

set_option maxRecDepth 20000 in
set_option maxHeartbeats 6400000 in
theorem refJobRight_any (A : Option Addr) (c : Nat) (L : List Tsk) (x : Jb) (w : World) (ha : allB L = true) (HL : TL w A c L) :
    Calls Try.prog 21 #[.slice A L.length c, (.agg #[(.int .i64 x.1), (.int .i64 x.2.1), (.int .i64 x.2.2.1), (.int .i64 x.2.2.2.1), (.int .i64 x.2.2.2.2.1), (.bool x.2.2.2.2.2)])] w fun e w' => e = .returned (.bool (rightJ L x)) ∧ Below w.heap.size w w' := by
  have B0 := Lib.hid (below_one w (Obj.cells #[(.int .i64 x.1), (.int .i64 x.2.1), (.int .i64 x.2.2.1), (.int .i64 x.2.2.2.1), (.int .i64 x.2.2.2.2.1), (.bool x.2.2.2.2.2)] 30))
  have hx0 := cj_new w x _ rfl
  have HT := Lib.hid (HL.below B0.out)
  have HAT := Lib.hid (fun j => allB_at (j := j) ha)
  clear HL ha
  go_enter Try.func21, Try.ntmps21
  go_wp2_with fail
  generalize w.alloc (Obj.cells #[(.int .i64 x.1), (.int .i64 x.2.1), (.int .i64 x.2.2.1), (.int .i64 x.2.2.2.1), (.int .i64 x.2.2.2.2.1), (.bool x.2.2.2.2.2)] 30) = w0 at *
  have HX0 := Lib.hid hx0
  have c0 := cell_bw hx0.c0
  have c1 := cell_bw hx0.c1
  have c2 := cell_bw hx0.c2
  clear hx0
  by_cases p1 : x.1 < 0
  · have d1 : decide (x.1 < 0) = true := decide_eq_true p1
    have HE : Hid (rightJ L x = false) := by
      show _ = _
      cases e : rightJ L x with
      | false => rfl
      | true =>
        have hh := rightJ_iff.1 e
        simp only [tkJ, atJ, dueJ, wantJ, hadJ, begJ, ofJ] at hh
        omega
    refine wp_region_bw (by kernel_rfl) (by kernel_rfl) ?_
    repeat
      (with_reducible refine wpQuiet_step (fun K hK => ?_)
       go_simp
       first
         | (with_reducible refine hK _ ?_
            clear hK K)
         | (rw [if_neg]
            rotate_left
            focus (intro h; cases h; done)
            with_reducible refine hK _ ?_
            clear hK K)
         | (apply Exists.intro
            refine ⟨fun _ => ?_, hK _ ?_⟩
            (fail)
            clear hK K))
    with_reducible refine wpQuiet_nil ?_
    intro wb hw'
    obtain ⟨⟨wb', lb⟩, hw''⟩ := hw'
    subst hw''
    go_wp2_with fail
    go_ret
    exact ⟨ret_bool HE.out.symm, below_step B0.out lb⟩
  · have d1 : decide (x.1 < 0) = false := decide_eq_false p1
    by_cases p2 : (L.length : Int) ≤ x.1
    · have d2 : decide ((L.length : Int) ≤ x.1) = true := decide_eq_true p2
      have HE : Hid (rightJ L x = false) := by
        show _ = _
        cases e : rightJ L x with
        | false => rfl
        | true =>
          have hh := rightJ_iff.1 e
          simp only [tkJ, atJ, dueJ, wantJ, hadJ, begJ, ofJ] at hh
          omega
      refine wp_region_bw (by kernel_rfl) (by kernel_rfl) ?_
      repeat
        (with_reducible refine wpQuiet_step (fun K hK => ?_)
         go_simp
         first
           | (with_reducible refine hK _ ?_
              clear hK K)
           | (rw [if_neg]
              rotate_left
              focus (intro h; cases h; done)
              with_reducible refine hK _ ?_
              clear hK K)
           | (apply Exists.intro
              refine ⟨fun _ => ?_, hK _ ?_⟩
              (fail)
              clear hK K))
      with_reducible refine wpQuiet_nil ?_
      intro wb hw'
      obtain ⟨⟨wb', lb⟩, hw''⟩ := hw'
      subst hw''
      go_wp2_with fail
      go_ret
      exact ⟨ret_bool HE.out.symm, below_step B0.out lb⟩
    · have d2 : decide ((L.length : Int) ≤ x.1) = false := decide_eq_false p2
      by_cases p3 : x.2.1 < 0
      · have d3 : decide (x.2.1 < 0) = true := decide_eq_true p3
        have HE : Hid (rightJ L x = false) := by
          show _ = _
          cases e : rightJ L x with
          | false => rfl
          | true =>
            have hh := rightJ_iff.1 e
            simp only [tkJ, atJ, dueJ, wantJ, hadJ, begJ, ofJ] at hh
            omega
        refine wp_region_bw (by kernel_rfl) (by kernel_rfl) ?_
        repeat
          (with_reducible refine wpQuiet_step (fun K hK => ?_)
           go_simp
           first
             | (with_reducible refine hK _ ?_
                clear hK K)
             | (rw [if_neg]
                rotate_left
                focus (intro h; cases h; done)
                with_reducible refine hK _ ?_
                clear hK K)
             | (apply Exists.intro
                refine ⟨fun _ => ?_, hK _ ?_⟩
                (fail)
                clear hK K))
        with_reducible refine wpQuiet_nil ?_
        intro wb hw'
        obtain ⟨⟨wb', lb⟩, hw''⟩ := hw'
        subst hw''
        go_wp2_with fail
        go_ret
        exact ⟨ret_bool HE.out.symm, below_step B0.out lb⟩
      · have d3 : decide (x.2.1 < 0) = false := decide_eq_false p3
        by_cases p4 : 4611686018427387703 < x.2.1
        · have d4 : decide (4611686018427387703 < x.2.1) = true := decide_eq_true p4
          have HE : Hid (rightJ L x = false) := by
            show _ = _
            cases e : rightJ L x with
            | false => rfl
            | true =>
              have hh := rightJ_iff.1 e
              simp only [tkJ, atJ, dueJ, wantJ, hadJ, begJ, ofJ] at hh
              omega
          refine wp_region_bw (by kernel_rfl) (by kernel_rfl) ?_
          repeat
            (with_reducible refine wpQuiet_step (fun K hK => ?_)
             go_simp
             first
               | (with_reducible refine hK _ ?_
                  clear hK K)
               | (rw [if_neg]
                  rotate_left
                  focus (intro h; cases h; done)
                  with_reducible refine hK _ ?_
                  clear hK K)
               | (apply Exists.intro
                  refine ⟨fun _ => ?_, hK _ ?_⟩
                  (fail)
                  clear hK K))
          with_reducible refine wpQuiet_nil ?_
          intro wb hw'
          obtain ⟨⟨wb', lb⟩, hw''⟩ := hw'
          subst hw''
          go_wp2_with fail
          go_ret
          exact ⟨ret_bool HE.out.symm, below_step B0.out lb⟩
        · have d4 : decide (4611686018427387703 < x.2.1) = false := decide_eq_false p4
          have h4 : x.1.toNat < L.length := by omega
          have h5 : 0 ≤ x.1 := by omega
          have h6 : x.1 < (L.length : Int) := by omega
          obtain ⟨_, a1, a2, a3, a4, _⟩ := HAT.out _ h4
          obtain ⟨b, off, rfl, hc⟩ := task_at HT.out.2.2 (by omega)
          obtain ⟨B, d, t1, t2, -, -, -, -, -, -⟩ := hc _ h4
          clear hc
          have HRI : Hid (rightJ L x = true ↔ 0 ≤ x.1 ∧ x.1 < (L.length : Int) ∧ timesJ x (at_ L x.1.toNat).2.1 = true ∧ ticksJ x (at_ L x.1.toNat).1 = true) := rightJ_parts
          generalize at_ L x.1.toNat = y at *
          have HTK : Hid (ticksJ x y.1 = decide (1 ≤ x.2.2.2.1 ∧ x.2.2.2.1 ≤ 200 ∧ 0 ≤ x.2.2.2.2.1 ∧ x.2.2.2.2.1 < y.1 ∧ x.2.2.2.2.1 < x.2.2.2.1 ∧ (x.2.2.2.2.2 = true ∨ x.2.2.2.2.1 = 0))) := rfl
          have u1 := t1
          replace t1 := cell_bw t1
          replace t2 := cell_bw t2
          have e1 : IntKind.i64.wrap (x.2.1 + y.2.1) = x.2.1 + y.2.1 := IntWalk.i64_in _ (by omega)
          by_cases p5 : x.2.2.1 = x.2.1 + y.2.1
          · have d5 : (x.2.2.1 == x.2.1 + y.2.1) = true := beq_iff_eq.2 p5
            have d6 : (x.2.2.1 != x.2.1 + y.2.1) = false := by rw [bne, d5]; rfl
            have HTM : Hid (timesJ x y.2.1 = true) := by show _ = _; unfold timesJ; rw [decide_eq_true_iff]; omega
            clear p5
            refine wp_region_bw (by kernel_rfl) (by kernel_rfl) ?_
            repeat
              (with_reducible refine wpQuiet_step (fun K hK => ?_)
               go_simp
               first
                 | (with_reducible refine hK _ ?_
                    clear hK K)
                 | (rw [if_neg]
                    rotate_left
                    focus (intro h; cases h; done)
                    with_reducible refine hK _ ?_
                    clear hK K)
                 | (apply Exists.intro
                    refine ⟨fun _ => ?_, hK _ ?_⟩
                    (fail)
                    clear hK K))
            with_reducible refine wpQuiet_nil ?_
            intro wb hw'
            obtain ⟨⟨wb', lb⟩, hw''⟩ := hw'
            subst hw''
            clear c0 c1 c2 t1 t2
            have c0 := cell_bw (cell_below lb HX0.out.c0)
            have c3 := cell_bw (cell_below lb HX0.out.c3)
            have c4 := cell_bw (cell_below lb HX0.out.c4)
            have t1 := cell_bw (cell_below lb u1)
            have HX1 := Lib.hid (HX0.out.below lb)
            have B1 := Lib.hid (below_step B0.out lb)
            clear lb u1
            by_cases q1 : x.2.2.2.1 < 1
            · have g1 : decide (x.2.2.2.1 < 1) = true := decide_eq_true q1
              have HE : Hid (rightJ L x = false) := by
                show _ = _
                cases e : rightJ L x with
                | false => rfl
                | true =>
                  have hh := (HRI.out.1 e).2.2.2
                  rw [HTK.out, decide_eq_true_iff] at hh
                  omega
              go_wp2_with fail
              refine wp_region_bw (by kernel_rfl) (by kernel_rfl) ?_
              repeat
                (with_reducible refine wpQuiet_step (fun K hK => ?_)
                 go_simp
                 first
                   | (with_reducible refine hK _ ?_
                      clear hK K)
                   | (rw [if_neg]
                      rotate_left
                      focus (intro h; cases h; done)
                      with_reducible refine hK _ ?_
                      clear hK K)
                   | (apply Exists.intro
                      refine ⟨fun _ => ?_, hK _ ?_⟩
                      (fail)
                      clear hK K))
              with_reducible refine wpQuiet_nil ?_
              intro wb hw'
              obtain ⟨⟨wb', lb⟩, hw''⟩ := hw'
              subst hw''
              go_wp2_with fail
              go_ret
              exact ⟨ret_bool HE.out.symm, below_step B1.out lb⟩
            · have g1 : decide (x.2.2.2.1 < 1) = false := decide_eq_false q1
              by_cases q2 : 200 < x.2.2.2.1
              · have g2 : decide (200 < x.2.2.2.1) = true := decide_eq_true q2
                have HE : Hid (rightJ L x = false) := by
                  show _ = _
                  cases e : rightJ L x with
                  | false => rfl
                  | true =>
                    have hh := (HRI.out.1 e).2.2.2
                    rw [HTK.out, decide_eq_true_iff] at hh
                    omega
                go_wp2_with fail
                refine wp_region_bw (by kernel_rfl) (by kernel_rfl) ?_
                repeat
                  (with_reducible refine wpQuiet_step (fun K hK => ?_)
                   go_simp
                   first
                     | (with_reducible refine hK _ ?_
                        clear hK K)
                     | (rw [if_neg]
                        rotate_left
                        focus (intro h; cases h; done)
                        with_reducible refine hK _ ?_
                        clear hK K)
                     | (apply Exists.intro
                        refine ⟨fun _ => ?_, hK _ ?_⟩
                        (fail)
                        clear hK K))
                with_reducible refine wpQuiet_nil ?_
                intro wb hw'
                obtain ⟨⟨wb', lb⟩, hw''⟩ := hw'
                subst hw''
                go_wp2_with fail
                go_ret
                exact ⟨ret_bool HE.out.symm, below_step B1.out lb⟩
              · have g2 : decide (200 < x.2.2.2.1) = false := decide_eq_false q2
                by_cases q3 : x.2.2.2.2.1 < 0
                · have g3 : decide (x.2.2.2.2.1 < 0) = true := decide_eq_true q3
                  have HE : Hid (rightJ L x = false) := by
                    show _ = _
                    cases e : rightJ L x with
                    | false => rfl
                    | true =>
                      have hh := (HRI.out.1 e).2.2.2
                      rw [HTK.out, decide_eq_true_iff] at hh
                      omega
                  go_wp2_with fail
                  refine wp_region_bw (by kernel_rfl) (by kernel_rfl) ?_
                  repeat
                    (with_reducible refine wpQuiet_step (fun K hK => ?_)
                     go_simp
                     first
                       | (with_reducible refine hK _ ?_
                          clear hK K)
                       | (rw [if_neg]
                          rotate_left
                          focus (intro h; cases h; done)
                          with_reducible refine hK _ ?_
                          clear hK K)
                       | (apply Exists.intro
                          refine ⟨fun _ => ?_, hK _ ?_⟩
                          (fail)
                          clear hK K))
                  with_reducible refine wpQuiet_nil ?_
                  intro wb hw'
                  obtain ⟨⟨wb', lb⟩, hw''⟩ := hw'
                  subst hw''
                  go_wp2_with fail
                  go_ret
                  exact ⟨ret_bool HE.out.symm, below_step B1.out lb⟩
                · have g3 : decide (x.2.2.2.2.1 < 0) = false := decide_eq_false q3
                  by_cases q4 : x.2.2.2.1 ≤ x.2.2.2.2.1
                  · have g4 : decide (x.2.2.2.1 ≤ x.2.2.2.2.1) = true := decide_eq_true q4
                    have HE : Hid (rightJ L x = false) := by
                      show _ = _
                      cases e : rightJ L x with
                      | false => rfl
                      | true =>
                        have hh := (HRI.out.1 e).2.2.2
                        rw [HTK.out, decide_eq_true_iff] at hh
                        omega
                    go_wp2_with fail
                    refine wp_region_bw (by kernel_rfl) (by kernel_rfl) ?_
                    repeat
                      (with_reducible refine wpQuiet_step (fun K hK => ?_)
                       go_simp
                       first
                         | (with_reducible refine hK _ ?_
                            clear hK K)
                         | (rw [if_neg]
                            rotate_left
                            focus (intro h; cases h; done)
                            with_reducible refine hK _ ?_
                            clear hK K)
                         | (apply Exists.intro
                            refine ⟨fun _ => ?_, hK _ ?_⟩
                            (fail)
                            clear hK K))
                    with_reducible refine wpQuiet_nil ?_
                    intro wb hw'
                    obtain ⟨⟨wb', lb⟩, hw''⟩ := hw'
                    subst hw''
                    go_wp2_with fail
                    go_ret
                    exact ⟨ret_bool HE.out.symm, below_step B1.out lb⟩
                  · have g4 : decide (x.2.2.2.1 ≤ x.2.2.2.2.1) = false := decide_eq_false q4
                    by_cases q5 : y.1 ≤ x.2.2.2.2.1
                    · have g5 : decide (y.1 ≤ x.2.2.2.2.1) = true := decide_eq_true q5
                      have HE : Hid (rightJ L x = false) := by
                        show _ = _
                        cases e : rightJ L x with
                        | false => rfl
                        | true =>
                          have hh := (HRI.out.1 e).2.2.2
                          rw [HTK.out, decide_eq_true_iff] at hh
                          omega
                      go_wp2_with fail
                      refine wp_region_bw (by kernel_rfl) (by kernel_rfl) ?_
                      repeat
                        (with_reducible refine wpQuiet_step (fun K hK => ?_)
                         go_simp
                         first
                           | (with_reducible refine hK _ ?_
                              clear hK K)
                           | (rw [if_neg]
                              rotate_left
                              focus (intro h; cases h; done)
                              with_reducible refine hK _ ?_
                              clear hK K)
                           | (apply Exists.intro
                              refine ⟨fun _ => ?_, hK _ ?_⟩
                              (fail)
                              clear hK K))
                      with_reducible refine wpQuiet_nil ?_
                      intro wb hw'
                      obtain ⟨⟨wb', lb⟩, hw''⟩ := hw'
                      subst hw''
                      go_wp2_with fail
                      go_ret
                      exact ⟨ret_bool HE.out.symm, below_step B1.out lb⟩
                    · have g5 : decide (y.1 ≤ x.2.2.2.2.1) = false := decide_eq_false q5
                      have HE : Hid (∀ u : Bool, (u = true ↔ x.2.2.2.2.2 = true ∨ x.2.2.2.2.1 = 0) → rightJ L x = u) := fun u hu => by
                        rw [Bool.eq_iff_iff, HRI.out, HTK.out, decide_eq_true_iff, hu]
                        exact ⟨fun h => h.2.2.2.2.2.2.2.2, fun h => ⟨h5, h6, HTM.out, by omega, by omega, by omega, by omega, by omega, h⟩⟩
                      go_wp2_with fail
                      refine wp_region_bw (by kernel_rfl) (by kernel_rfl) ?_
                      repeat
                        (with_reducible refine wpQuiet_step (fun K hK => ?_)
                         go_simp
                         first
                           | (with_reducible refine hK _ ?_
                              clear hK K)
                           | (rw [if_neg]
                              rotate_left
                              focus (intro h; cases h; done)
                              with_reducible refine hK _ ?_
                              clear hK K)
                           | (apply Exists.intro
                              refine ⟨fun _ => ?_, hK _ ?_⟩
                              (fail)
                              clear hK K))
                      with_reducible refine wpQuiet_nil ?_
                      intro wb hw'
                      obtain ⟨⟨wb', lb⟩, hw''⟩ := hw'
                      subst hw''
                      have y4 := cell_below lb HX1.out.c4
                      have y5 := cell_below lb HX1.out.c5
                      have B2 := Lib.hid (below_step B1.out lb)
                      clear lb
                      cases hb : x.2.2.2.2.2 with
                      | true =>
                        rw [hb] at y5
                        have HF := Lib.hid (HE.out true (by simp [hb]))
                        go_wp2_with fail
                        go_ret
                        exact ⟨ret_bool HF.out.symm, B2.out⟩
                      | false =>
                        rw [hb] at y5
                        by_cases q6 : x.2.2.2.2.1 < 1
                        · have g6 : decide (x.2.2.2.2.1 < 1) = true := decide_eq_true q6
                          have HF := Lib.hid (HE.out true (by simp [hb]; omega))
                          go_wp2_with fail
                          go_ret
                          exact ⟨ret_bool HF.out.symm, B2.out⟩
                        · have g6 : decide (x.2.2.2.2.1 < 1) = false := decide_eq_false q6
                          have HF := Lib.hid (HE.out false (by simp [hb]; omega))
                          go_wp2_with fail
                          go_ret
                          exact ⟨ret_bool HF.out.symm, B2.out⟩
          · have d5 : (x.2.2.1 == x.2.1 + y.2.1) = false := beq_eq_false_iff_ne.2 p5
            have d6 : (x.2.2.1 != x.2.1 + y.2.1) = true := by rw [bne, d5]; rfl
            have HE : Hid (rightJ L x = false) := by
              show _ = _
              cases e : rightJ L x with
              | false => rfl
              | true =>
                have hh := (HRI.out.1 e).2.2.1
                unfold timesJ at hh
                rw [decide_eq_true_iff] at hh
                omega
            refine wp_region_bw (by kernel_rfl) (by kernel_rfl) ?_
            repeat
              (with_reducible refine wpQuiet_step (fun K hK => ?_)
               go_simp
               first
                 | (with_reducible refine hK _ ?_
                    clear hK K)
                 | (rw [if_neg]
                    rotate_left
                    focus (intro h; cases h; done)
                    with_reducible refine hK _ ?_
                    clear hK K)
                 | (apply Exists.intro
                    refine ⟨fun _ => ?_, hK _ ?_⟩
                    (fail)
                    clear hK K))
            with_reducible refine wpQuiet_nil ?_
            intro wb hw'
            obtain ⟨⟨wb', lb⟩, hw''⟩ := hw'
            subst hw''
            go_wp2_with fail
            go_ret
            exact ⟨ret_bool HE.out.symm, below_step B0.out lb⟩

end Pm
end Go.Proofs.Ytdibiidpknckfaa

/-
  Layer 14: the document's answer All; the helper Great.
-/
namespace Go.Proofs.Ytdibiidpknckfaa
open Go.RowKit Mm Tk
namespace Pm

/-- those ahead of i are right, and unlike all others -/
def Alls (L : List Tsk) (l : List Jb) (i : Nat) : Prop := ∀ a, a < i → rightJ L (at_ l a) = true ∧ ∀ k, k < l.length → k ≠ a → unlike (at_ l a) (at_ l k)
theorem Alls.all {L : List Tsk} {l : List Jb} (ha : allB L = true) (h32 : l.length ≤ 32) (h : Alls L l l.length) : allJ L l = true :=
  allJ_iff.2 ⟨ha, h32, unlike_at.2 fun i k hi hk hne => (h i hi).2 k hk hne.symm, fun j hj => by
    obtain ⟨i, hi, rfl⟩ := mem_at hj
    exact (h i hi).1⟩
theorem allJ_wrong {L : List Tsk} {l : List Jb} {i : Nat} (hi : i < l.length) (h : rightJ L (at_ l i) = false) : allJ L l = false := by
  cases e : allJ L l with
  | false => rfl
  | true => rw [(allJ_iff.1 e).2.2.2 _ (at_mem hi)] at h; cases h
theorem allJ_alike {L : List Tsk} {l : List Jb} {i k : Nat} (hi : i < l.length) (hk : k < l.length) (hne : i ≠ k) (h : ¬ unlike (at_ l i) (at_ l k)) : allJ L l = false := by
  cases e : allJ L l with
  | false => rfl
  | true => exact absurd (unlike_at.1 (allJ_iff.1 e).2.2.1 i k hi hk hne) h

set_option maxRecDepth 20000 in
set_option maxHeartbeats 6400000 in
theorem refAllJobs_any (A B : Option Addr) (c d : Nat) (L : List Tsk) (l : List Jb) (w : World) (HL : TL w A c L) (hbig : l.length ≤ 1000000) (hr : Rd w B d l) :
    Calls Try.prog 9 #[.slice A L.length c, .slice B l.length d] w fun e w' => e = .returned (.bool (allJ L l)) ∧ Below w.heap.size w w' := by
  have HI := Lib.hid (refAll_any A c L w HL.1 HL.2.1 HL.2.2)
  have HT := Lib.hid HL
  have HR := Lib.hid hr
  clear HL hr
  go_enter Try.func9, Try.ntmps9
  go_wp2_with fail
  refine HI.out.mono ?_
  rintro e w1 ⟨rfl, b1⟩
  have B1 := Lib.hid b1
  have HT1 := Lib.hid (HT.out.below b1)
  have HR1 := Lib.hid (HR.out.below b1)
  clear HI HT HR b1
  cases ha : allB L with
  | false =>
    have HE : Hid (allJ L l = false) := by show _ = _; unfold allJ; rw [ha]; rfl
    clear ha
    go_wp2_with fail
    go_ret
    exact ⟨ret_bool HE.out.symm, B1.out⟩
  | true =>
    have HA := Lib.hid ha
    clear ha
    by_cases h32 : 32 < l.length
    · have i1 : (32 : Int) < (l.length : Int) := by omega
      have i2 : decide ((32 : Int) < (l.length : Int)) = true := decide_eq_true i1
      have HE : Hid (allJ L l = false) := by
        show _ = _
        cases e : allJ L l with
        | false => rfl
        | true => have := (allJ_iff.1 e).2.1; omega
      go_wp2_with fail
      go_ret
      exact ⟨ret_bool HE.out.symm, B1.out⟩
    · have i1 : ¬ (32 : Int) < (l.length : Int) := by omega
      have i2 : decide ((32 : Int) < (l.length : Int)) = false := decide_eq_false i1
      go_wp2_with fail
      go_loopw [5] (fun s5 wr => ∃ i : Nat, s5 = .int .i64 i ∧ i ≤ l.length ∧ Hid (Alls L l i) ∧ Hid (Below w1.heap.size w1 wr)) (fun s5 _ => l.length - (intOf s5).toNat)
      case atStart => exact ⟨0, rfl, Nat.zero_le _, (fun a h => by omega), Below.refl _ _⟩
      case round =>
        obtain ⟨i, rfl, hi, HH, HB⟩ := hrel
        by_cases hlt : i < l.length
        · obtain ⟨b, off, rfl, hc⟩ := job_at HR1.out (by omega)
          have HC := Lib.hid (fun j hj => (hc j hj).1)
          clear hc
          have i3 : (i : Int) < (l.length : Int) := by omega
          have HB0 := HB
          generalize wr = wi at *
          go_wp2_with fail
          go_loopw [6] (fun s6 wr => ∃ k : Nat, s6 = .int .i64 k ∧ k ≤ l.length ∧ Hid (∀ q, q < k → q ≠ i → unlike (at_ l i) (at_ l q)) ∧ Hid (Below w1.heap.size w1 wr)) (fun s6 _ => l.length - (intOf s6).toNat)
          case atStart => exact ⟨0, rfl, Nat.zero_le _, (fun a h => by omega), HB0⟩
          case round =>
            clear HB0
            obtain ⟨k, rfl, hk, HU, HB⟩ := hrel
            by_cases hlk : k < l.length
            · have j1 : (k : Int) < (l.length : Int) := by omega
              by_cases hki : k = i
              · subst hki
                have HU2 : Hid (∀ q, q < k + 1 → q ≠ k → unlike (at_ l k) (at_ l q)) := fun q h1 h2 => HU.out q (by omega) h2
                go_wp2_with fail
                refine wp_region_bw (by kernel_rfl) (by kernel_rfl) ?_
                repeat
                  (with_reducible refine wpQuiet_step (fun K hK => ?_)
                   go_simp
                   first
                     | (with_reducible refine hK _ ?_
                        clear hK K)
                     | (rw [if_neg]
                        rotate_left
                        focus (intro h; cases h; done)
                        with_reducible refine hK _ ?_
                        clear hK K)
                     | (apply Exists.intro
                        refine ⟨fun _ => ?_, hK _ ?_⟩
                        (fail)
                        clear hK K))
                with_reducible refine wpQuiet_nil ?_
                intro wb hw'
                obtain ⟨⟨wb', lb⟩, hw''⟩ := hw'
                subst hw''
                have B2 := Lib.hid (below_step HB.out lb)
                clear lb
                go_wp2_with fail
                go_roundw
                case rel => exact ⟨k + 1, by go_num, by omega, HU2, B2⟩
                case measure => simp [intOf]; omega
              · have j2 : ((k : Int) == (i : Int)) = false := beq_eq_false_iff_ne.2 (by omega)
                have j3 : ((k : Int) != (i : Int)) = true := by rw [bne, j2]; rfl
                have j4 : ¬ (k : Int) = (i : Int) := by omega
                have hx := (HC.out k hlk).below HB.out
                have hy := (HC.out i hlt).below HB.out
                have HU2 : Hid (unlike (at_ l i) (at_ l k) → ∀ q, q < k + 1 → q ≠ i → unlike (at_ l i) (at_ l q)) := fun h q h1 h2 => by
                  by_cases e : q = k
                  · rw [e]; exact h
                  · exact HU.out q (by omega) h2
                have HNO : Hid (¬ unlike (at_ l i) (at_ l k) → allJ L l = false) := fun h => allJ_alike hlt hlk (fun e => hki e.symm) h
                generalize at_ l k = x at *
                generalize at_ l i = y at *
                have x0 := cell_bw hx.c0
                have x1 := cell_bw hx.c1
                have y0 := cell_bw hy.c0
                have y1 := cell_bw hy.c1
                clear hx hy
                by_cases t1 : x.1 = y.1
                · have d1 : (x.1 == y.1) = true := beq_iff_eq.2 t1
                  by_cases t2 : x.2.1 = y.2.1
                  · have d2 : (x.2.1 == y.2.1) = true := beq_iff_eq.2 t2
                    have HE := Lib.hid (HNO.out (fun h => h ⟨t1.symm, t2.symm⟩))
                    clear t1 t2
                    go_wp2_with fail
                    refine wp_region_bw (by kernel_rfl) (by kernel_rfl) ?_
                    repeat
                      (with_reducible refine wpQuiet_step (fun K hK => ?_)
                       go_simp
                       first
                         | (with_reducible refine hK _ ?_
                            clear hK K)
                         | (rw [if_neg]
                            rotate_left
                            focus (intro h; cases h; done)
                            with_reducible refine hK _ ?_
                            clear hK K)
                         | (apply Exists.intro
                            refine ⟨fun _ => ?_, hK _ ?_⟩
                            (fail)
                            clear hK K))
                    with_reducible refine wpQuiet_nil ?_
                    intro wb hw'
                    obtain ⟨⟨wb', lb⟩, hw''⟩ := hw'
                    subst hw''
                    have B2 := Lib.hid (below_step HB.out lb)
                    clear lb
                    go_wp2_with fail
                    try rw [Exit.noGoto_ret]
                    go_ret
                    exact ⟨ret_bool HE.out.symm, below_step B1.out B2.out⟩
                  · have d2 : (x.2.1 == y.2.1) = false := beq_eq_false_iff_ne.2 t2
                    replace HU2 := Lib.hid (HU2.out (fun h => t2 h.2.symm))
                    clear t1 t2
                    go_wp2_with fail
                    refine wp_region_bw (by kernel_rfl) (by kernel_rfl) ?_
                    repeat
                      (with_reducible refine wpQuiet_step (fun K hK => ?_)
                       go_simp
                       first
                         | (with_reducible refine hK _ ?_
                            clear hK K)
                         | (rw [if_neg]
                            rotate_left
                            focus (intro h; cases h; done)
                            with_reducible refine hK _ ?_
                            clear hK K)
                         | (apply Exists.intro
                            refine ⟨fun _ => ?_, hK _ ?_⟩
                            (fail)
                            clear hK K))
                    with_reducible refine wpQuiet_nil ?_
                    intro wb hw'
                    obtain ⟨⟨wb', lb⟩, hw''⟩ := hw'
                    subst hw''
                    have B2 := Lib.hid (below_step HB.out lb)
                    clear lb
                    go_wp2_with fail
                    go_roundw
                    case rel => exact ⟨k + 1, by go_num, by omega, HU2, B2⟩
                    case measure => simp [intOf]; omega
                · have d1 : (x.1 == y.1) = false := beq_eq_false_iff_ne.2 t1
                  replace HU2 := Lib.hid (HU2.out (fun h => t1 h.1.symm))
                  clear t1
                  go_wp2_with fail
                  refine wp_region_bw (by kernel_rfl) (by kernel_rfl) ?_
                  repeat
                    (with_reducible refine wpQuiet_step (fun K hK => ?_)
                     go_simp
                     first
                       | (with_reducible refine hK _ ?_
                          clear hK K)
                       | (rw [if_neg]
                          rotate_left
                          focus (intro h; cases h; done)
                          with_reducible refine hK _ ?_
                          clear hK K)
                       | (apply Exists.intro
                          refine ⟨fun _ => ?_, hK _ ?_⟩
                          (fail)
                          clear hK K))
                  with_reducible refine wpQuiet_nil ?_
                  intro wb hw'
                  obtain ⟨⟨wb', lb⟩, hw''⟩ := hw'
                  subst hw''
                  have B2 := Lib.hid (below_step HB.out lb)
                  clear lb
                  go_wp2_with fail
                  go_roundw
                  case rel => exact ⟨k + 1, by go_num, by omega, HU2, B2⟩
                  case measure => simp [intOf]; omega
            · have hkl : k = l.length := by omega
              have j1 : ¬ (k : Int) < (l.length : Int) := by omega
              have hx := (HC.out i hlt).below HB.out
              have HS : Hid (rightJ L (at_ l i) = true → Alls L l (i + 1)) := fun h a h1 => by
                by_cases e : a = i
                · subst e; exact ⟨h, fun q h2 h3 => HU.out q (by omega) h3⟩
                · exact HH.out a (by omega)
              have HNO : Hid (rightJ L (at_ l i) = false → allJ L l = false) := fun h => allJ_wrong hlt h
              clear hkl
              generalize at_ l i = x at *
              have x0 := hx.c0
              have x1 := hx.c1
              have x2 := hx.c2
              have x3 := hx.c3
              have x4 := hx.c4
              have x5 := hx.c5
              clear hx
              go_wp2_with fail
              refine (refJobRight_any A c L x _ HA.out (HT1.out.below HB.out)).mono ?_
              rintro e w2 ⟨rfl, b2⟩
              have B2 := Lib.hid (below_step HB.out b2)
              clear b2
              cases hrj : rightJ L x with
              | true =>
                have HS2 := Lib.hid (HS.out hrj)
                clear hrj
                go_wp2_with fail
                go_roundw
                case rel => exact ⟨i + 1, by go_num, hlt, HS2, B2⟩
                case measure => simp [intOf]; omega
              | false =>
                have HE := Lib.hid (HNO.out hrj)
                clear hrj
                go_wp2_with fail
                try rw [Exit.noGoto_ret]
                go_ret
                exact ⟨ret_bool HE.out.symm, below_step B1.out B2.out⟩
        · have hil : i = l.length := by omega
          have i3 : ¬ (i : Int) < (l.length : Int) := by omega
          have HE : Hid (allJ L l = true) := Alls.all HA.out (by omega) (by have := HH.out; rwa [hil] at this)
          clear hil
          go_wp2_with fail
          go_ret
          exact ⟨ret_bool HE.out.symm, below_step B1.out HB.out⟩

/-- tasks and jobs that are more than is looked at -/
def greatJ (L : List Tsk) (l : List Jb) : Bool := greatB L || decide (50 < l.length)
theorem greatJ_no {L : List Tsk} {l : List Jb} (h : greatJ L l = false) : L.length ≤ 20 ∧ (∀ j, j < L.length → (at_ L j).2.2.2.length ≤ 20) ∧ l.length ≤ 50 := by
  unfold greatJ at h
  rw [Bool.or_eq_false_iff, decide_eq_false_iff_not] at h
  obtain ⟨h1, h2⟩ := great_no h.1
  exact ⟨h1, h2, by omega⟩
set_option maxHeartbeats 1600000 in
theorem greatJ_any (A B : Option Addr) (c d : Nat) (L : List Tsk) (l : List Jb) (w : World) (hr : Rd w A c L) :
    Calls Try.prog 6 #[.slice A L.length c, .slice B l.length d] w fun e w' => e = .returned (.bool (greatJ L l)) ∧ Below w.heap.size w w' := by
  have HI := Lib.hid (great_any A c L w hr)
  clear hr
  go_enter Try.func6, Try.ntmps6
  go_wp2_with fail
  refine HI.out.mono ?_
  rintro e w1 ⟨rfl, b1⟩
  have B1 := Lib.hid b1
  clear b1
  have HE : Hid (greatJ L l = (greatB L || decide (50 < l.length))) := rfl
  cases hg : greatB L with
  | true =>
    rw [hg] at HE
    clear hg
    go_wp2_with fail
    go_ret
    exact ⟨ret_bool HE.out.symm, B1.out⟩
  | false =>
    rw [hg] at HE
    clear hg
    by_cases h : 50 < l.length
    · have i1 : (50 : Int) < (l.length : Int) := by omega
      have i2 : decide ((50 : Int) < (l.length : Int)) = true := decide_eq_true i1
      rw [decide_eq_true h] at HE
      go_wp2_with fail
      go_ret
      exact ⟨ret_bool HE.out.symm, B1.out⟩
    · have i1 : ¬ (50 : Int) < (l.length : Int) := by omega
      have i2 : decide ((50 : Int) < (l.length : Int)) = false := decide_eq_false i1
      rw [decide_eq_false h] at HE
      go_wp2_with fail
      go_ret
      exact ⟨ret_bool HE.out.symm, B1.out⟩

end Pm
end Go.Proofs.Ytdibiidpknckfaa

/-
  Layer 14: the document's answers Held, of a task and of jobs.
-/
namespace Go.Proofs.Ytdibiidpknckfaa
open Go.RowKit Mm Tk
namespace Pm

set_option maxRecDepth 20000 in
set_option maxHeartbeats 3200000 in
theorem refHeld_any (C D T : Int) (A : Option Addr) (c : Nat) (l : List Sc) (had : Int) (w : World) (hrt : rightB C D T l = true) (hr : Rd w A c l) :
    Calls Try.prog 22 #[.agg #[.int .i64 C, .int .i64 D, .int .i64 T, .slice A l.length c], .int .i64 had] w (IntsOf w (heldL l had)) := by
  have HB0 := Lib.hid (below_one w (Obj.cells #[.int .i64 C, .int .i64 D, .int .i64 T, .slice A l.length c] 42))
  have HX0 := Lib.hid (box_new w C D T A l.length c)
  have HV := Lib.hid (ok_of hrt).1
  obtain ⟨ht0, hl4, -, -⟩ := rightB_iff.1 hrt
  obtain ⟨hC0, hC1, hC2, hC3⟩ := times_iff.1 ht0
  clear ht0 hrt
  have HR := Lib.hid (hr.below HB0.out)
  clear hr
  go_enter Try.func22, Try.ntmps22
  go_wp2_with fail
  generalize w.alloc (Obj.cells #[.int .i64 C, .int .i64 D, .int .i64 T, .slice A l.length c] 42) = w0 at *
  go_loopw [5, 6] (fun o i wr => ∃ (k : Nat) (A' : Option Addr) (n c' : Nat), i = .int .i64 k ∧ k ≤ l.length ∧ o = .slice A' n c' ∧ n ≤ k ∧ Hid ((heldL (l.take k) had).length = n) ∧ Hid (Ow wr w0.heap.size 3 A' c' (heldL (l.take k) had)) ∧ Hid (Below w0.heap.size w0 wr)) (fun _ i _ => l.length - (intOf i).toNat)
  case atStart => exact ⟨0, none, 0, 0, rfl, Nat.zero_le _, rfl, Nat.le_refl _, rfl, ow_none _ _ _, Below.refl _ _⟩
  case round =>
    obtain ⟨k, A', n, c', rfl, hk, rfl, hn, HN, HO, HB⟩ := hrel
    obtain ⟨-, -, -, t4⟩ := HX0.out.below HB.out
    by_cases hlt : k < l.length
    · obtain ⟨b, off, rfl, hc⟩ := sec_at (HR.out.below HB.out) (by omega)
      obtain ⟨x1, x2, x3, f1, -, -⟩ := hc k hlt
      obtain ⟨s1, s2, s3, s4, s5⟩ := sec_iff.1 (HV.out _ (at_mem hlt))
      have HYS : Hid (holdB had (at_ l k) = true → heldL (l.take (k + 1)) had = heldL (l.take k) had ++ [(at_ l k).1]) := fun h => heldL_yes hlt h
      have HNO : Hid (holdB had (at_ l k) = false → heldL (l.take (k + 1)) had = heldL (l.take k) had) := fun h => heldL_no hlt h
      clear hc
      have i1 : (k : Int) < (l.length : Int) := by omega
      generalize at_ l k = x at *
      have e1 : IntKind.i64.wrap (x.2.1 + x.2.2) = x.2.1 + x.2.2 := IntWalk.i64_in _ (by omega)
      have T4 := Lib.hid t4
      have X1 := Lib.hid x1
      have X2 := Lib.hid x2
      have X3 := Lib.hid x3
      go_wp2_with fail
      replace t4 := cell_bw t4
      replace x1 := cell_bw x1
      replace x2 := cell_bw x2
      replace x3 := cell_bw x3
      refine wp_region_bw (by kernel_rfl) (by kernel_rfl) ?_
      repeat
        (with_reducible refine wpQuiet_step (fun K hK => ?_)
         go_simp
         first
           | (with_reducible refine hK _ ?_
              clear hK K)
           | (rw [if_neg]
              rotate_left
              focus (intro h; cases h; done)
              with_reducible refine hK _ ?_
              clear hK K)
           | (apply Exists.intro
              refine ⟨fun _ => ?_, hK _ ?_⟩
              (fail)
              clear hK K))
      with_reducible refine wpQuiet_nil ?_
      intro wb hw'
      obtain ⟨⟨wb', lb⟩, hw''⟩ := hw'
      subst hw''
      clear t4 x1 x2 x3
      have t4 := cell_below lb T4.out
      have x1 := cell_below lb X1.out
      have x2 := cell_below lb X2.out
      have x3 := cell_below lb X3.out
      have HB2 := Lib.hid (below_step HB.out lb)
      have HO2 := Lib.hid (Ow.below HO.out lb (Nat.le_refl _))
      clear lb HB HO T4 X1 X2 X3
      by_cases h1 : x.2.1 < had
      · have d1 : decide (x.2.1 < had) = true := decide_eq_true h1
        by_cases h2 : x.2.1 + x.2.2 ≤ had
        · have d2 : decide (x.2.1 + x.2.2 ≤ had) = true := decide_eq_true h2
          have HS := Lib.hid (HNO.out (by unfold holdB; rw [Bool.and_eq_false_iff]; right; exact decide_eq_false (by omega)))
          have HN2 : Hid ((heldL (l.take (k + 1)) had).length = n) := by show _ = _; rw [HS.out]; exact HN.out
          rw [← HS.out] at HO2
          go_wp2_with fail
          go_roundw
          case rel => exact ⟨k + 1, A', n, c', by go_num, hlt, rfl, by omega, HN2, HO2, HB2⟩
          case measure => simp [intOf]; omega
        · have d2 : decide (x.2.1 + x.2.2 ≤ had) = false := decide_eq_false h2
          have HS := Lib.hid (HYS.out (by unfold holdB; rw [Bool.and_eq_true]; exact ⟨decide_eq_true h1, decide_eq_true (by omega)⟩))
          have HN2 : Hid ((heldL (l.take (k + 1)) had).length = n + 1) := by show _ = _; rw [HS.out, List.length_append, HN.out]; rfl
          have bA := below_one wb (Obj.cells #[.int .i64 x.1] 3)
          have HDA := Lib.hid (rd_new1 wb 3 x.1 f1)
          have HRA := Lib.hid (Ow.alloc HO2.out (Obj.cells #[.int .i64 x.1] 3))
          have BA := Lib.hid (below_step HB2.out bA)
          clear bA
          go_wp2_with (at_builtin
                       refine list_app_n slInts rfl _ _ rfl (base := w0.heap.size) (l := heldL (l.take k) had) (r := [x.1]) (n := n) (m := 1) HN.out rfl rfl rfl HRA.out HDA.out (by omega) (by have := BA.out.size; exact this) ?_
                       intro A3 c3 w3 k1 k2 k3
                       have O3 := Lib.hid k1
                       have B3 := Lib.hid (BA.out.trans k2)
                       clear k1 k2 k3)
          rw [← HS.out] at O3
          go_roundw
          case rel => exact ⟨k + 1, A3, n + 1, c3, by go_num, hlt, rfl, by omega, HN2, O3, B3⟩
          case measure => simp [intOf]; omega
      · have d1 : decide (x.2.1 < had) = false := decide_eq_false h1
        have HS := Lib.hid (HNO.out (by unfold holdB; rw [Bool.and_eq_false_iff]; left; exact decide_eq_false (by omega)))
        have HN2 : Hid ((heldL (l.take (k + 1)) had).length = n) := by show _ = _; rw [HS.out]; exact HN.out
        rw [← HS.out] at HO2
        go_wp2_with fail
        go_roundw
        case rel => exact ⟨k + 1, A', n, c', by go_num, hlt, rfl, by omega, HN2, HO2, HB2⟩
        case measure => simp [intOf]; omega
    · have hkl : k = l.length := by omega
      subst hkl
      rw [List.take_length] at HN HO
      go_wp2_with fail
      go_ret
      exact ⟨A', c', by rw [HN.out]; rfl, HO.out.rebase HB0.out.size, below_step HB0.out HB.out⟩

set_option maxRecDepth 20000 in
set_option maxHeartbeats 3200000 in
theorem refHeldJobs_any (A B : Option Addr) (c d : Nat) (L : List Tsk) (l : List Jb) (w : World) (HL : TL w A c L) (hr : Rd w B d l) (ha : allJ L l = true) :
    Calls Try.prog 11 #[.slice A L.length c, .slice B l.length d] w (IntsOf w (heldAll L l)) := by
  have HA := Lib.hid (allJ_iff.1 ha)
  have h32 := HA.out.2.1
  have HT1 := Lib.hid HL
  have HR1 := Lib.hid hr
  clear HL hr ha
  go_enter Try.func11, Try.ntmps11
  go_wp2_with fail
  go_loopw [5, 6] (fun o i wr => ∃ (k : Nat) (A' : Option Addr) (n c' : Nat), i = .int .i64 k ∧ k ≤ l.length ∧ o = .slice A' n c' ∧ n ≤ 4 * k ∧ Hid ((heldAll L (l.take k)).length = n) ∧ Hid (Ow wr w.heap.size 3 A' c' (heldAll L (l.take k))) ∧ Hid (Below w.heap.size w wr)) (fun _ i _ => l.length - (intOf i).toNat)
  case atStart => exact ⟨0, none, 0, 0, rfl, Nat.zero_le _, rfl, Nat.le_refl _, rfl, ow_none _ _ _, Below.refl _ _⟩
  case round =>
    obtain ⟨k, A', n, c', rfl, hk, rfl, hn, HN, HO, HB⟩ := hrel
    by_cases hlt : k < l.length
    · obtain ⟨b, off, rfl, hc⟩ := job_at (HR1.out.below HB.out) (by omega)
      have hx := (hc k hlt).1
      have hrj := HA.out.2.2.2 _ (at_mem hlt)
      have HS : Hid (heldAll L (l.take (k + 1)) = heldAll L (l.take k) ++ (if begJ (at_ l k) then heldJ L (at_ l k) else [])) := by show _ = _; rw [take_succ_at hlt, heldAll_append]
      clear hc
      have i3 : (k : Int) < (l.length : Int) := by omega
      generalize at_ l k = x at *
      have x0 := hx.c0
      have x4 := hx.c4
      have x5 := hx.c5
      clear hx
      cases hb : x.2.2.2.2.2 with
      | false =>
        have HS2 : Hid (heldAll L (l.take (k + 1)) = heldAll L (l.take k)) := by
          show _ = _
          rw [HS.out, show begJ x = false from hb]
          simp
        rw [← HS2.out] at HN HO
        rw [hb] at x5
        go_wp2_with fail
        go_roundw
        case rel => exact ⟨k + 1, A', n, c', by go_num, hlt, rfl, by omega, HN, HO, HB⟩
        case measure => simp [intOf]; omega
      | true =>
        obtain ⟨h0, h1, -⟩ := rightJ_iff.1 hrj
        have i1 : 0 ≤ x.1 := h0
        have i2 : x.1 < (L.length : Int) := h1
        have h2 : x.1.toNat < L.length := by omega
        have hal := HA.out.1
        have hal4 := (allB_at hal h2).2.2.2.2.2
        have HRT : Hid (rightT (at_ L x.1.toNat) = true) := by
          show _ = _
          unfold allB at hal
          rw [Bool.and_eq_true, List.all_eq_true] at hal
          exact hal.2 _ (at_mem h2)
        obtain ⟨q, off2, rfl, hc2⟩ := task_at (HT1.out.below HB.out).2.2 (by omega)
        obtain ⟨B3, d3, t1, t2, t3, t4, -, -, -, hr3⟩ := hc2 _ h2
        have HR3 := Lib.hid hr3.rd
        have HHJ : Hid (heldJ L x = heldL (at_ L x.1.toNat).2.2.2 x.2.2.2.2.1) := rfl
        have HQ : Hid (q < w.heap.size) := by
          obtain ⟨b', off', e, hc⟩ := task_at HT1.out.2.2 (by omega)
          injection e with e
          injection e with e1 e2
          subst e1
          subst e2
          obtain ⟨_, _, u1, _⟩ := hc _ h2
          exact lt_of_cell u1
        have HQB : Hid (b < w.heap.size) := by
          obtain ⟨b', off', e, hc⟩ := job_at HR1.out (by omega)
          injection e with e
          injection e with e1 e2
          subst e1
          subst e2
          exact lt_of_cell (hc k hlt).1.c0
        clear hc2 h0 h1 hrj hal
        have hl4 := heldL_length (at_ L x.1.toNat).2.2.2 x.2.2.2.2.1
        generalize at_ L x.1.toNat = y at *
        have HS2 : Hid (heldAll L (l.take (k + 1)) = heldAll L (l.take k) ++ heldL y.2.2.2 x.2.2.2.2.1) := by
          show _ = _
          rw [HS.out, show begJ x = true from hb, HHJ.out]
          rfl
        obtain ⟨hs, ehs⟩ : ∃ hs, heldL y.2.2.2 x.2.2.2.2.1 = hs := ⟨_, rfl⟩
        have HC := fun W => refHeld_any y.1 y.2.1 y.2.2.1 B3 d3 y.2.2.2 x.2.2.2.2.1 W HRT.out
        rw [ehs] at HC
        rw [ehs] at HS2 hl4
        have hl5 : hs.length ≤ 4 := by omega
        obtain ⟨m, hm⟩ : ∃ m, hs.length = m := ⟨_, rfl⟩
        unfold IntsOf at HC
        rw [hm] at HC
        have HCC := Lib.hid HC
        have HM := Lib.hid hm
        have hm4 : m ≤ 4 := by omega
        rw [hb] at x5
        have NM : Hid (n + m ≤ 1000000) := by show _ ≤ _; omega
        have HNE : Hid (∀ k, k < w.heap.size → some k ≠ (Value.slice A' n c').ownBlock) := fun k hk e => by
          have := Ow.own_lt HO.out HN.out k e.symm
          omega
        clear HC ehs hm hl4 hl5 hal4 HHJ HRT hr3
        go_wp2_with fail
        have HD := Lib.hid ((Below.refl wr.heap.size wr).drew)
        go_region_held3 (fun w' => w'.cell? ⟨b, off + k * 6, none⟩ = some (.int .i64 x.1) ∧ w'.cell? ⟨b, off + k * 6 + 4, none⟩ = some (.int .i64 x.2.2.2.2.1) ∧ w'.cell? ⟨q, off2 + x.1.toNat * 4, none⟩ = some (.int .i64 y.1) ∧ w'.cell? ⟨q, off2 + x.1.toNat * 4 + 1, none⟩ = some (.int .i64 y.2.1) ∧ w'.cell? ⟨q, off2 + x.1.toNat * 4 + 2, none⟩ = some (.int .i64 y.2.2.1) ∧ w'.cell? ⟨q, off2 + x.1.toNat * 4 + 3, none⟩ = some (.slice B3 y.2.2.2.length d3))
          (first
            | (exact ⟨gb_cell G5.out (cell_below B3'.out x0) (HNE.out _ HQB.out), gb_cell G5.out (cell_below B3'.out x4) (HNE.out _ HQB.out), gb_cell G5.out (cell_below B3'.out t1) (HNE.out _ HQ.out), gb_cell G5.out (cell_below B3'.out t2) (HNE.out _ HQ.out), gb_cell G5.out (cell_below B3'.out t3) (HNE.out _ HQ.out), gb_cell G5.out (cell_below B3'.out t4) (HNE.out _ HQ.out)⟩)
            | (exact ⟨cell_below B3'.out x0, cell_below B3'.out x4, cell_below B3'.out t1, cell_below B3'.out t2, cell_below B3'.out t3, cell_below B3'.out t4⟩)
            | (exact ⟨x0, x4, t1, t2, t3, t4⟩))
          (first
            | (refine step_app_n slInts (by rfl) _ _ (by rfl) (base := w.heap.size) (l := heldAll L (l.take k)) (r := hs) (n := n) (m := m) HN.out HM.out (by rfl) (by rfl) (by exact O3.out) (by exact R3.out) NM.out B4.out.size ?_
               intro A5 c5 w5 k1 k2 k3
               have O5 := Lib.hid k1
               have B5 := Lib.hid (B4.out.trans k2)
               have G5 := Lib.hid k3
               clear k1 k2 k3)
            | (go_at_call 22
               refine (HCC.out _ (by exact HR3.out.below HD.out)).mono ?_
               rintro e w3 ⟨A3, c3, rfl, k1, k2⟩
               have R3 := Lib.hid (Ow.rd k1)
               have B3' := Lib.hid (HD.out.trans k2)
               have O3 := Lib.hid (Ow.below HO.out B3'.out (Nat.le_refl _))
               have B4 := Lib.hid (below_step HB.out B3'.out)
               clear k1 k2))
        go_split_ands
        rw [← HS2.out] at O5
        have HN2 : Hid ((heldAll L (l.take (k + 1))).length = n + m) := by show _ = _; rw [HS2.out, List.length_append, HN.out, HM.out]
        go_wp2_with fail
        go_roundw
        case rel => exact ⟨k + 1, A5, n + m, c5, by go_num, hlt, rfl, by omega, HN2, O5, B5⟩
        case measure => simp [intOf]; omega
    · have hkl : k = l.length := by omega
      subst hkl
      rw [List.take_length] at HN HO
      go_wp2_with fail
      go_ret
      exact ⟨A', c', by rw [HN.out]; rfl, HO.out, HB.out⟩

end Pm
end Go.Proofs.Ytdibiidpknckfaa

/-
  Layer 14: the helpers Same, at equal jobs, and knows: the document's examples.
-/
namespace Go.Proofs.Ytdibiidpknckfaa
open Go.RowKit Mm Tk
namespace Pm

theorem neSelf (x : Jb) (w : World) : (binOp .neq 30 (.agg #[(.int .i64 x.1), (.int .i64 x.2.1), (.int .i64 x.2.2.1), (.int .i64 x.2.2.2.1), (.int .i64 x.2.2.2.2.1), (.bool x.2.2.2.2.2)]) (.agg #[(.int .i64 x.1), (.int .i64 x.2.1), (.int .i64 x.2.2.1), (.int .i64 x.2.2.2.1), (.int .i64 x.2.2.2.2.1), (.bool x.2.2.2.2.2)])).run Try.prog w = .ok (.bool false) w := by
  rw [neJob, decide_eq_true rfl]
  rfl
section
attribute [local go_sem ↓] neSelf
set_option maxRecDepth 20000 in
set_option maxHeartbeats 3200000 in
theorem sameJobs_one (A B : Option Addr) (c d : Nat) (l : List Jb) (n : Nat) (hn : l.length = n) (hbig : n ≤ 1000000) (w : World) (H1 : Rd w A c l) (H2 : Rd w B d l) :
    Calls Try.prog 14 #[.slice A n c, .slice B n d] w fun e w' => e = .returned (.bool true) ∧ Below w.heap.size w w' := by
  subst hn
  have HA := Lib.hid H1
  have HB := Lib.hid H2
  clear H1 H2
  go_enter Try.func14, Try.ntmps14
  go_wp2_with fail
  go_loopw [5] (fun i wr => ∃ k : Nat, i = .int .i64 k ∧ k ≤ l.length ∧ Hid (Below w.heap.size w wr)) (fun i _ => l.length - (intOf i).toNat)
  case atStart => exact ⟨0, rfl, Nat.zero_le _, Below.refl _ _⟩
  case round =>
    obtain ⟨k, rfl, hk, HBL⟩ := hrel
    by_cases hlt : k < l.length
    · obtain ⟨b, off, rfl, hc⟩ := job_at (HA.out.below HBL.out) (by omega)
      have hx := (hc k hlt).1
      clear hc
      obtain ⟨b2, off2, rfl, hc⟩ := job_at (HB.out.below HBL.out) (by omega)
      have hy := (hc k hlt).1
      clear hc
      generalize at_ l k = x at *
      have i1 : (0 : Int) ≤ (k : Int) := by omega
      have i2 : (k : Int) < (l.length : Int) := by omega
      have x0 := hx.c0
      have x0_1 := hx.c1
      have x0_2 := hx.c2
      have x0_3 := hx.c3
      have x0_4 := hx.c4
      have x0_5 := hx.c5
      have y0 := hy.c0
      have y0_1 := hy.c1
      have y0_2 := hy.c2
      have y0_3 := hy.c3
      have y0_4 := hy.c4
      have y0_5 := hy.c5
      clear hx hy
      go_wp2_with fail
      replace x0 := cell_bw x0
      replace x0_1 := cell_bw x0_1
      replace x0_2 := cell_bw x0_2
      replace x0_3 := cell_bw x0_3
      replace x0_4 := cell_bw x0_4
      replace x0_5 := cell_bw x0_5
      replace y0 := cell_bw y0
      replace y0_1 := cell_bw y0_1
      replace y0_2 := cell_bw y0_2
      replace y0_3 := cell_bw y0_3
      replace y0_4 := cell_bw y0_4
      replace y0_5 := cell_bw y0_5
      refine wp_region_bw (by kernel_rfl) (by kernel_rfl) ?_
      repeat
        (with_reducible refine wpQuiet_step (fun K hK => ?_)
         go_simp
         first
           | (with_reducible refine hK _ ?_
              clear hK K)
           | (rw [if_neg]
              rotate_left
              focus (intro h; cases h; done)
              with_reducible refine hK _ ?_
              clear hK K)
           | (apply Exists.intro
              refine ⟨fun _ => ?_, hK _ ?_⟩
              (fail)
              clear hK K))
      with_reducible refine wpQuiet_nil ?_
      intro wb hw'
      obtain ⟨⟨wb', lb⟩, hw''⟩ := hw'
      subst hw''
      have HB2 := Lib.hid (below_step HBL.out lb)
      clear lb
      go_wp2_with fail
      go_roundw
      case rel => exact ⟨k + 1, by go_num, hlt, HB2⟩
      case measure => (simp [intOf] <;> omega)
    · go_wp2_with fail
      go_ret
      exact ⟨rfl, HBL.out⟩
end

def exA : Jb := (1, 0, 9, 0, 0, false)
def exB : Jb := (2, 0, 9, 0, 0, false)
def exC : Jb := (0, 0, 10, 0, 0, false)
def exJ : Jb := (0, 4, 9, 3, 1, true)
def exTs : List Tsk := [(3, 5, 9, [(2, 0, 2)])]
theorem exAB : aheadB exA exB = true := by decide
theorem exBC : aheadB exB exC = true := by decide
theorem exCA : aheadB exC exA = false := by decide
theorem exF : firstI [exC, exB, exA] false = 2 := by decide +kernel
theorem exN : firstI [] true = -1 := by decide +kernel
theorem exRJ : (allB exTs && rightJ exTs exJ) = true := by decide +kernel
theorem exH : heldP exTs [exJ] = [2] := by decide +kernel

/-- the world behind the examples' literals -/
def exW (w : World) : World := (((((((w.alloc (Obj.cells #[.int .i64 1, .int .i64 0, .int .i64 9, .int .i64 0, .int .i64 0, .bool false] 30)).alloc (Obj.cells #[.int .i64 2, .int .i64 0, .int .i64 9, .int .i64 0, .int .i64 0, .bool false] 30)).alloc (Obj.cells #[.int .i64 0, .int .i64 0, .int .i64 10, .int .i64 0, .int .i64 0, .bool false] 30)).alloc (Obj.cells #[.int .i64 2, .int .i64 0, .int .i64 2] 39)).alloc (Obj.cells #[.int .i64 3, .int .i64 5, .int .i64 9, .slice (some ⟨w.heap.size + 1 + 1 + 1, 0, none⟩) 1 1] 42)).alloc (Obj.cells #[.int .i64 0, .int .i64 4, .int .i64 9, .int .i64 3, .int .i64 1, .bool true] 30)).alloc (Obj.cells #[.int .i64 0, .int .i64 4, .int .i64 9, .int .i64 3, .int .i64 1, .bool true] 30))
theorem exW_eq (w : World) : (((((((w.alloc (Obj.cells #[.int .i64 1, .int .i64 0, .int .i64 9, .int .i64 0, .int .i64 0, .bool false] 30)).alloc (Obj.cells #[.int .i64 2, .int .i64 0, .int .i64 9, .int .i64 0, .int .i64 0, .bool false] 30)).alloc (Obj.cells #[.int .i64 0, .int .i64 0, .int .i64 10, .int .i64 0, .int .i64 0, .bool false] 30)).alloc (Obj.cells #[.int .i64 2, .int .i64 0, .int .i64 2] 39)).alloc (Obj.cells #[.int .i64 3, .int .i64 5, .int .i64 9, .slice (some ⟨w.heap.size + 1 + 1 + 1, 0, none⟩) 1 1] 42)).alloc (Obj.cells #[.int .i64 0, .int .i64 4, .int .i64 9, .int .i64 3, .int .i64 1, .bool true] 30)).alloc (Obj.cells #[.int .i64 0, .int .i64 4, .int .i64 9, .int .i64 3, .int .i64 1, .bool true] 30)) = exW w := rfl
/-- what lies in it -/
structure ExL (v : World) (X : Nat) : Prop where
  a : CJ v X 0 exA
  b : CJ v (X + 1) 0 exB
  c : CJ v (X + 1 + 1) 0 exC
  j : CJ v (X + 1 + 1 + 1 + 1 + 1) 0 exJ
  l : TL v (some ⟨X + 1 + 1 + 1 + 1, 0, none⟩) 1 exTs
  r : Rd v (some ⟨X + 1 + 1 + 1 + 1 + 1 + 1, 0, none⟩) 1 [exJ]
theorem ExL.below {v v' : World} {X : Nat} (h : ExL v X) (hb : Below v.heap.size v v') : ExL v' X := ⟨h.a.below hb, h.b.below hb, h.c.below hb, h.j.below hb, h.l.below hb, h.r.below hb⟩
theorem cj_lit (w : World) (x : Jb) (X : Nat) (h : w.heap.size = X) : CJ (w.alloc (.cells #[(.int .i64 x.1), (.int .i64 x.2.1), (.int .i64 x.2.2.1), (.int .i64 x.2.2.2.1), (.int .i64 x.2.2.2.2.1), (.bool x.2.2.2.2.2)] 30)) X 0 x := cj_new w x X h
theorem rows_job {w : World} {S : Nat → Prop} {r : List Value} {l : List Jb} (x : Jb) (f : FitJ x) (h : Mm.Rows w S r l) : Mm.Rows w S (.int .i64 x.1 :: .int .i64 x.2.1 :: .int .i64 x.2.2.1 :: .int .i64 x.2.2.2.1 :: .int .i64 x.2.2.2.2.1 :: .bool x.2.2.2.2.2 :: r) (x :: l) :=
  ⟨[.int .i64 x.1, .int .i64 x.2.1, .int .i64 x.2.2.1, .int .i64 x.2.2.2.1, .int .i64 x.2.2.2.2.1, .bool x.2.2.2.2.2], r, rfl, rd_job.2 ⟨rfl, f⟩, h⟩
theorem fitJ_small {x : Jb} (h : decide (0 ≤ x.1 ∧ x.1 ≤ 1000000) = true) (h1 : decide (0 ≤ x.2.1 ∧ x.2.1 ≤ 1000000) = true) (h2 : decide (0 ≤ x.2.2.1 ∧ x.2.2.1 ≤ 1000000) = true) (h3 : decide (0 ≤ x.2.2.2.1 ∧ x.2.2.2.1 ≤ 1000000) = true) (h4 : decide (0 ≤ x.2.2.2.2.1 ∧ x.2.2.2.2.1 ≤ 1000000) = true) : FitJ x :=
  ⟨fit_small h, fit_small h1, fit_small h2, fit_small h3, fit_small h4⟩
theorem exFA : FitJ exA := fitJ_small (by decide) (by decide) (by decide) (by decide) (by decide)
theorem exFB : FitJ exB := fitJ_small (by decide) (by decide) (by decide) (by decide) (by decide)
theorem exFC : FitJ exC := fitJ_small (by decide) (by decide) (by decide) (by decide) (by decide)
theorem exFJ : FitJ exJ := fitJ_small (by decide) (by decide) (by decide) (by decide) (by decide)
theorem ex_lay (w : World) : ExL (exW w) w.heap.size ∧ Below w.heap.size w (exW w) := by
  have e : ∀ (v : World) (o : Obj), (v.alloc o).heap.size = v.heap.size + 1 := fun v o => by simp
  have nx : ∀ (v : World) (o : Obj), Below v.heap.size v (v.alloc o) := below_one
  unfold exW
  refine ⟨⟨?_, ?_, ?_, ?_, ?_, ?_⟩, ?_⟩
  · exact ((((((cj_lit w exA _ rfl).below (nx _ _)).below (nx _ _)).below (nx _ _)).below (nx _ _)).below (nx _ _)).below (nx _ _)
  · exact (((((cj_lit _ exB _ (by simp only [e])).below (nx _ _)).below (nx _ _)).below (nx _ _)).below (nx _ _)).below (nx _ _)
  · exact ((((cj_lit _ exC _ (by simp only [e])).below (nx _ _)).below (nx _ _)).below (nx _ _)).below (nx _ _)
  · exact (cj_lit _ exJ _ (by simp only [e])).below (nx _ _)
  · refine ⟨by decide, fun k hk => ?_, ?_⟩
    · have : k = 0 := by simp [exTs] at hk; omega
      subst this
      decide
    · have hs := rd_lit (((w.alloc (Obj.cells #[.int .i64 1, .int .i64 0, .int .i64 9, .int .i64 0, .int .i64 0, .bool false] 30)).alloc (Obj.cells #[.int .i64 2, .int .i64 0, .int .i64 9, .int .i64 0, .int .i64 0, .bool false] 30)).alloc (Obj.cells #[.int .i64 0, .int .i64 0, .int .i64 10, .int .i64 0, .int .i64 0, .bool false] 30)) [((2, 0, 2) : Sc)] 1 rfl #[.int .i64 2, .int .i64 0, .int .i64 2] 39 (by decide) (rows_sec (2, 0, 2) (fit_small (by decide)) (fit_small (by decide)) (fit_small (by decide)) rows_none)
      simp only [e] at hs
      have ht := rd_lit ((((w.alloc (Obj.cells #[.int .i64 1, .int .i64 0, .int .i64 9, .int .i64 0, .int .i64 0, .bool false] 30)).alloc (Obj.cells #[.int .i64 2, .int .i64 0, .int .i64 9, .int .i64 0, .int .i64 0, .bool false] 30)).alloc (Obj.cells #[.int .i64 0, .int .i64 0, .int .i64 10, .int .i64 0, .int .i64 0, .bool false] 30)).alloc (Obj.cells #[.int .i64 2, .int .i64 0, .int .i64 2] 39)) exTs 1 rfl #[.int .i64 3, .int .i64 5, .int .i64 9, .slice (some ⟨w.heap.size + 1 + 1 + 1, 0, none⟩) 1 1] 42 (by decide) (rows_task (3, 5, 9, [(2, 0, 2)]) rfl (fit_small (by decide)) (fit_small (by decide)) (fit_small (by decide)) (hs.below (nx _ _)) rows_none)
      simp only [e] at ht
      exact (ht.below (nx _ _)).below (nx _ _)
  · have hj := rd_lit ((((((w.alloc (Obj.cells #[.int .i64 1, .int .i64 0, .int .i64 9, .int .i64 0, .int .i64 0, .bool false] 30)).alloc (Obj.cells #[.int .i64 2, .int .i64 0, .int .i64 9, .int .i64 0, .int .i64 0, .bool false] 30)).alloc (Obj.cells #[.int .i64 0, .int .i64 0, .int .i64 10, .int .i64 0, .int .i64 0, .bool false] 30)).alloc (Obj.cells #[.int .i64 2, .int .i64 0, .int .i64 2] 39)).alloc (Obj.cells #[.int .i64 3, .int .i64 5, .int .i64 9, .slice (some ⟨w.heap.size + 1 + 1 + 1, 0, none⟩) 1 1] 42)).alloc (Obj.cells #[.int .i64 0, .int .i64 4, .int .i64 9, .int .i64 3, .int .i64 1, .bool true] 30)) [exJ] 1 rfl #[.int .i64 0, .int .i64 4, .int .i64 9, .int .i64 3, .int .i64 1, .bool true] 30 (by decide) (rows_job exJ exFJ rows_none)
    simp only [e] at hj
    exact hj
  · exact below_step (below_step (below_step (below_step (below_step (below_step (nx _ _) (nx _ _)) (nx _ _)) (nx _ _)) (nx _ _)) (nx _ _)) (nx _ _)

theorem first_v (A : Option Addr) (c : Nat) (l : List Jb) (b : Bool) (v : Int) (hv : firstI l b = v) (w : World) (hbig : l.length ≤ 1000000) (hr : Rd w A c l) :
    Calls Try.prog 15 #[.slice A l.length c, .bool b] w fun e w' => e = .returned (.int .i64 v) ∧ Below w.heap.size w w' := hv ▸ first_any A c l b w hbig hr
theorem jobRight_v (A : Option Addr) (c : Nat) (L : List Tsk) (x : Jb) (v : Bool) (hv : (allB L && rightJ L x) = v) (w : World) (HL : TL w A c L) :
    Calls Try.prog 17 #[.slice A L.length c, (.agg #[(.int .i64 x.1), (.int .i64 x.2.1), (.int .i64 x.2.2.1), (.int .i64 x.2.2.2.1), (.int .i64 x.2.2.2.2.1), (.bool x.2.2.2.2.2)])] w fun e w' => e = .returned (.bool v) ∧ Below w.heap.size w w' := hv ▸ jobRight_any A c L x w HL
set_option maxRecDepth 20000 in
set_option maxHeartbeats 3200000 in
theorem knows14_any (w : World) :
    Calls Try.prog 7 #[] w fun e w' => e = .returned (.bool true) ∧ Below w.heap.size w w' := by
  go_enter Try.func7, Try.ntmps7
  go_wp2_with fail
  rw [exW_eq]
  obtain ⟨hl, hb⟩ := ex_lay w
  have HL := Lib.hid hl
  have B0 := Lib.hid hb
  clear hl hb
  generalize exW w = w0 at *
  refine (heldJobs_any _ _ 1 1 exTs [exJ] w0 HL.out.l (by decide) HL.out.r).mono ?_
  rintro e w1 ⟨A1, c1, rfl, k1, k2⟩
  rw [exH] at k1 ⊢
  have HL1 := Lib.hid (HL.out.below k2)
  have B1 := Lib.hid (below_step B0.out k2)
  have H1 := Lib.hid (Ow.rd k1)
  clear k1 k2 HL B0
  obtain ⟨g1, o1, rfl, hc⟩ := H1.out.int (by decide)
  have HC1 : Hid (w1.cell? ⟨g1, o1, none⟩ = some (.int .i64 2)) := (hc 0 (by decide)).1
  clear hc H1
  have ya0 : w1.cell? ⟨w.heap.size, 0, none⟩ = some (.int .i64 1) := HL1.out.a.c0
  have ya1 : w1.cell? ⟨w.heap.size, 1, none⟩ = some (.int .i64 0) := HL1.out.a.c1
  have ya2 : w1.cell? ⟨w.heap.size, 2, none⟩ = some (.int .i64 9) := HL1.out.a.c2
  have ya3 : w1.cell? ⟨w.heap.size, 3, none⟩ = some (.int .i64 0) := HL1.out.a.c3
  have ya4 : w1.cell? ⟨w.heap.size, 4, none⟩ = some (.int .i64 0) := HL1.out.a.c4
  have ya5 : w1.cell? ⟨w.heap.size, 5, none⟩ = some (.bool false) := HL1.out.a.c5
  have yb0 : w1.cell? ⟨w.heap.size + 1, 0, none⟩ = some (.int .i64 2) := HL1.out.b.c0
  have yb1 : w1.cell? ⟨w.heap.size + 1, 1, none⟩ = some (.int .i64 0) := HL1.out.b.c1
  have yb2 : w1.cell? ⟨w.heap.size + 1, 2, none⟩ = some (.int .i64 9) := HL1.out.b.c2
  have yb3 : w1.cell? ⟨w.heap.size + 1, 3, none⟩ = some (.int .i64 0) := HL1.out.b.c3
  have yb4 : w1.cell? ⟨w.heap.size + 1, 4, none⟩ = some (.int .i64 0) := HL1.out.b.c4
  have yb5 : w1.cell? ⟨w.heap.size + 1, 5, none⟩ = some (.bool false) := HL1.out.b.c5
  have yc0 : w1.cell? ⟨w.heap.size + 1 + 1, 0, none⟩ = some (.int .i64 0) := HL1.out.c.c0
  have yc1 : w1.cell? ⟨w.heap.size + 1 + 1, 1, none⟩ = some (.int .i64 0) := HL1.out.c.c1
  have yc2 : w1.cell? ⟨w.heap.size + 1 + 1, 2, none⟩ = some (.int .i64 10) := HL1.out.c.c2
  have yc3 : w1.cell? ⟨w.heap.size + 1 + 1, 3, none⟩ = some (.int .i64 0) := HL1.out.c.c3
  have yc4 : w1.cell? ⟨w.heap.size + 1 + 1, 4, none⟩ = some (.int .i64 0) := HL1.out.c.c4
  have yc5 : w1.cell? ⟨w.heap.size + 1 + 1, 5, none⟩ = some (.bool false) := HL1.out.c.c5
  have yj0 : w1.cell? ⟨w.heap.size + 1 + 1 + 1 + 1 + 1, 0, none⟩ = some (.int .i64 0) := HL1.out.j.c0
  have yj1 : w1.cell? ⟨w.heap.size + 1 + 1 + 1 + 1 + 1, 1, none⟩ = some (.int .i64 4) := HL1.out.j.c1
  have yj2 : w1.cell? ⟨w.heap.size + 1 + 1 + 1 + 1 + 1, 2, none⟩ = some (.int .i64 9) := HL1.out.j.c2
  have yj3 : w1.cell? ⟨w.heap.size + 1 + 1 + 1 + 1 + 1, 3, none⟩ = some (.int .i64 3) := HL1.out.j.c3
  have yj4 : w1.cell? ⟨w.heap.size + 1 + 1 + 1 + 1 + 1, 4, none⟩ = some (.int .i64 1) := HL1.out.j.c4
  have yj5 : w1.cell? ⟨w.heap.size + 1 + 1 + 1 + 1 + 1, 5, none⟩ = some (.bool true) := HL1.out.j.c5
  have h0 : w1.cell? ⟨g1, o1, none⟩ = some (.int .i64 2) := HC1.out
  go_wp2_with fail
  refine (ahead_v exA exB true w1 exAB).mono ?_
  rintro e w2 ⟨rfl, b2⟩
  clear ya0 ya1 ya2 ya3 ya4 ya5 yb0 yb1 yb2 yb3 yb4 yb5 yc0 yc1 yc2 yc3 yc4 yc5 yj0 yj1 yj2 yj3 yj4 yj5 h0
  have HL2 := Lib.hid (HL1.out.below b2)
  have B2 := Lib.hid (below_step B1.out b2)
  have HC2 := Lib.hid (cell_below b2 HC1.out)
  clear b2 HL1 B1 HC1
  have ya0 : w2.cell? ⟨w.heap.size, 0, none⟩ = some (.int .i64 1) := HL2.out.a.c0
  have ya1 : w2.cell? ⟨w.heap.size, 1, none⟩ = some (.int .i64 0) := HL2.out.a.c1
  have ya2 : w2.cell? ⟨w.heap.size, 2, none⟩ = some (.int .i64 9) := HL2.out.a.c2
  have ya3 : w2.cell? ⟨w.heap.size, 3, none⟩ = some (.int .i64 0) := HL2.out.a.c3
  have ya4 : w2.cell? ⟨w.heap.size, 4, none⟩ = some (.int .i64 0) := HL2.out.a.c4
  have ya5 : w2.cell? ⟨w.heap.size, 5, none⟩ = some (.bool false) := HL2.out.a.c5
  have yb0 : w2.cell? ⟨w.heap.size + 1, 0, none⟩ = some (.int .i64 2) := HL2.out.b.c0
  have yb1 : w2.cell? ⟨w.heap.size + 1, 1, none⟩ = some (.int .i64 0) := HL2.out.b.c1
  have yb2 : w2.cell? ⟨w.heap.size + 1, 2, none⟩ = some (.int .i64 9) := HL2.out.b.c2
  have yb3 : w2.cell? ⟨w.heap.size + 1, 3, none⟩ = some (.int .i64 0) := HL2.out.b.c3
  have yb4 : w2.cell? ⟨w.heap.size + 1, 4, none⟩ = some (.int .i64 0) := HL2.out.b.c4
  have yb5 : w2.cell? ⟨w.heap.size + 1, 5, none⟩ = some (.bool false) := HL2.out.b.c5
  have yc0 : w2.cell? ⟨w.heap.size + 1 + 1, 0, none⟩ = some (.int .i64 0) := HL2.out.c.c0
  have yc1 : w2.cell? ⟨w.heap.size + 1 + 1, 1, none⟩ = some (.int .i64 0) := HL2.out.c.c1
  have yc2 : w2.cell? ⟨w.heap.size + 1 + 1, 2, none⟩ = some (.int .i64 10) := HL2.out.c.c2
  have yc3 : w2.cell? ⟨w.heap.size + 1 + 1, 3, none⟩ = some (.int .i64 0) := HL2.out.c.c3
  have yc4 : w2.cell? ⟨w.heap.size + 1 + 1, 4, none⟩ = some (.int .i64 0) := HL2.out.c.c4
  have yc5 : w2.cell? ⟨w.heap.size + 1 + 1, 5, none⟩ = some (.bool false) := HL2.out.c.c5
  have yj0 : w2.cell? ⟨w.heap.size + 1 + 1 + 1 + 1 + 1, 0, none⟩ = some (.int .i64 0) := HL2.out.j.c0
  have yj1 : w2.cell? ⟨w.heap.size + 1 + 1 + 1 + 1 + 1, 1, none⟩ = some (.int .i64 4) := HL2.out.j.c1
  have yj2 : w2.cell? ⟨w.heap.size + 1 + 1 + 1 + 1 + 1, 2, none⟩ = some (.int .i64 9) := HL2.out.j.c2
  have yj3 : w2.cell? ⟨w.heap.size + 1 + 1 + 1 + 1 + 1, 3, none⟩ = some (.int .i64 3) := HL2.out.j.c3
  have yj4 : w2.cell? ⟨w.heap.size + 1 + 1 + 1 + 1 + 1, 4, none⟩ = some (.int .i64 1) := HL2.out.j.c4
  have yj5 : w2.cell? ⟨w.heap.size + 1 + 1 + 1 + 1 + 1, 5, none⟩ = some (.bool true) := HL2.out.j.c5
  have h0 : w2.cell? ⟨g1, o1, none⟩ = some (.int .i64 2) := HC2.out
  go_wp2_with fail
  refine (ahead_v exB exC true w2 exBC).mono ?_
  rintro e w3 ⟨rfl, b3⟩
  clear ya0 ya1 ya2 ya3 ya4 ya5 yb0 yb1 yb2 yb3 yb4 yb5 yc0 yc1 yc2 yc3 yc4 yc5 yj0 yj1 yj2 yj3 yj4 yj5 h0
  have HL3 := Lib.hid (HL2.out.below b3)
  have B3 := Lib.hid (below_step B2.out b3)
  have HC3 := Lib.hid (cell_below b3 HC2.out)
  clear b3 HL2 B2 HC2
  have ya0 : w3.cell? ⟨w.heap.size, 0, none⟩ = some (.int .i64 1) := HL3.out.a.c0
  have ya1 : w3.cell? ⟨w.heap.size, 1, none⟩ = some (.int .i64 0) := HL3.out.a.c1
  have ya2 : w3.cell? ⟨w.heap.size, 2, none⟩ = some (.int .i64 9) := HL3.out.a.c2
  have ya3 : w3.cell? ⟨w.heap.size, 3, none⟩ = some (.int .i64 0) := HL3.out.a.c3
  have ya4 : w3.cell? ⟨w.heap.size, 4, none⟩ = some (.int .i64 0) := HL3.out.a.c4
  have ya5 : w3.cell? ⟨w.heap.size, 5, none⟩ = some (.bool false) := HL3.out.a.c5
  have yb0 : w3.cell? ⟨w.heap.size + 1, 0, none⟩ = some (.int .i64 2) := HL3.out.b.c0
  have yb1 : w3.cell? ⟨w.heap.size + 1, 1, none⟩ = some (.int .i64 0) := HL3.out.b.c1
  have yb2 : w3.cell? ⟨w.heap.size + 1, 2, none⟩ = some (.int .i64 9) := HL3.out.b.c2
  have yb3 : w3.cell? ⟨w.heap.size + 1, 3, none⟩ = some (.int .i64 0) := HL3.out.b.c3
  have yb4 : w3.cell? ⟨w.heap.size + 1, 4, none⟩ = some (.int .i64 0) := HL3.out.b.c4
  have yb5 : w3.cell? ⟨w.heap.size + 1, 5, none⟩ = some (.bool false) := HL3.out.b.c5
  have yc0 : w3.cell? ⟨w.heap.size + 1 + 1, 0, none⟩ = some (.int .i64 0) := HL3.out.c.c0
  have yc1 : w3.cell? ⟨w.heap.size + 1 + 1, 1, none⟩ = some (.int .i64 0) := HL3.out.c.c1
  have yc2 : w3.cell? ⟨w.heap.size + 1 + 1, 2, none⟩ = some (.int .i64 10) := HL3.out.c.c2
  have yc3 : w3.cell? ⟨w.heap.size + 1 + 1, 3, none⟩ = some (.int .i64 0) := HL3.out.c.c3
  have yc4 : w3.cell? ⟨w.heap.size + 1 + 1, 4, none⟩ = some (.int .i64 0) := HL3.out.c.c4
  have yc5 : w3.cell? ⟨w.heap.size + 1 + 1, 5, none⟩ = some (.bool false) := HL3.out.c.c5
  have yj0 : w3.cell? ⟨w.heap.size + 1 + 1 + 1 + 1 + 1, 0, none⟩ = some (.int .i64 0) := HL3.out.j.c0
  have yj1 : w3.cell? ⟨w.heap.size + 1 + 1 + 1 + 1 + 1, 1, none⟩ = some (.int .i64 4) := HL3.out.j.c1
  have yj2 : w3.cell? ⟨w.heap.size + 1 + 1 + 1 + 1 + 1, 2, none⟩ = some (.int .i64 9) := HL3.out.j.c2
  have yj3 : w3.cell? ⟨w.heap.size + 1 + 1 + 1 + 1 + 1, 3, none⟩ = some (.int .i64 3) := HL3.out.j.c3
  have yj4 : w3.cell? ⟨w.heap.size + 1 + 1 + 1 + 1 + 1, 4, none⟩ = some (.int .i64 1) := HL3.out.j.c4
  have yj5 : w3.cell? ⟨w.heap.size + 1 + 1 + 1 + 1 + 1, 5, none⟩ = some (.bool true) := HL3.out.j.c5
  have h0 : w3.cell? ⟨g1, o1, none⟩ = some (.int .i64 2) := HC3.out
  go_wp2_with fail
  refine (ahead_v exC exA false w3 exCA).mono ?_
  rintro e w4 ⟨rfl, b4⟩
  clear ya0 ya1 ya2 ya3 ya4 ya5 yb0 yb1 yb2 yb3 yb4 yb5 yc0 yc1 yc2 yc3 yc4 yc5 yj0 yj1 yj2 yj3 yj4 yj5 h0
  have HL4 := Lib.hid (HL3.out.below b4)
  have B4 := Lib.hid (below_step B3.out b4)
  have HC4 := Lib.hid (cell_below b4 HC3.out)
  clear b4 HL3 B3 HC3
  have ya0 : w4.cell? ⟨w.heap.size, 0, none⟩ = some (.int .i64 1) := HL4.out.a.c0
  have ya1 : w4.cell? ⟨w.heap.size, 1, none⟩ = some (.int .i64 0) := HL4.out.a.c1
  have ya2 : w4.cell? ⟨w.heap.size, 2, none⟩ = some (.int .i64 9) := HL4.out.a.c2
  have ya3 : w4.cell? ⟨w.heap.size, 3, none⟩ = some (.int .i64 0) := HL4.out.a.c3
  have ya4 : w4.cell? ⟨w.heap.size, 4, none⟩ = some (.int .i64 0) := HL4.out.a.c4
  have ya5 : w4.cell? ⟨w.heap.size, 5, none⟩ = some (.bool false) := HL4.out.a.c5
  have yb0 : w4.cell? ⟨w.heap.size + 1, 0, none⟩ = some (.int .i64 2) := HL4.out.b.c0
  have yb1 : w4.cell? ⟨w.heap.size + 1, 1, none⟩ = some (.int .i64 0) := HL4.out.b.c1
  have yb2 : w4.cell? ⟨w.heap.size + 1, 2, none⟩ = some (.int .i64 9) := HL4.out.b.c2
  have yb3 : w4.cell? ⟨w.heap.size + 1, 3, none⟩ = some (.int .i64 0) := HL4.out.b.c3
  have yb4 : w4.cell? ⟨w.heap.size + 1, 4, none⟩ = some (.int .i64 0) := HL4.out.b.c4
  have yb5 : w4.cell? ⟨w.heap.size + 1, 5, none⟩ = some (.bool false) := HL4.out.b.c5
  have yc0 : w4.cell? ⟨w.heap.size + 1 + 1, 0, none⟩ = some (.int .i64 0) := HL4.out.c.c0
  have yc1 : w4.cell? ⟨w.heap.size + 1 + 1, 1, none⟩ = some (.int .i64 0) := HL4.out.c.c1
  have yc2 : w4.cell? ⟨w.heap.size + 1 + 1, 2, none⟩ = some (.int .i64 10) := HL4.out.c.c2
  have yc3 : w4.cell? ⟨w.heap.size + 1 + 1, 3, none⟩ = some (.int .i64 0) := HL4.out.c.c3
  have yc4 : w4.cell? ⟨w.heap.size + 1 + 1, 4, none⟩ = some (.int .i64 0) := HL4.out.c.c4
  have yc5 : w4.cell? ⟨w.heap.size + 1 + 1, 5, none⟩ = some (.bool false) := HL4.out.c.c5
  have yj0 : w4.cell? ⟨w.heap.size + 1 + 1 + 1 + 1 + 1, 0, none⟩ = some (.int .i64 0) := HL4.out.j.c0
  have yj1 : w4.cell? ⟨w.heap.size + 1 + 1 + 1 + 1 + 1, 1, none⟩ = some (.int .i64 4) := HL4.out.j.c1
  have yj2 : w4.cell? ⟨w.heap.size + 1 + 1 + 1 + 1 + 1, 2, none⟩ = some (.int .i64 9) := HL4.out.j.c2
  have yj3 : w4.cell? ⟨w.heap.size + 1 + 1 + 1 + 1 + 1, 3, none⟩ = some (.int .i64 3) := HL4.out.j.c3
  have yj4 : w4.cell? ⟨w.heap.size + 1 + 1 + 1 + 1 + 1, 4, none⟩ = some (.int .i64 1) := HL4.out.j.c4
  have yj5 : w4.cell? ⟨w.heap.size + 1 + 1 + 1 + 1 + 1, 5, none⟩ = some (.bool true) := HL4.out.j.c5
  have h0 : w4.cell? ⟨g1, o1, none⟩ = some (.int .i64 2) := HC4.out
  go_wp2_with fail
  have HRL := Lib.hid (rd_lit w4 [exC, exB, exA] 3 rfl #[.int .i64 0, .int .i64 0, .int .i64 10, .int .i64 0, .int .i64 0, .bool false, .int .i64 2, .int .i64 0, .int .i64 9, .int .i64 0, .int .i64 0, .bool false, .int .i64 1, .int .i64 0, .int .i64 9, .int .i64 0, .int .i64 0, .bool false] 30 (by decide) (rows_job exC exFC (rows_job exB exFB (rows_job exA exFA rows_none))))
  have bz := below_one w4 (Obj.cells #[.int .i64 0, .int .i64 0, .int .i64 10, .int .i64 0, .int .i64 0, .bool false, .int .i64 2, .int .i64 0, .int .i64 9, .int .i64 0, .int .i64 0, .bool false, .int .i64 1, .int .i64 0, .int .i64 9, .int .i64 0, .int .i64 0, .bool false] 30)
  clear ya0 ya1 ya2 ya3 ya4 ya5 yb0 yb1 yb2 yb3 yb4 yb5 yc0 yc1 yc2 yc3 yc4 yc5 yj0 yj1 yj2 yj3 yj4 yj5 h0
  have HL5 := Lib.hid (HL4.out.below bz)
  have B5 := Lib.hid (below_step B4.out bz)
  have HC5 := Lib.hid (cell_below bz HC4.out)
  clear bz HL4 B4 HC4
  generalize w4.alloc (Obj.cells #[.int .i64 0, .int .i64 0, .int .i64 10, .int .i64 0, .int .i64 0, .bool false, .int .i64 2, .int .i64 0, .int .i64 9, .int .i64 0, .int .i64 0, .bool false, .int .i64 1, .int .i64 0, .int .i64 9, .int .i64 0, .int .i64 0, .bool false] 30) = w5 at *
  have ya0 : w5.cell? ⟨w.heap.size, 0, none⟩ = some (.int .i64 1) := HL5.out.a.c0
  have ya1 : w5.cell? ⟨w.heap.size, 1, none⟩ = some (.int .i64 0) := HL5.out.a.c1
  have ya2 : w5.cell? ⟨w.heap.size, 2, none⟩ = some (.int .i64 9) := HL5.out.a.c2
  have ya3 : w5.cell? ⟨w.heap.size, 3, none⟩ = some (.int .i64 0) := HL5.out.a.c3
  have ya4 : w5.cell? ⟨w.heap.size, 4, none⟩ = some (.int .i64 0) := HL5.out.a.c4
  have ya5 : w5.cell? ⟨w.heap.size, 5, none⟩ = some (.bool false) := HL5.out.a.c5
  have yb0 : w5.cell? ⟨w.heap.size + 1, 0, none⟩ = some (.int .i64 2) := HL5.out.b.c0
  have yb1 : w5.cell? ⟨w.heap.size + 1, 1, none⟩ = some (.int .i64 0) := HL5.out.b.c1
  have yb2 : w5.cell? ⟨w.heap.size + 1, 2, none⟩ = some (.int .i64 9) := HL5.out.b.c2
  have yb3 : w5.cell? ⟨w.heap.size + 1, 3, none⟩ = some (.int .i64 0) := HL5.out.b.c3
  have yb4 : w5.cell? ⟨w.heap.size + 1, 4, none⟩ = some (.int .i64 0) := HL5.out.b.c4
  have yb5 : w5.cell? ⟨w.heap.size + 1, 5, none⟩ = some (.bool false) := HL5.out.b.c5
  have yc0 : w5.cell? ⟨w.heap.size + 1 + 1, 0, none⟩ = some (.int .i64 0) := HL5.out.c.c0
  have yc1 : w5.cell? ⟨w.heap.size + 1 + 1, 1, none⟩ = some (.int .i64 0) := HL5.out.c.c1
  have yc2 : w5.cell? ⟨w.heap.size + 1 + 1, 2, none⟩ = some (.int .i64 10) := HL5.out.c.c2
  have yc3 : w5.cell? ⟨w.heap.size + 1 + 1, 3, none⟩ = some (.int .i64 0) := HL5.out.c.c3
  have yc4 : w5.cell? ⟨w.heap.size + 1 + 1, 4, none⟩ = some (.int .i64 0) := HL5.out.c.c4
  have yc5 : w5.cell? ⟨w.heap.size + 1 + 1, 5, none⟩ = some (.bool false) := HL5.out.c.c5
  have yj0 : w5.cell? ⟨w.heap.size + 1 + 1 + 1 + 1 + 1, 0, none⟩ = some (.int .i64 0) := HL5.out.j.c0
  have yj1 : w5.cell? ⟨w.heap.size + 1 + 1 + 1 + 1 + 1, 1, none⟩ = some (.int .i64 4) := HL5.out.j.c1
  have yj2 : w5.cell? ⟨w.heap.size + 1 + 1 + 1 + 1 + 1, 2, none⟩ = some (.int .i64 9) := HL5.out.j.c2
  have yj3 : w5.cell? ⟨w.heap.size + 1 + 1 + 1 + 1 + 1, 3, none⟩ = some (.int .i64 3) := HL5.out.j.c3
  have yj4 : w5.cell? ⟨w.heap.size + 1 + 1 + 1 + 1 + 1, 4, none⟩ = some (.int .i64 1) := HL5.out.j.c4
  have yj5 : w5.cell? ⟨w.heap.size + 1 + 1 + 1 + 1 + 1, 5, none⟩ = some (.bool true) := HL5.out.j.c5
  have h0 : w5.cell? ⟨g1, o1, none⟩ = some (.int .i64 2) := HC5.out
  refine (first_v _ 3 [exC, exB, exA] false 2 exF w5 (by decide) HRL.out).mono ?_
  rintro e w6 ⟨rfl, b6⟩
  clear ya0 ya1 ya2 ya3 ya4 ya5 yb0 yb1 yb2 yb3 yb4 yb5 yc0 yc1 yc2 yc3 yc4 yc5 yj0 yj1 yj2 yj3 yj4 yj5 h0
  have HL6 := Lib.hid (HL5.out.below b6)
  have B6 := Lib.hid (below_step B5.out b6)
  have HC6 := Lib.hid (cell_below b6 HC5.out)
  clear b6 HL5 B5 HC5
  have ya0 : w6.cell? ⟨w.heap.size, 0, none⟩ = some (.int .i64 1) := HL6.out.a.c0
  have ya1 : w6.cell? ⟨w.heap.size, 1, none⟩ = some (.int .i64 0) := HL6.out.a.c1
  have ya2 : w6.cell? ⟨w.heap.size, 2, none⟩ = some (.int .i64 9) := HL6.out.a.c2
  have ya3 : w6.cell? ⟨w.heap.size, 3, none⟩ = some (.int .i64 0) := HL6.out.a.c3
  have ya4 : w6.cell? ⟨w.heap.size, 4, none⟩ = some (.int .i64 0) := HL6.out.a.c4
  have ya5 : w6.cell? ⟨w.heap.size, 5, none⟩ = some (.bool false) := HL6.out.a.c5
  have yb0 : w6.cell? ⟨w.heap.size + 1, 0, none⟩ = some (.int .i64 2) := HL6.out.b.c0
  have yb1 : w6.cell? ⟨w.heap.size + 1, 1, none⟩ = some (.int .i64 0) := HL6.out.b.c1
  have yb2 : w6.cell? ⟨w.heap.size + 1, 2, none⟩ = some (.int .i64 9) := HL6.out.b.c2
  have yb3 : w6.cell? ⟨w.heap.size + 1, 3, none⟩ = some (.int .i64 0) := HL6.out.b.c3
  have yb4 : w6.cell? ⟨w.heap.size + 1, 4, none⟩ = some (.int .i64 0) := HL6.out.b.c4
  have yb5 : w6.cell? ⟨w.heap.size + 1, 5, none⟩ = some (.bool false) := HL6.out.b.c5
  have yc0 : w6.cell? ⟨w.heap.size + 1 + 1, 0, none⟩ = some (.int .i64 0) := HL6.out.c.c0
  have yc1 : w6.cell? ⟨w.heap.size + 1 + 1, 1, none⟩ = some (.int .i64 0) := HL6.out.c.c1
  have yc2 : w6.cell? ⟨w.heap.size + 1 + 1, 2, none⟩ = some (.int .i64 10) := HL6.out.c.c2
  have yc3 : w6.cell? ⟨w.heap.size + 1 + 1, 3, none⟩ = some (.int .i64 0) := HL6.out.c.c3
  have yc4 : w6.cell? ⟨w.heap.size + 1 + 1, 4, none⟩ = some (.int .i64 0) := HL6.out.c.c4
  have yc5 : w6.cell? ⟨w.heap.size + 1 + 1, 5, none⟩ = some (.bool false) := HL6.out.c.c5
  have yj0 : w6.cell? ⟨w.heap.size + 1 + 1 + 1 + 1 + 1, 0, none⟩ = some (.int .i64 0) := HL6.out.j.c0
  have yj1 : w6.cell? ⟨w.heap.size + 1 + 1 + 1 + 1 + 1, 1, none⟩ = some (.int .i64 4) := HL6.out.j.c1
  have yj2 : w6.cell? ⟨w.heap.size + 1 + 1 + 1 + 1 + 1, 2, none⟩ = some (.int .i64 9) := HL6.out.j.c2
  have yj3 : w6.cell? ⟨w.heap.size + 1 + 1 + 1 + 1 + 1, 3, none⟩ = some (.int .i64 3) := HL6.out.j.c3
  have yj4 : w6.cell? ⟨w.heap.size + 1 + 1 + 1 + 1 + 1, 4, none⟩ = some (.int .i64 1) := HL6.out.j.c4
  have yj5 : w6.cell? ⟨w.heap.size + 1 + 1 + 1 + 1 + 1, 5, none⟩ = some (.bool true) := HL6.out.j.c5
  have h0 : w6.cell? ⟨g1, o1, none⟩ = some (.int .i64 2) := HC6.out
  go_wp2_with fail
  refine (first_v none 0 [] true (-1) exN w6 (by decide) (rd_nil (fun _ => rfl) (by unfold maxLen; omega))).mono ?_
  rintro e w7 ⟨rfl, b7⟩
  clear ya0 ya1 ya2 ya3 ya4 ya5 yb0 yb1 yb2 yb3 yb4 yb5 yc0 yc1 yc2 yc3 yc4 yc5 yj0 yj1 yj2 yj3 yj4 yj5 h0
  have HL7 := Lib.hid (HL6.out.below b7)
  have B7 := Lib.hid (below_step B6.out b7)
  have HC7 := Lib.hid (cell_below b7 HC6.out)
  clear b7 HL6 B6 HC6
  have ya0 : w7.cell? ⟨w.heap.size, 0, none⟩ = some (.int .i64 1) := HL7.out.a.c0
  have ya1 : w7.cell? ⟨w.heap.size, 1, none⟩ = some (.int .i64 0) := HL7.out.a.c1
  have ya2 : w7.cell? ⟨w.heap.size, 2, none⟩ = some (.int .i64 9) := HL7.out.a.c2
  have ya3 : w7.cell? ⟨w.heap.size, 3, none⟩ = some (.int .i64 0) := HL7.out.a.c3
  have ya4 : w7.cell? ⟨w.heap.size, 4, none⟩ = some (.int .i64 0) := HL7.out.a.c4
  have ya5 : w7.cell? ⟨w.heap.size, 5, none⟩ = some (.bool false) := HL7.out.a.c5
  have yb0 : w7.cell? ⟨w.heap.size + 1, 0, none⟩ = some (.int .i64 2) := HL7.out.b.c0
  have yb1 : w7.cell? ⟨w.heap.size + 1, 1, none⟩ = some (.int .i64 0) := HL7.out.b.c1
  have yb2 : w7.cell? ⟨w.heap.size + 1, 2, none⟩ = some (.int .i64 9) := HL7.out.b.c2
  have yb3 : w7.cell? ⟨w.heap.size + 1, 3, none⟩ = some (.int .i64 0) := HL7.out.b.c3
  have yb4 : w7.cell? ⟨w.heap.size + 1, 4, none⟩ = some (.int .i64 0) := HL7.out.b.c4
  have yb5 : w7.cell? ⟨w.heap.size + 1, 5, none⟩ = some (.bool false) := HL7.out.b.c5
  have yc0 : w7.cell? ⟨w.heap.size + 1 + 1, 0, none⟩ = some (.int .i64 0) := HL7.out.c.c0
  have yc1 : w7.cell? ⟨w.heap.size + 1 + 1, 1, none⟩ = some (.int .i64 0) := HL7.out.c.c1
  have yc2 : w7.cell? ⟨w.heap.size + 1 + 1, 2, none⟩ = some (.int .i64 10) := HL7.out.c.c2
  have yc3 : w7.cell? ⟨w.heap.size + 1 + 1, 3, none⟩ = some (.int .i64 0) := HL7.out.c.c3
  have yc4 : w7.cell? ⟨w.heap.size + 1 + 1, 4, none⟩ = some (.int .i64 0) := HL7.out.c.c4
  have yc5 : w7.cell? ⟨w.heap.size + 1 + 1, 5, none⟩ = some (.bool false) := HL7.out.c.c5
  have yj0 : w7.cell? ⟨w.heap.size + 1 + 1 + 1 + 1 + 1, 0, none⟩ = some (.int .i64 0) := HL7.out.j.c0
  have yj1 : w7.cell? ⟨w.heap.size + 1 + 1 + 1 + 1 + 1, 1, none⟩ = some (.int .i64 4) := HL7.out.j.c1
  have yj2 : w7.cell? ⟨w.heap.size + 1 + 1 + 1 + 1 + 1, 2, none⟩ = some (.int .i64 9) := HL7.out.j.c2
  have yj3 : w7.cell? ⟨w.heap.size + 1 + 1 + 1 + 1 + 1, 3, none⟩ = some (.int .i64 3) := HL7.out.j.c3
  have yj4 : w7.cell? ⟨w.heap.size + 1 + 1 + 1 + 1 + 1, 4, none⟩ = some (.int .i64 1) := HL7.out.j.c4
  have yj5 : w7.cell? ⟨w.heap.size + 1 + 1 + 1 + 1 + 1, 5, none⟩ = some (.bool true) := HL7.out.j.c5
  have h0 : w7.cell? ⟨g1, o1, none⟩ = some (.int .i64 2) := HC7.out
  go_wp2_with fail
  refine (jobRight_v _ 1 exTs exJ true exRJ w7 HL7.out.l).mono ?_
  rintro e w8 ⟨rfl, b8⟩
  clear ya0 ya1 ya2 ya3 ya4 ya5 yb0 yb1 yb2 yb3 yb4 yb5 yc0 yc1 yc2 yc3 yc4 yc5 yj0 yj1 yj2 yj3 yj4 yj5 h0
  have HL8 := Lib.hid (HL7.out.below b8)
  have B8 := Lib.hid (below_step B7.out b8)
  have HC8 := Lib.hid (cell_below b8 HC7.out)
  clear b8 HL7 B7 HC7
  have ya0 : w8.cell? ⟨w.heap.size, 0, none⟩ = some (.int .i64 1) := HL8.out.a.c0
  have ya1 : w8.cell? ⟨w.heap.size, 1, none⟩ = some (.int .i64 0) := HL8.out.a.c1
  have ya2 : w8.cell? ⟨w.heap.size, 2, none⟩ = some (.int .i64 9) := HL8.out.a.c2
  have ya3 : w8.cell? ⟨w.heap.size, 3, none⟩ = some (.int .i64 0) := HL8.out.a.c3
  have ya4 : w8.cell? ⟨w.heap.size, 4, none⟩ = some (.int .i64 0) := HL8.out.a.c4
  have ya5 : w8.cell? ⟨w.heap.size, 5, none⟩ = some (.bool false) := HL8.out.a.c5
  have yb0 : w8.cell? ⟨w.heap.size + 1, 0, none⟩ = some (.int .i64 2) := HL8.out.b.c0
  have yb1 : w8.cell? ⟨w.heap.size + 1, 1, none⟩ = some (.int .i64 0) := HL8.out.b.c1
  have yb2 : w8.cell? ⟨w.heap.size + 1, 2, none⟩ = some (.int .i64 9) := HL8.out.b.c2
  have yb3 : w8.cell? ⟨w.heap.size + 1, 3, none⟩ = some (.int .i64 0) := HL8.out.b.c3
  have yb4 : w8.cell? ⟨w.heap.size + 1, 4, none⟩ = some (.int .i64 0) := HL8.out.b.c4
  have yb5 : w8.cell? ⟨w.heap.size + 1, 5, none⟩ = some (.bool false) := HL8.out.b.c5
  have yc0 : w8.cell? ⟨w.heap.size + 1 + 1, 0, none⟩ = some (.int .i64 0) := HL8.out.c.c0
  have yc1 : w8.cell? ⟨w.heap.size + 1 + 1, 1, none⟩ = some (.int .i64 0) := HL8.out.c.c1
  have yc2 : w8.cell? ⟨w.heap.size + 1 + 1, 2, none⟩ = some (.int .i64 10) := HL8.out.c.c2
  have yc3 : w8.cell? ⟨w.heap.size + 1 + 1, 3, none⟩ = some (.int .i64 0) := HL8.out.c.c3
  have yc4 : w8.cell? ⟨w.heap.size + 1 + 1, 4, none⟩ = some (.int .i64 0) := HL8.out.c.c4
  have yc5 : w8.cell? ⟨w.heap.size + 1 + 1, 5, none⟩ = some (.bool false) := HL8.out.c.c5
  have yj0 : w8.cell? ⟨w.heap.size + 1 + 1 + 1 + 1 + 1, 0, none⟩ = some (.int .i64 0) := HL8.out.j.c0
  have yj1 : w8.cell? ⟨w.heap.size + 1 + 1 + 1 + 1 + 1, 1, none⟩ = some (.int .i64 4) := HL8.out.j.c1
  have yj2 : w8.cell? ⟨w.heap.size + 1 + 1 + 1 + 1 + 1, 2, none⟩ = some (.int .i64 9) := HL8.out.j.c2
  have yj3 : w8.cell? ⟨w.heap.size + 1 + 1 + 1 + 1 + 1, 3, none⟩ = some (.int .i64 3) := HL8.out.j.c3
  have yj4 : w8.cell? ⟨w.heap.size + 1 + 1 + 1 + 1 + 1, 4, none⟩ = some (.int .i64 1) := HL8.out.j.c4
  have yj5 : w8.cell? ⟨w.heap.size + 1 + 1 + 1 + 1 + 1, 5, none⟩ = some (.bool true) := HL8.out.j.c5
  have h0 : w8.cell? ⟨g1, o1, none⟩ = some (.int .i64 2) := HC8.out
  go_wp2_with fail
  go_ret
  exact ⟨rfl, B8.out⟩

end Pm
end Go.Proofs.Ytdibiidpknckfaa

