/-
  Merged texts: Law14Args, Law14Right, Law14AllRef.
-/
import Derived.Test.YtdjjdebnbaaihaaGmem
import Derived.Test.YtdjjdebnbaaihaaGlaw05
import Derived.Test.YtdjjdebnbaaihaaGjob
/-
  Layer 14: the arguments of the statements, opened: jobs.
-/
namespace Go.Proofs.Ytdjjdebnbaaihaa
open Go.ChangeShapes Go.WideShapes Go.ChangeAt Go.RowKit Go.Deep Go.Joins Mm Tk
namespace Pm

theorem opBool : Opens Try.prog 4 Bool := opens_bool Try.underlying4 (by kernel_rfl)
theorem opJob : Opens Try.prog 60 Jb := opens_struct Try.underlying60 (by kernel_rfl) (fieldsOpen_cons rfl opInt (fieldsOpen_cons rfl opInt (fieldsOpen_cons rfl opInt (fieldsOpen_cons rfl opInt (fieldsOpen_cons rfl opInt (fieldsOpen_one rfl opBool))))))
theorem opJobs : Opens Try.prog 25 (List Jb) := opens_slice Try.underlying25 (by kernel_rfl) opJob

end Pm
end Go.Proofs.Ytdjjdebnbaaihaa

/-
  Layer 14: the document's answer Right, of tasks that are right.
-/
namespace Go.Proofs.Ytdjjdebnbaaihaa
open Go.RowKit Mm Tk
namespace Pm

set_option maxRecDepth 20000 in
set_option maxHeartbeats 6400000 in
theorem refJobRight_any (A : Option Addr) (c : Nat) (L : List Tsk) (x : Jb) (w : World) (ha : allB L = true) (HL : TL w A c L) :
    Calls Try.prog 44 #[.slice A L.length c, (.agg #[(.int .i64 x.1), (.int .i64 x.2.1), (.int .i64 x.2.2.1), (.int .i64 x.2.2.2.1), (.int .i64 x.2.2.2.2.1), (.bool x.2.2.2.2.2)])] w fun e w' => e = .returned (.bool (rightJ L x)) ∧ Below w.heap.size w w' := by
  have B0 := Lib.hid (below_one w (Obj.cells #[(.int .i64 x.1), (.int .i64 x.2.1), (.int .i64 x.2.2.1), (.int .i64 x.2.2.2.1), (.int .i64 x.2.2.2.2.1), (.bool x.2.2.2.2.2)] 60))
  have hx0 := cj_new w x _ rfl
  have HT := Lib.hid (HL.below B0.out)
  have HAT := Lib.hid (fun j => allB_at (j := j) ha)
  clear HL ha
  go_enter Try.func44, Try.ntmps44
  go_wp2_with fail
  generalize w.alloc (Obj.cells #[(.int .i64 x.1), (.int .i64 x.2.1), (.int .i64 x.2.2.1), (.int .i64 x.2.2.2.1), (.int .i64 x.2.2.2.2.1), (.bool x.2.2.2.2.2)] 60) = w0 at *
  have HX0 := Lib.hid hx0
  have c0 := cell_bw hx0.c0
  have c1 := cell_bw hx0.c1
  have c2 := cell_bw hx0.c2
  clear hx0
  by_cases p1 : x.1 < 0
  · have d1 : decide (x.1 < 0) = true := decide_eq_true p1
    have HE : Hid (rightJ L x = false) := by
      show _ = _
      cases e : rightJ L x with
      | false => rfl
      | true =>
        have hh := rightJ_iff.1 e
        simp only [tkJ, atJ, dueJ, wantJ, hadJ, begJ, ofJ] at hh
        omega
    refine wp_region_bw (by kernel_rfl) (by kernel_rfl) ?_
    repeat
      (with_reducible refine wpQuiet_step (fun K hK => ?_)
       go_simp
       first
         | (with_reducible refine hK _ ?_
            clear hK K)
         | (rw [if_neg]
            rotate_left
            focus (intro h; cases h; done)
            with_reducible refine hK _ ?_
            clear hK K)
         | (apply Exists.intro
            refine ⟨fun _ => ?_, hK _ ?_⟩
            (fail)
            clear hK K))
    with_reducible refine wpQuiet_nil ?_
    intro wb hw'
    obtain ⟨⟨wb', lb⟩, hw''⟩ := hw'
    subst hw''
    go_wp2_with fail
    go_ret
    exact ⟨ret_bool HE.out.symm, below_step B0.out lb⟩
  · have d1 : decide (x.1 < 0) = false := decide_eq_false p1
    by_cases p2 : (L.length : Int) ≤ x.1
    · have d2 : decide ((L.length : Int) ≤ x.1) = true := decide_eq_true p2
      have HE : Hid (rightJ L x = false) := by
        show _ = _
        cases e : rightJ L x with
        | false => rfl
        | true =>
          have hh := rightJ_iff.1 e
          simp only [tkJ, atJ, dueJ, wantJ, hadJ, begJ, ofJ] at hh
          omega
      refine wp_region_bw (by kernel_rfl) (by kernel_rfl) ?_
      repeat
        (with_reducible refine wpQuiet_step (fun K hK => ?_)
         go_simp
         first
           | (with_reducible refine hK _ ?_
              clear hK K)
           | (rw [if_neg]
              rotate_left
              focus (intro h; cases h; done)
              with_reducible refine hK _ ?_
              clear hK K)
           | (apply Exists.intro
              refine ⟨fun _ => ?_, hK _ ?_⟩
              (fail)
              clear hK K))
      with_reducible refine wpQuiet_nil ?_
      intro wb hw'
      obtain ⟨⟨wb', lb⟩, hw''⟩ := hw'
      subst hw''
      go_wp2_with fail
      go_ret
      exact ⟨ret_bool HE.out.symm, below_step B0.out lb⟩
    · have d2 : decide ((L.length : Int) ≤ x.1) = false := decide_eq_false p2
      by_cases p3 : x.2.1 < 0
      · have d3 : decide (x.2.1 < 0) = true := decide_eq_true p3
        have HE : Hid (rightJ L x = false) := by
          show _ = _
          cases e : rightJ L x with
          | false => rfl
          | true =>
            have hh := rightJ_iff.1 e
            simp only [tkJ, atJ, dueJ, wantJ, hadJ, begJ, ofJ] at hh
            omega
        refine wp_region_bw (by kernel_rfl) (by kernel_rfl) ?_
        repeat
          (with_reducible refine wpQuiet_step (fun K hK => ?_)
           go_simp
           first
             | (with_reducible refine hK _ ?_
                clear hK K)
             | (rw [if_neg]
                rotate_left
                focus (intro h; cases h; done)
                with_reducible refine hK _ ?_
                clear hK K)
             | (apply Exists.intro
                refine ⟨fun _ => ?_, hK _ ?_⟩
                (fail)
                clear hK K))
        with_reducible refine wpQuiet_nil ?_
        intro wb hw'
        obtain ⟨⟨wb', lb⟩, hw''⟩ := hw'
        subst hw''
        go_wp2_with fail
        go_ret
        exact ⟨ret_bool HE.out.symm, below_step B0.out lb⟩
      · have d3 : decide (x.2.1 < 0) = false := decide_eq_false p3
        by_cases p4 : 4611686018427387703 < x.2.1
        · have d4 : decide (4611686018427387703 < x.2.1) = true := decide_eq_true p4
          have HE : Hid (rightJ L x = false) := by
            show _ = _
            cases e : rightJ L x with
            | false => rfl
            | true =>
              have hh := rightJ_iff.1 e
              simp only [tkJ, atJ, dueJ, wantJ, hadJ, begJ, ofJ] at hh
              omega
          refine wp_region_bw (by kernel_rfl) (by kernel_rfl) ?_
          repeat
            (with_reducible refine wpQuiet_step (fun K hK => ?_)
             go_simp
             first
               | (with_reducible refine hK _ ?_
                  clear hK K)
               | (rw [if_neg]
                  rotate_left
                  focus (intro h; cases h; done)
                  with_reducible refine hK _ ?_
                  clear hK K)
               | (apply Exists.intro
                  refine ⟨fun _ => ?_, hK _ ?_⟩
                  (fail)
                  clear hK K))
          with_reducible refine wpQuiet_nil ?_
          intro wb hw'
          obtain ⟨⟨wb', lb⟩, hw''⟩ := hw'
          subst hw''
          go_wp2_with fail
          go_ret
          exact ⟨ret_bool HE.out.symm, below_step B0.out lb⟩
        · have d4 : decide (4611686018427387703 < x.2.1) = false := decide_eq_false p4
          have h4 : x.1.toNat < L.length := by omega
          have h5 : 0 ≤ x.1 := by omega
          have h6 : x.1 < (L.length : Int) := by omega
          obtain ⟨_, a1, a2, a3, a4, _⟩ := HAT.out _ h4
          obtain ⟨b, off, rfl, hc⟩ := task_at HT.out.2.2 (by omega)
          obtain ⟨B, d, t1, t2, -, -, -, -, -, -⟩ := hc _ h4
          clear hc
          have HRI : Hid (rightJ L x = true ↔ 0 ≤ x.1 ∧ x.1 < (L.length : Int) ∧ timesJ x (at_ L x.1.toNat).2.1 = true ∧ ticksJ x (at_ L x.1.toNat).1 = true) := rightJ_parts
          generalize at_ L x.1.toNat = y at *
          have HTK : Hid (ticksJ x y.1 = decide (1 ≤ x.2.2.2.1 ∧ x.2.2.2.1 ≤ 200 ∧ 0 ≤ x.2.2.2.2.1 ∧ x.2.2.2.2.1 < y.1 ∧ x.2.2.2.2.1 < x.2.2.2.1 ∧ (x.2.2.2.2.2 = true ∨ x.2.2.2.2.1 = 0))) := rfl
          have u1 := t1
          replace t1 := cell_bw t1
          replace t2 := cell_bw t2
          have e1 : IntKind.i64.wrap (x.2.1 + y.2.1) = x.2.1 + y.2.1 := IntWalk.i64_in _ (by omega)
          by_cases p5 : x.2.2.1 = x.2.1 + y.2.1
          · have d5 : (x.2.2.1 == x.2.1 + y.2.1) = true := beq_iff_eq.2 p5
            have d6 : (x.2.2.1 != x.2.1 + y.2.1) = false := by rw [bne, d5]; rfl
            have HTM : Hid (timesJ x y.2.1 = true) := by show _ = _; unfold timesJ; rw [decide_eq_true_iff]; omega
            clear p5
            refine wp_region_bw (by kernel_rfl) (by kernel_rfl) ?_
            repeat
              (with_reducible refine wpQuiet_step (fun K hK => ?_)
               go_simp
               first
                 | (with_reducible refine hK _ ?_
                    clear hK K)
                 | (rw [if_neg]
                    rotate_left
                    focus (intro h; cases h; done)
                    with_reducible refine hK _ ?_
                    clear hK K)
                 | (apply Exists.intro
                    refine ⟨fun _ => ?_, hK _ ?_⟩
                    (fail)
                    clear hK K))
            with_reducible refine wpQuiet_nil ?_
            intro wb hw'
            obtain ⟨⟨wb', lb⟩, hw''⟩ := hw'
            subst hw''
            clear c0 c1 c2 t1 t2
            have c0 := cell_bw (cell_below lb HX0.out.c0)
            have c3 := cell_bw (cell_below lb HX0.out.c3)
            have c4 := cell_bw (cell_below lb HX0.out.c4)
            have t1 := cell_bw (cell_below lb u1)
            have HX1 := Lib.hid (HX0.out.below lb)
            have B1 := Lib.hid (below_step B0.out lb)
            clear lb u1
            by_cases q1 : x.2.2.2.1 < 1
            · have g1 : decide (x.2.2.2.1 < 1) = true := decide_eq_true q1
              have HE : Hid (rightJ L x = false) := by
                show _ = _
                cases e : rightJ L x with
                | false => rfl
                | true =>
                  have hh := (HRI.out.1 e).2.2.2
                  rw [HTK.out, decide_eq_true_iff] at hh
                  omega
              go_wp2_with fail
              refine wp_region_bw (by kernel_rfl) (by kernel_rfl) ?_
              repeat
                (with_reducible refine wpQuiet_step (fun K hK => ?_)
                 go_simp
                 first
                   | (with_reducible refine hK _ ?_
                      clear hK K)
                   | (rw [if_neg]
                      rotate_left
                      focus (intro h; cases h; done)
                      with_reducible refine hK _ ?_
                      clear hK K)
                   | (apply Exists.intro
                      refine ⟨fun _ => ?_, hK _ ?_⟩
                      (fail)
                      clear hK K))
              with_reducible refine wpQuiet_nil ?_
              intro wb hw'
              obtain ⟨⟨wb', lb⟩, hw''⟩ := hw'
              subst hw''
              go_wp2_with fail
              go_ret
              exact ⟨ret_bool HE.out.symm, below_step B1.out lb⟩
            · have g1 : decide (x.2.2.2.1 < 1) = false := decide_eq_false q1
              by_cases q2 : 200 < x.2.2.2.1
              · have g2 : decide (200 < x.2.2.2.1) = true := decide_eq_true q2
                have HE : Hid (rightJ L x = false) := by
                  show _ = _
                  cases e : rightJ L x with
                  | false => rfl
                  | true =>
                    have hh := (HRI.out.1 e).2.2.2
                    rw [HTK.out, decide_eq_true_iff] at hh
                    omega
                go_wp2_with fail
                refine wp_region_bw (by kernel_rfl) (by kernel_rfl) ?_
                repeat
                  (with_reducible refine wpQuiet_step (fun K hK => ?_)
                   go_simp
                   first
                     | (with_reducible refine hK _ ?_
                        clear hK K)
                     | (rw [if_neg]
                        rotate_left
                        focus (intro h; cases h; done)
                        with_reducible refine hK _ ?_
                        clear hK K)
                     | (apply Exists.intro
                        refine ⟨fun _ => ?_, hK _ ?_⟩
                        (fail)
                        clear hK K))
                with_reducible refine wpQuiet_nil ?_
                intro wb hw'
                obtain ⟨⟨wb', lb⟩, hw''⟩ := hw'
                subst hw''
                go_wp2_with fail
                go_ret
                exact ⟨ret_bool HE.out.symm, below_step B1.out lb⟩
              · have g2 : decide (200 < x.2.2.2.1) = false := decide_eq_false q2
                by_cases q3 : x.2.2.2.2.1 < 0
                · have g3 : decide (x.2.2.2.2.1 < 0) = true := decide_eq_true q3
                  have HE : Hid (rightJ L x = false) := by
                    show _ = _
                    cases e : rightJ L x with
                    | false => rfl
                    | true =>
                      have hh := (HRI.out.1 e).2.2.2
                      rw [HTK.out, decide_eq_true_iff] at hh
                      omega
                  go_wp2_with fail
                  refine wp_region_bw (by kernel_rfl) (by kernel_rfl) ?_
                  repeat
                    (with_reducible refine wpQuiet_step (fun K hK => ?_)
                     go_simp
                     first
                       | (with_reducible refine hK _ ?_
                          clear hK K)
                       | (rw [if_neg]
                          rotate_left
                          focus (intro h; cases h; done)
                          with_reducible refine hK _ ?_
                          clear hK K)
                       | (apply Exists.intro
                          refine ⟨fun _ => ?_, hK _ ?_⟩
                          (fail)
                          clear hK K))
                  with_reducible refine wpQuiet_nil ?_
                  intro wb hw'
                  obtain ⟨⟨wb', lb⟩, hw''⟩ := hw'
                  subst hw''
                  go_wp2_with fail
                  go_ret
                  exact ⟨ret_bool HE.out.symm, below_step B1.out lb⟩
                · have g3 : decide (x.2.2.2.2.1 < 0) = false := decide_eq_false q3
                  by_cases q4 : x.2.2.2.1 ≤ x.2.2.2.2.1
                  · have g4 : decide (x.2.2.2.1 ≤ x.2.2.2.2.1) = true := decide_eq_true q4
                    have HE : Hid (rightJ L x = false) := by
                      show _ = _
                      cases e : rightJ L x with
                      | false => rfl
                      | true =>
                        have hh := (HRI.out.1 e).2.2.2
                        rw [HTK.out, decide_eq_true_iff] at hh
                        omega
                    go_wp2_with fail
                    refine wp_region_bw (by kernel_rfl) (by kernel_rfl) ?_
                    repeat
                      (with_reducible refine wpQuiet_step (fun K hK => ?_)
                       go_simp
                       first
                         | (with_reducible refine hK _ ?_
                            clear hK K)
                         | (rw [if_neg]
                            rotate_left
                            focus (intro h; cases h; done)
                            with_reducible refine hK _ ?_
                            clear hK K)
                         | (apply Exists.intro
                            refine ⟨fun _ => ?_, hK _ ?_⟩
                            (fail)
                            clear hK K))
                    with_reducible refine wpQuiet_nil ?_
                    intro wb hw'
                    obtain ⟨⟨wb', lb⟩, hw''⟩ := hw'
                    subst hw''
                    go_wp2_with fail
                    go_ret
                    exact ⟨ret_bool HE.out.symm, below_step B1.out lb⟩
                  · have g4 : decide (x.2.2.2.1 ≤ x.2.2.2.2.1) = false := decide_eq_false q4
                    by_cases q5 : y.1 ≤ x.2.2.2.2.1
                    · have g5 : decide (y.1 ≤ x.2.2.2.2.1) = true := decide_eq_true q5
                      have HE : Hid (rightJ L x = false) := by
                        show _ = _
                        cases e : rightJ L x with
                        | false => rfl
                        | true =>
                          have hh := (HRI.out.1 e).2.2.2
                          rw [HTK.out, decide_eq_true_iff] at hh
                          omega
                      go_wp2_with fail
                      refine wp_region_bw (by kernel_rfl) (by kernel_rfl) ?_
                      repeat
                        (with_reducible refine wpQuiet_step (fun K hK => ?_)
                         go_simp
                         first
                           | (with_reducible refine hK _ ?_
                              clear hK K)
                           | (rw [if_neg]
                              rotate_left
                              focus (intro h; cases h; done)
                              with_reducible refine hK _ ?_
                              clear hK K)
                           | (apply Exists.intro
                              refine ⟨fun _ => ?_, hK _ ?_⟩
                              (fail)
                              clear hK K))
                      with_reducible refine wpQuiet_nil ?_
                      intro wb hw'
                      obtain ⟨⟨wb', lb⟩, hw''⟩ := hw'
                      subst hw''
                      go_wp2_with fail
                      go_ret
                      exact ⟨ret_bool HE.out.symm, below_step B1.out lb⟩
                    · have g5 : decide (y.1 ≤ x.2.2.2.2.1) = false := decide_eq_false q5
                      have HE : Hid (∀ u : Bool, (u = true ↔ x.2.2.2.2.2 = true ∨ x.2.2.2.2.1 = 0) → rightJ L x = u) := fun u hu => by
                        rw [Bool.eq_iff_iff, HRI.out, HTK.out, decide_eq_true_iff, hu]
                        exact ⟨fun h => h.2.2.2.2.2.2.2.2, fun h => ⟨h5, h6, HTM.out, by omega, by omega, by omega, by omega, by omega, h⟩⟩
                      go_wp2_with fail
                      refine wp_region_bw (by kernel_rfl) (by kernel_rfl) ?_
                      repeat
                        (with_reducible refine wpQuiet_step (fun K hK => ?_)
                         go_simp
                         first
                           | (with_reducible refine hK _ ?_
                              clear hK K)
                           | (rw [if_neg]
                              rotate_left
                              focus (intro h; cases h; done)
                              with_reducible refine hK _ ?_
                              clear hK K)
                           | (apply Exists.intro
                              refine ⟨fun _ => ?_, hK _ ?_⟩
                              (fail)
                              clear hK K))
                      with_reducible refine wpQuiet_nil ?_
                      intro wb hw'
                      obtain ⟨⟨wb', lb⟩, hw''⟩ := hw'
                      subst hw''
                      have y4 := cell_below lb HX1.out.c4
                      have y5 := cell_below lb HX1.out.c5
                      have B2 := Lib.hid (below_step B1.out lb)
                      clear lb
                      cases hb : x.2.2.2.2.2 with
                      | true =>
                        rw [hb] at y5
                        have HF := Lib.hid (HE.out true (by simp [hb]))
                        go_wp2_with fail
                        go_ret
                        exact ⟨ret_bool HF.out.symm, B2.out⟩
                      | false =>
                        rw [hb] at y5
                        by_cases q6 : x.2.2.2.2.1 < 1
                        · have g6 : decide (x.2.2.2.2.1 < 1) = true := decide_eq_true q6
                          have HF := Lib.hid (HE.out true (by simp [hb]; omega))
                          go_wp2_with fail
                          go_ret
                          exact ⟨ret_bool HF.out.symm, B2.out⟩
                        · have g6 : decide (x.2.2.2.2.1 < 1) = false := decide_eq_false q6
                          have HF := Lib.hid (HE.out false (by simp [hb]; omega))
                          go_wp2_with fail
                          go_ret
                          exact ⟨ret_bool HF.out.symm, B2.out⟩
          · have d5 : (x.2.2.1 == x.2.1 + y.2.1) = false := beq_eq_false_iff_ne.2 p5
            have d6 : (x.2.2.1 != x.2.1 + y.2.1) = true := by rw [bne, d5]; rfl
            have HE : Hid (rightJ L x = false) := by
              show _ = _
              cases e : rightJ L x with
              | false => rfl
              | true =>
                have hh := (HRI.out.1 e).2.2.1
                unfold timesJ at hh
                rw [decide_eq_true_iff] at hh
                omega
            refine wp_region_bw (by kernel_rfl) (by kernel_rfl) ?_
            repeat
              (with_reducible refine wpQuiet_step (fun K hK => ?_)
               go_simp
               first
                 | (with_reducible refine hK _ ?_
                    clear hK K)
                 | (rw [if_neg]
                    rotate_left
                    focus (intro h; cases h; done)
                    with_reducible refine hK _ ?_
                    clear hK K)
                 | (apply Exists.intro
                    refine ⟨fun _ => ?_, hK _ ?_⟩
                    (fail)
                    clear hK K))
            with_reducible refine wpQuiet_nil ?_
            intro wb hw'
            obtain ⟨⟨wb', lb⟩, hw''⟩ := hw'
            subst hw''
            go_wp2_with fail
            go_ret
            exact ⟨ret_bool HE.out.symm, below_step B0.out lb⟩

end Pm
end Go.Proofs.Ytdjjdebnbaaihaa

/-
  Layer 14: the document's answer All.
-/
namespace Go.Proofs.Ytdjjdebnbaaihaa
open Go.RowKit Mm Tk
namespace Pm

/-- those ahead of i are right, and unlike all others -/
def Alls (L : List Tsk) (l : List Jb) (i : Nat) : Prop := ∀ a, a < i → rightJ L (at_ l a) = true ∧ ∀ k, k < l.length → k ≠ a → unlike (at_ l a) (at_ l k)
theorem Alls.all {L : List Tsk} {l : List Jb} (ha : allB L = true) (h32 : l.length ≤ 32) (h : Alls L l l.length) : allJ L l = true :=
  allJ_iff.2 ⟨ha, h32, unlike_at.2 fun i k hi hk hne => (h i hi).2 k hk hne.symm, fun j hj => by
    obtain ⟨i, hi, rfl⟩ := mem_at hj
    exact (h i hi).1⟩
theorem allJ_wrong {L : List Tsk} {l : List Jb} {i : Nat} (hi : i < l.length) (h : rightJ L (at_ l i) = false) : allJ L l = false := by
  cases e : allJ L l with
  | false => rfl
  | true => rw [(allJ_iff.1 e).2.2.2 _ (at_mem hi)] at h; cases h
theorem allJ_alike {L : List Tsk} {l : List Jb} {i k : Nat} (hi : i < l.length) (hk : k < l.length) (hne : i ≠ k) (h : ¬ unlike (at_ l i) (at_ l k)) : allJ L l = false := by
  cases e : allJ L l with
  | false => rfl
  | true => exact absurd (unlike_at.1 (allJ_iff.1 e).2.2.1 i k hi hk hne) h

set_option maxRecDepth 20000 in
set_option maxHeartbeats 6400000 in
theorem refAllJobs_any (A B : Option Addr) (c d : Nat) (L : List Tsk) (l : List Jb) (w : World) (HL : TL w A c L) (hbig : l.length ≤ 1000000) (hr : Rd w B d l) :
    Calls Try.prog 18 #[.slice A L.length c, .slice B l.length d] w fun e w' => e = .returned (.bool (allJ L l)) ∧ Below w.heap.size w w' := by
  have HI := Lib.hid (refAll_any A c L w HL.1 HL.2.1 HL.2.2)
  have HT := Lib.hid HL
  have HR := Lib.hid hr
  clear HL hr
  go_enter Try.func18, Try.ntmps18
  go_wp2_with fail
  refine HI.out.mono ?_
  rintro e w1 ⟨rfl, b1⟩
  have B1 := Lib.hid b1
  have HT1 := Lib.hid (HT.out.below b1)
  have HR1 := Lib.hid (HR.out.below b1)
  clear HI HT HR b1
  cases ha : allB L with
  | false =>
    have HE : Hid (allJ L l = false) := by show _ = _; unfold allJ; rw [ha]; rfl
    clear ha
    go_wp2_with fail
    go_ret
    exact ⟨ret_bool HE.out.symm, B1.out⟩
  | true =>
    have HA := Lib.hid ha
    clear ha
    by_cases h32 : 32 < l.length
    · have i1 : (32 : Int) < (l.length : Int) := by omega
      have i2 : decide ((32 : Int) < (l.length : Int)) = true := decide_eq_true i1
      have HE : Hid (allJ L l = false) := by
        show _ = _
        cases e : allJ L l with
        | false => rfl
        | true => have := (allJ_iff.1 e).2.1; omega
      go_wp2_with fail
      go_ret
      exact ⟨ret_bool HE.out.symm, B1.out⟩
    · have i1 : ¬ (32 : Int) < (l.length : Int) := by omega
      have i2 : decide ((32 : Int) < (l.length : Int)) = false := decide_eq_false i1
      go_wp2_with fail
      go_loopw [5] (fun s5 wr => ∃ i : Nat, s5 = .int .i64 i ∧ i ≤ l.length ∧ Hid (Alls L l i) ∧ Hid (Below w1.heap.size w1 wr)) (fun s5 _ => l.length - (intOf s5).toNat)
      case atStart => exact ⟨0, rfl, Nat.zero_le _, (fun a h => by omega), Below.refl _ _⟩
      case round =>
        obtain ⟨i, rfl, hi, HH, HB⟩ := hrel
        by_cases hlt : i < l.length
        · obtain ⟨b, off, rfl, hc⟩ := job_at HR1.out (by omega)
          have HC := Lib.hid (fun j hj => (hc j hj).1)
          clear hc
          have i3 : (i : Int) < (l.length : Int) := by omega
          have HB0 := HB
          generalize wr = wi at *
          go_wp2_with fail
          go_loopw [6] (fun s6 wr => ∃ k : Nat, s6 = .int .i64 k ∧ k ≤ l.length ∧ Hid (∀ q, q < k → q ≠ i → unlike (at_ l i) (at_ l q)) ∧ Hid (Below w1.heap.size w1 wr)) (fun s6 _ => l.length - (intOf s6).toNat)
          case atStart => exact ⟨0, rfl, Nat.zero_le _, (fun a h => by omega), HB0⟩
          case round =>
            clear HB0
            obtain ⟨k, rfl, hk, HU, HB⟩ := hrel
            by_cases hlk : k < l.length
            · have j1 : (k : Int) < (l.length : Int) := by omega
              by_cases hki : k = i
              · subst hki
                have HU2 : Hid (∀ q, q < k + 1 → q ≠ k → unlike (at_ l k) (at_ l q)) := fun q h1 h2 => HU.out q (by omega) h2
                go_wp2_with fail
                refine wp_region_bw (by kernel_rfl) (by kernel_rfl) ?_
                repeat
                  (with_reducible refine wpQuiet_step (fun K hK => ?_)
                   go_simp
                   first
                     | (with_reducible refine hK _ ?_
                        clear hK K)
                     | (rw [if_neg]
                        rotate_left
                        focus (intro h; cases h; done)
                        with_reducible refine hK _ ?_
                        clear hK K)
                     | (apply Exists.intro
                        refine ⟨fun _ => ?_, hK _ ?_⟩
                        (fail)
                        clear hK K))
                with_reducible refine wpQuiet_nil ?_
                intro wb hw'
                obtain ⟨⟨wb', lb⟩, hw''⟩ := hw'
                subst hw''
                have B2 := Lib.hid (below_step HB.out lb)
                clear lb
                go_wp2_with fail
                go_roundw
                case rel => exact ⟨k + 1, by go_num, by omega, HU2, B2⟩
                case measure => simp [intOf]; omega
              · have j2 : ((k : Int) == (i : Int)) = false := beq_eq_false_iff_ne.2 (by omega)
                have j3 : ((k : Int) != (i : Int)) = true := by rw [bne, j2]; rfl
                have j4 : ¬ (k : Int) = (i : Int) := by omega
                have hx := (HC.out k hlk).below HB.out
                have hy := (HC.out i hlt).below HB.out
                have HU2 : Hid (unlike (at_ l i) (at_ l k) → ∀ q, q < k + 1 → q ≠ i → unlike (at_ l i) (at_ l q)) := fun h q h1 h2 => by
                  by_cases e : q = k
                  · rw [e]; exact h
                  · exact HU.out q (by omega) h2
                have HNO : Hid (¬ unlike (at_ l i) (at_ l k) → allJ L l = false) := fun h => allJ_alike hlt hlk (fun e => hki e.symm) h
                generalize at_ l k = x at *
                generalize at_ l i = y at *
                have x0 := cell_bw hx.c0
                have x1 := cell_bw hx.c1
                have y0 := cell_bw hy.c0
                have y1 := cell_bw hy.c1
                clear hx hy
                by_cases t1 : x.1 = y.1
                · have d1 : (x.1 == y.1) = true := beq_iff_eq.2 t1
                  by_cases t2 : x.2.1 = y.2.1
                  · have d2 : (x.2.1 == y.2.1) = true := beq_iff_eq.2 t2
                    have HE := Lib.hid (HNO.out (fun h => h ⟨t1.symm, t2.symm⟩))
                    clear t1 t2
                    go_wp2_with fail
                    refine wp_region_bw (by kernel_rfl) (by kernel_rfl) ?_
                    repeat
                      (with_reducible refine wpQuiet_step (fun K hK => ?_)
                       go_simp
                       first
                         | (with_reducible refine hK _ ?_
                            clear hK K)
                         | (rw [if_neg]
                            rotate_left
                            focus (intro h; cases h; done)
                            with_reducible refine hK _ ?_
                            clear hK K)
                         | (apply Exists.intro
                            refine ⟨fun _ => ?_, hK _ ?_⟩
                            (fail)
                            clear hK K))
                    with_reducible refine wpQuiet_nil ?_
                    intro wb hw'
                    obtain ⟨⟨wb', lb⟩, hw''⟩ := hw'
                    subst hw''
                    have B2 := Lib.hid (below_step HB.out lb)
                    clear lb
                    go_wp2_with fail
                    try rw [Exit.noGoto_ret]
                    go_ret
                    exact ⟨ret_bool HE.out.symm, below_step B1.out B2.out⟩
                  · have d2 : (x.2.1 == y.2.1) = false := beq_eq_false_iff_ne.2 t2
                    replace HU2 := Lib.hid (HU2.out (fun h => t2 h.2.symm))
                    clear t1 t2
                    go_wp2_with fail
                    refine wp_region_bw (by kernel_rfl) (by kernel_rfl) ?_
                    repeat
                      (with_reducible refine wpQuiet_step (fun K hK => ?_)
                       go_simp
                       first
                         | (with_reducible refine hK _ ?_
                            clear hK K)
                         | (rw [if_neg]
                            rotate_left
                            focus (intro h; cases h; done)
                            with_reducible refine hK _ ?_
                            clear hK K)
                         | (apply Exists.intro
                            refine ⟨fun _ => ?_, hK _ ?_⟩
                            (fail)
                            clear hK K))
                    with_reducible refine wpQuiet_nil ?_
                    intro wb hw'
                    obtain ⟨⟨wb', lb⟩, hw''⟩ := hw'
                    subst hw''
                    have B2 := Lib.hid (below_step HB.out lb)
                    clear lb
                    go_wp2_with fail
                    go_roundw
                    case rel => exact ⟨k + 1, by go_num, by omega, HU2, B2⟩
                    case measure => simp [intOf]; omega
                · have d1 : (x.1 == y.1) = false := beq_eq_false_iff_ne.2 t1
                  replace HU2 := Lib.hid (HU2.out (fun h => t1 h.1.symm))
                  clear t1
                  go_wp2_with fail
                  refine wp_region_bw (by kernel_rfl) (by kernel_rfl) ?_
                  repeat
                    (with_reducible refine wpQuiet_step (fun K hK => ?_)
                     go_simp
                     first
                       | (with_reducible refine hK _ ?_
                          clear hK K)
                       | (rw [if_neg]
                          rotate_left
                          focus (intro h; cases h; done)
                          with_reducible refine hK _ ?_
                          clear hK K)
                       | (apply Exists.intro
                          refine ⟨fun _ => ?_, hK _ ?_⟩
                          (fail)
                          clear hK K))
                  with_reducible refine wpQuiet_nil ?_
                  intro wb hw'
                  obtain ⟨⟨wb', lb⟩, hw''⟩ := hw'
                  subst hw''
                  have B2 := Lib.hid (below_step HB.out lb)
                  clear lb
                  go_wp2_with fail
                  go_roundw
                  case rel => exact ⟨k + 1, by go_num, by omega, HU2, B2⟩
                  case measure => simp [intOf]; omega
            · have hkl : k = l.length := by omega
              have j1 : ¬ (k : Int) < (l.length : Int) := by omega
              have hx := (HC.out i hlt).below HB.out
              have HS : Hid (rightJ L (at_ l i) = true → Alls L l (i + 1)) := fun h a h1 => by
                by_cases e : a = i
                · subst e; exact ⟨h, fun q h2 h3 => HU.out q (by omega) h3⟩
                · exact HH.out a (by omega)
              have HNO : Hid (rightJ L (at_ l i) = false → allJ L l = false) := fun h => allJ_wrong hlt h
              clear hkl
              generalize at_ l i = x at *
              have x0 := hx.c0
              have x1 := hx.c1
              have x2 := hx.c2
              have x3 := hx.c3
              have x4 := hx.c4
              have x5 := hx.c5
              clear hx
              go_wp2_with fail
              refine (refJobRight_any A c L x _ HA.out (HT1.out.below HB.out)).mono ?_
              rintro e w2 ⟨rfl, b2⟩
              have B2 := Lib.hid (below_step HB.out b2)
              clear b2
              cases hrj : rightJ L x with
              | true =>
                have HS2 := Lib.hid (HS.out hrj)
                clear hrj
                go_wp2_with fail
                go_roundw
                case rel => exact ⟨i + 1, by go_num, hlt, HS2, B2⟩
                case measure => simp [intOf]; omega
              | false =>
                have HE := Lib.hid (HNO.out hrj)
                clear hrj
                go_wp2_with fail
                try rw [Exit.noGoto_ret]
                go_ret
                exact ⟨ret_bool HE.out.symm, below_step B1.out B2.out⟩
        · have hil : i = l.length := by omega
          have i3 : ¬ (i : Int) < (l.length : Int) := by omega
          have HE : Hid (allJ L l = true) := Alls.all HA.out (by omega) (by have := HH.out; rwa [hil] at this)
          clear hil
          go_wp2_with fail
          go_ret
          exact ⟨ret_bool HE.out.symm, below_step B1.out HB.out⟩


end Pm
end Go.Proofs.Ytdjjdebnbaaihaa

