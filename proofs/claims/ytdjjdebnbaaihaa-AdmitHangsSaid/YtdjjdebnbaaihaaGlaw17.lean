/-
  Merged texts: Law17State, Law17SameAll, Law17Refs, Law17Vs.
-/
import Derived.Test.YtdjjdebnbaaihaaGlaw05
import Derived.Test.YtdjjdebnbaaihaaGlaw14
import Derived.Test.YtdjjdebnbaaihaaGmem
import Derived.Test.YtdjjdebnbaaihaaGpart
import Derived.Test.YtdjjdebnbaaihaaGtask
import Derived.Deep.DeepCutAuto
import Derived.Test.YtdjjdebnbaaihaaGlaw16
/-
  Layer 17: the arguments of the statements, opened: a state.
-/
namespace Go.Proofs.Ytdjjdebnbaaihaa
open Go.ChangeShapes Go.WideShapes Go.ChangeAt Go.RowKit Go.Deep Go.Joins Mm Tk
namespace Pm

theorem opEnt : Opens Try.prog 134 (Int × Int × Int) := opens_struct Try.underlying134 (by kernel_rfl) (fieldsOpen_cons rfl opInt (fieldsOpen_cons rfl opInt (fieldsOpen_one rfl opInt)))
theorem opEnts : Opens Try.prog 26 (List (Int × Int × Int)) := opens_slice Try.underlying26 (by kernel_rfl) opEnt
theorem opState : Opens Try.prog 28 (List Tsk × List Bool × List Int × List Jb × List (Int × Int × Int)) :=
  opens_struct Try.underlying28 (by kernel_rfl) (fieldsOpen_cons rfl opTasks (fieldsOpen_cons rfl opFlags (fieldsOpen_cons rfl opInts (fieldsOpen_cons rfl opJobs (fieldsOpen_one rfl opEnts)))))
section
variable {H : Type} {enc : TypeId × Value → H} {w : World} {base : Nat} {spare : Nat → Bool} {held : Bool}
set_option maxRecDepth 20000 in
theorem open_state {r : Reach} {b0 : Nat} {v : Value} {d : DataW H} {ps : List MemPlace} (hv : Value.okWide Try.prog w r b0 28 v) (h : DataW.Trod enc Try.prog w base spare held 28 v d ps) :
    ∃ (p : Pl) (s : St), v = (.agg #[.slice p.A s.tasks.length p.a, .slice p.B s.leaves.length p.b, .slice p.C s.lasts.length p.c, .slice p.D s.jobs.length p.d, .slice p.E s.log.length p.e]) ∧ StS w (fun _ => True) p s := by
  obtain ⟨cs, x, rfl, hx⟩ := open_strct (α := List Tsk × List Bool × List Int × List Jb × List (Int × Int × Int)) Try.underlying28 opState hv h
  obtain ⟨v1, r1, rfl, h1, hx⟩ := hx
  obtain ⟨v2, r2, rfl, h2, hx⟩ := hx
  obtain ⟨v3, r3, rfl, h3, hx⟩ := hx
  obtain ⟨v4, r4, rfl, h4, h5⟩ := hx
  obtain ⟨A, a, rfl, g1⟩ := h1
  obtain ⟨B, b, rfl, g2⟩ := h2
  obtain ⟨C, c, rfl, g3⟩ := h3
  obtain ⟨D, d, rfl, g4⟩ := h4
  obtain ⟨E, e, rfl, g5⟩ := h5
  exact ⟨⟨A, a, B, b, C, c, D, d, E, e⟩, ⟨x.1, x.2.1, x.2.2.1, x.2.2.2.1, x.2.2.2.2⟩, rfl, ⟨g1, g2, g3, g4, g5⟩⟩
end

end Pm
end Go.Proofs.Ytdjjdebnbaaihaa

/-
  Layer 17: the reference's SameAll at equal lists of tasks.
-/
namespace Go.Proofs.Ytdjjdebnbaaihaa
open Go.RowKit Mm Tk
namespace Pm

theorem sameB_self (x : Tsk) : sameB x x = true := by simp [sameB]
theorem refSame_one (A B : Option Addr) (c d : Nat) (x : Tsk) (n : Nat) (hn : x.2.2.2.length = n) (hb : n ≤ 1000000) (w : World) (h1 : Rd w A c x.2.2.2) (h2 : Rd w B d x.2.2.2) :
    Calls Try.prog 31 #[.agg #[.int .i64 x.1, .int .i64 x.2.1, .int .i64 x.2.2.1, .slice A n c], .agg #[.int .i64 x.1, .int .i64 x.2.1, .int .i64 x.2.2.1, .slice B n d]] w fun e w' => e = .returned (.bool true) ∧ Below w.heap.size w w' := by
  have := refSame_any A B c d x x w (by omega) (by omega) h1 h2
  rw [sameB_self, hn] at this
  exact this
set_option maxRecDepth 20000 in
set_option maxHeartbeats 3200000 in
theorem sameAll_one (A B : Option Addr) (c d : Nat) (l : List Tsk) (n : Nat) (hn : l.length = n) (hbig : n ≤ 1000000) (hin : ∀ j, j < l.length → (at_ l j).2.2.2.length ≤ 1000000) (w : World) (H1 : Rd w A c l) (H2 : Rd w B d l) :
    Calls Try.prog 11 #[.slice A n c, .slice B n d] w fun e w' => e = .returned (.bool true) ∧ Below w.heap.size w w' := by
  subst hn
  have HA := Lib.hid H1
  have HB := Lib.hid H2
  have HIN := Lib.hid hin
  clear H1 H2 hin
  go_enter Try.func11, Try.ntmps11
  go_wp2_with fail
  go_loopw [5] (fun i wr => ∃ k : Nat, i = .int .i64 k ∧ k ≤ l.length ∧ Hid (Below w.heap.size w wr)) (fun i _ => l.length - (intOf i).toNat)
  case atStart => exact ⟨0, rfl, Nat.zero_le _, Below.refl _ _⟩
  case round =>
    obtain ⟨k, rfl, hk, HBL⟩ := hrel
    by_cases hlt : k < l.length
    · obtain ⟨b, off, rfl, hc⟩ := task_at (HA.out.below HBL.out) (by omega)
      obtain ⟨B1, d1, x0, x1, x2, x3, -, -, -, hs1⟩ := hc k hlt
      clear hc
      obtain ⟨b2, off2, rfl, hc⟩ := task_at (HB.out.below HBL.out) (by omega)
      obtain ⟨B2, d2, y0, y1, y2, y3, -, -, -, hs2⟩ := hc k hlt
      clear hc
      have hxl := HIN.out k hlt
      generalize at_ l k = x at *
      obtain ⟨m, hm⟩ : ∃ m, x.2.2.2.length = m := ⟨_, rfl⟩
      rw [hm] at x3 y3 hxl
      have HM := Lib.hid hm
      have HS1 := Lib.hid hs1.rd
      have HS2 := Lib.hid hs2.rd
      have HXL := Lib.hid hxl
      clear hm hs1 hs2 hxl
      have i1 : (0 : Int) ≤ (k : Int) := by omega
      have i2 : (k : Int) < (l.length : Int) := by omega
      go_wp2_with fail
      replace x0 := cell_bw x0
      replace x1 := cell_bw x1
      replace x2 := cell_bw x2
      replace x3 := cell_bw x3
      replace y0 := cell_bw y0
      replace y1 := cell_bw y1
      replace y2 := cell_bw y2
      replace y3 := cell_bw y3
      refine wp_region_bw (by kernel_rfl) (by kernel_rfl) ?_
      repeat
        (with_reducible refine wpQuiet_step (fun K hK => ?_)
         go_simp
         first
           | (with_reducible refine hK _ ?_
              clear hK K)
           | (rw [if_neg]
              rotate_left
              focus (intro h; cases h; done)
              with_reducible refine hK _ ?_
              clear hK K)
           | (apply Exists.intro
              refine ⟨fun _ => ?_, hK _ ?_⟩
              (exact Calls.bw (refSame_one _ _ _ _ x m HM.out HXL.out _ (HS1.out.bw _) (HS2.out.bw _)))
              clear hK K))
      with_reducible refine wpQuiet_nil ?_
      intro wb hw'
      obtain ⟨⟨wb', lb⟩, hw''⟩ := hw'
      subst hw''
      have HB2 := Lib.hid (below_step HBL.out lb)
      clear lb
      go_wp2_with fail
      go_roundw
      case rel => exact ⟨k + 1, by go_num, hlt, HB2⟩
      case measure => (simp [intOf] <;> omega)
    · go_wp2_with fail
      go_ret
      exact ⟨rfl, HBL.out⟩

end Pm
end Go.Proofs.Ytdjjdebnbaaihaa

/-
  Layer 17: the references Right, when; the helpers As, Great.
-/
namespace Go.Proofs.Ytdjjdebnbaaihaa
open Go.RowKit Mm Tk
namespace Pm

theorem rightS_ref (s : St) : rightS s = (decide (s.leaves.length = s.tasks.length) && (Pc.lastsB s.tasks s.lasts && (allJ s.tasks s.jobs && decide (s.log.length ≤ 2000)))) := by
  rw [Bool.eq_iff_iff, rightS_iff]
  simp only [Bool.and_eq_true, decide_eq_true_iff]
  constructor
  · rintro ⟨h1, h2, h3, h4, h5⟩
    have ha := (allJ_iff.1 h4).1
    exact ⟨h1, Pc.lastsB_iff.2 ⟨ha, h2, fun i hi => h3 _ (at_mem hi)⟩, h4, h5⟩
  · rintro ⟨h1, h2, h3, h4⟩
    obtain ⟨_, h5, h6⟩ := Pc.lastsB_iff.1 h2
    refine ⟨h1, h5, fun x hx => ?_, h3, h4⟩
    obtain ⟨j, hj, rfl⟩ := mem_at hx
    exact h6 j hj
def greatS (s : St) : Bool := greatB s.tasks || (decide (50 < s.leaves.length) || (decide (50 < s.lasts.length) || (decide (50 < s.jobs.length) || decide (2010 < s.log.length))))

set_option maxRecDepth 20000 in
set_option maxHeartbeats 1600000 in
theorem rightR_s (p : Pl) (s : St) (v : Bool) (hv : rightS s = v) (w : World) (H : SR w p s) :
    Calls Try.prog 7 #[(.agg #[.slice p.A s.tasks.length p.a, .slice p.B s.leaves.length p.b, .slice p.C s.lasts.length p.c, .slice p.D s.jobs.length p.d, .slice p.E s.log.length p.e])] w fun e w' => e = .returned (.bool v) ∧ Below w.heap.size w w' := by
  have HL : Hid (∀ W, SR W p s → Calls Try.prog 17 #[.slice p.A s.tasks.length p.a, .slice p.C s.lasts.length p.c] W fun e w' => e = .returned (.bool (Pc.lastsB s.tasks s.lasts)) ∧ Below W.heap.size W w') := fun W h => Pc.refRight_any p.A p.a s.tasks p.C p.c s.lasts W h.tl h.il
  have HP : Hid (∀ W, SR W p s → Calls Try.prog 18 #[.slice p.A s.tasks.length p.a, .slice p.D s.jobs.length p.d] W fun e w' => e = .returned (.bool (allJ s.tasks s.jobs)) ∧ Below W.heap.size W w') := fun W h => refAllJobs_any p.A p.D p.a p.d s.tasks s.jobs W h.tl (by have := h.1.j; omega) h.2.j
  have hy := cs_new w p s _ 37 rfl
  have B0 := Lib.hid (below_one w (Obj.cells #[.slice p.A s.tasks.length p.a, .slice p.B s.leaves.length p.b, .slice p.C s.lasts.length p.c, .slice p.D s.jobs.length p.d, .slice p.E s.log.length p.e] 37))
  have HS := Lib.hid (H.below B0.out)
  rw [rightS_ref] at hv
  clear H
  go_enter Try.func7, Try.ntmps7
  go_upto_region 1 with fail
  generalize w.alloc (Obj.cells #[.slice p.A s.tasks.length p.a, .slice p.B s.leaves.length p.b, .slice p.C s.lasts.length p.c, .slice p.D s.jobs.length p.d, .slice p.E s.log.length p.e] 37) = w0 at *
  have y0 := hy.c0
  have y0_1 := hy.c1
  have y0_2 := hy.c2
  have y0_3 := hy.c3
  have y0_4 := hy.c4
  clear hy
  generalize Pc.lastsB s.tasks s.lasts = u2 at *
  generalize allJ s.tasks s.jobs = u3 at *
  by_cases h1 : s.leaves.length = s.tasks.length
  · have e1 : ((s.leaves.length : Int) == (s.tasks.length : Int)) = true := by simp [h1]
    rw [decide_eq_true h1, Bool.true_and] at hv
    clear h1
    cases u2 with
    | false =>
      rw [Bool.false_and] at hv
      subst hv
      go_wp2_with fail
      refine (HL.out _ HS.out).mono ?_
      rintro e w1 ⟨rfl, b1⟩
      replace y0 := cell_below b1 y0
      replace y0_1 := cell_below b1 y0_1
      replace y0_2 := cell_below b1 y0_2
      replace y0_3 := cell_below b1 y0_3
      replace y0_4 := cell_below b1 y0_4
      have B1 := Lib.hid (below_step B0.out b1)
      replace HS := Lib.hid (HS.out.below b1)
      clear b1
      go_wp2_with fail
      go_ret
      exact ⟨rfl, B1.out⟩
    | true =>
      rw [Bool.true_and] at hv
      cases u3 with
      | false =>
        rw [Bool.false_and] at hv
        subst hv
        go_wp2_with fail
        refine (HL.out _ HS.out).mono ?_
        rintro e w1 ⟨rfl, b1⟩
        replace y0 := cell_below b1 y0
        replace y0_1 := cell_below b1 y0_1
        replace y0_2 := cell_below b1 y0_2
        replace y0_3 := cell_below b1 y0_3
        replace y0_4 := cell_below b1 y0_4
        have B1 := Lib.hid (below_step B0.out b1)
        replace HS := Lib.hid (HS.out.below b1)
        clear b1
        go_wp2_with fail
        refine (HP.out _ HS.out).mono ?_
        rintro e w2 ⟨rfl, b2⟩
        replace y0 := cell_below b2 y0
        replace y0_1 := cell_below b2 y0_1
        replace y0_2 := cell_below b2 y0_2
        replace y0_3 := cell_below b2 y0_3
        replace y0_4 := cell_below b2 y0_4
        have B2 := Lib.hid (below_step B1.out b2)
        replace HS := Lib.hid (HS.out.below b2)
        clear b2
        go_wp2_with fail
        go_ret
        exact ⟨rfl, B2.out⟩
      | true =>
        rw [Bool.true_and] at hv
        by_cases h2 : s.log.length ≤ 2000
        · have e2 : decide ((s.log.length : Int) ≤ 2000) = true := decide_eq_true (by omega)
          rw [decide_eq_true h2] at hv
          clear h2
          subst hv
          go_wp2_with fail
          refine (HL.out _ HS.out).mono ?_
          rintro e w1 ⟨rfl, b1⟩
          replace y0 := cell_below b1 y0
          replace y0_1 := cell_below b1 y0_1
          replace y0_2 := cell_below b1 y0_2
          replace y0_3 := cell_below b1 y0_3
          replace y0_4 := cell_below b1 y0_4
          have B1 := Lib.hid (below_step B0.out b1)
          replace HS := Lib.hid (HS.out.below b1)
          clear b1
          go_wp2_with fail
          refine (HP.out _ HS.out).mono ?_
          rintro e w2 ⟨rfl, b2⟩
          replace y0 := cell_below b2 y0
          replace y0_1 := cell_below b2 y0_1
          replace y0_2 := cell_below b2 y0_2
          replace y0_3 := cell_below b2 y0_3
          replace y0_4 := cell_below b2 y0_4
          have B2 := Lib.hid (below_step B1.out b2)
          replace HS := Lib.hid (HS.out.below b2)
          clear b2
          go_wp2_with fail
          go_ret
          exact ⟨rfl, B2.out⟩
        · have e2 : decide ((s.log.length : Int) ≤ 2000) = false := decide_eq_false (by omega)
          rw [decide_eq_false h2] at hv
          clear h2
          subst hv
          go_wp2_with fail
          refine (HL.out _ HS.out).mono ?_
          rintro e w1 ⟨rfl, b1⟩
          replace y0 := cell_below b1 y0
          replace y0_1 := cell_below b1 y0_1
          replace y0_2 := cell_below b1 y0_2
          replace y0_3 := cell_below b1 y0_3
          replace y0_4 := cell_below b1 y0_4
          have B1 := Lib.hid (below_step B0.out b1)
          replace HS := Lib.hid (HS.out.below b1)
          clear b1
          go_wp2_with fail
          refine (HP.out _ HS.out).mono ?_
          rintro e w2 ⟨rfl, b2⟩
          replace y0 := cell_below b2 y0
          replace y0_1 := cell_below b2 y0_1
          replace y0_2 := cell_below b2 y0_2
          replace y0_3 := cell_below b2 y0_3
          replace y0_4 := cell_below b2 y0_4
          have B2 := Lib.hid (below_step B1.out b2)
          replace HS := Lib.hid (HS.out.below b2)
          clear b2
          go_wp2_with fail
          go_ret
          exact ⟨rfl, B2.out⟩
  · have e1 : ((s.leaves.length : Int) == (s.tasks.length : Int)) = false := beq_eq_false_iff_ne.2 (by omega)
    rw [decide_eq_false h1, Bool.false_and] at hv
    clear h1
    subst hv
    go_wp2_with fail
    go_ret
    exact ⟨rfl, B0.out⟩

set_option maxRecDepth 20000 in
theorem as_s (p : Pl) (s : St) (w : World) :
    Calls Try.prog 8 #[(.agg #[.slice p.A s.tasks.length p.a, .slice p.B s.leaves.length p.b, .slice p.C s.lasts.length p.c, .slice p.D s.jobs.length p.d, .slice p.E s.log.length p.e])] w fun e w' => e = .returned (.agg #[.slice p.A s.tasks.length p.a, .slice p.B s.leaves.length p.b, .slice p.C s.lasts.length p.c, .slice p.D s.jobs.length p.d, .slice p.E s.log.length p.e]) ∧ Below w.heap.size w w' := by
  have hy := (cs_new w p s _ 28 rfl).below (below_one _ (Obj.cells #[.slice none 0 0, .slice none 0 0, .slice none 0 0, .slice none 0 0, .slice none 0 0] 37))
  have B0 := Lib.hid (below_two w (Obj.cells #[.slice p.A s.tasks.length p.a, .slice p.B s.leaves.length p.b, .slice p.C s.lasts.length p.c, .slice p.D s.jobs.length p.d, .slice p.E s.log.length p.e] 28) (Obj.cells #[.slice none 0 0, .slice none 0 0, .slice none 0 0, .slice none 0 0, .slice none 0 0] 37))
  go_enter Try.func8, Try.ntmps8
  have y0 := hy.c0
  have y0_1 := hy.c1
  have y0_2 := hy.c2
  have y0_3 := hy.c3
  have y0_4 := hy.c4
  clear hy
  go_wp2_with fail
  have h2 := cs_new (w.alloc (Obj.cells #[.slice p.A s.tasks.length p.a, .slice p.B s.leaves.length p.b, .slice p.C s.lasts.length p.c, .slice p.D s.jobs.length p.d, .slice p.E s.log.length p.e] 28)) p s (w.heap.size + 1) 37 (by simp)
  have k0 := h2.c0
  have k1 := h2.c1
  have k2 := h2.c2
  have k3 := h2.c3
  have k4 := h2.c4
  refine bodyPost_ret (v := (.agg #[.slice p.A s.tasks.length p.a, .slice p.B s.leaves.length p.b, .slice p.C s.lasts.length p.c, .slice p.D s.jobs.length p.d, .slice p.E s.log.length p.e])) (by simp [results, Try.results8, go_sem, k0, k1, k2, k3, k4]) rfl ⟨rfl, below_two _ _ _⟩

set_option maxRecDepth 20000 in
set_option maxHeartbeats 1600000 in
theorem great_s (p : Pl) (s : St) (v : Bool) (hv : greatS s = v) (S : Nat → Prop) (w : World) (H : StS w S p s) :
    Calls Try.prog 4 #[(.agg #[.slice p.A s.tasks.length p.a, .slice p.B s.leaves.length p.b, .slice p.C s.lasts.length p.c, .slice p.D s.jobs.length p.d, .slice p.E s.log.length p.e])] w fun e w' => e = .returned (.bool v) ∧ Below w.heap.size w w' := by
  have hy := cs_new w p s _ 28 rfl
  have B0 := Lib.hid (below_one w (Obj.cells #[.slice p.A s.tasks.length p.a, .slice p.B s.leaves.length p.b, .slice p.C s.lasts.length p.c, .slice p.D s.jobs.length p.d, .slice p.E s.log.length p.e] 28))
  have HS := Lib.hid (H.t.rd.below B0.out)
  have HG := Lib.hid (fun W h => great_any p.A p.a s.tasks W h)
  clear H
  unfold greatS at hv
  go_enter Try.func4, Try.ntmps4
  go_upto_region 1 with fail
  generalize w.alloc (Obj.cells #[.slice p.A s.tasks.length p.a, .slice p.B s.leaves.length p.b, .slice p.C s.lasts.length p.c, .slice p.D s.jobs.length p.d, .slice p.E s.log.length p.e] 28) = w0 at *
  have y0 := hy.c0
  have y0_1 := hy.c1
  have y0_2 := hy.c2
  have y0_3 := hy.c3
  have y0_4 := hy.c4
  clear hy
  generalize greatB s.tasks = u1 at *
  cases u1 with
  | true =>
    rw [Bool.true_or] at hv
    subst hv
    go_wp2_with fail
    refine (HG.out _ HS.out).mono ?_
    rintro e w1 ⟨rfl, b1⟩
    replace y0 := cell_below b1 y0
    replace y0_1 := cell_below b1 y0_1
    replace y0_2 := cell_below b1 y0_2
    replace y0_3 := cell_below b1 y0_3
    replace y0_4 := cell_below b1 y0_4
    have B1 := Lib.hid (below_step B0.out b1)
    clear b1
    go_wp2_with fail
    go_ret
    exact ⟨rfl, B1.out⟩
  | false =>
    rw [Bool.false_or] at hv
    by_cases h1 : 50 < s.leaves.length
    · have e1 : decide (50 < (s.leaves.length : Int)) = true := decide_eq_true (by omega)
      rw [decide_eq_true h1, Bool.true_or] at hv
      subst hv
      clear h1
      go_wp2_with fail
      refine (HG.out _ HS.out).mono ?_
      rintro e w1 ⟨rfl, b1⟩
      replace y0 := cell_below b1 y0
      replace y0_1 := cell_below b1 y0_1
      replace y0_2 := cell_below b1 y0_2
      replace y0_3 := cell_below b1 y0_3
      replace y0_4 := cell_below b1 y0_4
      have B1 := Lib.hid (below_step B0.out b1)
      clear b1
      go_wp2_with fail
      go_ret
      exact ⟨rfl, B1.out⟩
    · have e1 : decide (50 < (s.leaves.length : Int)) = false := decide_eq_false (by omega)
      rw [decide_eq_false h1, Bool.false_or] at hv
      clear h1
      by_cases h2 : 50 < s.lasts.length
      · have e2 : decide (50 < (s.lasts.length : Int)) = true := decide_eq_true (by omega)
        rw [decide_eq_true h2, Bool.true_or] at hv
        subst hv
        clear h2
        go_wp2_with fail
        refine (HG.out _ HS.out).mono ?_
        rintro e w1 ⟨rfl, b1⟩
        replace y0 := cell_below b1 y0
        replace y0_1 := cell_below b1 y0_1
        replace y0_2 := cell_below b1 y0_2
        replace y0_3 := cell_below b1 y0_3
        replace y0_4 := cell_below b1 y0_4
        have B1 := Lib.hid (below_step B0.out b1)
        clear b1
        go_wp2_with fail
        go_ret
        exact ⟨rfl, B1.out⟩
      · have e2 : decide (50 < (s.lasts.length : Int)) = false := decide_eq_false (by omega)
        rw [decide_eq_false h2, Bool.false_or] at hv
        clear h2
        by_cases h3 : 50 < s.jobs.length
        · have e3 : decide (50 < (s.jobs.length : Int)) = true := decide_eq_true (by omega)
          rw [decide_eq_true h3, Bool.true_or] at hv
          subst hv
          clear h3
          go_wp2_with fail
          refine (HG.out _ HS.out).mono ?_
          rintro e w1 ⟨rfl, b1⟩
          replace y0 := cell_below b1 y0
          replace y0_1 := cell_below b1 y0_1
          replace y0_2 := cell_below b1 y0_2
          replace y0_3 := cell_below b1 y0_3
          replace y0_4 := cell_below b1 y0_4
          have B1 := Lib.hid (below_step B0.out b1)
          clear b1
          go_wp2_with fail
          go_ret
          exact ⟨rfl, B1.out⟩
        · have e3 : decide (50 < (s.jobs.length : Int)) = false := decide_eq_false (by omega)
          rw [decide_eq_false h3, Bool.false_or] at hv
          clear h3
          by_cases h4 : 2010 < s.log.length
          · have e4 : decide (2010 < (s.log.length : Int)) = true := decide_eq_true (by omega)
            rw [decide_eq_true h4] at hv
            subst hv
            clear h4
            go_wp2_with fail
            refine (HG.out _ HS.out).mono ?_
            rintro e w1 ⟨rfl, b1⟩
            replace y0 := cell_below b1 y0
            replace y0_1 := cell_below b1 y0_1
            replace y0_2 := cell_below b1 y0_2
            replace y0_3 := cell_below b1 y0_3
            replace y0_4 := cell_below b1 y0_4
            have B1 := Lib.hid (below_step B0.out b1)
            clear b1
            go_wp2_with fail
            go_ret
            exact ⟨rfl, B1.out⟩
          · have e4 : decide (2010 < (s.log.length : Int)) = false := decide_eq_false (by omega)
            rw [decide_eq_false h4] at hv
            subst hv
            clear h4
            go_wp2_with fail
            refine (HG.out _ HS.out).mono ?_
            rintro e w1 ⟨rfl, b1⟩
            replace y0 := cell_below b1 y0
            replace y0_1 := cell_below b1 y0_1
            replace y0_2 := cell_below b1 y0_2
            replace y0_3 := cell_below b1 y0_3
            replace y0_4 := cell_below b1 y0_4
            have B1 := Lib.hid (below_step B0.out b1)
            clear b1
            go_wp2_with fail
            go_ret
            exact ⟨rfl, B1.out⟩

end Pm
end Go.Proofs.Ytdjjdebnbaaihaa

/-
  Layer 17: a state variable of a statement.
-/
namespace Go.Proofs.Ytdjjdebnbaaihaa
open Go.RowKit Mm Tk
namespace Pm

/-- a state in a variable of the caller's, block V -/
structure Vs (w0 w : World) (V : Nat) (p : Pl) (s : St) : Prop where
  y : Ys w V p s
  r : StS w (fun b => b ≠ V) p s
  z : Sz s
  v : w0.heap.size ≤ V
  b : Below w0.heap.size w0 w
theorem Vs.arg {w0 w : World} {V : Nat} {p : Pl} {s : St} (h : Vs w0 w V p s) : StS w (fun b => b < w.heap.size ∧ b ≠ V) p s := h.r.keep fun _ hb hv => ⟨⟨hb, hv⟩, rfl⟩
theorem Vs.below {w0 w w' : World} {V : Nat} {p : Pl} {s : St} (h : Vs w0 w V p s) (b : Below w.heap.size w w') : Vs w0 w' V p s := ⟨h.y.below b, h.r.below b, h.z, h.v, below_step h.b b⟩
theorem Vs.step {w0 w w' : World} {V : Nat} {p q : Pl} {s r : St} (h : Vs w0 w V p s) (hr : Sz r ∧ StS w' (Upw (fun b => b < w.heap.size ∧ b ≠ V) w) q r) (b : Below w.heap.size w w') : Vs w0 (putS w' V q r) V q r := by
  have hg := gb_putS (gb_refl w' (some V)) V q r (.inr rfl)
  have hV := h.y.lt
  refine ⟨(h.y.below b).put q r, (hr.2.gb hg fun k hk e => ?_).keep fun k _ hk => ⟨?_, rfl⟩, hr.1, h.v, below_of_gb (below_step h.b b) hg (below_step h.b b).size (fun k hk => by injection hk with hk; have := h.v; omega)⟩
  · injection e with e
    subst e
    exact hk.elim (fun h => h.2 rfl) (fun h => by omega)
  · exact hk.elim (fun h => h.2) (fun h => by omega)
/-- .. newly made -/
theorem Vs.made {w0 w : World} {p : Pl} {s : St} {S : Nat → Prop} (hb : Below w0.heap.size w0 w) (h : Sz s ∧ StS w S p s) : Vs w0 (w.alloc (.cells #[.slice p.A s.tasks.length p.a, .slice p.B s.leaves.length p.b, .slice p.C s.lasts.length p.c, .slice p.D s.jobs.length p.d, .slice p.E s.log.length p.e] 28)) w.heap.size p s :=
  ⟨⟨cs_new w p s _ _ rfl, fun o => fr_new _ _ _ _ rfl o⟩, (h.2.old.below (below_one w _)).keep fun _ _ hb' => ⟨Nat.ne_of_lt hb', rfl⟩, h.1, hb.size, below_step hb (below_one w _)⟩

theorem st_parts {a b : St} (h1 : a.tasks = b.tasks) (h2 : a.leaves = b.leaves) (h3 : a.lasts = b.lasts) (h4 : a.jobs = b.jobs) (h5 : a.log = b.log) : a = b := by
  cases a
  cases b
  simp only at h1 h2 h3 h4 h5
  subst h1 h2 h3 h4 h5
  rfl
theorem kz0 : Sz noSt := ⟨Nat.zero_le _, fun j hj => by simp [noSt] at hj, Nat.zero_le _, Nat.zero_le _, Nat.zero_le _, Nat.zero_le _⟩
theorem buildTask3 (C D T : Int) (w : World) : (Instr.build 33 #[(0, .int .i64 C), (1, .int .i64 D), (2, .int .i64 T)]).run Try.prog w = .ok (.agg #[.int .i64 C, .int .i64 D, .int .i64 T, .slice none 0 0]) w := by kernel_rfl
theorem Vs.sr {w0 w : World} {V : Nat} {p : Pl} {s : St} (h : Vs w0 w V p s) : SR w p s := ⟨h.z, h.r.keep fun _ _ _ => ⟨trivial, rfl⟩⟩

end Pm
end Go.Proofs.Ytdjjdebnbaaihaa

