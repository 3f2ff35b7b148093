/-
  For any two states, any interface and any task the statement AdmitHangs of layer 20 returns true (what is answered hangs on the tasks that are there, the interface, and whether a job began, alone), and its arguments read as before. No condition.
-/
import Derived.Test.YtdjjdebnbaaihaaGlaw05
import Derived.Test.YtdjjdebnbaaihaaGlaw09
import Derived.Test.YtdjjdebnbaaihaaGlaw17
import Derived.Test.YtdjjdebnbaaihaaGlaw20
import Derived.Test.YtdjjdebnbaaihaaGlaw20b
namespace Go.Proofs.Ytdjjdebnbaaihaa.admitHangs
open Go.ChangeShapes Go.WideShapes Go.ChangeAt Go.RowKit
open Mm Tk Vd Pm

set_option maxRecDepth 20000 in
set_option maxHeartbeats 4000000 in
theorem walk (p : Pl) (s : St) (q : Pl) (u : St) (P B : Int) (D : Option Addr) (d : Nat) (x : Tsk) (w : World) (HS : StS w (fun _ => True) p s) (HUS : StS w (fun _ => True) q u) (_ : Fit P) (_ : Fit B) (fx1 : Fit x.1) (fx2 : Fit x.2.1) (fx3 : Fit x.2.2.1) (hx : Rd w D d x.2.2.2) :
    Calls Try.prog 3 #[(.agg #[.slice p.A s.tasks.length p.a, .slice p.B s.leaves.length p.b, .slice p.C s.lasts.length p.c, .slice p.D s.jobs.length p.d, .slice p.E s.log.length p.e]), (.agg #[.slice q.A u.tasks.length q.a, .slice q.B u.leaves.length q.b, .slice q.C u.lasts.length q.c, .slice q.D u.jobs.length q.d, .slice q.E u.log.length q.e]), .agg #[.int .i64 P, .int .i64 B], .agg #[.int .i64 x.1, .int .i64 x.2.1, .int .i64 x.2.2.1, .slice D x.2.2.2.length d]] w fun e w' => e = .returned (.bool true) ∧ Below w.heap.size w w' := by
  have B0 := Lib.hid ((below_three w (Obj.cells #[.slice p.A s.tasks.length p.a, .slice p.B s.leaves.length p.b, .slice p.C s.lasts.length p.c, .slice p.D s.jobs.length p.d, .slice p.E s.log.length p.e] 28) (Obj.cells #[.slice q.A u.tasks.length q.a, .slice q.B u.leaves.length q.b, .slice q.C u.lasts.length q.c, .slice q.D u.jobs.length q.d, .slice q.E u.log.length q.e] 28) (Obj.cells #[.int .i64 P, .int .i64 B] 30)).alloc (by simp; omega) (Obj.cells #[.int .i64 x.1, .int .i64 x.2.1, .int .i64 x.2.2.1, .slice D x.2.2.2.length d] 33))
  have HY := Lib.hid ((((cs_new w p s _ 28 rfl).below (below_one _ (Obj.cells #[.slice q.A u.tasks.length q.a, .slice q.B u.leaves.length q.b, .slice q.C u.lasts.length q.c, .slice q.D u.jobs.length q.d, .slice q.E u.log.length q.e] 28))).below (below_one _ (Obj.cells #[.int .i64 P, .int .i64 B] 30))).below (below_one _ (Obj.cells #[.int .i64 x.1, .int .i64 x.2.1, .int .i64 x.2.2.1, .slice D x.2.2.2.length d] 33)))
  have HU : Hid (Ys ((((w.alloc (Obj.cells #[.slice p.A s.tasks.length p.a, .slice p.B s.leaves.length p.b, .slice p.C s.lasts.length p.c, .slice p.D s.jobs.length p.d, .slice p.E s.log.length p.e] 28)).alloc (Obj.cells #[.slice q.A u.tasks.length q.a, .slice q.B u.leaves.length q.b, .slice q.C u.lasts.length q.c, .slice q.D u.jobs.length q.d, .slice q.E u.log.length q.e] 28)).alloc (Obj.cells #[.int .i64 P, .int .i64 B] 30)).alloc (Obj.cells #[.int .i64 x.1, .int .i64 x.2.1, .int .i64 x.2.2.1, .slice D x.2.2.2.length d] 33)) (w.heap.size + 1) q u) :=
    ((⟨cs_new (w.alloc (Obj.cells #[.slice p.A s.tasks.length p.a, .slice p.B s.leaves.length p.b, .slice p.C s.lasts.length p.c, .slice p.D s.jobs.length p.d, .slice p.E s.log.length p.e] 28)) q u (w.heap.size + 1) 28 (by simp), fun o => fr_new _ _ _ _ (by simp) o⟩ : Ys _ _ _ _).below (below_one _ (Obj.cells #[.int .i64 P, .int .i64 B] 30))).below (below_one _ (Obj.cells #[.int .i64 x.1, .int .i64 x.2.1, .int .i64 x.2.2.1, .slice D x.2.2.2.length d] 33))
  have YB : Hid (Ld w.heap.size (w.heap.size + 2) (w.heap.size + 3) p.A s.tasks.length p.a P B x D d ((((w.alloc (Obj.cells #[.slice p.A s.tasks.length p.a, .slice p.B s.leaves.length p.b, .slice p.C s.lasts.length p.c, .slice p.D s.jobs.length p.d, .slice p.E s.log.length p.e] 28)).alloc (Obj.cells #[.slice q.A u.tasks.length q.a, .slice q.B u.leaves.length q.b, .slice q.C u.lasts.length q.c, .slice q.D u.jobs.length q.d, .slice q.E u.log.length q.e] 28)).alloc (Obj.cells #[.int .i64 P, .int .i64 B] 30)).alloc (Obj.cells #[.int .i64 x.1, .int .i64 x.2.1, .int .i64 x.2.2.1, .slice D x.2.2.2.length d] 33))) := by
    obtain ⟨t1, t2⟩ := Sp.fc_new ((w.alloc (Obj.cells #[.slice p.A s.tasks.length p.a, .slice p.B s.leaves.length p.b, .slice p.C s.lasts.length p.c, .slice p.D s.jobs.length p.d, .slice p.E s.log.length p.e] 28)).alloc (Obj.cells #[.slice q.A u.tasks.length q.a, .slice q.B u.leaves.length q.b, .slice q.C u.lasts.length q.c, .slice q.D u.jobs.length q.d, .slice q.E u.log.length q.e] 28)) P B
    rw [World.size_alloc, World.size_alloc] at t1 t2
    have b := below_one (((w.alloc (Obj.cells #[.slice p.A s.tasks.length p.a, .slice p.B s.leaves.length p.b, .slice p.C s.lasts.length p.c, .slice p.D s.jobs.length p.d, .slice p.E s.log.length p.e] 28)).alloc (Obj.cells #[.slice q.A u.tasks.length q.a, .slice q.B u.leaves.length q.b, .slice q.C u.lasts.length q.c, .slice q.D u.jobs.length q.d, .slice q.E u.log.length q.e] 28)).alloc (Obj.cells #[.int .i64 P, .int .i64 B] 30)) (Obj.cells #[.int .i64 x.1, .int .i64 x.2.1, .int .i64 x.2.2.1, .slice D x.2.2.2.length d] 33)
    obtain ⟨z1, z2, z3, z4⟩ := box_at (((w.alloc (Obj.cells #[.slice p.A s.tasks.length p.a, .slice p.B s.leaves.length p.b, .slice p.C s.lasts.length p.c, .slice p.D s.jobs.length p.d, .slice p.E s.log.length p.e] 28)).alloc (Obj.cells #[.slice q.A u.tasks.length q.a, .slice q.B u.leaves.length q.b, .slice q.C u.lasts.length q.c, .slice q.D u.jobs.length q.d, .slice q.E u.log.length q.e] 28)).alloc (Obj.cells #[.int .i64 P, .int .i64 B] 30)) x.1 x.2.1 x.2.2.1 D x.2.2.2.length d (w.heap.size + 3) (by simp)
    exact ⟨HY.out.c0, cell_below b t1, cell_below b t2, z1, z2, z3, z4⟩
  have HST := Lib.hid (HS.old.below B0.out)
  have HUT := Lib.hid (HUS.old.below B0.out)
  have HX2 : Hid (RdS _ (fun b => b < w.heap.size) D d x.2.2.2) := (RdS.keep hx fun k hk _ => ⟨hk, B0.out.block k hk⟩)
  have F1 := Lib.hid fx1
  have F2 := Lib.hid fx2
  have F3 := Lib.hid fx3
  clear HS HUS hx fx1 fx2 fx3
  cases hg : greatS s with
  | true =>
    go_enter Try.func3, Try.ntmps3
    go_upto_region 1 with fail
    generalize (((w.alloc (Obj.cells #[.slice p.A s.tasks.length p.a, .slice p.B s.leaves.length p.b, .slice p.C s.lasts.length p.c, .slice p.D s.jobs.length p.d, .slice p.E s.log.length p.e] 28)).alloc (Obj.cells #[.slice q.A u.tasks.length q.a, .slice q.B u.leaves.length q.b, .slice q.C u.lasts.length q.c, .slice q.D u.jobs.length q.d, .slice q.E u.log.length q.e] 28)).alloc (Obj.cells #[.int .i64 P, .int .i64 B] 30)).alloc (Obj.cells #[.int .i64 x.1, .int .i64 x.2.1, .int .i64 x.2.2.1, .slice D x.2.2.2.length d] 33) = w2 at *
    obtain ⟨Y, hY⟩ : ∃ Y, w.heap.size = Y := ⟨_, rfl⟩
    obtain ⟨Z, hZ⟩ : ∃ Z, Y + 1 = Z := ⟨_, rfl⟩
    obtain ⟨F, hF⟩ : ∃ F, Y + 1 + 1 = F := ⟨_, rfl⟩
    obtain ⟨X, hX⟩ : ∃ X, Y + 1 + 1 + 1 = X := ⟨_, rfl⟩
    have HZY : Hid (w.heap.size ≤ Z ∧ Y ≠ Z ∧ F ≠ Z ∧ X ≠ Z) := by show _ ∧ _; omega
    rw [hY] at YB HY HU
    rw [hZ] at HU
    rw [show Y + 2 = F from hF, show Y + 3 = X from hX] at YB
    rw [hZ] at hF hX
    rw [hF] at hX
    rw [hY, hZ, hF, hX]
    clear hX hF hZ hY
    obtain ⟨_, f1, f2, z1, z2, z3, z4⟩ := YB.out
    obtain ⟨y0, y1, y2, y3, y4⟩ := HY.out
    obtain ⟨x0, x1, x2, x3, x4⟩ := HU.out.c
    go_wp2_with fail
    clear f1 f2 z1 z2 z3 z4 y0 y1 y2 y3 y4 x0 x1 x2 x3 x4
    refine (great_s p s _ hg _ _ HST.out).mono ?_
    rintro e w3 ⟨rfl, b3⟩
    have B3 := Lib.hid (below_step B0.out b3)
    replace YB := Lib.hid (YB.out.below b3)
    replace HY := Lib.hid (HY.out.below b3)
    replace HU := Lib.hid (HU.out.below b3)
    replace HST := Lib.hid (HST.out.below b3)
    replace HUT := Lib.hid (HUT.out.below b3)
    replace HX2 := Lib.hid (HX2.out.below b3)
    clear b3
    obtain ⟨_, f1, f2, z1, z2, z3, z4⟩ := YB.out
    obtain ⟨y0, y1, y2, y3, y4⟩ := HY.out
    obtain ⟨x0, x1, x2, x3, x4⟩ := HU.out.c
    go_wp2_with fail
    clear f1 f2 z1 z2 z3 z4 y0 y1 y2 y3 y4 x0 x1 x2 x3 x4
    refine (knows20_any _).mono ?_
    rintro e w4 ⟨rfl, b4⟩
    have B4 := Lib.hid (below_step B3.out b4)
    clear b4
    go_wp2_with fail
    go_ret
    exact ⟨rfl, B4.out⟩
  | false =>
    have HZ := Lib.hid (greatS_no hg)
    cases hg2 : greatS u with
    | true =>
      go_enter Try.func3, Try.ntmps3
      go_upto_region 1 with fail
      generalize (((w.alloc (Obj.cells #[.slice p.A s.tasks.length p.a, .slice p.B s.leaves.length p.b, .slice p.C s.lasts.length p.c, .slice p.D s.jobs.length p.d, .slice p.E s.log.length p.e] 28)).alloc (Obj.cells #[.slice q.A u.tasks.length q.a, .slice q.B u.leaves.length q.b, .slice q.C u.lasts.length q.c, .slice q.D u.jobs.length q.d, .slice q.E u.log.length q.e] 28)).alloc (Obj.cells #[.int .i64 P, .int .i64 B] 30)).alloc (Obj.cells #[.int .i64 x.1, .int .i64 x.2.1, .int .i64 x.2.2.1, .slice D x.2.2.2.length d] 33) = w2 at *
      obtain ⟨Y, hY⟩ : ∃ Y, w.heap.size = Y := ⟨_, rfl⟩
      obtain ⟨Z, hZ⟩ : ∃ Z, Y + 1 = Z := ⟨_, rfl⟩
      obtain ⟨F, hF⟩ : ∃ F, Y + 1 + 1 = F := ⟨_, rfl⟩
      obtain ⟨X, hX⟩ : ∃ X, Y + 1 + 1 + 1 = X := ⟨_, rfl⟩
      have HZY : Hid (w.heap.size ≤ Z ∧ Y ≠ Z ∧ F ≠ Z ∧ X ≠ Z) := by show _ ∧ _; omega
      rw [hY] at YB HY HU
      rw [hZ] at HU
      rw [show Y + 2 = F from hF, show Y + 3 = X from hX] at YB
      rw [hZ] at hF hX
      rw [hF] at hX
      rw [hY, hZ, hF, hX]
      clear hX hF hZ hY
      obtain ⟨_, f1, f2, z1, z2, z3, z4⟩ := YB.out
      obtain ⟨y0, y1, y2, y3, y4⟩ := HY.out
      obtain ⟨x0, x1, x2, x3, x4⟩ := HU.out.c
      go_wp2_with fail
      clear f1 f2 z1 z2 z3 z4 y0 y1 y2 y3 y4 x0 x1 x2 x3 x4
      refine (great_s p s _ hg _ _ HST.out).mono ?_
      rintro e w3 ⟨rfl, b3⟩
      have B3 := Lib.hid (below_step B0.out b3)
      replace YB := Lib.hid (YB.out.below b3)
      replace HY := Lib.hid (HY.out.below b3)
      replace HU := Lib.hid (HU.out.below b3)
      replace HST := Lib.hid (HST.out.below b3)
      replace HUT := Lib.hid (HUT.out.below b3)
      replace HX2 := Lib.hid (HX2.out.below b3)
      clear b3
      obtain ⟨_, f1, f2, z1, z2, z3, z4⟩ := YB.out
      obtain ⟨y0, y1, y2, y3, y4⟩ := HY.out
      obtain ⟨x0, x1, x2, x3, x4⟩ := HU.out.c
      go_wp2_with fail
      clear f1 f2 z1 z2 z3 z4 y0 y1 y2 y3 y4 x0 x1 x2 x3 x4
      refine (great_s q u _ hg2 _ _ HUT.out).mono ?_
      rintro e w4 ⟨rfl, b3⟩
      have B4 := Lib.hid (below_step B3.out b3)
      replace YB := Lib.hid (YB.out.below b3)
      replace HY := Lib.hid (HY.out.below b3)
      replace HU := Lib.hid (HU.out.below b3)
      replace HST := Lib.hid (HST.out.below b3)
      replace HUT := Lib.hid (HUT.out.below b3)
      replace HX2 := Lib.hid (HX2.out.below b3)
      clear b3
      obtain ⟨_, f1, f2, z1, z2, z3, z4⟩ := YB.out
      obtain ⟨y0, y1, y2, y3, y4⟩ := HY.out
      obtain ⟨x0, x1, x2, x3, x4⟩ := HU.out.c
      go_wp2_with fail
      clear f1 f2 z1 z2 z3 z4 y0 y1 y2 y3 y4 x0 x1 x2 x3 x4
      refine (knows20_any _).mono ?_
      rintro e w5 ⟨rfl, b5⟩
      have B5 := Lib.hid (below_step B4.out b5)
      clear b5
      go_wp2_with fail
      go_ret
      exact ⟨rfl, B5.out⟩
    | false =>
      have HZU := Lib.hid (greatS_no hg2)
      by_cases h20 : 20 < x.2.2.2.length
      · have i1 : (20 : Int) < (x.2.2.2.length : Int) := by omega
        clear h20
        go_enter Try.func3, Try.ntmps3
        go_upto_region 1 with fail
        generalize (((w.alloc (Obj.cells #[.slice p.A s.tasks.length p.a, .slice p.B s.leaves.length p.b, .slice p.C s.lasts.length p.c, .slice p.D s.jobs.length p.d, .slice p.E s.log.length p.e] 28)).alloc (Obj.cells #[.slice q.A u.tasks.length q.a, .slice q.B u.leaves.length q.b, .slice q.C u.lasts.length q.c, .slice q.D u.jobs.length q.d, .slice q.E u.log.length q.e] 28)).alloc (Obj.cells #[.int .i64 P, .int .i64 B] 30)).alloc (Obj.cells #[.int .i64 x.1, .int .i64 x.2.1, .int .i64 x.2.2.1, .slice D x.2.2.2.length d] 33) = w2 at *
        obtain ⟨Y, hY⟩ : ∃ Y, w.heap.size = Y := ⟨_, rfl⟩
        obtain ⟨Z, hZ⟩ : ∃ Z, Y + 1 = Z := ⟨_, rfl⟩
        obtain ⟨F, hF⟩ : ∃ F, Y + 1 + 1 = F := ⟨_, rfl⟩
        obtain ⟨X, hX⟩ : ∃ X, Y + 1 + 1 + 1 = X := ⟨_, rfl⟩
        have HZY : Hid (w.heap.size ≤ Z ∧ Y ≠ Z ∧ F ≠ Z ∧ X ≠ Z) := by show _ ∧ _; omega
        rw [hY] at YB HY HU
        rw [hZ] at HU
        rw [show Y + 2 = F from hF, show Y + 3 = X from hX] at YB
        rw [hZ] at hF hX
        rw [hF] at hX
        rw [hY, hZ, hF, hX]
        clear hX hF hZ hY
        obtain ⟨_, f1, f2, z1, z2, z3, z4⟩ := YB.out
        obtain ⟨y0, y1, y2, y3, y4⟩ := HY.out
        obtain ⟨x0, x1, x2, x3, x4⟩ := HU.out.c
        go_wp2_with fail
        clear f1 f2 z1 z2 z3 z4 y0 y1 y2 y3 y4 x0 x1 x2 x3 x4
        refine (great_s p s _ hg _ _ HST.out).mono ?_
        rintro e w3 ⟨rfl, b3⟩
        have B3 := Lib.hid (below_step B0.out b3)
        replace YB := Lib.hid (YB.out.below b3)
        replace HY := Lib.hid (HY.out.below b3)
        replace HU := Lib.hid (HU.out.below b3)
        replace HST := Lib.hid (HST.out.below b3)
        replace HUT := Lib.hid (HUT.out.below b3)
        replace HX2 := Lib.hid (HX2.out.below b3)
        clear b3
        obtain ⟨_, f1, f2, z1, z2, z3, z4⟩ := YB.out
        obtain ⟨y0, y1, y2, y3, y4⟩ := HY.out
        obtain ⟨x0, x1, x2, x3, x4⟩ := HU.out.c
        go_wp2_with fail
        clear f1 f2 z1 z2 z3 z4 y0 y1 y2 y3 y4 x0 x1 x2 x3 x4
        refine (great_s q u _ hg2 _ _ HUT.out).mono ?_
        rintro e w4 ⟨rfl, b3⟩
        have B4 := Lib.hid (below_step B3.out b3)
        replace YB := Lib.hid (YB.out.below b3)
        replace HY := Lib.hid (HY.out.below b3)
        replace HU := Lib.hid (HU.out.below b3)
        replace HST := Lib.hid (HST.out.below b3)
        replace HUT := Lib.hid (HUT.out.below b3)
        replace HX2 := Lib.hid (HX2.out.below b3)
        clear b3
        obtain ⟨_, f1, f2, z1, z2, z3, z4⟩ := YB.out
        obtain ⟨y0, y1, y2, y3, y4⟩ := HY.out
        obtain ⟨x0, x1, x2, x3, x4⟩ := HU.out.c
        go_wp2_with fail
        clear f1 f2 z1 z2 z3 z4 y0 y1 y2 y3 y4 x0 x1 x2 x3 x4
        refine (knows20_any _).mono ?_
        rintro e w5 ⟨rfl, b5⟩
        have B5 := Lib.hid (below_step B4.out b5)
        clear b5
        go_wp2_with fail
        go_ret
        exact ⟨rfl, B5.out⟩
      · have i1 : ¬ (20 : Int) < (x.2.2.2.length : Int) := by omega
        have HK20 : Hid (x.2.2.2.length ≤ 20) := by show _ ≤ _; omega
        clear h20
        obtain ⟨rs, hrs⟩ : ∃ v, rightS s = v := ⟨_, rfl⟩
        obtain ⟨ru, hru⟩ : ∃ v, rightS (tkS u s) = v := ⟨_, rfl⟩
        have HUE : Hid ((tkS u s).tasks = s.tasks) := rfl
        cases rs with
        | false =>
          go_enter Try.func3, Try.ntmps3
          go_upto_region 1 with fail
          generalize (((w.alloc (Obj.cells #[.slice p.A s.tasks.length p.a, .slice p.B s.leaves.length p.b, .slice p.C s.lasts.length p.c, .slice p.D s.jobs.length p.d, .slice p.E s.log.length p.e] 28)).alloc (Obj.cells #[.slice q.A u.tasks.length q.a, .slice q.B u.leaves.length q.b, .slice q.C u.lasts.length q.c, .slice q.D u.jobs.length q.d, .slice q.E u.log.length q.e] 28)).alloc (Obj.cells #[.int .i64 P, .int .i64 B] 30)).alloc (Obj.cells #[.int .i64 x.1, .int .i64 x.2.1, .int .i64 x.2.2.1, .slice D x.2.2.2.length d] 33) = w2 at *
          obtain ⟨Y, hY⟩ : ∃ Y, w.heap.size = Y := ⟨_, rfl⟩
          obtain ⟨Z, hZ⟩ : ∃ Z, Y + 1 = Z := ⟨_, rfl⟩
          obtain ⟨F, hF⟩ : ∃ F, Y + 1 + 1 = F := ⟨_, rfl⟩
          obtain ⟨X, hX⟩ : ∃ X, Y + 1 + 1 + 1 = X := ⟨_, rfl⟩
          have HZY : Hid (w.heap.size ≤ Z ∧ Y ≠ Z ∧ F ≠ Z ∧ X ≠ Z) := by show _ ∧ _; omega
          rw [hY] at YB HY HU
          rw [hZ] at HU
          rw [show Y + 2 = F from hF, show Y + 3 = X from hX] at YB
          rw [hZ] at hF hX
          rw [hF] at hX
          rw [hY, hZ, hF, hX]
          clear hX hF hZ hY
          obtain ⟨_, f1, f2, z1, z2, z3, z4⟩ := YB.out
          obtain ⟨y0, y1, y2, y3, y4⟩ := HY.out
          obtain ⟨x0, x1, x2, x3, x4⟩ := HU.out.c
          go_wp2_with fail
          clear f1 f2 z1 z2 z3 z4 y0 y1 y2 y3 y4 x0 x1 x2 x3 x4
          refine (great_s p s _ hg _ _ HST.out).mono ?_
          rintro e w3 ⟨rfl, b3⟩
          have B3 := Lib.hid (below_step B0.out b3)
          replace YB := Lib.hid (YB.out.below b3)
          replace HY := Lib.hid (HY.out.below b3)
          replace HU := Lib.hid (HU.out.below b3)
          replace HST := Lib.hid (HST.out.below b3)
          replace HUT := Lib.hid (HUT.out.below b3)
          replace HX2 := Lib.hid (HX2.out.below b3)
          clear b3
          obtain ⟨_, f1, f2, z1, z2, z3, z4⟩ := YB.out
          obtain ⟨y0, y1, y2, y3, y4⟩ := HY.out
          obtain ⟨x0, x1, x2, x3, x4⟩ := HU.out.c
          go_wp2_with fail
          clear f1 f2 z1 z2 z3 z4 y0 y1 y2 y3 y4 x0 x1 x2 x3 x4
          refine (great_s q u _ hg2 _ _ HUT.out).mono ?_
          rintro e w4 ⟨rfl, b3⟩
          have B4 := Lib.hid (below_step B3.out b3)
          replace YB := Lib.hid (YB.out.below b3)
          replace HY := Lib.hid (HY.out.below b3)
          replace HU := Lib.hid (HU.out.below b3)
          replace HST := Lib.hid (HST.out.below b3)
          replace HUT := Lib.hid (HUT.out.below b3)
          replace HX2 := Lib.hid (HX2.out.below b3)
          clear b3
          obtain ⟨_, f1, f2, z1, z2, z3, z4⟩ := YB.out
          obtain ⟨y0, y1, y2, y3, y4⟩ := HY.out
          obtain ⟨x0, x1, x2, x3, x4⟩ := HU.out.c
          have g0 := HU.out.f 0
          go_upto_region 4 with fail
          clear f1 f2 z1 z2 z3 z4 y0 y1 y2 y3 y4 x0 x1 x2 x3 x4
          clear g0
          have g5 := gb_one w4 Z 0 (.slice p.A s.tasks.length p.a)
          have hz1 : some Y ≠ some Z := fun e => HZY.out.2.1 (Option.some.inj e)
          have hz2 : some F ≠ some Z := fun e => HZY.out.2.2.1 (Option.some.inj e)
          have hz3 : some X ≠ some Z := fun e => HZY.out.2.2.2 (Option.some.inj e)
          have hz4 : ∀ b, b < w.heap.size → some b ≠ some Z := fun b hb e => by have := HZY.out.1; injection e with e; omega
          replace YB := Lib.hid (YB.out.gb g5 hz1 hz2 hz3)
          replace HY := Lib.hid (HY.out.gb g5 hz1)
          replace HU := Lib.hid (HU.out.takes p s)
          replace HUT := Lib.hid ((HUT.out.takes HST.out).gb g5 hz4)
          replace HST := Lib.hid (HST.out.gb g5 hz4)
          replace HX2 : Hid (RdS _ (fun b => b < w.heap.size) D d x.2.2.2) := (RdS.keep HX2.out fun k hk hs => ⟨hs, g5.block k hk (hz4 k hs)⟩)
          have B5 : Hid (Below w.heap.size w (w4.setCell ⟨Z, 0, none⟩ (.slice p.A s.tasks.length p.a))) := B4.out.setCell (p := ⟨Z, 0, none⟩) HZY.out.1 _
          have HZV := Lib.hid (HZU.out.takes HZ.out)
          clear g5 hz1 hz2 hz3 hz4 HZY HZU
          generalize w4.setCell ⟨Z, 0, none⟩ (.slice p.A s.tasks.length p.a) = w5 at *
          generalize tkS u s = u2 at *
          generalize tkP q p = q2 at *
          obtain ⟨_, f1, f2, z1, z2, z3, z4⟩ := YB.out
          obtain ⟨y0, y1, y2, y3, y4⟩ := HY.out
          obtain ⟨x0, x1, x2, x3, x4⟩ := HU.out.c
          go_wp2_with fail
          clear f1 f2 z1 z2 z3 z4 y0 y1 y2 y3 y4 x0 x1 x2 x3 x4
          refine (right_s p s _ hrs _ ⟨HZ.out, HST.out.keep fun _ _ _ => ⟨trivial, rfl⟩⟩).mono ?_
          rintro e w6 ⟨rfl, b3⟩
          have B6 := Lib.hid (below_step B5.out b3)
          replace YB := Lib.hid (YB.out.below b3)
          replace HY := Lib.hid (HY.out.below b3)
          replace HU := Lib.hid (HU.out.below b3)
          replace HST := Lib.hid (HST.out.below b3)
          replace HUT := Lib.hid (HUT.out.below b3)
          replace HX2 := Lib.hid (HX2.out.below b3)
          clear b3
          obtain ⟨_, f1, f2, z1, z2, z3, z4⟩ := YB.out
          obtain ⟨y0, y1, y2, y3, y4⟩ := HY.out
          obtain ⟨x0, x1, x2, x3, x4⟩ := HU.out.c
          go_wp2_with fail
          clear f1 f2 z1 z2 z3 z4 y0 y1 y2 y3 y4 x0 x1 x2 x3 x4
          refine (as_s p s _).mono ?_
          rintro e w8 ⟨rfl, b3⟩
          replace B6 := Lib.hid (below_step B6.out b3)
          replace YB := Lib.hid (YB.out.below b3)
          replace HY := Lib.hid (HY.out.below b3)
          replace HU := Lib.hid (HU.out.below b3)
          replace HST := Lib.hid (HST.out.below b3)
          replace HUT := Lib.hid (HUT.out.below b3)
          replace HX2 := Lib.hid (HX2.out.below b3)
          clear b3
          obtain ⟨_, f1, f2, z1, z2, z3, z4⟩ := YB.out
          obtain ⟨y0, y1, y2, y3, y4⟩ := HY.out
          obtain ⟨x0, x1, x2, x3, x4⟩ := HU.out.c
          go_wp2_with fail
          clear f1 f2 z1 z2 z3 z4 y0 y1 y2 y3 y4 x0 x1 x2 x3 x4
          refine (rightR_s p s _ hrs _ ⟨HZ.out, HST.out.keep fun _ _ _ => ⟨trivial, rfl⟩⟩).mono ?_
          rintro e w8 ⟨rfl, b3⟩
          replace B6 := Lib.hid (below_step B6.out b3)
          replace YB := Lib.hid (YB.out.below b3)
          replace HY := Lib.hid (HY.out.below b3)
          replace HU := Lib.hid (HU.out.below b3)
          replace HST := Lib.hid (HST.out.below b3)
          replace HUT := Lib.hid (HUT.out.below b3)
          replace HX2 := Lib.hid (HX2.out.below b3)
          clear b3
          obtain ⟨_, f1, f2, z1, z2, z3, z4⟩ := YB.out
          obtain ⟨y0, y1, y2, y3, y4⟩ := HY.out
          obtain ⟨x0, x1, x2, x3, x4⟩ := HU.out.c
          go_wp2_with fail
          clear f1 f2 z1 z2 z3 z4 y0 y1 y2 y3 y4 x0 x1 x2 x3 x4
          refine (knows20_any _).mono ?_
          rintro e w8 ⟨rfl, b3⟩
          have B7 := Lib.hid (below_step B6.out b3)
          clear b3
          go_wp2_with fail
          go_ret
          exact ⟨rfl, B7.out⟩
        | true =>
          cases ru with
          | false =>
            go_enter Try.func3, Try.ntmps3
            go_upto_region 1 with fail
            generalize (((w.alloc (Obj.cells #[.slice p.A s.tasks.length p.a, .slice p.B s.leaves.length p.b, .slice p.C s.lasts.length p.c, .slice p.D s.jobs.length p.d, .slice p.E s.log.length p.e] 28)).alloc (Obj.cells #[.slice q.A u.tasks.length q.a, .slice q.B u.leaves.length q.b, .slice q.C u.lasts.length q.c, .slice q.D u.jobs.length q.d, .slice q.E u.log.length q.e] 28)).alloc (Obj.cells #[.int .i64 P, .int .i64 B] 30)).alloc (Obj.cells #[.int .i64 x.1, .int .i64 x.2.1, .int .i64 x.2.2.1, .slice D x.2.2.2.length d] 33) = w2 at *
            obtain ⟨Y, hY⟩ : ∃ Y, w.heap.size = Y := ⟨_, rfl⟩
            obtain ⟨Z, hZ⟩ : ∃ Z, Y + 1 = Z := ⟨_, rfl⟩
            obtain ⟨F, hF⟩ : ∃ F, Y + 1 + 1 = F := ⟨_, rfl⟩
            obtain ⟨X, hX⟩ : ∃ X, Y + 1 + 1 + 1 = X := ⟨_, rfl⟩
            have HZY : Hid (w.heap.size ≤ Z ∧ Y ≠ Z ∧ F ≠ Z ∧ X ≠ Z) := by show _ ∧ _; omega
            rw [hY] at YB HY HU
            rw [hZ] at HU
            rw [show Y + 2 = F from hF, show Y + 3 = X from hX] at YB
            rw [hZ] at hF hX
            rw [hF] at hX
            rw [hY, hZ, hF, hX]
            clear hX hF hZ hY
            obtain ⟨_, f1, f2, z1, z2, z3, z4⟩ := YB.out
            obtain ⟨y0, y1, y2, y3, y4⟩ := HY.out
            obtain ⟨x0, x1, x2, x3, x4⟩ := HU.out.c
            go_wp2_with fail
            clear f1 f2 z1 z2 z3 z4 y0 y1 y2 y3 y4 x0 x1 x2 x3 x4
            refine (great_s p s _ hg _ _ HST.out).mono ?_
            rintro e w3 ⟨rfl, b3⟩
            have B3 := Lib.hid (below_step B0.out b3)
            replace YB := Lib.hid (YB.out.below b3)
            replace HY := Lib.hid (HY.out.below b3)
            replace HU := Lib.hid (HU.out.below b3)
            replace HST := Lib.hid (HST.out.below b3)
            replace HUT := Lib.hid (HUT.out.below b3)
            replace HX2 := Lib.hid (HX2.out.below b3)
            clear b3
            obtain ⟨_, f1, f2, z1, z2, z3, z4⟩ := YB.out
            obtain ⟨y0, y1, y2, y3, y4⟩ := HY.out
            obtain ⟨x0, x1, x2, x3, x4⟩ := HU.out.c
            go_wp2_with fail
            clear f1 f2 z1 z2 z3 z4 y0 y1 y2 y3 y4 x0 x1 x2 x3 x4
            refine (great_s q u _ hg2 _ _ HUT.out).mono ?_
            rintro e w4 ⟨rfl, b3⟩
            have B4 := Lib.hid (below_step B3.out b3)
            replace YB := Lib.hid (YB.out.below b3)
            replace HY := Lib.hid (HY.out.below b3)
            replace HU := Lib.hid (HU.out.below b3)
            replace HST := Lib.hid (HST.out.below b3)
            replace HUT := Lib.hid (HUT.out.below b3)
            replace HX2 := Lib.hid (HX2.out.below b3)
            clear b3
            obtain ⟨_, f1, f2, z1, z2, z3, z4⟩ := YB.out
            obtain ⟨y0, y1, y2, y3, y4⟩ := HY.out
            obtain ⟨x0, x1, x2, x3, x4⟩ := HU.out.c
            have g0 := HU.out.f 0
            go_upto_region 4 with fail
            clear f1 f2 z1 z2 z3 z4 y0 y1 y2 y3 y4 x0 x1 x2 x3 x4
            clear g0
            have g5 := gb_one w4 Z 0 (.slice p.A s.tasks.length p.a)
            have hz1 : some Y ≠ some Z := fun e => HZY.out.2.1 (Option.some.inj e)
            have hz2 : some F ≠ some Z := fun e => HZY.out.2.2.1 (Option.some.inj e)
            have hz3 : some X ≠ some Z := fun e => HZY.out.2.2.2 (Option.some.inj e)
            have hz4 : ∀ b, b < w.heap.size → some b ≠ some Z := fun b hb e => by have := HZY.out.1; injection e with e; omega
            replace YB := Lib.hid (YB.out.gb g5 hz1 hz2 hz3)
            replace HY := Lib.hid (HY.out.gb g5 hz1)
            replace HU := Lib.hid (HU.out.takes p s)
            replace HUT := Lib.hid ((HUT.out.takes HST.out).gb g5 hz4)
            replace HST := Lib.hid (HST.out.gb g5 hz4)
            replace HX2 : Hid (RdS _ (fun b => b < w.heap.size) D d x.2.2.2) := (RdS.keep HX2.out fun k hk hs => ⟨hs, g5.block k hk (hz4 k hs)⟩)
            have B5 : Hid (Below w.heap.size w (w4.setCell ⟨Z, 0, none⟩ (.slice p.A s.tasks.length p.a))) := B4.out.setCell (p := ⟨Z, 0, none⟩) HZY.out.1 _
            have HZV := Lib.hid (HZU.out.takes HZ.out)
            clear g5 hz1 hz2 hz3 hz4 HZY HZU
            generalize w4.setCell ⟨Z, 0, none⟩ (.slice p.A s.tasks.length p.a) = w5 at *
            generalize tkS u s = u2 at *
            generalize tkP q p = q2 at *
            obtain ⟨_, f1, f2, z1, z2, z3, z4⟩ := YB.out
            obtain ⟨y0, y1, y2, y3, y4⟩ := HY.out
            obtain ⟨x0, x1, x2, x3, x4⟩ := HU.out.c
            go_wp2_with fail
            clear f1 f2 z1 z2 z3 z4 y0 y1 y2 y3 y4 x0 x1 x2 x3 x4
            refine (right_s p s _ hrs _ ⟨HZ.out, HST.out.keep fun _ _ _ => ⟨trivial, rfl⟩⟩).mono ?_
            rintro e w6 ⟨rfl, b3⟩
            have B6 := Lib.hid (below_step B5.out b3)
            replace YB := Lib.hid (YB.out.below b3)
            replace HY := Lib.hid (HY.out.below b3)
            replace HU := Lib.hid (HU.out.below b3)
            replace HST := Lib.hid (HST.out.below b3)
            replace HUT := Lib.hid (HUT.out.below b3)
            replace HX2 := Lib.hid (HX2.out.below b3)
            clear b3
            obtain ⟨_, f1, f2, z1, z2, z3, z4⟩ := YB.out
            obtain ⟨y0, y1, y2, y3, y4⟩ := HY.out
            obtain ⟨x0, x1, x2, x3, x4⟩ := HU.out.c
            go_wp2_with fail
            clear f1 f2 z1 z2 z3 z4 y0 y1 y2 y3 y4 x0 x1 x2 x3 x4
            refine (right_s q2 u2 _ hru _ ⟨HZV.out, HUT.out.keep fun _ _ _ => ⟨trivial, rfl⟩⟩).mono ?_
            rintro e w7 ⟨rfl, b3⟩
            replace B6 := Lib.hid (below_step B6.out b3)
            replace YB := Lib.hid (YB.out.below b3)
            replace HY := Lib.hid (HY.out.below b3)
            replace HU := Lib.hid (HU.out.below b3)
            replace HST := Lib.hid (HST.out.below b3)
            replace HUT := Lib.hid (HUT.out.below b3)
            replace HX2 := Lib.hid (HX2.out.below b3)
            clear b3
            obtain ⟨_, f1, f2, z1, z2, z3, z4⟩ := YB.out
            obtain ⟨y0, y1, y2, y3, y4⟩ := HY.out
            obtain ⟨x0, x1, x2, x3, x4⟩ := HU.out.c
            go_wp2_with fail
            clear f1 f2 z1 z2 z3 z4 y0 y1 y2 y3 y4 x0 x1 x2 x3 x4
            refine (as_s p s _).mono ?_
            rintro e w8 ⟨rfl, b3⟩
            replace B6 := Lib.hid (below_step B6.out b3)
            replace YB := Lib.hid (YB.out.below b3)
            replace HY := Lib.hid (HY.out.below b3)
            replace HU := Lib.hid (HU.out.below b3)
            replace HST := Lib.hid (HST.out.below b3)
            replace HUT := Lib.hid (HUT.out.below b3)
            replace HX2 := Lib.hid (HX2.out.below b3)
            clear b3
            obtain ⟨_, f1, f2, z1, z2, z3, z4⟩ := YB.out
            obtain ⟨y0, y1, y2, y3, y4⟩ := HY.out
            obtain ⟨x0, x1, x2, x3, x4⟩ := HU.out.c
            go_wp2_with fail
            clear f1 f2 z1 z2 z3 z4 y0 y1 y2 y3 y4 x0 x1 x2 x3 x4
            refine (rightR_s p s _ hrs _ ⟨HZ.out, HST.out.keep fun _ _ _ => ⟨trivial, rfl⟩⟩).mono ?_
            rintro e w8 ⟨rfl, b3⟩
            replace B6 := Lib.hid (below_step B6.out b3)
            replace YB := Lib.hid (YB.out.below b3)
            replace HY := Lib.hid (HY.out.below b3)
            replace HU := Lib.hid (HU.out.below b3)
            replace HST := Lib.hid (HST.out.below b3)
            replace HUT := Lib.hid (HUT.out.below b3)
            replace HX2 := Lib.hid (HX2.out.below b3)
            clear b3
            obtain ⟨_, f1, f2, z1, z2, z3, z4⟩ := YB.out
            obtain ⟨y0, y1, y2, y3, y4⟩ := HY.out
            obtain ⟨x0, x1, x2, x3, x4⟩ := HU.out.c
            go_wp2_with fail
            clear f1 f2 z1 z2 z3 z4 y0 y1 y2 y3 y4 x0 x1 x2 x3 x4
            refine (as_s q2 u2 _).mono ?_
            rintro e w8 ⟨rfl, b3⟩
            replace B6 := Lib.hid (below_step B6.out b3)
            replace YB := Lib.hid (YB.out.below b3)
            replace HY := Lib.hid (HY.out.below b3)
            replace HU := Lib.hid (HU.out.below b3)
            replace HST := Lib.hid (HST.out.below b3)
            replace HUT := Lib.hid (HUT.out.below b3)
            replace HX2 := Lib.hid (HX2.out.below b3)
            clear b3
            obtain ⟨_, f1, f2, z1, z2, z3, z4⟩ := YB.out
            obtain ⟨y0, y1, y2, y3, y4⟩ := HY.out
            obtain ⟨x0, x1, x2, x3, x4⟩ := HU.out.c
            go_wp2_with fail
            clear f1 f2 z1 z2 z3 z4 y0 y1 y2 y3 y4 x0 x1 x2 x3 x4
            refine (rightR_s q2 u2 _ hru _ ⟨HZV.out, HUT.out.keep fun _ _ _ => ⟨trivial, rfl⟩⟩).mono ?_
            rintro e w8 ⟨rfl, b3⟩
            replace B6 := Lib.hid (below_step B6.out b3)
            replace YB := Lib.hid (YB.out.below b3)
            replace HY := Lib.hid (HY.out.below b3)
            replace HU := Lib.hid (HU.out.below b3)
            replace HST := Lib.hid (HST.out.below b3)
            replace HUT := Lib.hid (HUT.out.below b3)
            replace HX2 := Lib.hid (HX2.out.below b3)
            clear b3
            obtain ⟨_, f1, f2, z1, z2, z3, z4⟩ := YB.out
            obtain ⟨y0, y1, y2, y3, y4⟩ := HY.out
            obtain ⟨x0, x1, x2, x3, x4⟩ := HU.out.c
            go_wp2_with fail
            clear f1 f2 z1 z2 z3 z4 y0 y1 y2 y3 y4 x0 x1 x2 x3 x4
            refine (knows20_any _).mono ?_
            rintro e w8 ⟨rfl, b3⟩
            have B7 := Lib.hid (below_step B6.out b3)
            clear b3
            go_wp2_with fail
            go_ret
            exact ⟨rfl, B7.out⟩
          | true =>
            obtain ⟨v, hv⟩ : ∃ v, admE s P B x = v := ⟨_, rfl⟩
            obtain ⟨r, hr⟩ : ∃ r, admS s P B x = r := ⟨_, rfl⟩
            have HAD := Lib.hid (fun S => adm_s S p s r x D x.2.2.2.length d rfl (by have := HK20.out; omega) ⟨F1.out, F2.out, F3.out⟩ P B v hr hv)
            obtain ⟨bs, hbs⟩ : ∃ v, (s.jobs.any fun j => begJ j) = v := ⟨_, rfl⟩
            obtain ⟨bu, hbu⟩ : ∃ v, ((tkS u s).jobs.any fun j => begJ j) = v := ⟨_, rfl⟩
            by_cases hbb : bs = bu
            · subst hbb
              obtain ⟨hv2, hr2⟩ := adm_hangs P B x hrs hru HUE.out (hbs.trans hbu.symm)
              rw [hv] at hv2
              rw [hr] at hr2
              obtain ⟨r2, hr3⟩ : ∃ r, admS (tkS u s) P B x = r := ⟨_, rfl⟩
              rw [hr3] at hr2
              have HRT := Lib.hid hr2
              have HAU := Lib.hid (fun S => adm_s S (tkP q p) (tkS u s) r2 x D x.2.2.2.length d rfl (by have := HK20.out; omega) ⟨F1.out, F2.out, F3.out⟩ P B v hr3 hv2)
              have i3 : ((v : Int) == (v : Int)) = true := by simp
              have i4 : (bs != bs) = false := by cases bs <;> rfl
              clear hv2 hr2 hr3 hv hr
              go_enter Try.func3, Try.ntmps3
              go_upto_region 1 with fail
              generalize (((w.alloc (Obj.cells #[.slice p.A s.tasks.length p.a, .slice p.B s.leaves.length p.b, .slice p.C s.lasts.length p.c, .slice p.D s.jobs.length p.d, .slice p.E s.log.length p.e] 28)).alloc (Obj.cells #[.slice q.A u.tasks.length q.a, .slice q.B u.leaves.length q.b, .slice q.C u.lasts.length q.c, .slice q.D u.jobs.length q.d, .slice q.E u.log.length q.e] 28)).alloc (Obj.cells #[.int .i64 P, .int .i64 B] 30)).alloc (Obj.cells #[.int .i64 x.1, .int .i64 x.2.1, .int .i64 x.2.2.1, .slice D x.2.2.2.length d] 33) = w2 at *
              obtain ⟨Y, hY⟩ : ∃ Y, w.heap.size = Y := ⟨_, rfl⟩
              obtain ⟨Z, hZ⟩ : ∃ Z, Y + 1 = Z := ⟨_, rfl⟩
              obtain ⟨F, hF⟩ : ∃ F, Y + 1 + 1 = F := ⟨_, rfl⟩
              obtain ⟨X, hX⟩ : ∃ X, Y + 1 + 1 + 1 = X := ⟨_, rfl⟩
              have HZY : Hid (w.heap.size ≤ Z ∧ Y ≠ Z ∧ F ≠ Z ∧ X ≠ Z) := by show _ ∧ _; omega
              rw [hY] at YB HY HU
              rw [hZ] at HU
              rw [show Y + 2 = F from hF, show Y + 3 = X from hX] at YB
              rw [hZ] at hF hX
              rw [hF] at hX
              rw [hY, hZ, hF, hX]
              clear hX hF hZ hY
              obtain ⟨_, f1, f2, z1, z2, z3, z4⟩ := YB.out
              obtain ⟨y0, y1, y2, y3, y4⟩ := HY.out
              obtain ⟨x0, x1, x2, x3, x4⟩ := HU.out.c
              go_wp2_with fail
              clear f1 f2 z1 z2 z3 z4 y0 y1 y2 y3 y4 x0 x1 x2 x3 x4
              refine (great_s p s _ hg _ _ HST.out).mono ?_
              rintro e w3 ⟨rfl, b3⟩
              have B3 := Lib.hid (below_step B0.out b3)
              replace YB := Lib.hid (YB.out.below b3)
              replace HY := Lib.hid (HY.out.below b3)
              replace HU := Lib.hid (HU.out.below b3)
              replace HST := Lib.hid (HST.out.below b3)
              replace HUT := Lib.hid (HUT.out.below b3)
              replace HX2 := Lib.hid (HX2.out.below b3)
              clear b3
              obtain ⟨_, f1, f2, z1, z2, z3, z4⟩ := YB.out
              obtain ⟨y0, y1, y2, y3, y4⟩ := HY.out
              obtain ⟨x0, x1, x2, x3, x4⟩ := HU.out.c
              go_wp2_with fail
              clear f1 f2 z1 z2 z3 z4 y0 y1 y2 y3 y4 x0 x1 x2 x3 x4
              refine (great_s q u _ hg2 _ _ HUT.out).mono ?_
              rintro e w4 ⟨rfl, b3⟩
              have B4 := Lib.hid (below_step B3.out b3)
              replace YB := Lib.hid (YB.out.below b3)
              replace HY := Lib.hid (HY.out.below b3)
              replace HU := Lib.hid (HU.out.below b3)
              replace HST := Lib.hid (HST.out.below b3)
              replace HUT := Lib.hid (HUT.out.below b3)
              replace HX2 := Lib.hid (HX2.out.below b3)
              clear b3
              obtain ⟨_, f1, f2, z1, z2, z3, z4⟩ := YB.out
              obtain ⟨y0, y1, y2, y3, y4⟩ := HY.out
              obtain ⟨x0, x1, x2, x3, x4⟩ := HU.out.c
              have g0 := HU.out.f 0
              go_upto_region 4 with fail
              clear f1 f2 z1 z2 z3 z4 y0 y1 y2 y3 y4 x0 x1 x2 x3 x4
              clear g0
              have g5 := gb_one w4 Z 0 (.slice p.A s.tasks.length p.a)
              have hz1 : some Y ≠ some Z := fun e => HZY.out.2.1 (Option.some.inj e)
              have hz2 : some F ≠ some Z := fun e => HZY.out.2.2.1 (Option.some.inj e)
              have hz3 : some X ≠ some Z := fun e => HZY.out.2.2.2 (Option.some.inj e)
              have hz4 : ∀ b, b < w.heap.size → some b ≠ some Z := fun b hb e => by have := HZY.out.1; injection e with e; omega
              replace YB := Lib.hid (YB.out.gb g5 hz1 hz2 hz3)
              replace HY := Lib.hid (HY.out.gb g5 hz1)
              replace HU := Lib.hid (HU.out.takes p s)
              replace HUT := Lib.hid ((HUT.out.takes HST.out).gb g5 hz4)
              replace HST := Lib.hid (HST.out.gb g5 hz4)
              replace HX2 : Hid (RdS _ (fun b => b < w.heap.size) D d x.2.2.2) := (RdS.keep HX2.out fun k hk hs => ⟨hs, g5.block k hk (hz4 k hs)⟩)
              have B5 : Hid (Below w.heap.size w (w4.setCell ⟨Z, 0, none⟩ (.slice p.A s.tasks.length p.a))) := B4.out.setCell (p := ⟨Z, 0, none⟩) HZY.out.1 _
              have HZV := Lib.hid (HZU.out.takes HZ.out)
              clear g5 hz1 hz2 hz3 hz4 HZY HZU
              generalize w4.setCell ⟨Z, 0, none⟩ (.slice p.A s.tasks.length p.a) = w5 at *
              generalize tkS u s = u2 at *
              generalize tkP q p = q2 at *
              obtain ⟨_, f1, f2, z1, z2, z3, z4⟩ := YB.out
              obtain ⟨y0, y1, y2, y3, y4⟩ := HY.out
              obtain ⟨x0, x1, x2, x3, x4⟩ := HU.out.c
              go_wp2_with fail
              clear f1 f2 z1 z2 z3 z4 y0 y1 y2 y3 y4 x0 x1 x2 x3 x4
              refine (right_s p s _ hrs _ ⟨HZ.out, HST.out.keep fun _ _ _ => ⟨trivial, rfl⟩⟩).mono ?_
              rintro e w6 ⟨rfl, b3⟩
              have B6 := Lib.hid (below_step B5.out b3)
              replace YB := Lib.hid (YB.out.below b3)
              replace HY := Lib.hid (HY.out.below b3)
              replace HU := Lib.hid (HU.out.below b3)
              replace HST := Lib.hid (HST.out.below b3)
              replace HUT := Lib.hid (HUT.out.below b3)
              replace HX2 := Lib.hid (HX2.out.below b3)
              clear b3
              obtain ⟨_, f1, f2, z1, z2, z3, z4⟩ := YB.out
              obtain ⟨y0, y1, y2, y3, y4⟩ := HY.out
              obtain ⟨x0, x1, x2, x3, x4⟩ := HU.out.c
              go_wp2_with fail
              clear f1 f2 z1 z2 z3 z4 y0 y1 y2 y3 y4 x0 x1 x2 x3 x4
              refine (right_s q2 u2 _ hru _ ⟨HZV.out, HUT.out.keep fun _ _ _ => ⟨trivial, rfl⟩⟩).mono ?_
              rintro e w7 ⟨rfl, b3⟩
              replace B6 := Lib.hid (below_step B6.out b3)
              replace YB := Lib.hid (YB.out.below b3)
              replace HY := Lib.hid (HY.out.below b3)
              replace HU := Lib.hid (HU.out.below b3)
              replace HST := Lib.hid (HST.out.below b3)
              replace HUT := Lib.hid (HUT.out.below b3)
              replace HX2 := Lib.hid (HX2.out.below b3)
              clear b3
              obtain ⟨_, f1, f2, z1, z2, z3, z4⟩ := YB.out
              obtain ⟨y0, y1, y2, y3, y4⟩ := HY.out
              obtain ⟨x0, x1, x2, x3, x4⟩ := HU.out.c
              go_wp2_with fail
              clear f1 f2 z1 z2 z3 z4 y0 y1 y2 y3 y4 x0 x1 x2 x3 x4
              refine (HAD.out (fun b => b < w.heap.size) _ (fun b h => Nat.lt_of_lt_of_le h B6.out.size) HZ.out HST.out (HX2.out.keep fun _ _ _ => ⟨trivial, rfl⟩)).mono ?_
              rintro e w8 ⟨p3, rfl, h3, b6⟩
              have HV := Lib.hid (Vs.made (below_step B6.out b6) h3)
              have b3 := below_step b6 (below_one w8 (.cells #[.slice p3.A r.tasks.length p3.a, .slice p3.B r.leaves.length p3.b, .slice p3.C r.lasts.length p3.c, .slice p3.D r.jobs.length p3.d, .slice p3.E r.log.length p3.e] 28))
              clear h3 b6
              replace YB := Lib.hid (YB.out.below b3)
              replace HY := Lib.hid (HY.out.below b3)
              replace HU := Lib.hid (HU.out.below b3)
              replace HST := Lib.hid (HST.out.below b3)
              replace HUT := Lib.hid (HUT.out.below b3)
              replace HX2 := Lib.hid (HX2.out.below b3)
              clear b3
              obtain ⟨_, f1, f2, z1, z2, z3, z4⟩ := YB.out
              obtain ⟨y0, y1, y2, y3, y4⟩ := HY.out
              obtain ⟨x0, x1, x2, x3, x4⟩ := HU.out.c
              go_wp2_with fail
              clear f1 f2 z1 z2 z3 z4 y0 y1 y2 y3 y4 x0 x1 x2 x3 x4
              generalize w8.alloc (.cells #[.slice p3.A r.tasks.length p3.a, .slice p3.B r.leaves.length p3.b, .slice p3.C r.lasts.length p3.c, .slice p3.D r.jobs.length p3.d, .slice p3.E r.log.length p3.e] 28) = w9 at *
              generalize w8.heap.size = V at *
              refine (HAU.out (fun b => b < w.heap.size) _ (fun b h => Nat.lt_of_lt_of_le h HV.out.b.size) HZV.out HUT.out (HX2.out.keep fun _ _ _ => ⟨trivial, rfl⟩)).mono ?_
              rintro e w10 ⟨p4, rfl, h3, b6⟩
              replace HV := Lib.hid (HV.out.below b6)
              have HR := Lib.hid (Vs.made HV.out.b h3)
              have b3 := below_one w10 (.cells #[.slice p4.A r2.tasks.length p4.a, .slice p4.B r2.leaves.length p4.b, .slice p4.C r2.lasts.length p4.c, .slice p4.D r2.jobs.length p4.d, .slice p4.E r2.log.length p4.e] 28)
              replace HV := Lib.hid (HV.out.below b3)
              replace b3 := below_step b6 b3
              clear h3 b6
              replace YB := Lib.hid (YB.out.below b3)
              replace HY := Lib.hid (HY.out.below b3)
              replace HU := Lib.hid (HU.out.below b3)
              replace HST := Lib.hid (HST.out.below b3)
              replace HUT := Lib.hid (HUT.out.below b3)
              replace HX2 := Lib.hid (HX2.out.below b3)
              clear b3
              go_upto_region 8 with fail
              generalize w10.alloc (.cells #[.slice p4.A r2.tasks.length p4.a, .slice p4.B r2.leaves.length p4.b, .slice p4.C r2.lasts.length p4.c, .slice p4.D r2.jobs.length p4.d, .slice p4.E r2.log.length p4.e] 28) = w11 at *
              generalize w10.heap.size = U at *
              obtain ⟨y0, y1, y2, y3, y4⟩ := HY.out
              obtain ⟨x0, x1, x2, x3, x4⟩ := HU.out.c
              have hs : SR _ p s := ⟨HZ.out, HST.out.keep fun _ _ _ => ⟨trivial, rfl⟩⟩
              have hw : SR _ q2 u2 := ⟨HZV.out, HUT.out.keep fun _ _ _ => ⟨trivial, rfl⟩⟩
              clear HY HU HST HUT YB HX2
              have HS := Lib.hid hs
              have HW := Lib.hid hw
              clear hs hw
              replace y0 := cell_bw y0
              replace y1 := cell_bw y1
              replace y2 := cell_bw y2
              replace y3 := cell_bw y3
              replace y4 := cell_bw y4
              replace x0 := cell_bw x0
              replace x1 := cell_bw x1
              replace x2 := cell_bw x2
              replace x3 := cell_bw x3
              replace x4 := cell_bw x4
              refine wp_region_bw (by kernel_rfl) (by kernel_rfl) ?_
              repeat
                (with_reducible refine wpQuiet_step (fun K hK => ?_)
                 go_simp
                 first
                   | (with_reducible refine hK _ ?_
                      clear hK K)
                   | (rw [if_neg]
                      rotate_left
                      focus (intro h; cases h; done)
                      with_reducible refine hK _ ?_
                      clear hK K)
                   | (apply Exists.intro
                      refine ⟨fun _ => ?_, hK _ ?_⟩
                      (go_at_call 10; first | (with_reducible exact Calls.bw (beganS_v p s _ hbs _ (HS.out.bw _))) | (with_reducible exact Calls.bw (beganS_v q2 u2 _ hbu _ (HW.out.bw _))))
                      clear hK K))
              with_reducible refine wpQuiet_nil ?_
              intro wb hw'
              obtain ⟨⟨wb', lb⟩, hw''⟩ := hw'
              subst hw''
              clear HS HW y0 y1 y2 y3 y4 x0 x1 x2 x3 x4
              replace HV := Lib.hid (HV.out.below lb)
              replace HR := Lib.hid (HR.out.below lb)
              clear lb
              go_upto_region 10 with fail
              have x0 := HV.out.y.c.c0
              have y0 := HR.out.y.c.c0
              have hv1 := HV.out.r.t
              have hv2 : RdS _ _ p4.A p4.a r2.tasks := HR.out.r.t
              rw [HRT.out] at y0 hv2
              have B9 := Lib.hid HV.out.b
              have hzt := HV.out.z.t
              have HZT := Lib.hid HV.out.z.ts
              have HN1 : Hid (r.tasks.length ≤ 1000000) := by show _ ≤ _; omega
              have HN2 : Hid (∀ j, j < r.tasks.length → (at_ r.tasks j).2.2.2.length ≤ 1000000) := fun j hj => by have := HZT.out j hj; omega
              replace hv1 : Rd _ p3.A p3.a r.tasks := hv1.keep fun _ _ _ => ⟨trivial, rfl⟩
              replace hv2 : Rd _ p4.A p4.a r.tasks := hv2.keep fun _ _ _ => ⟨trivial, rfl⟩
              clear HV HR HRT hzt HZT
              have HV1 := Lib.hid hv1
              have HV2 := Lib.hid hv2
              clear hv1 hv2
              generalize r.tasks = L at *
              obtain ⟨n, hn⟩ : ∃ n, L.length = n := ⟨_, rfl⟩
              have HN := Lib.hid hn
              rw [hn] at x0 y0
              have HSA := Lib.hid (fun W h1 h2 => sameAll_one p3.A p4.A p3.a p4.a L n hn (by rw [← hn]; exact HN1.out) HN2.out W h1 h2)
              clear hn
              go_wp2_with fail
              refine (HSA.out _ HV1.out HV2.out).mono ?_
              rintro e w8 ⟨rfl, b3⟩
              have B10 := Lib.hid (below_step B9.out b3)
              clear b3
              go_wp2_with fail
              refine (knows20_any _).mono ?_
              rintro e w8 ⟨rfl, b3⟩
              have B11 := Lib.hid (below_step B10.out b3)
              clear b3
              go_wp2_with fail
              go_ret
              exact ⟨rfl, B11.out⟩
            · obtain ⟨v2, hv2⟩ : ∃ v, admE (tkS u s) P B x = v := ⟨_, rfl⟩
              obtain ⟨r2, hr3⟩ : ∃ r, admS (tkS u s) P B x = r := ⟨_, rfl⟩
              have HAU := Lib.hid (fun S => adm_s S (tkP q p) (tkS u s) r2 x D x.2.2.2.length d rfl (by have := HK20.out; omega) ⟨F1.out, F2.out, F3.out⟩ P B v2 hr3 hv2)
              clear hv2 hr3 hv hr
              cases bs with
              | false =>
                cases bu with
                | false => exact absurd rfl hbb
                | true =>
                  clear hbb
                  go_enter Try.func3, Try.ntmps3
                  go_upto_region 1 with fail
                  generalize (((w.alloc (Obj.cells #[.slice p.A s.tasks.length p.a, .slice p.B s.leaves.length p.b, .slice p.C s.lasts.length p.c, .slice p.D s.jobs.length p.d, .slice p.E s.log.length p.e] 28)).alloc (Obj.cells #[.slice q.A u.tasks.length q.a, .slice q.B u.leaves.length q.b, .slice q.C u.lasts.length q.c, .slice q.D u.jobs.length q.d, .slice q.E u.log.length q.e] 28)).alloc (Obj.cells #[.int .i64 P, .int .i64 B] 30)).alloc (Obj.cells #[.int .i64 x.1, .int .i64 x.2.1, .int .i64 x.2.2.1, .slice D x.2.2.2.length d] 33) = w2 at *
                  obtain ⟨Y, hY⟩ : ∃ Y, w.heap.size = Y := ⟨_, rfl⟩
                  obtain ⟨Z, hZ⟩ : ∃ Z, Y + 1 = Z := ⟨_, rfl⟩
                  obtain ⟨F, hF⟩ : ∃ F, Y + 1 + 1 = F := ⟨_, rfl⟩
                  obtain ⟨X, hX⟩ : ∃ X, Y + 1 + 1 + 1 = X := ⟨_, rfl⟩
                  have HZY : Hid (w.heap.size ≤ Z ∧ Y ≠ Z ∧ F ≠ Z ∧ X ≠ Z) := by show _ ∧ _; omega
                  rw [hY] at YB HY HU
                  rw [hZ] at HU
                  rw [show Y + 2 = F from hF, show Y + 3 = X from hX] at YB
                  rw [hZ] at hF hX
                  rw [hF] at hX
                  rw [hY, hZ, hF, hX]
                  clear hX hF hZ hY
                  obtain ⟨_, f1, f2, z1, z2, z3, z4⟩ := YB.out
                  obtain ⟨y0, y1, y2, y3, y4⟩ := HY.out
                  obtain ⟨x0, x1, x2, x3, x4⟩ := HU.out.c
                  go_wp2_with fail
                  clear f1 f2 z1 z2 z3 z4 y0 y1 y2 y3 y4 x0 x1 x2 x3 x4
                  refine (great_s p s _ hg _ _ HST.out).mono ?_
                  rintro e w3 ⟨rfl, b3⟩
                  have B3 := Lib.hid (below_step B0.out b3)
                  replace YB := Lib.hid (YB.out.below b3)
                  replace HY := Lib.hid (HY.out.below b3)
                  replace HU := Lib.hid (HU.out.below b3)
                  replace HST := Lib.hid (HST.out.below b3)
                  replace HUT := Lib.hid (HUT.out.below b3)
                  replace HX2 := Lib.hid (HX2.out.below b3)
                  clear b3
                  obtain ⟨_, f1, f2, z1, z2, z3, z4⟩ := YB.out
                  obtain ⟨y0, y1, y2, y3, y4⟩ := HY.out
                  obtain ⟨x0, x1, x2, x3, x4⟩ := HU.out.c
                  go_wp2_with fail
                  clear f1 f2 z1 z2 z3 z4 y0 y1 y2 y3 y4 x0 x1 x2 x3 x4
                  refine (great_s q u _ hg2 _ _ HUT.out).mono ?_
                  rintro e w4 ⟨rfl, b3⟩
                  have B4 := Lib.hid (below_step B3.out b3)
                  replace YB := Lib.hid (YB.out.below b3)
                  replace HY := Lib.hid (HY.out.below b3)
                  replace HU := Lib.hid (HU.out.below b3)
                  replace HST := Lib.hid (HST.out.below b3)
                  replace HUT := Lib.hid (HUT.out.below b3)
                  replace HX2 := Lib.hid (HX2.out.below b3)
                  clear b3
                  obtain ⟨_, f1, f2, z1, z2, z3, z4⟩ := YB.out
                  obtain ⟨y0, y1, y2, y3, y4⟩ := HY.out
                  obtain ⟨x0, x1, x2, x3, x4⟩ := HU.out.c
                  have g0 := HU.out.f 0
                  go_upto_region 4 with fail
                  clear f1 f2 z1 z2 z3 z4 y0 y1 y2 y3 y4 x0 x1 x2 x3 x4
                  clear g0
                  have g5 := gb_one w4 Z 0 (.slice p.A s.tasks.length p.a)
                  have hz1 : some Y ≠ some Z := fun e => HZY.out.2.1 (Option.some.inj e)
                  have hz2 : some F ≠ some Z := fun e => HZY.out.2.2.1 (Option.some.inj e)
                  have hz3 : some X ≠ some Z := fun e => HZY.out.2.2.2 (Option.some.inj e)
                  have hz4 : ∀ b, b < w.heap.size → some b ≠ some Z := fun b hb e => by have := HZY.out.1; injection e with e; omega
                  replace YB := Lib.hid (YB.out.gb g5 hz1 hz2 hz3)
                  replace HY := Lib.hid (HY.out.gb g5 hz1)
                  replace HU := Lib.hid (HU.out.takes p s)
                  replace HUT := Lib.hid ((HUT.out.takes HST.out).gb g5 hz4)
                  replace HST := Lib.hid (HST.out.gb g5 hz4)
                  replace HX2 : Hid (RdS _ (fun b => b < w.heap.size) D d x.2.2.2) := (RdS.keep HX2.out fun k hk hs => ⟨hs, g5.block k hk (hz4 k hs)⟩)
                  have B5 : Hid (Below w.heap.size w (w4.setCell ⟨Z, 0, none⟩ (.slice p.A s.tasks.length p.a))) := B4.out.setCell (p := ⟨Z, 0, none⟩) HZY.out.1 _
                  have HZV := Lib.hid (HZU.out.takes HZ.out)
                  clear g5 hz1 hz2 hz3 hz4 HZY HZU
                  generalize w4.setCell ⟨Z, 0, none⟩ (.slice p.A s.tasks.length p.a) = w5 at *
                  generalize tkS u s = u2 at *
                  generalize tkP q p = q2 at *
                  obtain ⟨_, f1, f2, z1, z2, z3, z4⟩ := YB.out
                  obtain ⟨y0, y1, y2, y3, y4⟩ := HY.out
                  obtain ⟨x0, x1, x2, x3, x4⟩ := HU.out.c
                  go_wp2_with fail
                  clear f1 f2 z1 z2 z3 z4 y0 y1 y2 y3 y4 x0 x1 x2 x3 x4
                  refine (right_s p s _ hrs _ ⟨HZ.out, HST.out.keep fun _ _ _ => ⟨trivial, rfl⟩⟩).mono ?_
                  rintro e w6 ⟨rfl, b3⟩
                  have B6 := Lib.hid (below_step B5.out b3)
                  replace YB := Lib.hid (YB.out.below b3)
                  replace HY := Lib.hid (HY.out.below b3)
                  replace HU := Lib.hid (HU.out.below b3)
                  replace HST := Lib.hid (HST.out.below b3)
                  replace HUT := Lib.hid (HUT.out.below b3)
                  replace HX2 := Lib.hid (HX2.out.below b3)
                  clear b3
                  obtain ⟨_, f1, f2, z1, z2, z3, z4⟩ := YB.out
                  obtain ⟨y0, y1, y2, y3, y4⟩ := HY.out
                  obtain ⟨x0, x1, x2, x3, x4⟩ := HU.out.c
                  go_wp2_with fail
                  clear f1 f2 z1 z2 z3 z4 y0 y1 y2 y3 y4 x0 x1 x2 x3 x4
                  refine (right_s q2 u2 _ hru _ ⟨HZV.out, HUT.out.keep fun _ _ _ => ⟨trivial, rfl⟩⟩).mono ?_
                  rintro e w7 ⟨rfl, b3⟩
                  replace B6 := Lib.hid (below_step B6.out b3)
                  replace YB := Lib.hid (YB.out.below b3)
                  replace HY := Lib.hid (HY.out.below b3)
                  replace HU := Lib.hid (HU.out.below b3)
                  replace HST := Lib.hid (HST.out.below b3)
                  replace HUT := Lib.hid (HUT.out.below b3)
                  replace HX2 := Lib.hid (HX2.out.below b3)
                  clear b3
                  obtain ⟨_, f1, f2, z1, z2, z3, z4⟩ := YB.out
                  obtain ⟨y0, y1, y2, y3, y4⟩ := HY.out
                  obtain ⟨x0, x1, x2, x3, x4⟩ := HU.out.c
                  go_wp2_with fail
                  clear f1 f2 z1 z2 z3 z4 y0 y1 y2 y3 y4 x0 x1 x2 x3 x4
                  refine (HAD.out (fun b => b < w.heap.size) _ (fun b h => Nat.lt_of_lt_of_le h B6.out.size) HZ.out HST.out (HX2.out.keep fun _ _ _ => ⟨trivial, rfl⟩)).mono ?_
                  rintro e w8 ⟨p3, rfl, h3, b6⟩
                  have HV := Lib.hid (Vs.made (below_step B6.out b6) h3)
                  have b3 := below_step b6 (below_one w8 (.cells #[.slice p3.A r.tasks.length p3.a, .slice p3.B r.leaves.length p3.b, .slice p3.C r.lasts.length p3.c, .slice p3.D r.jobs.length p3.d, .slice p3.E r.log.length p3.e] 28))
                  clear h3 b6
                  replace YB := Lib.hid (YB.out.below b3)
                  replace HY := Lib.hid (HY.out.below b3)
                  replace HU := Lib.hid (HU.out.below b3)
                  replace HST := Lib.hid (HST.out.below b3)
                  replace HUT := Lib.hid (HUT.out.below b3)
                  replace HX2 := Lib.hid (HX2.out.below b3)
                  clear b3
                  obtain ⟨_, f1, f2, z1, z2, z3, z4⟩ := YB.out
                  obtain ⟨y0, y1, y2, y3, y4⟩ := HY.out
                  obtain ⟨x0, x1, x2, x3, x4⟩ := HU.out.c
                  go_wp2_with fail
                  clear f1 f2 z1 z2 z3 z4 y0 y1 y2 y3 y4 x0 x1 x2 x3 x4
                  generalize w8.alloc (.cells #[.slice p3.A r.tasks.length p3.a, .slice p3.B r.leaves.length p3.b, .slice p3.C r.lasts.length p3.c, .slice p3.D r.jobs.length p3.d, .slice p3.E r.log.length p3.e] 28) = w9 at *
                  generalize w8.heap.size = V at *
                  refine (HAU.out (fun b => b < w.heap.size) _ (fun b h => Nat.lt_of_lt_of_le h HV.out.b.size) HZV.out HUT.out (HX2.out.keep fun _ _ _ => ⟨trivial, rfl⟩)).mono ?_
                  rintro e w10 ⟨p4, rfl, h3, b6⟩
                  replace HV := Lib.hid (HV.out.below b6)
                  have HR := Lib.hid (Vs.made HV.out.b h3)
                  have b3 := below_one w10 (.cells #[.slice p4.A r2.tasks.length p4.a, .slice p4.B r2.leaves.length p4.b, .slice p4.C r2.lasts.length p4.c, .slice p4.D r2.jobs.length p4.d, .slice p4.E r2.log.length p4.e] 28)
                  replace HV := Lib.hid (HV.out.below b3)
                  replace b3 := below_step b6 b3
                  clear h3 b6
                  replace YB := Lib.hid (YB.out.below b3)
                  replace HY := Lib.hid (HY.out.below b3)
                  replace HU := Lib.hid (HU.out.below b3)
                  replace HST := Lib.hid (HST.out.below b3)
                  replace HUT := Lib.hid (HUT.out.below b3)
                  replace HX2 := Lib.hid (HX2.out.below b3)
                  clear b3
                  go_upto_region 8 with fail
                  generalize w10.alloc (.cells #[.slice p4.A r2.tasks.length p4.a, .slice p4.B r2.leaves.length p4.b, .slice p4.C r2.lasts.length p4.c, .slice p4.D r2.jobs.length p4.d, .slice p4.E r2.log.length p4.e] 28) = w11 at *
                  generalize w10.heap.size = U at *
                  obtain ⟨y0, y1, y2, y3, y4⟩ := HY.out
                  obtain ⟨x0, x1, x2, x3, x4⟩ := HU.out.c
                  have hs : SR _ p s := ⟨HZ.out, HST.out.keep fun _ _ _ => ⟨trivial, rfl⟩⟩
                  have hw : SR _ q2 u2 := ⟨HZV.out, HUT.out.keep fun _ _ _ => ⟨trivial, rfl⟩⟩
                  clear HY HU HST HUT YB HX2
                  have HS := Lib.hid hs
                  have HW := Lib.hid hw
                  clear hs hw
                  replace y0 := cell_bw y0
                  replace y1 := cell_bw y1
                  replace y2 := cell_bw y2
                  replace y3 := cell_bw y3
                  replace y4 := cell_bw y4
                  replace x0 := cell_bw x0
                  replace x1 := cell_bw x1
                  replace x2 := cell_bw x2
                  replace x3 := cell_bw x3
                  replace x4 := cell_bw x4
                  refine wp_region_bw (by kernel_rfl) (by kernel_rfl) ?_
                  repeat
                    (with_reducible refine wpQuiet_step (fun K hK => ?_)
                     go_simp
                     first
                       | (with_reducible refine hK _ ?_
                          clear hK K)
                       | (rw [if_neg]
                          rotate_left
                          focus (intro h; cases h; done)
                          with_reducible refine hK _ ?_
                          clear hK K)
                       | (apply Exists.intro
                          refine ⟨fun _ => ?_, hK _ ?_⟩
                          (go_at_call 10; first | (with_reducible exact Calls.bw (beganS_v p s _ hbs _ (HS.out.bw _))) | (with_reducible exact Calls.bw (beganS_v q2 u2 _ hbu _ (HW.out.bw _))))
                          clear hK K))
                  with_reducible refine wpQuiet_nil ?_
                  intro wb hw'
                  obtain ⟨⟨wb', lb⟩, hw''⟩ := hw'
                  subst hw''
                  clear HS HW y0 y1 y2 y3 y4 x0 x1 x2 x3 x4
                  replace HV := Lib.hid (HV.out.below lb)
                  replace HR := Lib.hid (HR.out.below lb)
                  clear lb
                  have B6 := Lib.hid HV.out.b
                  go_wp2_with fail
                  refine (knows20_any _).mono ?_
                  rintro e w8 ⟨rfl, b3⟩
                  have B7 := Lib.hid (below_step B6.out b3)
                  clear b3
                  go_wp2_with fail
                  go_ret
                  exact ⟨rfl, B7.out⟩
              | true =>
                cases bu with
                | true => exact absurd rfl hbb
                | false =>
                  clear hbb
                  go_enter Try.func3, Try.ntmps3
                  go_upto_region 1 with fail
                  generalize (((w.alloc (Obj.cells #[.slice p.A s.tasks.length p.a, .slice p.B s.leaves.length p.b, .slice p.C s.lasts.length p.c, .slice p.D s.jobs.length p.d, .slice p.E s.log.length p.e] 28)).alloc (Obj.cells #[.slice q.A u.tasks.length q.a, .slice q.B u.leaves.length q.b, .slice q.C u.lasts.length q.c, .slice q.D u.jobs.length q.d, .slice q.E u.log.length q.e] 28)).alloc (Obj.cells #[.int .i64 P, .int .i64 B] 30)).alloc (Obj.cells #[.int .i64 x.1, .int .i64 x.2.1, .int .i64 x.2.2.1, .slice D x.2.2.2.length d] 33) = w2 at *
                  obtain ⟨Y, hY⟩ : ∃ Y, w.heap.size = Y := ⟨_, rfl⟩
                  obtain ⟨Z, hZ⟩ : ∃ Z, Y + 1 = Z := ⟨_, rfl⟩
                  obtain ⟨F, hF⟩ : ∃ F, Y + 1 + 1 = F := ⟨_, rfl⟩
                  obtain ⟨X, hX⟩ : ∃ X, Y + 1 + 1 + 1 = X := ⟨_, rfl⟩
                  have HZY : Hid (w.heap.size ≤ Z ∧ Y ≠ Z ∧ F ≠ Z ∧ X ≠ Z) := by show _ ∧ _; omega
                  rw [hY] at YB HY HU
                  rw [hZ] at HU
                  rw [show Y + 2 = F from hF, show Y + 3 = X from hX] at YB
                  rw [hZ] at hF hX
                  rw [hF] at hX
                  rw [hY, hZ, hF, hX]
                  clear hX hF hZ hY
                  obtain ⟨_, f1, f2, z1, z2, z3, z4⟩ := YB.out
                  obtain ⟨y0, y1, y2, y3, y4⟩ := HY.out
                  obtain ⟨x0, x1, x2, x3, x4⟩ := HU.out.c
                  go_wp2_with fail
                  clear f1 f2 z1 z2 z3 z4 y0 y1 y2 y3 y4 x0 x1 x2 x3 x4
                  refine (great_s p s _ hg _ _ HST.out).mono ?_
                  rintro e w3 ⟨rfl, b3⟩
                  have B3 := Lib.hid (below_step B0.out b3)
                  replace YB := Lib.hid (YB.out.below b3)
                  replace HY := Lib.hid (HY.out.below b3)
                  replace HU := Lib.hid (HU.out.below b3)
                  replace HST := Lib.hid (HST.out.below b3)
                  replace HUT := Lib.hid (HUT.out.below b3)
                  replace HX2 := Lib.hid (HX2.out.below b3)
                  clear b3
                  obtain ⟨_, f1, f2, z1, z2, z3, z4⟩ := YB.out
                  obtain ⟨y0, y1, y2, y3, y4⟩ := HY.out
                  obtain ⟨x0, x1, x2, x3, x4⟩ := HU.out.c
                  go_wp2_with fail
                  clear f1 f2 z1 z2 z3 z4 y0 y1 y2 y3 y4 x0 x1 x2 x3 x4
                  refine (great_s q u _ hg2 _ _ HUT.out).mono ?_
                  rintro e w4 ⟨rfl, b3⟩
                  have B4 := Lib.hid (below_step B3.out b3)
                  replace YB := Lib.hid (YB.out.below b3)
                  replace HY := Lib.hid (HY.out.below b3)
                  replace HU := Lib.hid (HU.out.below b3)
                  replace HST := Lib.hid (HST.out.below b3)
                  replace HUT := Lib.hid (HUT.out.below b3)
                  replace HX2 := Lib.hid (HX2.out.below b3)
                  clear b3
                  obtain ⟨_, f1, f2, z1, z2, z3, z4⟩ := YB.out
                  obtain ⟨y0, y1, y2, y3, y4⟩ := HY.out
                  obtain ⟨x0, x1, x2, x3, x4⟩ := HU.out.c
                  have g0 := HU.out.f 0
                  go_upto_region 4 with fail
                  clear f1 f2 z1 z2 z3 z4 y0 y1 y2 y3 y4 x0 x1 x2 x3 x4
                  clear g0
                  have g5 := gb_one w4 Z 0 (.slice p.A s.tasks.length p.a)
                  have hz1 : some Y ≠ some Z := fun e => HZY.out.2.1 (Option.some.inj e)
                  have hz2 : some F ≠ some Z := fun e => HZY.out.2.2.1 (Option.some.inj e)
                  have hz3 : some X ≠ some Z := fun e => HZY.out.2.2.2 (Option.some.inj e)
                  have hz4 : ∀ b, b < w.heap.size → some b ≠ some Z := fun b hb e => by have := HZY.out.1; injection e with e; omega
                  replace YB := Lib.hid (YB.out.gb g5 hz1 hz2 hz3)
                  replace HY := Lib.hid (HY.out.gb g5 hz1)
                  replace HU := Lib.hid (HU.out.takes p s)
                  replace HUT := Lib.hid ((HUT.out.takes HST.out).gb g5 hz4)
                  replace HST := Lib.hid (HST.out.gb g5 hz4)
                  replace HX2 : Hid (RdS _ (fun b => b < w.heap.size) D d x.2.2.2) := (RdS.keep HX2.out fun k hk hs => ⟨hs, g5.block k hk (hz4 k hs)⟩)
                  have B5 : Hid (Below w.heap.size w (w4.setCell ⟨Z, 0, none⟩ (.slice p.A s.tasks.length p.a))) := B4.out.setCell (p := ⟨Z, 0, none⟩) HZY.out.1 _
                  have HZV := Lib.hid (HZU.out.takes HZ.out)
                  clear g5 hz1 hz2 hz3 hz4 HZY HZU
                  generalize w4.setCell ⟨Z, 0, none⟩ (.slice p.A s.tasks.length p.a) = w5 at *
                  generalize tkS u s = u2 at *
                  generalize tkP q p = q2 at *
                  obtain ⟨_, f1, f2, z1, z2, z3, z4⟩ := YB.out
                  obtain ⟨y0, y1, y2, y3, y4⟩ := HY.out
                  obtain ⟨x0, x1, x2, x3, x4⟩ := HU.out.c
                  go_wp2_with fail
                  clear f1 f2 z1 z2 z3 z4 y0 y1 y2 y3 y4 x0 x1 x2 x3 x4
                  refine (right_s p s _ hrs _ ⟨HZ.out, HST.out.keep fun _ _ _ => ⟨trivial, rfl⟩⟩).mono ?_
                  rintro e w6 ⟨rfl, b3⟩
                  have B6 := Lib.hid (below_step B5.out b3)
                  replace YB := Lib.hid (YB.out.below b3)
                  replace HY := Lib.hid (HY.out.below b3)
                  replace HU := Lib.hid (HU.out.below b3)
                  replace HST := Lib.hid (HST.out.below b3)
                  replace HUT := Lib.hid (HUT.out.below b3)
                  replace HX2 := Lib.hid (HX2.out.below b3)
                  clear b3
                  obtain ⟨_, f1, f2, z1, z2, z3, z4⟩ := YB.out
                  obtain ⟨y0, y1, y2, y3, y4⟩ := HY.out
                  obtain ⟨x0, x1, x2, x3, x4⟩ := HU.out.c
                  go_wp2_with fail
                  clear f1 f2 z1 z2 z3 z4 y0 y1 y2 y3 y4 x0 x1 x2 x3 x4
                  refine (right_s q2 u2 _ hru _ ⟨HZV.out, HUT.out.keep fun _ _ _ => ⟨trivial, rfl⟩⟩).mono ?_
                  rintro e w7 ⟨rfl, b3⟩
                  replace B6 := Lib.hid (below_step B6.out b3)
                  replace YB := Lib.hid (YB.out.below b3)
                  replace HY := Lib.hid (HY.out.below b3)
                  replace HU := Lib.hid (HU.out.below b3)
                  replace HST := Lib.hid (HST.out.below b3)
                  replace HUT := Lib.hid (HUT.out.below b3)
                  replace HX2 := Lib.hid (HX2.out.below b3)
                  clear b3
                  obtain ⟨_, f1, f2, z1, z2, z3, z4⟩ := YB.out
                  obtain ⟨y0, y1, y2, y3, y4⟩ := HY.out
                  obtain ⟨x0, x1, x2, x3, x4⟩ := HU.out.c
                  go_wp2_with fail
                  clear f1 f2 z1 z2 z3 z4 y0 y1 y2 y3 y4 x0 x1 x2 x3 x4
                  refine (HAD.out (fun b => b < w.heap.size) _ (fun b h => Nat.lt_of_lt_of_le h B6.out.size) HZ.out HST.out (HX2.out.keep fun _ _ _ => ⟨trivial, rfl⟩)).mono ?_
                  rintro e w8 ⟨p3, rfl, h3, b6⟩
                  have HV := Lib.hid (Vs.made (below_step B6.out b6) h3)
                  have b3 := below_step b6 (below_one w8 (.cells #[.slice p3.A r.tasks.length p3.a, .slice p3.B r.leaves.length p3.b, .slice p3.C r.lasts.length p3.c, .slice p3.D r.jobs.length p3.d, .slice p3.E r.log.length p3.e] 28))
                  clear h3 b6
                  replace YB := Lib.hid (YB.out.below b3)
                  replace HY := Lib.hid (HY.out.below b3)
                  replace HU := Lib.hid (HU.out.below b3)
                  replace HST := Lib.hid (HST.out.below b3)
                  replace HUT := Lib.hid (HUT.out.below b3)
                  replace HX2 := Lib.hid (HX2.out.below b3)
                  clear b3
                  obtain ⟨_, f1, f2, z1, z2, z3, z4⟩ := YB.out
                  obtain ⟨y0, y1, y2, y3, y4⟩ := HY.out
                  obtain ⟨x0, x1, x2, x3, x4⟩ := HU.out.c
                  go_wp2_with fail
                  clear f1 f2 z1 z2 z3 z4 y0 y1 y2 y3 y4 x0 x1 x2 x3 x4
                  generalize w8.alloc (.cells #[.slice p3.A r.tasks.length p3.a, .slice p3.B r.leaves.length p3.b, .slice p3.C r.lasts.length p3.c, .slice p3.D r.jobs.length p3.d, .slice p3.E r.log.length p3.e] 28) = w9 at *
                  generalize w8.heap.size = V at *
                  refine (HAU.out (fun b => b < w.heap.size) _ (fun b h => Nat.lt_of_lt_of_le h HV.out.b.size) HZV.out HUT.out (HX2.out.keep fun _ _ _ => ⟨trivial, rfl⟩)).mono ?_
                  rintro e w10 ⟨p4, rfl, h3, b6⟩
                  replace HV := Lib.hid (HV.out.below b6)
                  have HR := Lib.hid (Vs.made HV.out.b h3)
                  have b3 := below_one w10 (.cells #[.slice p4.A r2.tasks.length p4.a, .slice p4.B r2.leaves.length p4.b, .slice p4.C r2.lasts.length p4.c, .slice p4.D r2.jobs.length p4.d, .slice p4.E r2.log.length p4.e] 28)
                  replace HV := Lib.hid (HV.out.below b3)
                  replace b3 := below_step b6 b3
                  clear h3 b6
                  replace YB := Lib.hid (YB.out.below b3)
                  replace HY := Lib.hid (HY.out.below b3)
                  replace HU := Lib.hid (HU.out.below b3)
                  replace HST := Lib.hid (HST.out.below b3)
                  replace HUT := Lib.hid (HUT.out.below b3)
                  replace HX2 := Lib.hid (HX2.out.below b3)
                  clear b3
                  go_upto_region 8 with fail
                  generalize w10.alloc (.cells #[.slice p4.A r2.tasks.length p4.a, .slice p4.B r2.leaves.length p4.b, .slice p4.C r2.lasts.length p4.c, .slice p4.D r2.jobs.length p4.d, .slice p4.E r2.log.length p4.e] 28) = w11 at *
                  generalize w10.heap.size = U at *
                  obtain ⟨y0, y1, y2, y3, y4⟩ := HY.out
                  obtain ⟨x0, x1, x2, x3, x4⟩ := HU.out.c
                  have hs : SR _ p s := ⟨HZ.out, HST.out.keep fun _ _ _ => ⟨trivial, rfl⟩⟩
                  have hw : SR _ q2 u2 := ⟨HZV.out, HUT.out.keep fun _ _ _ => ⟨trivial, rfl⟩⟩
                  clear HY HU HST HUT YB HX2
                  have HS := Lib.hid hs
                  have HW := Lib.hid hw
                  clear hs hw
                  replace y0 := cell_bw y0
                  replace y1 := cell_bw y1
                  replace y2 := cell_bw y2
                  replace y3 := cell_bw y3
                  replace y4 := cell_bw y4
                  replace x0 := cell_bw x0
                  replace x1 := cell_bw x1
                  replace x2 := cell_bw x2
                  replace x3 := cell_bw x3
                  replace x4 := cell_bw x4
                  refine wp_region_bw (by kernel_rfl) (by kernel_rfl) ?_
                  repeat
                    (with_reducible refine wpQuiet_step (fun K hK => ?_)
                     go_simp
                     first
                       | (with_reducible refine hK _ ?_
                          clear hK K)
                       | (rw [if_neg]
                          rotate_left
                          focus (intro h; cases h; done)
                          with_reducible refine hK _ ?_
                          clear hK K)
                       | (apply Exists.intro
                          refine ⟨fun _ => ?_, hK _ ?_⟩
                          (go_at_call 10; first | (with_reducible exact Calls.bw (beganS_v p s _ hbs _ (HS.out.bw _))) | (with_reducible exact Calls.bw (beganS_v q2 u2 _ hbu _ (HW.out.bw _))))
                          clear hK K))
                  with_reducible refine wpQuiet_nil ?_
                  intro wb hw'
                  obtain ⟨⟨wb', lb⟩, hw''⟩ := hw'
                  subst hw''
                  clear HS HW y0 y1 y2 y3 y4 x0 x1 x2 x3 x4
                  replace HV := Lib.hid (HV.out.below lb)
                  replace HR := Lib.hid (HR.out.below lb)
                  clear lb
                  have B6 := Lib.hid HV.out.b
                  go_wp2_with fail
                  refine (knows20_any _).mono ?_
                  rintro e w8 ⟨rfl, b3⟩
                  have B7 := Lib.hid (below_step B6.out b3)
                  clear b3
                  go_wp2_with fail
                  go_ret
                  exact ⟨rfl, B7.out⟩

set_option maxRecDepth 100000 in
theorem lifted (os : Os) (started : os.Started) (H : Type) (enc : TypeId × Value → H) :
    ReturnsInHanded {} Try.checked os 3 .any (Rows.admitHangsSpec.pre6 enc Try.prog Try.f3 Rows.admitHangsRow.domain false) (Rows.admitHangsSpec.post enc Try.prog Try.f3 false true false false) := by
  refine returnsInHanded_of_change (C := Try.checked) own started (by kernel_rfl) Try.func3
    (ChangeSpec.witness6 (enc := enc) (C := Try.checked) false ⟨#[], #[.agg #[.slice none 0 0, .slice none 0 0, .slice none 0 0, .slice none 0 0, .slice none 0 0], .agg #[.slice none 0 0, .slice none 0 0, .slice none 0 0, .slice none 0 0, .slice none 0 0], .agg #[.int .i64 0, .int .i64 0], .agg #[.int .i64 0, .int .i64 0, .int .i64 0, .slice none 0 0]], []⟩ 8 (by kernel_rfl) (by kernel_rfl) (by kernel_rfl) (by kernel_rfl)) ?_
  intro W base args ds gs before hval0 hW hcnd _
  have hval : ∀ (j : Nat) t v, Try.f3.params[j]? = some t → args[j]? = some v → Value.okWide Try.prog W .any base t v := hval0
  have hW' := hW
  obtain ⟨p, q, hA0, hV, rfl, hfz, hnd⟩ := hW
  have hA : DataW.TrodAll enc Try.prog W 0 (fun _ => true) true Try.f3.params.toList args.toList ds p := hA0
  rw [Try.params3] at hA hval
  obtain ⟨v0, v1, v2, v3, d0, d1, d2, d3, p0, p1, p2, p3, rfl, rfl, rfl, h0, h1, h2, h3⟩ := trodAll_four' hA
  obtain ⟨rfl, rfl⟩ := trodVars_none hV
  obtain ⟨q0, s0, rfl, hr0⟩ := Pm.open_state (hval 0 28 v0 rfl rfl) h0
  obtain ⟨q1, s1, rfl, hr1⟩ := Pm.open_state (hval 1 28 v1 rfl rfl) h1
  obtain ⟨P2, B2, rfl, fp2, fb2⟩ := Sp.open_face (hval 2 30 v2 rfl rfl) h2
  obtain ⟨A3, c3, x3, rfl, fa3, fb3, fc3, hr3⟩ := Tk.open_task (hval 3 33 v3 rfl rfl) h3
  clear hA0 hval0
  refine (walk q0 s0 q1 s1 P2 B2 A3 c3 x3 W hr0 hr1 fp2 fb2 fa3 fb3 fc3 hr3).mono fun e W' ⟨he, bel⟩ => ?_
  subst he
  have hlt0 : ∀ x ∈ p0, x.block < W.heap.size := fun x hx => hW'.lt x (by simp [hx])
  have hlt1 : ∀ x ∈ p1, x.block < W.heap.size := fun x hx => hW'.lt x (by simp [hx])
  have hlt2 : ∀ x ∈ p2, x.block < W.heap.size := fun x hx => hW'.lt x (by simp [hx])
  have hlt3 : ∀ x ∈ p3, x.block < W.heap.size := fun x hx => hW'.lt x (by simp [hx])
  exact ⟨_, rfl, _, _, _, [], _, [], hW', trodAll_mk1 (shut_bool Try.underlying4 _), trodAll_mk4 (Below.trod laidOut (by kernel_rfl) (of_decide_eq_true (by kernel_rfl)) h0 bel hlt0) (Below.trod laidOut (by kernel_rfl) (of_decide_eq_true (by kernel_rfl)) h1 bel hlt1) (Below.trod laidOut (by kernel_rfl) (of_decide_eq_true (by kernel_rfl)) h2 bel hlt2) (Below.trod laidOut (by kernel_rfl) (of_decide_eq_true (by kernel_rfl)) h3 bel hlt3), rfl, bel.frame _, fun h => by cases h⟩

/-- The statement. -/
theorem proved : Rows.AdmitHangsSaid :=
  OpenClaim.holds_of_wide 3 Try.f3 rfl rfl rfl rfl rfl rfl rfl ⟨rfl, rfl, rfl, rfl, rfl⟩ rfl rfl rfl rfl rfl (by kernel_rfl) Try.func3 (by kernel_rfl)
    (of_decide_eq_true (by kernel_rfl)) (by unfold Func.isWrapper; first | (rw [if_pos (by decide +kernel)]; kernel_rfl) | (rw [if_neg (by decide +kernel)]; exact ⟨rfl, rfl⟩))
    (fun os started H enc _ => lifted os started H enc)
#print axioms proved

end Go.Proofs.Ytdjjdebnbaaihaa.admitHangs
