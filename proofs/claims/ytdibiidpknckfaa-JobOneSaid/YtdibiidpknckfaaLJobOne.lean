/-
  For all tasks and jobs and any three places the statement JobOne of layer 14 returns true (of two unlike jobs of those that are right just one is ahead; and being ahead goes on from one to a third), and its arguments read as before. No condition.
-/
import Derived.Test.YtdibiidpknckfaaGlaw14
import Derived.BigRegion
import Derived.Deep.DeepCutAuto
namespace Go.Proofs.Ytdibiidpknckfaa.jobOne
open Go.ChangeShapes Go.WideShapes Go.ChangeAt Go.RowKit
open Mm Tk Pm

/-- a job of zeros -/
abbrev Z0 : Obj := .cells #[.int .i64 0, .int .i64 0, .int .i64 0, .int .i64 0, .int .i64 0, .bool false] 30
theorem ahead_one {L : List Tsk} {l : List Jb} (h : allJ L l = true) {i k : Nat} (hi : i < l.length) (hk : k < l.length) (hne : at_ l i ≠ at_ l k) : aheadB (at_ l i) (at_ l k) = !aheadB (at_ l k) (at_ l i) := by
  have hu := unlike_at.1 (allJ_iff.1 h).2.2.1 i k hi hk (fun e => hne (by rw [e]))
  cases e : aheadB (at_ l i) (at_ l k) with
  | true => rw [ahead_not e]; rfl
  | false => rw [ahead_or hu e]; rfl

theorem lay3 (w : World) (p q r : Jb) :
    (CJ (((w.alloc (Obj.cells #[(.int .i64 p.1), (.int .i64 p.2.1), (.int .i64 p.2.2.1), (.int .i64 p.2.2.2.1), (.int .i64 p.2.2.2.2.1), (.bool p.2.2.2.2.2)] 30)).alloc (Obj.cells #[(.int .i64 q.1), (.int .i64 q.2.1), (.int .i64 q.2.2.1), (.int .i64 q.2.2.2.1), (.int .i64 q.2.2.2.2.1), (.bool q.2.2.2.2.2)] 30)).alloc (Obj.cells #[(.int .i64 r.1), (.int .i64 r.2.1), (.int .i64 r.2.2.1), (.int .i64 r.2.2.2.1), (.int .i64 r.2.2.2.2.1), (.bool r.2.2.2.2.2)] 30)).drew w.heap.size 0 p ∧ CJ (((w.alloc (Obj.cells #[(.int .i64 p.1), (.int .i64 p.2.1), (.int .i64 p.2.2.1), (.int .i64 p.2.2.2.1), (.int .i64 p.2.2.2.2.1), (.bool p.2.2.2.2.2)] 30)).alloc (Obj.cells #[(.int .i64 q.1), (.int .i64 q.2.1), (.int .i64 q.2.2.1), (.int .i64 q.2.2.2.1), (.int .i64 q.2.2.2.2.1), (.bool q.2.2.2.2.2)] 30)).alloc (Obj.cells #[(.int .i64 r.1), (.int .i64 r.2.1), (.int .i64 r.2.2.1), (.int .i64 r.2.2.2.1), (.int .i64 r.2.2.2.2.1), (.bool r.2.2.2.2.2)] 30)).drew (w.heap.size + 1) 0 q ∧ CJ (((w.alloc (Obj.cells #[(.int .i64 p.1), (.int .i64 p.2.1), (.int .i64 p.2.2.1), (.int .i64 p.2.2.2.1), (.int .i64 p.2.2.2.2.1), (.bool p.2.2.2.2.2)] 30)).alloc (Obj.cells #[(.int .i64 q.1), (.int .i64 q.2.1), (.int .i64 q.2.2.1), (.int .i64 q.2.2.2.1), (.int .i64 q.2.2.2.2.1), (.bool q.2.2.2.2.2)] 30)).alloc (Obj.cells #[(.int .i64 r.1), (.int .i64 r.2.1), (.int .i64 r.2.2.1), (.int .i64 r.2.2.2.1), (.int .i64 r.2.2.2.2.1), (.bool r.2.2.2.2.2)] 30)).drew (w.heap.size + 1 + 1) 0 r) ∧
      Below w.heap.size w (((w.alloc (Obj.cells #[(.int .i64 p.1), (.int .i64 p.2.1), (.int .i64 p.2.2.1), (.int .i64 p.2.2.2.1), (.int .i64 p.2.2.2.2.1), (.bool p.2.2.2.2.2)] 30)).alloc (Obj.cells #[(.int .i64 q.1), (.int .i64 q.2.1), (.int .i64 q.2.2.1), (.int .i64 q.2.2.2.1), (.int .i64 q.2.2.2.2.1), (.bool q.2.2.2.2.2)] 30)).alloc (Obj.cells #[(.int .i64 r.1), (.int .i64 r.2.1), (.int .i64 r.2.2.1), (.int .i64 r.2.2.2.1), (.int .i64 r.2.2.2.2.1), (.bool r.2.2.2.2.2)] 30)).drew := by
  have nx : ∀ (v : World) (o : Obj), Below v.heap.size v (v.alloc o) := below_one
  refine ⟨⟨?_, ?_, ?_⟩, (below_three w _ _ _).drew⟩
  · exact (((cj_new w p _ rfl).below (nx _ _)).below (nx _ _)).below ((Below.refl _ _).drew)
  · exact ((cj_new _ q _ (by simp)).below (nx _ _)).below ((Below.refl _ _).drew)
  · exact (cj_new _ r _ (by simp)).below ((Below.refl _ _).drew)
attribute [local go_sem ↓] neJob
set_option maxRecDepth 20000 in
set_option maxHeartbeats 6400000 in
theorem walk (A : Option Addr) (c : Nat) (L : List Tsk) (B : Option Addr) (d : Nat) (l : List Jb) (i k n : Nat) (w : World) (hr : Rd w A c L) (hs : Rd w B d l) (hi : i < 256) (hk : k < 256) (hn : n < 256) :
    Calls Try.prog 4 #[.slice A L.length c, .slice B l.length d, .int .u8 i, .int .u8 k, .int .u8 n] w fun e w' => e = .returned (.bool true) ∧ Below w.heap.size w w' := by
  have HG := Lib.hid (greatJ_any A B c d L l w hr)
  have HR := Lib.hid hr
  have HS := Lib.hid hs
  clear hr hs
  cases hg : greatJ L l with
  | true =>
    rw [hg] at HG
    clear hg
    go_enter Try.func4, Try.ntmps4
    go_wp2_with fail
    refine (HG.out).mono ?_
    rintro e w1 ⟨rfl, b1⟩
    have B1 := Lib.hid b1
    clear b1
    go_wp2_with fail
    refine (knows14_any _).mono ?_
    rintro e w2 ⟨rfl, b2⟩
    have B2 := Lib.hid (below_step B1.out b2)
    clear b2
    go_wp2_with fail
    go_ret
    exact ⟨rfl, B2.out⟩
  | false =>
    rw [hg] at HG
    obtain ⟨hL, hin, hl⟩ := greatJ_no hg
    have HT : Hid (TL w A c L) := ⟨by omega, fun j hj => by have := hin j hj; omega, HR.out⟩
    have hbig : l.length ≤ 1000000 := by omega
    clear hg hin HR
    by_cases h0 : l.length = 0
    · have e0 : ((l.length : Int) == 0) = true := beq_iff_eq.2 (by omega)
      have hl0 := List.eq_nil_of_length_eq_zero h0
      subst hl0
      go_enter Try.func4, Try.ntmps4
      go_wp2_with fail
      refine (HG.out).mono ?_
      rintro e w1 ⟨rfl, b1⟩
      have B1 := Lib.hid b1
      clear b1
      go_wp2_with fail
      refine (knows14_any _).mono ?_
      rintro e w2 ⟨rfl, b2⟩
      have B2 := Lib.hid (below_step B1.out b2)
      clear b2
      go_wp2_with fail
      go_ret
      exact ⟨rfl, B2.out⟩
    · have e0 : ((l.length : Int) == 0) = false := beq_eq_false_iff_ne.2 (by omega)
      have e1 : ¬ (l.length : Int) = 0 := by omega
      have HA := Lib.hid (fun w1 HT HS => refAllJobs_any A B c d L l w1 HT hbig HS)
      cases ha : allJ L l with
      | false =>
        rw [ha] at HA
        clear ha
        go_enter Try.func4, Try.ntmps4
        go_wp2_with fail
        refine (HG.out).mono ?_
        rintro e w1 ⟨rfl, b1⟩
        have B1 := Lib.hid b1
        replace HT := Lib.hid (HT.out.below b1)
        replace HS := Lib.hid (HS.out.below b1)
        clear b1
        go_wp2_with fail
        refine (HA.out _ HT.out HS.out).mono ?_
        rintro e w2 ⟨rfl, b2⟩
        have B2 := Lib.hid (below_step B1.out b2)
        clear b2
        go_wp2_with fail
        refine (knows14_any _).mono ?_
        rintro e w3 ⟨rfl, b3⟩
        have B3 := Lib.hid (below_step B2.out b3)
        clear b3
        go_wp2_with fail
        go_ret
        exact ⟨rfl, B3.out⟩
      | true =>
        rw [ha] at HA
        have hl0 : 0 < l.length := by omega
        have hx : i % l.length < l.length := Nat.mod_lt _ hl0
        have hy : k % l.length < l.length := Nat.mod_lt _ hl0
        have hz : n % l.length < l.length := Nat.mod_lt _ hl0
        have r1 : Int.tmod (i : Int) (l.length : Int) = ((i % l.length : Nat) : Int) := by rw [Int.tmod_eq_emod_of_nonneg (by omega)]; exact (Int.natCast_emod i l.length).symm
        have r2 : Int.tmod (k : Int) (l.length : Int) = ((k % l.length : Nat) : Int) := by rw [Int.tmod_eq_emod_of_nonneg (by omega)]; exact (Int.natCast_emod k l.length).symm
        have r3 : Int.tmod (n : Int) (l.length : Int) = ((n % l.length : Nat) : Int) := by rw [Int.tmod_eq_emod_of_nonneg (by omega)]; exact (Int.natCast_emod n l.length).symm
        have s1 : (i : Int) % (l.length : Int) = ((i % l.length : Nat) : Int) := (Int.natCast_emod i l.length).symm
        have s2 : (k : Int) % (l.length : Int) = ((k % l.length : Nat) : Int) := (Int.natCast_emod k l.length).symm
        have s3 : (n : Int) % (l.length : Int) = ((n % l.length : Nat) : Int) := (Int.natCast_emod n l.length).symm
        have HONE := Lib.hid (ahead_one (L := L) (l := l) (i := i % l.length) (k := k % l.length) ha hx hy)
        generalize i % l.length = a at *
        generalize k % l.length = b at *
        generalize n % l.length = f at *
        clear ha
        have t1 : (a : Int) < (l.length : Int) := by omega
        have t2 : (b : Int) < (l.length : Int) := by omega
        have t3 : (f : Int) < (l.length : Int) := by omega
        go_enter Try.func4, Try.ntmps4
        go_wp2_with fail
        refine (HG.out).mono ?_
        rintro e w1 ⟨rfl, b1⟩
        have B1 := Lib.hid b1
        replace HT := Lib.hid (HT.out.below b1)
        replace HS := Lib.hid (HS.out.below b1)
        clear b1
        go_wp2_with fail
        refine (HA.out _ HT.out HS.out).mono ?_
        rintro e w2 ⟨rfl, b2⟩
        have B2 := Lib.hid (below_step B1.out b2)
        replace HS := Lib.hid (HS.out.below b2)
        clear b2 HT HA HG
        obtain ⟨bb, off, rfl, hc⟩ := job_at HS.out hl0
        have cx := (hc a hx).1
        have cy := (hc b hy).1
        have cz := (hc f hz).1
        clear hc
        generalize at_ l a = x at *
        generalize at_ l b = y at *
        generalize at_ l f = z at *
        have x0 := cx.c0
        have x1 := cx.c1
        have x2 := cx.c2
        have x3 := cx.c3
        have x4 := cx.c4
        have x5 := cx.c5
        have y0 := cy.c0
        have y1 := cy.c1
        have y2 := cy.c2
        have y3 := cy.c3
        have y4 := cy.c4
        have y5 := cy.c5
        have z0 := cz.c0
        have z1 := cz.c1
        have z2 := cz.c2
        have z3 := cz.c3
        have z4 := cz.c4
        have z5 := cz.c5
        have z_x0 := (cell_new x0 Z0)
        have z_x1 := (cell_new x1 Z0)
        have z_x2 := (cell_new x2 Z0)
        have z_x3 := (cell_new x3 Z0)
        have z_x4 := (cell_new x4 Z0)
        have z_x5 := (cell_new x5 Z0)
        have z_y0 := (cell_new y0 Z0)
        have z_y1 := (cell_new y1 Z0)
        have z_y2 := (cell_new y2 Z0)
        have z_y3 := (cell_new y3 Z0)
        have z_y4 := (cell_new y4 Z0)
        have z_y5 := (cell_new y5 Z0)
        have z_z0 := (cell_new z0 Z0)
        have z_z1 := (cell_new z1 Z0)
        have z_z2 := (cell_new z2 Z0)
        have z_z3 := (cell_new z3 Z0)
        have z_z4 := (cell_new z4 Z0)
        have z_z5 := (cell_new z5 Z0)
        have x_y0 := (cell_new y0 (Obj.cells #[(.int .i64 x.1), (.int .i64 x.2.1), (.int .i64 x.2.2.1), (.int .i64 x.2.2.2.1), (.int .i64 x.2.2.2.2.1), (.bool x.2.2.2.2.2)] 30))
        have x_y1 := (cell_new y1 (Obj.cells #[(.int .i64 x.1), (.int .i64 x.2.1), (.int .i64 x.2.2.1), (.int .i64 x.2.2.2.1), (.int .i64 x.2.2.2.2.1), (.bool x.2.2.2.2.2)] 30))
        have x_y2 := (cell_new y2 (Obj.cells #[(.int .i64 x.1), (.int .i64 x.2.1), (.int .i64 x.2.2.1), (.int .i64 x.2.2.2.1), (.int .i64 x.2.2.2.2.1), (.bool x.2.2.2.2.2)] 30))
        have x_y3 := (cell_new y3 (Obj.cells #[(.int .i64 x.1), (.int .i64 x.2.1), (.int .i64 x.2.2.1), (.int .i64 x.2.2.2.1), (.int .i64 x.2.2.2.2.1), (.bool x.2.2.2.2.2)] 30))
        have x_y4 := (cell_new y4 (Obj.cells #[(.int .i64 x.1), (.int .i64 x.2.1), (.int .i64 x.2.2.1), (.int .i64 x.2.2.2.1), (.int .i64 x.2.2.2.2.1), (.bool x.2.2.2.2.2)] 30))
        have x_y5 := (cell_new y5 (Obj.cells #[(.int .i64 x.1), (.int .i64 x.2.1), (.int .i64 x.2.2.1), (.int .i64 x.2.2.2.1), (.int .i64 x.2.2.2.2.1), (.bool x.2.2.2.2.2)] 30))
        have x_z0 := (cell_new z0 (Obj.cells #[(.int .i64 x.1), (.int .i64 x.2.1), (.int .i64 x.2.2.1), (.int .i64 x.2.2.2.1), (.int .i64 x.2.2.2.2.1), (.bool x.2.2.2.2.2)] 30))
        have x_z1 := (cell_new z1 (Obj.cells #[(.int .i64 x.1), (.int .i64 x.2.1), (.int .i64 x.2.2.1), (.int .i64 x.2.2.2.1), (.int .i64 x.2.2.2.2.1), (.bool x.2.2.2.2.2)] 30))
        have x_z2 := (cell_new z2 (Obj.cells #[(.int .i64 x.1), (.int .i64 x.2.1), (.int .i64 x.2.2.1), (.int .i64 x.2.2.2.1), (.int .i64 x.2.2.2.2.1), (.bool x.2.2.2.2.2)] 30))
        have x_z3 := (cell_new z3 (Obj.cells #[(.int .i64 x.1), (.int .i64 x.2.1), (.int .i64 x.2.2.1), (.int .i64 x.2.2.2.1), (.int .i64 x.2.2.2.2.1), (.bool x.2.2.2.2.2)] 30))
        have x_z4 := (cell_new z4 (Obj.cells #[(.int .i64 x.1), (.int .i64 x.2.1), (.int .i64 x.2.2.1), (.int .i64 x.2.2.2.1), (.int .i64 x.2.2.2.2.1), (.bool x.2.2.2.2.2)] 30))
        have x_z5 := (cell_new z5 (Obj.cells #[(.int .i64 x.1), (.int .i64 x.2.1), (.int .i64 x.2.2.1), (.int .i64 x.2.2.2.1), (.int .i64 x.2.2.2.2.1), (.bool x.2.2.2.2.2)] 30))
        have zz_x0 := (cell_new (cell_new x0 Z0) Z0)
        have zz_x1 := (cell_new (cell_new x1 Z0) Z0)
        have zz_x2 := (cell_new (cell_new x2 Z0) Z0)
        have zz_x3 := (cell_new (cell_new x3 Z0) Z0)
        have zz_x4 := (cell_new (cell_new x4 Z0) Z0)
        have zz_x5 := (cell_new (cell_new x5 Z0) Z0)
        have zz_y0 := (cell_new (cell_new y0 Z0) Z0)
        have zz_y1 := (cell_new (cell_new y1 Z0) Z0)
        have zz_y2 := (cell_new (cell_new y2 Z0) Z0)
        have zz_y3 := (cell_new (cell_new y3 Z0) Z0)
        have zz_y4 := (cell_new (cell_new y4 Z0) Z0)
        have zz_y5 := (cell_new (cell_new y5 Z0) Z0)
        have zz_z0 := (cell_new (cell_new z0 Z0) Z0)
        have zz_z1 := (cell_new (cell_new z1 Z0) Z0)
        have zz_z2 := (cell_new (cell_new z2 Z0) Z0)
        have zz_z3 := (cell_new (cell_new z3 Z0) Z0)
        have zz_z4 := (cell_new (cell_new z4 Z0) Z0)
        have zz_z5 := (cell_new (cell_new z5 Z0) Z0)
        have zx_y0 := (cell_new (cell_new y0 Z0) (Obj.cells #[(.int .i64 x.1), (.int .i64 x.2.1), (.int .i64 x.2.2.1), (.int .i64 x.2.2.2.1), (.int .i64 x.2.2.2.2.1), (.bool x.2.2.2.2.2)] 30))
        have zx_y1 := (cell_new (cell_new y1 Z0) (Obj.cells #[(.int .i64 x.1), (.int .i64 x.2.1), (.int .i64 x.2.2.1), (.int .i64 x.2.2.2.1), (.int .i64 x.2.2.2.2.1), (.bool x.2.2.2.2.2)] 30))
        have zx_y2 := (cell_new (cell_new y2 Z0) (Obj.cells #[(.int .i64 x.1), (.int .i64 x.2.1), (.int .i64 x.2.2.1), (.int .i64 x.2.2.2.1), (.int .i64 x.2.2.2.2.1), (.bool x.2.2.2.2.2)] 30))
        have zx_y3 := (cell_new (cell_new y3 Z0) (Obj.cells #[(.int .i64 x.1), (.int .i64 x.2.1), (.int .i64 x.2.2.1), (.int .i64 x.2.2.2.1), (.int .i64 x.2.2.2.2.1), (.bool x.2.2.2.2.2)] 30))
        have zx_y4 := (cell_new (cell_new y4 Z0) (Obj.cells #[(.int .i64 x.1), (.int .i64 x.2.1), (.int .i64 x.2.2.1), (.int .i64 x.2.2.2.1), (.int .i64 x.2.2.2.2.1), (.bool x.2.2.2.2.2)] 30))
        have zx_y5 := (cell_new (cell_new y5 Z0) (Obj.cells #[(.int .i64 x.1), (.int .i64 x.2.1), (.int .i64 x.2.2.1), (.int .i64 x.2.2.2.1), (.int .i64 x.2.2.2.2.1), (.bool x.2.2.2.2.2)] 30))
        have zx_z0 := (cell_new (cell_new z0 Z0) (Obj.cells #[(.int .i64 x.1), (.int .i64 x.2.1), (.int .i64 x.2.2.1), (.int .i64 x.2.2.2.1), (.int .i64 x.2.2.2.2.1), (.bool x.2.2.2.2.2)] 30))
        have zx_z1 := (cell_new (cell_new z1 Z0) (Obj.cells #[(.int .i64 x.1), (.int .i64 x.2.1), (.int .i64 x.2.2.1), (.int .i64 x.2.2.2.1), (.int .i64 x.2.2.2.2.1), (.bool x.2.2.2.2.2)] 30))
        have zx_z2 := (cell_new (cell_new z2 Z0) (Obj.cells #[(.int .i64 x.1), (.int .i64 x.2.1), (.int .i64 x.2.2.1), (.int .i64 x.2.2.2.1), (.int .i64 x.2.2.2.2.1), (.bool x.2.2.2.2.2)] 30))
        have zx_z3 := (cell_new (cell_new z3 Z0) (Obj.cells #[(.int .i64 x.1), (.int .i64 x.2.1), (.int .i64 x.2.2.1), (.int .i64 x.2.2.2.1), (.int .i64 x.2.2.2.2.1), (.bool x.2.2.2.2.2)] 30))
        have zx_z4 := (cell_new (cell_new z4 Z0) (Obj.cells #[(.int .i64 x.1), (.int .i64 x.2.1), (.int .i64 x.2.2.1), (.int .i64 x.2.2.2.1), (.int .i64 x.2.2.2.2.1), (.bool x.2.2.2.2.2)] 30))
        have zx_z5 := (cell_new (cell_new z5 Z0) (Obj.cells #[(.int .i64 x.1), (.int .i64 x.2.1), (.int .i64 x.2.2.1), (.int .i64 x.2.2.2.1), (.int .i64 x.2.2.2.2.1), (.bool x.2.2.2.2.2)] 30))
        have xz_y0 := (cell_new (cell_new y0 (Obj.cells #[(.int .i64 x.1), (.int .i64 x.2.1), (.int .i64 x.2.2.1), (.int .i64 x.2.2.2.1), (.int .i64 x.2.2.2.2.1), (.bool x.2.2.2.2.2)] 30)) Z0)
        have xz_y1 := (cell_new (cell_new y1 (Obj.cells #[(.int .i64 x.1), (.int .i64 x.2.1), (.int .i64 x.2.2.1), (.int .i64 x.2.2.2.1), (.int .i64 x.2.2.2.2.1), (.bool x.2.2.2.2.2)] 30)) Z0)
        have xz_y2 := (cell_new (cell_new y2 (Obj.cells #[(.int .i64 x.1), (.int .i64 x.2.1), (.int .i64 x.2.2.1), (.int .i64 x.2.2.2.1), (.int .i64 x.2.2.2.2.1), (.bool x.2.2.2.2.2)] 30)) Z0)
        have xz_y3 := (cell_new (cell_new y3 (Obj.cells #[(.int .i64 x.1), (.int .i64 x.2.1), (.int .i64 x.2.2.1), (.int .i64 x.2.2.2.1), (.int .i64 x.2.2.2.2.1), (.bool x.2.2.2.2.2)] 30)) Z0)
        have xz_y4 := (cell_new (cell_new y4 (Obj.cells #[(.int .i64 x.1), (.int .i64 x.2.1), (.int .i64 x.2.2.1), (.int .i64 x.2.2.2.1), (.int .i64 x.2.2.2.2.1), (.bool x.2.2.2.2.2)] 30)) Z0)
        have xz_y5 := (cell_new (cell_new y5 (Obj.cells #[(.int .i64 x.1), (.int .i64 x.2.1), (.int .i64 x.2.2.1), (.int .i64 x.2.2.2.1), (.int .i64 x.2.2.2.2.1), (.bool x.2.2.2.2.2)] 30)) Z0)
        have xz_z0 := (cell_new (cell_new z0 (Obj.cells #[(.int .i64 x.1), (.int .i64 x.2.1), (.int .i64 x.2.2.1), (.int .i64 x.2.2.2.1), (.int .i64 x.2.2.2.2.1), (.bool x.2.2.2.2.2)] 30)) Z0)
        have xz_z1 := (cell_new (cell_new z1 (Obj.cells #[(.int .i64 x.1), (.int .i64 x.2.1), (.int .i64 x.2.2.1), (.int .i64 x.2.2.2.1), (.int .i64 x.2.2.2.2.1), (.bool x.2.2.2.2.2)] 30)) Z0)
        have xz_z2 := (cell_new (cell_new z2 (Obj.cells #[(.int .i64 x.1), (.int .i64 x.2.1), (.int .i64 x.2.2.1), (.int .i64 x.2.2.2.1), (.int .i64 x.2.2.2.2.1), (.bool x.2.2.2.2.2)] 30)) Z0)
        have xz_z3 := (cell_new (cell_new z3 (Obj.cells #[(.int .i64 x.1), (.int .i64 x.2.1), (.int .i64 x.2.2.1), (.int .i64 x.2.2.2.1), (.int .i64 x.2.2.2.2.1), (.bool x.2.2.2.2.2)] 30)) Z0)
        have xz_z4 := (cell_new (cell_new z4 (Obj.cells #[(.int .i64 x.1), (.int .i64 x.2.1), (.int .i64 x.2.2.1), (.int .i64 x.2.2.2.1), (.int .i64 x.2.2.2.2.1), (.bool x.2.2.2.2.2)] 30)) Z0)
        have xz_z5 := (cell_new (cell_new z5 (Obj.cells #[(.int .i64 x.1), (.int .i64 x.2.1), (.int .i64 x.2.2.1), (.int .i64 x.2.2.2.1), (.int .i64 x.2.2.2.2.1), (.bool x.2.2.2.2.2)] 30)) Z0)
        have xy_z0 := (cell_new (cell_new z0 (Obj.cells #[(.int .i64 x.1), (.int .i64 x.2.1), (.int .i64 x.2.2.1), (.int .i64 x.2.2.2.1), (.int .i64 x.2.2.2.2.1), (.bool x.2.2.2.2.2)] 30)) (Obj.cells #[(.int .i64 y.1), (.int .i64 y.2.1), (.int .i64 y.2.2.1), (.int .i64 y.2.2.2.1), (.int .i64 y.2.2.2.2.1), (.bool y.2.2.2.2.2)] 30))
        have xy_z1 := (cell_new (cell_new z1 (Obj.cells #[(.int .i64 x.1), (.int .i64 x.2.1), (.int .i64 x.2.2.1), (.int .i64 x.2.2.2.1), (.int .i64 x.2.2.2.2.1), (.bool x.2.2.2.2.2)] 30)) (Obj.cells #[(.int .i64 y.1), (.int .i64 y.2.1), (.int .i64 y.2.2.1), (.int .i64 y.2.2.2.1), (.int .i64 y.2.2.2.2.1), (.bool y.2.2.2.2.2)] 30))
        have xy_z2 := (cell_new (cell_new z2 (Obj.cells #[(.int .i64 x.1), (.int .i64 x.2.1), (.int .i64 x.2.2.1), (.int .i64 x.2.2.2.1), (.int .i64 x.2.2.2.2.1), (.bool x.2.2.2.2.2)] 30)) (Obj.cells #[(.int .i64 y.1), (.int .i64 y.2.1), (.int .i64 y.2.2.1), (.int .i64 y.2.2.2.1), (.int .i64 y.2.2.2.2.1), (.bool y.2.2.2.2.2)] 30))
        have xy_z3 := (cell_new (cell_new z3 (Obj.cells #[(.int .i64 x.1), (.int .i64 x.2.1), (.int .i64 x.2.2.1), (.int .i64 x.2.2.2.1), (.int .i64 x.2.2.2.2.1), (.bool x.2.2.2.2.2)] 30)) (Obj.cells #[(.int .i64 y.1), (.int .i64 y.2.1), (.int .i64 y.2.2.1), (.int .i64 y.2.2.2.1), (.int .i64 y.2.2.2.2.1), (.bool y.2.2.2.2.2)] 30))
        have xy_z4 := (cell_new (cell_new z4 (Obj.cells #[(.int .i64 x.1), (.int .i64 x.2.1), (.int .i64 x.2.2.1), (.int .i64 x.2.2.2.1), (.int .i64 x.2.2.2.2.1), (.bool x.2.2.2.2.2)] 30)) (Obj.cells #[(.int .i64 y.1), (.int .i64 y.2.1), (.int .i64 y.2.2.1), (.int .i64 y.2.2.2.1), (.int .i64 y.2.2.2.2.1), (.bool y.2.2.2.2.2)] 30))
        have xy_z5 := (cell_new (cell_new z5 (Obj.cells #[(.int .i64 x.1), (.int .i64 x.2.1), (.int .i64 x.2.2.1), (.int .i64 x.2.2.2.1), (.int .i64 x.2.2.2.2.1), (.bool x.2.2.2.2.2)] 30)) (Obj.cells #[(.int .i64 y.1), (.int .i64 y.2.1), (.int .i64 y.2.2.1), (.int .i64 y.2.2.2.1), (.int .i64 y.2.2.2.2.1), (.bool y.2.2.2.2.2)] 30))
        have yx_z0 := (cell_new (cell_new z0 (Obj.cells #[(.int .i64 y.1), (.int .i64 y.2.1), (.int .i64 y.2.2.1), (.int .i64 y.2.2.2.1), (.int .i64 y.2.2.2.2.1), (.bool y.2.2.2.2.2)] 30)) (Obj.cells #[(.int .i64 x.1), (.int .i64 x.2.1), (.int .i64 x.2.2.1), (.int .i64 x.2.2.2.1), (.int .i64 x.2.2.2.2.1), (.bool x.2.2.2.2.2)] 30))
        have yx_z1 := (cell_new (cell_new z1 (Obj.cells #[(.int .i64 y.1), (.int .i64 y.2.1), (.int .i64 y.2.2.1), (.int .i64 y.2.2.2.1), (.int .i64 y.2.2.2.2.1), (.bool y.2.2.2.2.2)] 30)) (Obj.cells #[(.int .i64 x.1), (.int .i64 x.2.1), (.int .i64 x.2.2.1), (.int .i64 x.2.2.2.1), (.int .i64 x.2.2.2.2.1), (.bool x.2.2.2.2.2)] 30))
        have yx_z2 := (cell_new (cell_new z2 (Obj.cells #[(.int .i64 y.1), (.int .i64 y.2.1), (.int .i64 y.2.2.1), (.int .i64 y.2.2.2.1), (.int .i64 y.2.2.2.2.1), (.bool y.2.2.2.2.2)] 30)) (Obj.cells #[(.int .i64 x.1), (.int .i64 x.2.1), (.int .i64 x.2.2.1), (.int .i64 x.2.2.2.1), (.int .i64 x.2.2.2.2.1), (.bool x.2.2.2.2.2)] 30))
        have yx_z3 := (cell_new (cell_new z3 (Obj.cells #[(.int .i64 y.1), (.int .i64 y.2.1), (.int .i64 y.2.2.1), (.int .i64 y.2.2.2.1), (.int .i64 y.2.2.2.2.1), (.bool y.2.2.2.2.2)] 30)) (Obj.cells #[(.int .i64 x.1), (.int .i64 x.2.1), (.int .i64 x.2.2.1), (.int .i64 x.2.2.2.1), (.int .i64 x.2.2.2.2.1), (.bool x.2.2.2.2.2)] 30))
        have yx_z4 := (cell_new (cell_new z4 (Obj.cells #[(.int .i64 y.1), (.int .i64 y.2.1), (.int .i64 y.2.2.1), (.int .i64 y.2.2.2.1), (.int .i64 y.2.2.2.2.1), (.bool y.2.2.2.2.2)] 30)) (Obj.cells #[(.int .i64 x.1), (.int .i64 x.2.1), (.int .i64 x.2.2.1), (.int .i64 x.2.2.2.1), (.int .i64 x.2.2.2.2.1), (.bool x.2.2.2.2.2)] 30))
        have yx_z5 := (cell_new (cell_new z5 (Obj.cells #[(.int .i64 y.1), (.int .i64 y.2.1), (.int .i64 y.2.2.1), (.int .i64 y.2.2.2.1), (.int .i64 y.2.2.2.2.1), (.bool y.2.2.2.2.2)] 30)) (Obj.cells #[(.int .i64 x.1), (.int .i64 x.2.1), (.int .i64 x.2.2.1), (.int .i64 x.2.2.2.1), (.int .i64 x.2.2.2.2.1), (.bool x.2.2.2.2.2)] 30))
        have zzz_x0 := (cell_new (cell_new (cell_new x0 Z0) Z0) Z0)
        have zzz_x1 := (cell_new (cell_new (cell_new x1 Z0) Z0) Z0)
        have zzz_x2 := (cell_new (cell_new (cell_new x2 Z0) Z0) Z0)
        have zzz_x3 := (cell_new (cell_new (cell_new x3 Z0) Z0) Z0)
        have zzz_x4 := (cell_new (cell_new (cell_new x4 Z0) Z0) Z0)
        have zzz_x5 := (cell_new (cell_new (cell_new x5 Z0) Z0) Z0)
        have zzz_y0 := (cell_new (cell_new (cell_new y0 Z0) Z0) Z0)
        have zzz_y1 := (cell_new (cell_new (cell_new y1 Z0) Z0) Z0)
        have zzz_y2 := (cell_new (cell_new (cell_new y2 Z0) Z0) Z0)
        have zzz_y3 := (cell_new (cell_new (cell_new y3 Z0) Z0) Z0)
        have zzz_y4 := (cell_new (cell_new (cell_new y4 Z0) Z0) Z0)
        have zzz_y5 := (cell_new (cell_new (cell_new y5 Z0) Z0) Z0)
        have zzz_z0 := (cell_new (cell_new (cell_new z0 Z0) Z0) Z0)
        have zzz_z1 := (cell_new (cell_new (cell_new z1 Z0) Z0) Z0)
        have zzz_z2 := (cell_new (cell_new (cell_new z2 Z0) Z0) Z0)
        have zzz_z3 := (cell_new (cell_new (cell_new z3 Z0) Z0) Z0)
        have zzz_z4 := (cell_new (cell_new (cell_new z4 Z0) Z0) Z0)
        have zzz_z5 := (cell_new (cell_new (cell_new z5 Z0) Z0) Z0)
        have zzx_y0 := (cell_new (cell_new (cell_new y0 Z0) Z0) (Obj.cells #[(.int .i64 x.1), (.int .i64 x.2.1), (.int .i64 x.2.2.1), (.int .i64 x.2.2.2.1), (.int .i64 x.2.2.2.2.1), (.bool x.2.2.2.2.2)] 30))
        have zzx_y1 := (cell_new (cell_new (cell_new y1 Z0) Z0) (Obj.cells #[(.int .i64 x.1), (.int .i64 x.2.1), (.int .i64 x.2.2.1), (.int .i64 x.2.2.2.1), (.int .i64 x.2.2.2.2.1), (.bool x.2.2.2.2.2)] 30))
        have zzx_y2 := (cell_new (cell_new (cell_new y2 Z0) Z0) (Obj.cells #[(.int .i64 x.1), (.int .i64 x.2.1), (.int .i64 x.2.2.1), (.int .i64 x.2.2.2.1), (.int .i64 x.2.2.2.2.1), (.bool x.2.2.2.2.2)] 30))
        have zzx_y3 := (cell_new (cell_new (cell_new y3 Z0) Z0) (Obj.cells #[(.int .i64 x.1), (.int .i64 x.2.1), (.int .i64 x.2.2.1), (.int .i64 x.2.2.2.1), (.int .i64 x.2.2.2.2.1), (.bool x.2.2.2.2.2)] 30))
        have zzx_y4 := (cell_new (cell_new (cell_new y4 Z0) Z0) (Obj.cells #[(.int .i64 x.1), (.int .i64 x.2.1), (.int .i64 x.2.2.1), (.int .i64 x.2.2.2.1), (.int .i64 x.2.2.2.2.1), (.bool x.2.2.2.2.2)] 30))
        have zzx_y5 := (cell_new (cell_new (cell_new y5 Z0) Z0) (Obj.cells #[(.int .i64 x.1), (.int .i64 x.2.1), (.int .i64 x.2.2.1), (.int .i64 x.2.2.2.1), (.int .i64 x.2.2.2.2.1), (.bool x.2.2.2.2.2)] 30))
        have zzx_z0 := (cell_new (cell_new (cell_new z0 Z0) Z0) (Obj.cells #[(.int .i64 x.1), (.int .i64 x.2.1), (.int .i64 x.2.2.1), (.int .i64 x.2.2.2.1), (.int .i64 x.2.2.2.2.1), (.bool x.2.2.2.2.2)] 30))
        have zzx_z1 := (cell_new (cell_new (cell_new z1 Z0) Z0) (Obj.cells #[(.int .i64 x.1), (.int .i64 x.2.1), (.int .i64 x.2.2.1), (.int .i64 x.2.2.2.1), (.int .i64 x.2.2.2.2.1), (.bool x.2.2.2.2.2)] 30))
        have zzx_z2 := (cell_new (cell_new (cell_new z2 Z0) Z0) (Obj.cells #[(.int .i64 x.1), (.int .i64 x.2.1), (.int .i64 x.2.2.1), (.int .i64 x.2.2.2.1), (.int .i64 x.2.2.2.2.1), (.bool x.2.2.2.2.2)] 30))
        have zzx_z3 := (cell_new (cell_new (cell_new z3 Z0) Z0) (Obj.cells #[(.int .i64 x.1), (.int .i64 x.2.1), (.int .i64 x.2.2.1), (.int .i64 x.2.2.2.1), (.int .i64 x.2.2.2.2.1), (.bool x.2.2.2.2.2)] 30))
        have zzx_z4 := (cell_new (cell_new (cell_new z4 Z0) Z0) (Obj.cells #[(.int .i64 x.1), (.int .i64 x.2.1), (.int .i64 x.2.2.1), (.int .i64 x.2.2.2.1), (.int .i64 x.2.2.2.2.1), (.bool x.2.2.2.2.2)] 30))
        have zzx_z5 := (cell_new (cell_new (cell_new z5 Z0) Z0) (Obj.cells #[(.int .i64 x.1), (.int .i64 x.2.1), (.int .i64 x.2.2.1), (.int .i64 x.2.2.2.1), (.int .i64 x.2.2.2.2.1), (.bool x.2.2.2.2.2)] 30))
        have zxz_y0 := (cell_new (cell_new (cell_new y0 Z0) (Obj.cells #[(.int .i64 x.1), (.int .i64 x.2.1), (.int .i64 x.2.2.1), (.int .i64 x.2.2.2.1), (.int .i64 x.2.2.2.2.1), (.bool x.2.2.2.2.2)] 30)) Z0)
        have zxz_y1 := (cell_new (cell_new (cell_new y1 Z0) (Obj.cells #[(.int .i64 x.1), (.int .i64 x.2.1), (.int .i64 x.2.2.1), (.int .i64 x.2.2.2.1), (.int .i64 x.2.2.2.2.1), (.bool x.2.2.2.2.2)] 30)) Z0)
        have zxz_y2 := (cell_new (cell_new (cell_new y2 Z0) (Obj.cells #[(.int .i64 x.1), (.int .i64 x.2.1), (.int .i64 x.2.2.1), (.int .i64 x.2.2.2.1), (.int .i64 x.2.2.2.2.1), (.bool x.2.2.2.2.2)] 30)) Z0)
        have zxz_y3 := (cell_new (cell_new (cell_new y3 Z0) (Obj.cells #[(.int .i64 x.1), (.int .i64 x.2.1), (.int .i64 x.2.2.1), (.int .i64 x.2.2.2.1), (.int .i64 x.2.2.2.2.1), (.bool x.2.2.2.2.2)] 30)) Z0)
        have zxz_y4 := (cell_new (cell_new (cell_new y4 Z0) (Obj.cells #[(.int .i64 x.1), (.int .i64 x.2.1), (.int .i64 x.2.2.1), (.int .i64 x.2.2.2.1), (.int .i64 x.2.2.2.2.1), (.bool x.2.2.2.2.2)] 30)) Z0)
        have zxz_y5 := (cell_new (cell_new (cell_new y5 Z0) (Obj.cells #[(.int .i64 x.1), (.int .i64 x.2.1), (.int .i64 x.2.2.1), (.int .i64 x.2.2.2.1), (.int .i64 x.2.2.2.2.1), (.bool x.2.2.2.2.2)] 30)) Z0)
        have zxz_z0 := (cell_new (cell_new (cell_new z0 Z0) (Obj.cells #[(.int .i64 x.1), (.int .i64 x.2.1), (.int .i64 x.2.2.1), (.int .i64 x.2.2.2.1), (.int .i64 x.2.2.2.2.1), (.bool x.2.2.2.2.2)] 30)) Z0)
        have zxz_z1 := (cell_new (cell_new (cell_new z1 Z0) (Obj.cells #[(.int .i64 x.1), (.int .i64 x.2.1), (.int .i64 x.2.2.1), (.int .i64 x.2.2.2.1), (.int .i64 x.2.2.2.2.1), (.bool x.2.2.2.2.2)] 30)) Z0)
        have zxz_z2 := (cell_new (cell_new (cell_new z2 Z0) (Obj.cells #[(.int .i64 x.1), (.int .i64 x.2.1), (.int .i64 x.2.2.1), (.int .i64 x.2.2.2.1), (.int .i64 x.2.2.2.2.1), (.bool x.2.2.2.2.2)] 30)) Z0)
        have zxz_z3 := (cell_new (cell_new (cell_new z3 Z0) (Obj.cells #[(.int .i64 x.1), (.int .i64 x.2.1), (.int .i64 x.2.2.1), (.int .i64 x.2.2.2.1), (.int .i64 x.2.2.2.2.1), (.bool x.2.2.2.2.2)] 30)) Z0)
        have zxz_z4 := (cell_new (cell_new (cell_new z4 Z0) (Obj.cells #[(.int .i64 x.1), (.int .i64 x.2.1), (.int .i64 x.2.2.1), (.int .i64 x.2.2.2.1), (.int .i64 x.2.2.2.2.1), (.bool x.2.2.2.2.2)] 30)) Z0)
        have zxz_z5 := (cell_new (cell_new (cell_new z5 Z0) (Obj.cells #[(.int .i64 x.1), (.int .i64 x.2.1), (.int .i64 x.2.2.1), (.int .i64 x.2.2.2.1), (.int .i64 x.2.2.2.2.1), (.bool x.2.2.2.2.2)] 30)) Z0)
        have xzz_y0 := (cell_new (cell_new (cell_new y0 (Obj.cells #[(.int .i64 x.1), (.int .i64 x.2.1), (.int .i64 x.2.2.1), (.int .i64 x.2.2.2.1), (.int .i64 x.2.2.2.2.1), (.bool x.2.2.2.2.2)] 30)) Z0) Z0)
        have xzz_y1 := (cell_new (cell_new (cell_new y1 (Obj.cells #[(.int .i64 x.1), (.int .i64 x.2.1), (.int .i64 x.2.2.1), (.int .i64 x.2.2.2.1), (.int .i64 x.2.2.2.2.1), (.bool x.2.2.2.2.2)] 30)) Z0) Z0)
        have xzz_y2 := (cell_new (cell_new (cell_new y2 (Obj.cells #[(.int .i64 x.1), (.int .i64 x.2.1), (.int .i64 x.2.2.1), (.int .i64 x.2.2.2.1), (.int .i64 x.2.2.2.2.1), (.bool x.2.2.2.2.2)] 30)) Z0) Z0)
        have xzz_y3 := (cell_new (cell_new (cell_new y3 (Obj.cells #[(.int .i64 x.1), (.int .i64 x.2.1), (.int .i64 x.2.2.1), (.int .i64 x.2.2.2.1), (.int .i64 x.2.2.2.2.1), (.bool x.2.2.2.2.2)] 30)) Z0) Z0)
        have xzz_y4 := (cell_new (cell_new (cell_new y4 (Obj.cells #[(.int .i64 x.1), (.int .i64 x.2.1), (.int .i64 x.2.2.1), (.int .i64 x.2.2.2.1), (.int .i64 x.2.2.2.2.1), (.bool x.2.2.2.2.2)] 30)) Z0) Z0)
        have xzz_y5 := (cell_new (cell_new (cell_new y5 (Obj.cells #[(.int .i64 x.1), (.int .i64 x.2.1), (.int .i64 x.2.2.1), (.int .i64 x.2.2.2.1), (.int .i64 x.2.2.2.2.1), (.bool x.2.2.2.2.2)] 30)) Z0) Z0)
        have xzz_z0 := (cell_new (cell_new (cell_new z0 (Obj.cells #[(.int .i64 x.1), (.int .i64 x.2.1), (.int .i64 x.2.2.1), (.int .i64 x.2.2.2.1), (.int .i64 x.2.2.2.2.1), (.bool x.2.2.2.2.2)] 30)) Z0) Z0)
        have xzz_z1 := (cell_new (cell_new (cell_new z1 (Obj.cells #[(.int .i64 x.1), (.int .i64 x.2.1), (.int .i64 x.2.2.1), (.int .i64 x.2.2.2.1), (.int .i64 x.2.2.2.2.1), (.bool x.2.2.2.2.2)] 30)) Z0) Z0)
        have xzz_z2 := (cell_new (cell_new (cell_new z2 (Obj.cells #[(.int .i64 x.1), (.int .i64 x.2.1), (.int .i64 x.2.2.1), (.int .i64 x.2.2.2.1), (.int .i64 x.2.2.2.2.1), (.bool x.2.2.2.2.2)] 30)) Z0) Z0)
        have xzz_z3 := (cell_new (cell_new (cell_new z3 (Obj.cells #[(.int .i64 x.1), (.int .i64 x.2.1), (.int .i64 x.2.2.1), (.int .i64 x.2.2.2.1), (.int .i64 x.2.2.2.2.1), (.bool x.2.2.2.2.2)] 30)) Z0) Z0)
        have xzz_z4 := (cell_new (cell_new (cell_new z4 (Obj.cells #[(.int .i64 x.1), (.int .i64 x.2.1), (.int .i64 x.2.2.1), (.int .i64 x.2.2.2.1), (.int .i64 x.2.2.2.2.1), (.bool x.2.2.2.2.2)] 30)) Z0) Z0)
        have xzz_z5 := (cell_new (cell_new (cell_new z5 (Obj.cells #[(.int .i64 x.1), (.int .i64 x.2.1), (.int .i64 x.2.2.1), (.int .i64 x.2.2.2.1), (.int .i64 x.2.2.2.2.1), (.bool x.2.2.2.2.2)] 30)) Z0) Z0)
        have xyz_z0 := (cell_new (cell_new (cell_new z0 (Obj.cells #[(.int .i64 x.1), (.int .i64 x.2.1), (.int .i64 x.2.2.1), (.int .i64 x.2.2.2.1), (.int .i64 x.2.2.2.2.1), (.bool x.2.2.2.2.2)] 30)) (Obj.cells #[(.int .i64 y.1), (.int .i64 y.2.1), (.int .i64 y.2.2.1), (.int .i64 y.2.2.2.1), (.int .i64 y.2.2.2.2.1), (.bool y.2.2.2.2.2)] 30)) Z0)
        have xyz_z1 := (cell_new (cell_new (cell_new z1 (Obj.cells #[(.int .i64 x.1), (.int .i64 x.2.1), (.int .i64 x.2.2.1), (.int .i64 x.2.2.2.1), (.int .i64 x.2.2.2.2.1), (.bool x.2.2.2.2.2)] 30)) (Obj.cells #[(.int .i64 y.1), (.int .i64 y.2.1), (.int .i64 y.2.2.1), (.int .i64 y.2.2.2.1), (.int .i64 y.2.2.2.2.1), (.bool y.2.2.2.2.2)] 30)) Z0)
        have xyz_z2 := (cell_new (cell_new (cell_new z2 (Obj.cells #[(.int .i64 x.1), (.int .i64 x.2.1), (.int .i64 x.2.2.1), (.int .i64 x.2.2.2.1), (.int .i64 x.2.2.2.2.1), (.bool x.2.2.2.2.2)] 30)) (Obj.cells #[(.int .i64 y.1), (.int .i64 y.2.1), (.int .i64 y.2.2.1), (.int .i64 y.2.2.2.1), (.int .i64 y.2.2.2.2.1), (.bool y.2.2.2.2.2)] 30)) Z0)
        have xyz_z3 := (cell_new (cell_new (cell_new z3 (Obj.cells #[(.int .i64 x.1), (.int .i64 x.2.1), (.int .i64 x.2.2.1), (.int .i64 x.2.2.2.1), (.int .i64 x.2.2.2.2.1), (.bool x.2.2.2.2.2)] 30)) (Obj.cells #[(.int .i64 y.1), (.int .i64 y.2.1), (.int .i64 y.2.2.1), (.int .i64 y.2.2.2.1), (.int .i64 y.2.2.2.2.1), (.bool y.2.2.2.2.2)] 30)) Z0)
        have xyz_z4 := (cell_new (cell_new (cell_new z4 (Obj.cells #[(.int .i64 x.1), (.int .i64 x.2.1), (.int .i64 x.2.2.1), (.int .i64 x.2.2.2.1), (.int .i64 x.2.2.2.2.1), (.bool x.2.2.2.2.2)] 30)) (Obj.cells #[(.int .i64 y.1), (.int .i64 y.2.1), (.int .i64 y.2.2.1), (.int .i64 y.2.2.2.1), (.int .i64 y.2.2.2.2.1), (.bool y.2.2.2.2.2)] 30)) Z0)
        have xyz_z5 := (cell_new (cell_new (cell_new z5 (Obj.cells #[(.int .i64 x.1), (.int .i64 x.2.1), (.int .i64 x.2.2.1), (.int .i64 x.2.2.2.1), (.int .i64 x.2.2.2.2.1), (.bool x.2.2.2.2.2)] 30)) (Obj.cells #[(.int .i64 y.1), (.int .i64 y.2.1), (.int .i64 y.2.2.1), (.int .i64 y.2.2.2.1), (.int .i64 y.2.2.2.2.1), (.bool y.2.2.2.2.2)] 30)) Z0)
        have xzy_z0 := (cell_new (cell_new (cell_new z0 (Obj.cells #[(.int .i64 x.1), (.int .i64 x.2.1), (.int .i64 x.2.2.1), (.int .i64 x.2.2.2.1), (.int .i64 x.2.2.2.2.1), (.bool x.2.2.2.2.2)] 30)) Z0) (Obj.cells #[(.int .i64 y.1), (.int .i64 y.2.1), (.int .i64 y.2.2.1), (.int .i64 y.2.2.2.1), (.int .i64 y.2.2.2.2.1), (.bool y.2.2.2.2.2)] 30))
        have xzy_z1 := (cell_new (cell_new (cell_new z1 (Obj.cells #[(.int .i64 x.1), (.int .i64 x.2.1), (.int .i64 x.2.2.1), (.int .i64 x.2.2.2.1), (.int .i64 x.2.2.2.2.1), (.bool x.2.2.2.2.2)] 30)) Z0) (Obj.cells #[(.int .i64 y.1), (.int .i64 y.2.1), (.int .i64 y.2.2.1), (.int .i64 y.2.2.2.1), (.int .i64 y.2.2.2.2.1), (.bool y.2.2.2.2.2)] 30))
        have xzy_z2 := (cell_new (cell_new (cell_new z2 (Obj.cells #[(.int .i64 x.1), (.int .i64 x.2.1), (.int .i64 x.2.2.1), (.int .i64 x.2.2.2.1), (.int .i64 x.2.2.2.2.1), (.bool x.2.2.2.2.2)] 30)) Z0) (Obj.cells #[(.int .i64 y.1), (.int .i64 y.2.1), (.int .i64 y.2.2.1), (.int .i64 y.2.2.2.1), (.int .i64 y.2.2.2.2.1), (.bool y.2.2.2.2.2)] 30))
        have xzy_z3 := (cell_new (cell_new (cell_new z3 (Obj.cells #[(.int .i64 x.1), (.int .i64 x.2.1), (.int .i64 x.2.2.1), (.int .i64 x.2.2.2.1), (.int .i64 x.2.2.2.2.1), (.bool x.2.2.2.2.2)] 30)) Z0) (Obj.cells #[(.int .i64 y.1), (.int .i64 y.2.1), (.int .i64 y.2.2.1), (.int .i64 y.2.2.2.1), (.int .i64 y.2.2.2.2.1), (.bool y.2.2.2.2.2)] 30))
        have xzy_z4 := (cell_new (cell_new (cell_new z4 (Obj.cells #[(.int .i64 x.1), (.int .i64 x.2.1), (.int .i64 x.2.2.1), (.int .i64 x.2.2.2.1), (.int .i64 x.2.2.2.2.1), (.bool x.2.2.2.2.2)] 30)) Z0) (Obj.cells #[(.int .i64 y.1), (.int .i64 y.2.1), (.int .i64 y.2.2.1), (.int .i64 y.2.2.2.1), (.int .i64 y.2.2.2.2.1), (.bool y.2.2.2.2.2)] 30))
        have xzy_z5 := (cell_new (cell_new (cell_new z5 (Obj.cells #[(.int .i64 x.1), (.int .i64 x.2.1), (.int .i64 x.2.2.1), (.int .i64 x.2.2.2.1), (.int .i64 x.2.2.2.2.1), (.bool x.2.2.2.2.2)] 30)) Z0) (Obj.cells #[(.int .i64 y.1), (.int .i64 y.2.1), (.int .i64 y.2.2.1), (.int .i64 y.2.2.2.1), (.int .i64 y.2.2.2.2.1), (.bool y.2.2.2.2.2)] 30))
        have yxz_z0 := (cell_new (cell_new (cell_new z0 (Obj.cells #[(.int .i64 y.1), (.int .i64 y.2.1), (.int .i64 y.2.2.1), (.int .i64 y.2.2.2.1), (.int .i64 y.2.2.2.2.1), (.bool y.2.2.2.2.2)] 30)) (Obj.cells #[(.int .i64 x.1), (.int .i64 x.2.1), (.int .i64 x.2.2.1), (.int .i64 x.2.2.2.1), (.int .i64 x.2.2.2.2.1), (.bool x.2.2.2.2.2)] 30)) Z0)
        have yxz_z1 := (cell_new (cell_new (cell_new z1 (Obj.cells #[(.int .i64 y.1), (.int .i64 y.2.1), (.int .i64 y.2.2.1), (.int .i64 y.2.2.2.1), (.int .i64 y.2.2.2.2.1), (.bool y.2.2.2.2.2)] 30)) (Obj.cells #[(.int .i64 x.1), (.int .i64 x.2.1), (.int .i64 x.2.2.1), (.int .i64 x.2.2.2.1), (.int .i64 x.2.2.2.2.1), (.bool x.2.2.2.2.2)] 30)) Z0)
        have yxz_z2 := (cell_new (cell_new (cell_new z2 (Obj.cells #[(.int .i64 y.1), (.int .i64 y.2.1), (.int .i64 y.2.2.1), (.int .i64 y.2.2.2.1), (.int .i64 y.2.2.2.2.1), (.bool y.2.2.2.2.2)] 30)) (Obj.cells #[(.int .i64 x.1), (.int .i64 x.2.1), (.int .i64 x.2.2.1), (.int .i64 x.2.2.2.1), (.int .i64 x.2.2.2.2.1), (.bool x.2.2.2.2.2)] 30)) Z0)
        have yxz_z3 := (cell_new (cell_new (cell_new z3 (Obj.cells #[(.int .i64 y.1), (.int .i64 y.2.1), (.int .i64 y.2.2.1), (.int .i64 y.2.2.2.1), (.int .i64 y.2.2.2.2.1), (.bool y.2.2.2.2.2)] 30)) (Obj.cells #[(.int .i64 x.1), (.int .i64 x.2.1), (.int .i64 x.2.2.1), (.int .i64 x.2.2.2.1), (.int .i64 x.2.2.2.2.1), (.bool x.2.2.2.2.2)] 30)) Z0)
        have yxz_z4 := (cell_new (cell_new (cell_new z4 (Obj.cells #[(.int .i64 y.1), (.int .i64 y.2.1), (.int .i64 y.2.2.1), (.int .i64 y.2.2.2.1), (.int .i64 y.2.2.2.2.1), (.bool y.2.2.2.2.2)] 30)) (Obj.cells #[(.int .i64 x.1), (.int .i64 x.2.1), (.int .i64 x.2.2.1), (.int .i64 x.2.2.2.1), (.int .i64 x.2.2.2.2.1), (.bool x.2.2.2.2.2)] 30)) Z0)
        have yxz_z5 := (cell_new (cell_new (cell_new z5 (Obj.cells #[(.int .i64 y.1), (.int .i64 y.2.1), (.int .i64 y.2.2.1), (.int .i64 y.2.2.2.1), (.int .i64 y.2.2.2.2.1), (.bool y.2.2.2.2.2)] 30)) (Obj.cells #[(.int .i64 x.1), (.int .i64 x.2.1), (.int .i64 x.2.2.1), (.int .i64 x.2.2.2.1), (.int .i64 x.2.2.2.2.1), (.bool x.2.2.2.2.2)] 30)) Z0)
        have yzx_z0 := (cell_new (cell_new (cell_new z0 (Obj.cells #[(.int .i64 y.1), (.int .i64 y.2.1), (.int .i64 y.2.2.1), (.int .i64 y.2.2.2.1), (.int .i64 y.2.2.2.2.1), (.bool y.2.2.2.2.2)] 30)) Z0) (Obj.cells #[(.int .i64 x.1), (.int .i64 x.2.1), (.int .i64 x.2.2.1), (.int .i64 x.2.2.2.1), (.int .i64 x.2.2.2.2.1), (.bool x.2.2.2.2.2)] 30))
        have yzx_z1 := (cell_new (cell_new (cell_new z1 (Obj.cells #[(.int .i64 y.1), (.int .i64 y.2.1), (.int .i64 y.2.2.1), (.int .i64 y.2.2.2.1), (.int .i64 y.2.2.2.2.1), (.bool y.2.2.2.2.2)] 30)) Z0) (Obj.cells #[(.int .i64 x.1), (.int .i64 x.2.1), (.int .i64 x.2.2.1), (.int .i64 x.2.2.2.1), (.int .i64 x.2.2.2.2.1), (.bool x.2.2.2.2.2)] 30))
        have yzx_z2 := (cell_new (cell_new (cell_new z2 (Obj.cells #[(.int .i64 y.1), (.int .i64 y.2.1), (.int .i64 y.2.2.1), (.int .i64 y.2.2.2.1), (.int .i64 y.2.2.2.2.1), (.bool y.2.2.2.2.2)] 30)) Z0) (Obj.cells #[(.int .i64 x.1), (.int .i64 x.2.1), (.int .i64 x.2.2.1), (.int .i64 x.2.2.2.1), (.int .i64 x.2.2.2.2.1), (.bool x.2.2.2.2.2)] 30))
        have yzx_z3 := (cell_new (cell_new (cell_new z3 (Obj.cells #[(.int .i64 y.1), (.int .i64 y.2.1), (.int .i64 y.2.2.1), (.int .i64 y.2.2.2.1), (.int .i64 y.2.2.2.2.1), (.bool y.2.2.2.2.2)] 30)) Z0) (Obj.cells #[(.int .i64 x.1), (.int .i64 x.2.1), (.int .i64 x.2.2.1), (.int .i64 x.2.2.2.1), (.int .i64 x.2.2.2.2.1), (.bool x.2.2.2.2.2)] 30))
        have yzx_z4 := (cell_new (cell_new (cell_new z4 (Obj.cells #[(.int .i64 y.1), (.int .i64 y.2.1), (.int .i64 y.2.2.1), (.int .i64 y.2.2.2.1), (.int .i64 y.2.2.2.2.1), (.bool y.2.2.2.2.2)] 30)) Z0) (Obj.cells #[(.int .i64 x.1), (.int .i64 x.2.1), (.int .i64 x.2.2.1), (.int .i64 x.2.2.2.1), (.int .i64 x.2.2.2.2.1), (.bool x.2.2.2.2.2)] 30))
        have yzx_z5 := (cell_new (cell_new (cell_new z5 (Obj.cells #[(.int .i64 y.1), (.int .i64 y.2.1), (.int .i64 y.2.2.1), (.int .i64 y.2.2.2.1), (.int .i64 y.2.2.2.2.1), (.bool y.2.2.2.2.2)] 30)) Z0) (Obj.cells #[(.int .i64 x.1), (.int .i64 x.2.1), (.int .i64 x.2.2.1), (.int .i64 x.2.2.2.1), (.int .i64 x.2.2.2.2.1), (.bool x.2.2.2.2.2)] 30))
        have zxy_z0 := (cell_new (cell_new (cell_new z0 Z0) (Obj.cells #[(.int .i64 x.1), (.int .i64 x.2.1), (.int .i64 x.2.2.1), (.int .i64 x.2.2.2.1), (.int .i64 x.2.2.2.2.1), (.bool x.2.2.2.2.2)] 30)) (Obj.cells #[(.int .i64 y.1), (.int .i64 y.2.1), (.int .i64 y.2.2.1), (.int .i64 y.2.2.2.1), (.int .i64 y.2.2.2.2.1), (.bool y.2.2.2.2.2)] 30))
        have zxy_z1 := (cell_new (cell_new (cell_new z1 Z0) (Obj.cells #[(.int .i64 x.1), (.int .i64 x.2.1), (.int .i64 x.2.2.1), (.int .i64 x.2.2.2.1), (.int .i64 x.2.2.2.2.1), (.bool x.2.2.2.2.2)] 30)) (Obj.cells #[(.int .i64 y.1), (.int .i64 y.2.1), (.int .i64 y.2.2.1), (.int .i64 y.2.2.2.1), (.int .i64 y.2.2.2.2.1), (.bool y.2.2.2.2.2)] 30))
        have zxy_z2 := (cell_new (cell_new (cell_new z2 Z0) (Obj.cells #[(.int .i64 x.1), (.int .i64 x.2.1), (.int .i64 x.2.2.1), (.int .i64 x.2.2.2.1), (.int .i64 x.2.2.2.2.1), (.bool x.2.2.2.2.2)] 30)) (Obj.cells #[(.int .i64 y.1), (.int .i64 y.2.1), (.int .i64 y.2.2.1), (.int .i64 y.2.2.2.1), (.int .i64 y.2.2.2.2.1), (.bool y.2.2.2.2.2)] 30))
        have zxy_z3 := (cell_new (cell_new (cell_new z3 Z0) (Obj.cells #[(.int .i64 x.1), (.int .i64 x.2.1), (.int .i64 x.2.2.1), (.int .i64 x.2.2.2.1), (.int .i64 x.2.2.2.2.1), (.bool x.2.2.2.2.2)] 30)) (Obj.cells #[(.int .i64 y.1), (.int .i64 y.2.1), (.int .i64 y.2.2.1), (.int .i64 y.2.2.2.1), (.int .i64 y.2.2.2.2.1), (.bool y.2.2.2.2.2)] 30))
        have zxy_z4 := (cell_new (cell_new (cell_new z4 Z0) (Obj.cells #[(.int .i64 x.1), (.int .i64 x.2.1), (.int .i64 x.2.2.1), (.int .i64 x.2.2.2.1), (.int .i64 x.2.2.2.2.1), (.bool x.2.2.2.2.2)] 30)) (Obj.cells #[(.int .i64 y.1), (.int .i64 y.2.1), (.int .i64 y.2.2.1), (.int .i64 y.2.2.2.1), (.int .i64 y.2.2.2.2.1), (.bool y.2.2.2.2.2)] 30))
        have zxy_z5 := (cell_new (cell_new (cell_new z5 Z0) (Obj.cells #[(.int .i64 x.1), (.int .i64 x.2.1), (.int .i64 x.2.2.1), (.int .i64 x.2.2.2.1), (.int .i64 x.2.2.2.2.1), (.bool x.2.2.2.2.2)] 30)) (Obj.cells #[(.int .i64 y.1), (.int .i64 y.2.1), (.int .i64 y.2.2.1), (.int .i64 y.2.2.2.1), (.int .i64 y.2.2.2.2.1), (.bool y.2.2.2.2.2)] 30))
        have zyx_z0 := (cell_new (cell_new (cell_new z0 Z0) (Obj.cells #[(.int .i64 y.1), (.int .i64 y.2.1), (.int .i64 y.2.2.1), (.int .i64 y.2.2.2.1), (.int .i64 y.2.2.2.2.1), (.bool y.2.2.2.2.2)] 30)) (Obj.cells #[(.int .i64 x.1), (.int .i64 x.2.1), (.int .i64 x.2.2.1), (.int .i64 x.2.2.2.1), (.int .i64 x.2.2.2.2.1), (.bool x.2.2.2.2.2)] 30))
        have zyx_z1 := (cell_new (cell_new (cell_new z1 Z0) (Obj.cells #[(.int .i64 y.1), (.int .i64 y.2.1), (.int .i64 y.2.2.1), (.int .i64 y.2.2.2.1), (.int .i64 y.2.2.2.2.1), (.bool y.2.2.2.2.2)] 30)) (Obj.cells #[(.int .i64 x.1), (.int .i64 x.2.1), (.int .i64 x.2.2.1), (.int .i64 x.2.2.2.1), (.int .i64 x.2.2.2.2.1), (.bool x.2.2.2.2.2)] 30))
        have zyx_z2 := (cell_new (cell_new (cell_new z2 Z0) (Obj.cells #[(.int .i64 y.1), (.int .i64 y.2.1), (.int .i64 y.2.2.1), (.int .i64 y.2.2.2.1), (.int .i64 y.2.2.2.2.1), (.bool y.2.2.2.2.2)] 30)) (Obj.cells #[(.int .i64 x.1), (.int .i64 x.2.1), (.int .i64 x.2.2.1), (.int .i64 x.2.2.2.1), (.int .i64 x.2.2.2.2.1), (.bool x.2.2.2.2.2)] 30))
        have zyx_z3 := (cell_new (cell_new (cell_new z3 Z0) (Obj.cells #[(.int .i64 y.1), (.int .i64 y.2.1), (.int .i64 y.2.2.1), (.int .i64 y.2.2.2.1), (.int .i64 y.2.2.2.2.1), (.bool y.2.2.2.2.2)] 30)) (Obj.cells #[(.int .i64 x.1), (.int .i64 x.2.1), (.int .i64 x.2.2.1), (.int .i64 x.2.2.2.1), (.int .i64 x.2.2.2.2.1), (.bool x.2.2.2.2.2)] 30))
        have zyx_z4 := (cell_new (cell_new (cell_new z4 Z0) (Obj.cells #[(.int .i64 y.1), (.int .i64 y.2.1), (.int .i64 y.2.2.1), (.int .i64 y.2.2.2.1), (.int .i64 y.2.2.2.2.1), (.bool y.2.2.2.2.2)] 30)) (Obj.cells #[(.int .i64 x.1), (.int .i64 x.2.1), (.int .i64 x.2.2.1), (.int .i64 x.2.2.2.1), (.int .i64 x.2.2.2.2.1), (.bool x.2.2.2.2.2)] 30))
        have zyx_z5 := (cell_new (cell_new (cell_new z5 Z0) (Obj.cells #[(.int .i64 y.1), (.int .i64 y.2.1), (.int .i64 y.2.2.1), (.int .i64 y.2.2.2.1), (.int .i64 y.2.2.2.2.1), (.bool y.2.2.2.2.2)] 30)) (Obj.cells #[(.int .i64 x.1), (.int .i64 x.2.1), (.int .i64 x.2.2.1), (.int .i64 x.2.2.2.1), (.int .i64 x.2.2.2.2.1), (.bool x.2.2.2.2.2)] 30))
        have hgb := lt_of_cell x0
        simp only at hgb
        go_upto_region 3 with fail
        go_cut [11, 12, 13] (fun s11 s12 s13 wx => ∃ X Y Z : Nat, s11 = .pointer (some ⟨X, 0, none⟩) ∧ s12 = .pointer (some ⟨Y, 0, none⟩) ∧ s13 = .pointer (some ⟨Z, 0, none⟩) ∧ Hid (CJ wx X 0 x ∧ CJ wx Y 0 y ∧ CJ wx Z 0 z) ∧ Hid (Below w2.heap.size w2 wx))
        case first =>
          go_region
          all_goals
            clear x0 x1 x2 x3 x4 x5 y0 y1 y2 y3 y4 y5 z0 z1 z2 z3 z4 z5 z_x0 z_x1 z_x2 z_x3 z_x4 z_x5 z_y0 z_y1 z_y2 z_y3 z_y4 z_y5 z_z0 z_z1 z_z2 z_z3 z_z4 z_z5 x_y0 x_y1 x_y2 x_y3 x_y4 x_y5 x_z0 x_z1 x_z2 x_z3 x_z4 x_z5 zz_x0 zz_x1 zz_x2 zz_x3 zz_x4 zz_x5 zz_y0 zz_y1 zz_y2 zz_y3 zz_y4 zz_y5 zz_z0 zz_z1 zz_z2 zz_z3 zz_z4 zz_z5 zx_y0 zx_y1 zx_y2 zx_y3 zx_y4 zx_y5 zx_z0 zx_z1 zx_z2 zx_z3 zx_z4 zx_z5 xz_y0 xz_y1 xz_y2 xz_y3 xz_y4 xz_y5 xz_z0 xz_z1 xz_z2 xz_z3 xz_z4 xz_z5 xy_z0 xy_z1 xy_z2 xy_z3 xy_z4 xy_z5 yx_z0 yx_z1 yx_z2 yx_z3 yx_z4 yx_z5 zzz_x0 zzz_x1 zzz_x2 zzz_x3 zzz_x4 zzz_x5 zzz_y0 zzz_y1 zzz_y2 zzz_y3 zzz_y4 zzz_y5 zzz_z0 zzz_z1 zzz_z2 zzz_z3 zzz_z4 zzz_z5 zzx_y0 zzx_y1 zzx_y2 zzx_y3 zzx_y4 zzx_y5 zzx_z0 zzx_z1 zzx_z2 zzx_z3 zzx_z4 zzx_z5 zxz_y0 zxz_y1 zxz_y2 zxz_y3 zxz_y4 zxz_y5 zxz_z0 zxz_z1 zxz_z2 zxz_z3 zxz_z4 zxz_z5 xzz_y0 xzz_y1 xzz_y2 xzz_y3 xzz_y4 xzz_y5 xzz_z0 xzz_z1 xzz_z2 xzz_z3 xzz_z4 xzz_z5 xyz_z0 xyz_z1 xyz_z2 xyz_z3 xyz_z4 xyz_z5 xzy_z0 xzy_z1 xzy_z2 xzy_z3 xzy_z4 xzy_z5 yxz_z0 yxz_z1 yxz_z2 yxz_z3 yxz_z4 yxz_z5 yzx_z0 yzx_z1 yzx_z2 yzx_z3 yzx_z4 yzx_z5 zxy_z0 zxy_z1 zxy_z2 zxy_z3 zxy_z4 zxy_z5 zyx_z0 zyx_z1 zyx_z2 zyx_z3 zyx_z4 zyx_z5
            go_wp2_with fail
            go_meet
            case rel =>
              first
                | exact ⟨_, _, _, rfl, rfl, rfl, (lay3 w2 x y z).1, (lay3 w2 x y z).2⟩
                | exact ⟨_, _, _, rfl, rfl, rfl, ⟨(lay3 w2 x z y).1.1, (lay3 w2 x z y).1.2.2, (lay3 w2 x z y).1.2.1⟩, (lay3 w2 x z y).2⟩
                | exact ⟨_, _, _, rfl, rfl, rfl, ⟨(lay3 w2 y x z).1.2.1, (lay3 w2 y x z).1.1, (lay3 w2 y x z).1.2.2⟩, (lay3 w2 y x z).2⟩
                | exact ⟨_, _, _, rfl, rfl, rfl, ⟨(lay3 w2 y z x).1.2.2, (lay3 w2 y z x).1.1, (lay3 w2 y z x).1.2.1⟩, (lay3 w2 y z x).2⟩
                | exact ⟨_, _, _, rfl, rfl, rfl, ⟨(lay3 w2 z x y).1.2.1, (lay3 w2 z x y).1.2.2, (lay3 w2 z x y).1.1⟩, (lay3 w2 z x y).2⟩
                | exact ⟨_, _, _, rfl, rfl, rfl, ⟨(lay3 w2 z y x).1.2.2, (lay3 w2 z y x).1.2.1, (lay3 w2 z y x).1.1⟩, (lay3 w2 z y x).2⟩
        case rest =>
          obtain ⟨X, Y, Z, rfl, rfl, rfl, HC, HBC⟩ := hcut
          have B3 := Lib.hid (below_step B2.out HBC.out)
          clear x0 x1 x2 x3 x4 x5 y0 y1 y2 y3 y4 y5 z0 z1 z2 z3 z4 z5 z_x0 z_x1 z_x2 z_x3 z_x4 z_x5 z_y0 z_y1 z_y2 z_y3 z_y4 z_y5 z_z0 z_z1 z_z2 z_z3 z_z4 z_z5 x_y0 x_y1 x_y2 x_y3 x_y4 x_y5 x_z0 x_z1 x_z2 x_z3 x_z4 x_z5 zz_x0 zz_x1 zz_x2 zz_x3 zz_x4 zz_x5 zz_y0 zz_y1 zz_y2 zz_y3 zz_y4 zz_y5 zz_z0 zz_z1 zz_z2 zz_z3 zz_z4 zz_z5 zx_y0 zx_y1 zx_y2 zx_y3 zx_y4 zx_y5 zx_z0 zx_z1 zx_z2 zx_z3 zx_z4 zx_z5 xz_y0 xz_y1 xz_y2 xz_y3 xz_y4 xz_y5 xz_z0 xz_z1 xz_z2 xz_z3 xz_z4 xz_z5 xy_z0 xy_z1 xy_z2 xy_z3 xy_z4 xy_z5 yx_z0 yx_z1 yx_z2 yx_z3 yx_z4 yx_z5 zzz_x0 zzz_x1 zzz_x2 zzz_x3 zzz_x4 zzz_x5 zzz_y0 zzz_y1 zzz_y2 zzz_y3 zzz_y4 zzz_y5 zzz_z0 zzz_z1 zzz_z2 zzz_z3 zzz_z4 zzz_z5 zzx_y0 zzx_y1 zzx_y2 zzx_y3 zzx_y4 zzx_y5 zzx_z0 zzx_z1 zzx_z2 zzx_z3 zzx_z4 zzx_z5 zxz_y0 zxz_y1 zxz_y2 zxz_y3 zxz_y4 zxz_y5 zxz_z0 zxz_z1 zxz_z2 zxz_z3 zxz_z4 zxz_z5 xzz_y0 xzz_y1 xzz_y2 xzz_y3 xzz_y4 xzz_y5 xzz_z0 xzz_z1 xzz_z2 xzz_z3 xzz_z4 xzz_z5 xyz_z0 xyz_z1 xyz_z2 xyz_z3 xyz_z4 xyz_z5 xzy_z0 xzy_z1 xzy_z2 xzy_z3 xzy_z4 xzy_z5 yxz_z0 yxz_z1 yxz_z2 yxz_z3 yxz_z4 yxz_z5 yzx_z0 yzx_z1 yzx_z2 yzx_z3 yzx_z4 yzx_z5 zxy_z0 zxy_z1 zxy_z2 zxy_z3 zxy_z4 zxy_z5 zyx_z0 zyx_z1 zyx_z2 zyx_z3 zyx_z4 zyx_z5 cx cy cz hgb HBC
          have HXX := Lib.hid (ahead_self x)
          have u := HC.out.1
          have v := HC.out.2.1
          have a0 := u.c0
          have a0_1 := u.c1
          have a0_2 := u.c2
          have a0_3 := u.c3
          have a0_4 := u.c4
          have a0_5 := u.c5
          have b0 := v.c0
          have b0_1 := v.c1
          have b0_2 := v.c2
          have b0_3 := v.c3
          have b0_4 := v.c4
          have b0_5 := v.c5
          clear u v
          replace a0 := cell_bw a0
          replace a0_1 := cell_bw a0_1
          replace a0_2 := cell_bw a0_2
          replace a0_3 := cell_bw a0_3
          replace a0_4 := cell_bw a0_4
          replace a0_5 := cell_bw a0_5
          replace b0 := cell_bw b0
          replace b0_1 := cell_bw b0_1
          replace b0_2 := cell_bw b0_2
          replace b0_3 := cell_bw b0_3
          replace b0_4 := cell_bw b0_4
          replace b0_5 := cell_bw b0_5
          by_cases hxy : x = y
          · subst hxy
            have hd : decide (x = x) = true := decide_eq_true rfl
            have HP := HXX
            go_wp2_with fail
            refine wp_region_bw (by kernel_rfl) (by kernel_rfl) ?_
            repeat
              (with_reducible refine wpQuiet_step (fun K hK => ?_)
               go_simp
               first
                 | (with_reducible refine hK _ ?_
                    clear hK K)
                 | (rw [if_neg]
                    rotate_left
                    focus (intro h; cases h; done)
                    with_reducible refine hK _ ?_
                    clear hK K)
                 | (apply Exists.intro
                    refine ⟨fun _ => ?_, hK _ ?_⟩
                    (with_reducible exact Calls.bw (ahead_v x x false _ HXX.out))
                    clear hK K))
            with_reducible refine wpQuiet_nil ?_
            intro wb hw'
            obtain ⟨⟨wb', lb⟩, hw''⟩ := hw'
            subst hw''
            clear hd
            have B4 := Lib.hid (below_step B3.out lb)
            have HC4 : Hid (CJ wb X 0 x ∧ CJ wb Y 0 x ∧ CJ wb Z 0 z) := ⟨HC.out.1.below lb, HC.out.2.1.below lb, HC.out.2.2.below lb⟩
            clear lb
            clear a0 a0_1 a0_2 a0_3 a0_4 a0_5
            clear b0 b0_1 b0_2 b0_3 b0_4 b0_5
            have u := HC4.out.1
            have v := HC4.out.2.1
            have t := HC4.out.2.2
            have a0 := u.c0
            have a0_1 := u.c1
            have a0_2 := u.c2
            have a0_3 := u.c3
            have a0_4 := u.c4
            have a0_5 := u.c5
            have b0 := v.c0
            have b0_1 := v.c1
            have b0_2 := v.c2
            have b0_3 := v.c3
            have b0_4 := v.c4
            have b0_5 := v.c5
            have e0 := t.c0
            have e0_1 := t.c1
            have e0_2 := t.c2
            have e0_3 := t.c3
            have e0_4 := t.c4
            have e0_5 := t.c5
            clear u v t
            go_wp2_with fail
            refine (ahead_v x x false _ HP.out).mono ?_
            rintro e w5 ⟨rfl, b5⟩
            have B5 := Lib.hid (below_step B4.out b5)
            clear b5
            go_wp2_with fail
            refine (knows14_any _).mono ?_
            rintro e w6 ⟨rfl, b6⟩
            have B6 := Lib.hid (below_step B5.out b6)
            clear b6
            go_wp2_with fail
            go_ret
            exact ⟨rfl, B6.out⟩
          · have hd : decide (x = y) = false := decide_eq_false hxy
            have hone := HONE.out hxy
            clear hxy
            cases hp : aheadB x y with
            | true =>
              have hq : aheadB y x = false := ahead_not hp
              have HP := Lib.hid hp
              have HQ := Lib.hid hq
              clear hone hp hq
              go_wp2_with fail
              refine wp_region_bw (by kernel_rfl) (by kernel_rfl) ?_
              repeat
                (with_reducible refine wpQuiet_step (fun K hK => ?_)
                 go_simp
                 first
                   | (with_reducible refine hK _ ?_
                      clear hK K)
                   | (rw [if_neg]
                      rotate_left
                      focus (intro h; cases h; done)
                      with_reducible refine hK _ ?_
                      clear hK K)
                   | (apply Exists.intro
                      refine ⟨fun _ => ?_, hK _ ?_⟩
                      (first | (with_reducible exact Calls.bw (ahead_v x y true _ HP.out)) | (with_reducible exact Calls.bw (ahead_v y x false _ HQ.out)) | (with_reducible exact Calls.bw (ahead_v x x false _ HXX.out)))
                      clear hK K))
              with_reducible refine wpQuiet_nil ?_
              intro wb hw'
              obtain ⟨⟨wb', lb⟩, hw''⟩ := hw'
              subst hw''
              clear hd
              have B4 := Lib.hid (below_step B3.out lb)
              have HC4 : Hid (CJ wb X 0 x ∧ CJ wb Y 0 y ∧ CJ wb Z 0 z) := ⟨HC.out.1.below lb, HC.out.2.1.below lb, HC.out.2.2.below lb⟩
              clear lb
              clear a0 a0_1 a0_2 a0_3 a0_4 a0_5
              clear b0 b0_1 b0_2 b0_3 b0_4 b0_5
              have u := HC4.out.1
              have v := HC4.out.2.1
              have t := HC4.out.2.2
              have a0 := u.c0
              have a0_1 := u.c1
              have a0_2 := u.c2
              have a0_3 := u.c3
              have a0_4 := u.c4
              have a0_5 := u.c5
              have b0 := v.c0
              have b0_1 := v.c1
              have b0_2 := v.c2
              have b0_3 := v.c3
              have b0_4 := v.c4
              have b0_5 := v.c5
              have e0 := t.c0
              have e0_1 := t.c1
              have e0_2 := t.c2
              have e0_3 := t.c3
              have e0_4 := t.c4
              have e0_5 := t.c5
              clear u v t
              go_wp2_with fail
              refine (ahead_v x y true _ HP.out).mono ?_
              rintro e w5 ⟨rfl, b5⟩
              have B5 := Lib.hid (below_step B4.out b5)
              have HC5 : Hid (CJ w5 X 0 x ∧ CJ w5 Y 0 y ∧ CJ w5 Z 0 z) := ⟨HC4.out.1.below b5, HC4.out.2.1.below b5, HC4.out.2.2.below b5⟩
              clear b5
              clear a0 a0_1 a0_2 a0_3 a0_4 a0_5
              clear b0 b0_1 b0_2 b0_3 b0_4 b0_5
              clear e0 e0_1 e0_2 e0_3 e0_4 e0_5
              have u := HC5.out.1
              have v := HC5.out.2.1
              have t := HC5.out.2.2
              have a0 := u.c0
              have a0_1 := u.c1
              have a0_2 := u.c2
              have a0_3 := u.c3
              have a0_4 := u.c4
              have a0_5 := u.c5
              have b0 := v.c0
              have b0_1 := v.c1
              have b0_2 := v.c2
              have b0_3 := v.c3
              have b0_4 := v.c4
              have b0_5 := v.c5
              have e0 := t.c0
              have e0_1 := t.c1
              have e0_2 := t.c2
              have e0_3 := t.c3
              have e0_4 := t.c4
              have e0_5 := t.c5
              clear u v t
              go_wp2_with fail
              cases hr : aheadB y z with
              | false =>
                have HR := Lib.hid hr
                clear hr
                refine (ahead_v y z false _ HR.out).mono ?_
                rintro e w6 ⟨rfl, b6⟩
                have B6 := Lib.hid (below_step B5.out b6)
                clear b6
                go_wp2_with fail
                refine (knows14_any _).mono ?_
                rintro e w7 ⟨rfl, b7⟩
                have B7 := Lib.hid (below_step B6.out b7)
                clear b7
                go_wp2_with fail
                go_ret
                exact ⟨rfl, B7.out⟩
              | true =>
                have HR := Lib.hid hr
                have HT := Lib.hid (ahead_trans HP.out hr)
                clear hr
                refine (ahead_v y z true _ HR.out).mono ?_
                rintro e w6 ⟨rfl, b6⟩
                have B6 := Lib.hid (below_step B5.out b6)
                have HC6 : Hid (CJ w6 X 0 x ∧ CJ w6 Y 0 y ∧ CJ w6 Z 0 z) := ⟨HC5.out.1.below b6, HC5.out.2.1.below b6, HC5.out.2.2.below b6⟩
                clear b6
                clear a0 a0_1 a0_2 a0_3 a0_4 a0_5
                clear b0 b0_1 b0_2 b0_3 b0_4 b0_5
                clear e0 e0_1 e0_2 e0_3 e0_4 e0_5
                have u := HC6.out.1
                have t := HC6.out.2.2
                have a0 := u.c0
                have a0_1 := u.c1
                have a0_2 := u.c2
                have a0_3 := u.c3
                have a0_4 := u.c4
                have a0_5 := u.c5
                have e0 := t.c0
                have e0_1 := t.c1
                have e0_2 := t.c2
                have e0_3 := t.c3
                have e0_4 := t.c4
                have e0_5 := t.c5
                clear u t
                go_wp2_with fail
                refine (ahead_v x z true _ HT.out).mono ?_
                rintro e w7 ⟨rfl, b7⟩
                have B7 := Lib.hid (below_step B6.out b7)
                clear b7
                go_wp2_with fail
                refine (knows14_any _).mono ?_
                rintro e w8 ⟨rfl, b8⟩
                have B8 := Lib.hid (below_step B7.out b8)
                clear b8
                go_wp2_with fail
                go_ret
                exact ⟨rfl, B8.out⟩
            | false =>
              have hq : aheadB y x = true := by rw [hp] at hone; cases e : aheadB y x with | true => rfl | false => rw [e] at hone; cases hone
              have HP := Lib.hid hp
              have HQ := Lib.hid hq
              clear hone hp hq
              go_wp2_with fail
              refine wp_region_bw (by kernel_rfl) (by kernel_rfl) ?_
              repeat
                (with_reducible refine wpQuiet_step (fun K hK => ?_)
                 go_simp
                 first
                   | (with_reducible refine hK _ ?_
                      clear hK K)
                   | (rw [if_neg]
                      rotate_left
                      focus (intro h; cases h; done)
                      with_reducible refine hK _ ?_
                      clear hK K)
                   | (apply Exists.intro
                      refine ⟨fun _ => ?_, hK _ ?_⟩
                      (first | (with_reducible exact Calls.bw (ahead_v x y false _ HP.out)) | (with_reducible exact Calls.bw (ahead_v y x true _ HQ.out)) | (with_reducible exact Calls.bw (ahead_v x x false _ HXX.out)))
                      clear hK K))
              with_reducible refine wpQuiet_nil ?_
              intro wb hw'
              obtain ⟨⟨wb', lb⟩, hw''⟩ := hw'
              subst hw''
              clear hd
              have B4 := Lib.hid (below_step B3.out lb)
              have HC4 : Hid (CJ wb X 0 x ∧ CJ wb Y 0 y ∧ CJ wb Z 0 z) := ⟨HC.out.1.below lb, HC.out.2.1.below lb, HC.out.2.2.below lb⟩
              clear lb
              clear a0 a0_1 a0_2 a0_3 a0_4 a0_5
              clear b0 b0_1 b0_2 b0_3 b0_4 b0_5
              have u := HC4.out.1
              have v := HC4.out.2.1
              have t := HC4.out.2.2
              have a0 := u.c0
              have a0_1 := u.c1
              have a0_2 := u.c2
              have a0_3 := u.c3
              have a0_4 := u.c4
              have a0_5 := u.c5
              have b0 := v.c0
              have b0_1 := v.c1
              have b0_2 := v.c2
              have b0_3 := v.c3
              have b0_4 := v.c4
              have b0_5 := v.c5
              have e0 := t.c0
              have e0_1 := t.c1
              have e0_2 := t.c2
              have e0_3 := t.c3
              have e0_4 := t.c4
              have e0_5 := t.c5
              clear u v t
              go_wp2_with fail
              refine (ahead_v x y false _ HP.out).mono ?_
              rintro e w5 ⟨rfl, b5⟩
              have B5 := Lib.hid (below_step B4.out b5)
              clear b5
              go_wp2_with fail
              refine (knows14_any _).mono ?_
              rintro e w6 ⟨rfl, b6⟩
              have B6 := Lib.hid (below_step B5.out b6)
              clear b6
              go_wp2_with fail
              go_ret
              exact ⟨rfl, B6.out⟩

set_option maxRecDepth 100000 in
theorem lifted (os : Os) (started : os.Started) (H : Type) (enc : TypeId × Value → H) :
    ReturnsInHanded {} Try.checked os 4 .any (Rows.jobOneSpec.pre6 enc Try.prog Try.f4 Rows.jobOneRow.domain false) (Rows.jobOneSpec.post enc Try.prog Try.f4 false true false false) := by
  refine returnsInHanded_of_change (C := Try.checked) own started (by kernel_rfl) Try.func4
    (ChangeSpec.witness6 (enc := enc) (C := Try.checked) false ⟨#[], #[.slice none 0 0, .slice none 0 0, .int .u8 0, .int .u8 0, .int .u8 0], []⟩ 8 (by kernel_rfl) (by kernel_rfl) (by kernel_rfl) (by kernel_rfl)) ?_
  intro W base args ds gs before hval0 hW hcnd _
  have hval : ∀ (j : Nat) t v, Try.f4.params[j]? = some t → args[j]? = some v → Value.okWide Try.prog W .any base t v := hval0
  have hW' := hW
  obtain ⟨p, q, hA0, hV, rfl, hfz, hnd⟩ := hW
  have hA : DataW.TrodAll enc Try.prog W 0 (fun _ => true) true Try.f4.params.toList args.toList ds p := hA0
  rw [Try.params4] at hA hval
  obtain ⟨v0, v1, v2, v3, v4, d0, d1, d2, d3, d4, p0, p1, p2, p3, p4, rfl, rfl, rfl, h0, h1, h2, h3, h4⟩ := trodAll_five hA
  obtain ⟨rfl, rfl⟩ := trodVars_none hV
  obtain ⟨A0, c0, l0, rfl, hr0⟩ := Mm.open_list (α := Tk.Tsk) Try.underlying22 Tk.opTasks (hval 0 22 v0 rfl rfl) h0
  obtain ⟨A1, c1, l1, rfl, hr1⟩ := Mm.open_list (α := Pm.Jb) Try.underlying23 Pm.opJobs (hval 1 23 v1 rfl rfl) h1
  obtain ⟨n2, rfl, f2⟩ := Mm.open_u8' Try.underlying5 (hval 2 5 v2 rfl rfl) h2
  obtain ⟨n3, rfl, f3⟩ := Mm.open_u8' Try.underlying5 (hval 3 5 v3 rfl rfl) h3
  obtain ⟨n4, rfl, f4⟩ := Mm.open_u8' Try.underlying5 (hval 4 5 v4 rfl rfl) h4
  clear hA0 hval0
  refine (walk A0 c0 l0 A1 c1 l1 n2 n3 n4 W hr0 hr1 f2 f3 f4).mono fun e W' ⟨he, bel⟩ => ?_
  subst he
  have hlt0 : ∀ x ∈ p0, x.block < W.heap.size := fun x hx => hW'.lt x (by simp [hx])
  have hlt1 : ∀ x ∈ p1, x.block < W.heap.size := fun x hx => hW'.lt x (by simp [hx])
  have hlt2 : ∀ x ∈ p2, x.block < W.heap.size := fun x hx => hW'.lt x (by simp [hx])
  have hlt3 : ∀ x ∈ p3, x.block < W.heap.size := fun x hx => hW'.lt x (by simp [hx])
  have hlt4 : ∀ x ∈ p4, x.block < W.heap.size := fun x hx => hW'.lt x (by simp [hx])
  exact ⟨_, rfl, _, _, _, [], _, [], hW', trodAll_mk1 (shut_bool Try.underlying4 _), trodAll_mk5 (Below.trod laidOut (by kernel_rfl) (of_decide_eq_true (by kernel_rfl)) h0 bel hlt0) (Below.trod laidOut (by kernel_rfl) (of_decide_eq_true (by kernel_rfl)) h1 bel hlt1) (Below.trod laidOut (by kernel_rfl) (of_decide_eq_true (by kernel_rfl)) h2 bel hlt2) (Below.trod laidOut (by kernel_rfl) (of_decide_eq_true (by kernel_rfl)) h3 bel hlt3) (Below.trod laidOut (by kernel_rfl) (of_decide_eq_true (by kernel_rfl)) h4 bel hlt4), rfl, bel.frame _, fun h => by cases h⟩

/-- The statement. -/
theorem proved : Rows.JobOneSaid :=
  OpenClaim.holds_of_wide 4 Try.f4 rfl rfl rfl rfl rfl rfl rfl ⟨rfl, rfl, rfl, rfl, rfl⟩ rfl rfl rfl rfl rfl (by kernel_rfl) Try.func4 (by kernel_rfl)
    (of_decide_eq_true (by kernel_rfl)) (by unfold Func.isWrapper; first | (rw [if_pos (by decide +kernel)]; kernel_rfl) | (rw [if_neg (by decide +kernel)]; exact ⟨rfl, rfl⟩))
    (fun os started H enc _ => lifted os started H enc)
#print axioms proved


end Go.Proofs.Ytdibiidpknckfaa.jobOne
