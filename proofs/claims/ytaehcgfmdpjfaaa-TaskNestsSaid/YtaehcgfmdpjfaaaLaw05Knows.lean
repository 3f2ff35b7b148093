/-
  Layer 5: the helper knows: the document's example.
-/
import Derived.Test.YtaehcgfmdpjfaaaTaskUses
namespace Go.Proofs.Ytaehcgfmdpjfaaa
open Go.RowKit Mm
namespace Tk

theorem buildSec0 (a n : Int) (w : World) : (Instr.build 35 #[(1, .int .i64 a), (2, .int .i64 n)]).run Try.prog w = .ok (.agg #[.int .i64 0, .int .i64 a, .int .i64 n]) w := by kernel_rfl
theorem buildSec (r a n : Int) (w : World) : (Instr.build 35 #[(0, .int .i64 r), (1, .int .i64 a), (2, .int .i64 n)]).run Try.prog w = .ok (.agg #[.int .i64 r, .int .i64 a, .int .i64 n]) w := by kernel_rfl
theorem buildTask (C D T : Int) (A : Option Addr) (n c : Nat) (w : World) : (Instr.build 27 #[(0, .int .i64 C), (1, .int .i64 D), (2, .int .i64 T), (3, .slice A n c)]).run Try.prog w = .ok (.agg #[.int .i64 C, .int .i64 D, .int .i64 T, .slice A n c]) w := by kernel_rfl
attribute [local go_sem ↓] buildSec0 buildSec buildTask

def exL : List Sc := [(0, 1, 3), (1, 2, 1)]
def exT : Tsk := (5, 7, 9, exL)

theorem held_n (n : Nat) (hn : exL.length = n) (A : Option Addr) (c : Nat) (had : Int) (r : List Int) (h : heldT 5 7 9 exL had = r) (w : World) (hr : Rd w A c exL) :
    Calls Try.prog 14 #[.agg #[.int .i64 5, .int .i64 7, .int .i64 9, .slice A n c], .int .i64 had] w (IntsOf w r) := by
  subst hn; subst h
  exact held_any 5 7 9 A c exL had w (by decide) hr
theorem right_n (n : Nat) (hn : exL.length = n) (A : Option Addr) (c : Nat) (w : World) (hr : Rd w A c exL) :
    Calls Try.prog 8 #[.agg #[.int .i64 5, .int .i64 7, .int .i64 9, .slice A n c]] w fun e w' => e = .returned (.bool true) ∧ Below w.heap.size w w' := by
  subst hn
  exact right_any 5 7 9 A c exL w (by decide) hr
theorem uses_n (n : Nat) (hn : exL.length = n) (A : Option Addr) (c : Nat) (r : Int) (q : Bool) (h : usesB 5 7 9 exL r = q) (w : World) (hr : Rd w A c exL) :
    Calls Try.prog 15 #[.agg #[.int .i64 5, .int .i64 7, .int .i64 9, .slice A n c], .int .i64 r] w fun e w' => e = .returned (.bool q) ∧ Below w.heap.size w w' := by
  subst hn; subst h
  exact uses_any 5 7 9 A c exL r w (by decide) hr
theorem all_n (A : Option Addr) (c : Nat) (w : World) (hr : Rd w A c [exT]) :
    Calls Try.prog 10 #[.slice A 1 c] w fun e w' => e = .returned (.bool true) ∧ Below w.heap.size w w' := by
  have h := all_any A c [exT] w (by decide) (fun j hj => by
    have : j = 0 := by simpa using hj
    subst this
    decide) hr
  rwa [show allB [exT] = true from by decide] at h

theorem ex_rd (w : World) : Rd (w.alloc (.cells #[.int .i64 0, .int .i64 1, .int .i64 3, .int .i64 1, .int .i64 2, .int .i64 1] 35)) (some ⟨w.heap.size, 0, none⟩) 2 exL :=
  (ow_lit (l := exL) w (fun _ => True) w.heap.size 35 #[.int .i64 0, .int .i64 1, .int .i64 3, .int .i64 1, .int .i64 2, .int .i64 1] (Nat.le_refl _) (by decide)
    ⟨[.int .i64 0, .int .i64 1, .int .i64 3], [.int .i64 1, .int .i64 2, .int .i64 1], rfl, rd_sec.2 ⟨rfl, fit_of (by decide) (by decide), fit_of (by decide) (by decide), fit_of (by decide) (by decide)⟩,
      [.int .i64 1, .int .i64 2, .int .i64 1], [], rfl, rd_sec.2 ⟨rfl, fit_of (by decide) (by decide), fit_of (by decide) (by decide), fit_of (by decide) (by decide)⟩, rfl⟩).rd
theorem one_task {w : World} {b off c : Nat} {t : Tsk} {B : Option Addr} {d : Nat} (h1 : w.cell? ⟨b, off, none⟩ = some (.int .i64 t.1)) (h2 : w.cell? ⟨b, off + 1, none⟩ = some (.int .i64 t.2.1)) (h3 : w.cell? ⟨b, off + 2, none⟩ = some (.int .i64 t.2.2.1))
    (h4 : w.cell? ⟨b, off + 3, none⟩ = some (.slice B t.2.2.2.length d)) (f1 : Fit t.1) (f2 : Fit t.2.1) (f3 : Fit t.2.2.1) (hr : Rd w B d t.2.2.2) (hc : 1 ≤ c) (hm : c ≤ 1000000) : Rd w (some ⟨b, off, none⟩) c [t] := by
  refine ⟨fun h => (by cases h), ⟨by simpa using hc, by unfold maxLen; omega⟩, fun _ => ⟨b, off, rfl, trivial, fun j hj => ?_⟩⟩
  have : j = 0 := by simpa using hj
  subst this
  refine ⟨[.int .i64 t.1, .int .i64 t.2.1, .int .i64 t.2.2.1, .slice B t.2.2.2.length d], rd_task.2 ⟨B, d, rfl, f1, f2, f3, hr⟩, fun i v hv => ?_⟩
  rw [Nat.zero_mul, Nat.add_zero]
  match i, hv with
  | 0, hv => simp at hv; subst hv; exact h1
  | 1, hv => simp at hv; subst hv; exact h2
  | 2, hv => simp at hv; subst hv; exact h3
  | 3, hv => simp at hv; subst hv; exact h4
  | i + 4, hv => simp at hv

theorem exLen : exL.length = 2 := rfl
theorem ex2 : heldT 5 7 9 exL 2 = [0] := by decide
theorem ex3 : heldT 5 7 9 exL 3 = [0] := by decide
theorem exU1 : usesB 5 7 9 exL 1 = true := by decide
theorem exU2 : usesB 5 7 9 exL 2 = false := by decide
theorem ex4 : heldT 5 7 9 exL 4 = [] := by decide

theorem exRd {w : World} {A : Option Addr} (hr : Rd w A 2 exL) :
    Rd (w.alloc (.cells #[.int .i64 5, .int .i64 7, .int .i64 9, .slice A 2 2] 27)) (some ⟨w.heap.size, 0, none⟩) 1 [exT] := by
  obtain ⟨t1, t2, t3, t4⟩ := box_new w 5 7 9 A 2 2
  exact one_task t1 t2 t3 t4 (fit_of (by decide) (by decide)) (fit_of (by decide) (by decide)) (fit_of (by decide) (by decide)) (hr.alloc _) (Nat.le_refl _) (by decide)

set_option maxHeartbeats 1600000 in
theorem knows_any (w : World) :
    Calls Try.prog 7 #[] w fun e w' => e = .returned (.bool true) ∧ Below w.heap.size w w' := by
  have R0 := Lib.hid ((ex_rd w).alloc (.cells #[.int .i64 5, .int .i64 7, .int .i64 9, .slice (some ⟨w.heap.size, 0, none⟩) 2 2] 27))
  obtain ⟨t1, t2, t3, t4⟩ := box_at (w.alloc (.cells #[.int .i64 0, .int .i64 1, .int .i64 3, .int .i64 1, .int .i64 2, .int .i64 1] 35)) 5 7 9 (some ⟨w.heap.size, 0, none⟩) 2 2 (w.heap.size + 1) (by simp)
  have B0 := Lib.hid (below_two w (.cells #[.int .i64 0, .int .i64 1, .int .i64 3, .int .i64 1, .int .i64 2, .int .i64 1] 35) (.cells #[.int .i64 5, .int .i64 7, .int .i64 9, .slice (some ⟨w.heap.size, 0, none⟩) 2 2] 27))
  go_enter Try.func7, Try.ntmps7
  go_wp2_with fail
  generalize (w.alloc (.cells #[.int .i64 0, .int .i64 1, .int .i64 3, .int .i64 1, .int .i64 2, .int .i64 1] 35)).alloc (.cells #[.int .i64 5, .int .i64 7, .int .i64 9, .slice (some ⟨w.heap.size, 0, none⟩) 2 2] 27) = w0 at *
  generalize (some ⟨w.heap.size, 0, none⟩ : Option Addr) = A at *
  generalize w.heap.size + 1 = X at *
  go_region_held3 (fun w' => w'.cell? ⟨X, 0, none⟩ = some (.int .i64 5) ∧ w'.cell? ⟨X, 1, none⟩ = some (.int .i64 7) ∧ w'.cell? ⟨X, 2, none⟩ = some (.int .i64 9) ∧ w'.cell? ⟨X, 3, none⟩ = some (.slice A 2 2) ∧ Hid (Below w0.heap.size w0 w'))
    (first
      | (exact ⟨cell_below HB2.out t1, cell_below HB2.out t2, cell_below HB2.out t3, cell_below HB2.out t4, HB2⟩)
      | (exact ⟨cell_below HB1.out t1, cell_below HB1.out t2, cell_below HB1.out t3, cell_below HB1.out t4, HB1⟩)
      | (exact ⟨t1, t2, t3, t4, (Below.refl _ w0).drew⟩))
    (first
      | (have _h := HB1
         go_at_call 14
         refine (held_n 2 exLen A 2 3 [0] ex3 _ (by exact R0.out.below HB1.out)).mono ?_
         rintro e w2 ⟨A2, c2, rfl, o2, b2⟩
         have HB2 : Hid (Below w0.heap.size w0 w2) := below_step HB1.out b2
         have O2 := Lib.hid o2
         have O1' := Lib.hid (O1.out.below b2 (Nat.le_refl _))
         clear o2 b2)
      | (go_at_call 14
         refine (held_n 2 exLen A 2 2 [0] ex2 _ (by exact R0.out)).mono ?_
         rintro e w1 ⟨A1, c1, rfl, o1, b1⟩
         have HB1 : Hid (Below w0.heap.size w0 w1) := (Below.refl _ w0).drew.trans b1
         have O1 := Lib.hid o1
         clear o1 b1))
  have B2 := Lib.hid (below_step B0.out HB2.out)
  have R2 := Lib.hid (R0.out.below HB2.out)
  replace t1 := cell_below HB2.out t1
  replace t2 := cell_below HB2.out t2
  replace t3 := cell_below HB2.out t3
  replace t4 := cell_below HB2.out t4
  obtain ⟨g1, e1, _, hg1, _⟩ := O1'.out.form (by decide)
  obtain ⟨g2, e2, _, hg2, _⟩ := O2.out.form (by decide)
  subst e1
  subst e2
  obtain ⟨_, _, e, hc⟩ := O1'.out.rd.int (by decide)
  injection e with e
  injection e with e1 e2
  subst e1
  subst e2
  have u1 : w2.cell? ⟨g1, 0, none⟩ = some (.int .i64 0) := (hc 0 (by decide)).1
  clear hc
  obtain ⟨_, _, e, hc⟩ := O2.out.rd.int (by decide)
  injection e with e
  injection e with e1 e2
  subst e1
  subst e2
  have u2 : w2.cell? ⟨g2, 0, none⟩ = some (.int .i64 0) := (hc 0 (by decide)).1
  clear hc HB2 HB1 O1 O2 O1' R0 B0
  go_wp2_with fail
  refine (right_n 2 exLen A 2 _ (by exact R2.out)).mono ?_
  rintro e w3 ⟨rfl, b3⟩
  replace t1 := cell_below b3 t1
  replace t2 := cell_below b3 t2
  replace t3 := cell_below b3 t3
  replace t4 := cell_below b3 t4
  replace u1 := cell_below b3 u1
  replace u2 := cell_below b3 u2
  have B3 := Lib.hid (below_step B2.out b3)
  replace R2 := Lib.hid (R2.out.below b3)
  clear b3
  go_wp2_with fail
  refine (held_n 2 exLen A 2 4 [] ex4 _ (by exact R2.out)).mono ?_
  rintro e w4 ⟨A4, c4, rfl, _, b4⟩
  replace t1 := cell_below b4 t1
  replace t2 := cell_below b4 t2
  replace t3 := cell_below b4 t3
  replace t4 := cell_below b4 t4
  replace R2 := Lib.hid (R2.out.below b4)
  have B4 := Lib.hid (below_step B3.out b4)
  clear b4
  go_wp2_with fail
  refine (uses_n 2 exLen A 2 1 true exU1 _ (by exact R2.out)).mono ?_
  rintro e w5 ⟨rfl, b5⟩
  replace t1 := cell_below b5 t1
  replace t2 := cell_below b5 t2
  replace t3 := cell_below b5 t3
  replace t4 := cell_below b5 t4
  have B5 := Lib.hid (below_step B4.out b5)
  replace R2 := Lib.hid (R2.out.below b5)
  clear b5
  go_wp2_with fail
  refine (uses_n 2 exLen A 2 2 false exU2 _ (by exact R2.out)).mono ?_
  rintro e w6 ⟨rfl, b6⟩
  replace t1 := cell_below b6 t1
  replace t2 := cell_below b6 t2
  replace t3 := cell_below b6 t3
  replace t4 := cell_below b6 t4
  have B6 := Lib.hid (below_step B5.out b6)
  replace R2 := Lib.hid (R2.out.below b6)
  clear b6
  go_wp2_with fail
  refine (all_n (some ⟨w6.heap.size, 0, none⟩) 1 _ (by exact exRd R2.out)).mono ?_
  rintro e w7 ⟨rfl, b7⟩
  have B7 := Lib.hid (below_step (below_step B6.out (below_one _ _)) b7)
  clear b7
  go_wp2_with fail
  go_ret
  exact ⟨rfl, B7.out⟩

end Tk
end Go.Proofs.Ytaehcgfmdpjfaaa
