/-
  For every ring and every int the statement RingPushes of layer 3 returns true (a ring with a message more is what the document says, or the error is told), and its arguments read as before. No condition.
-/
import Derived.Test.YtilabonjjiiabaaLaw03Args
import Derived.Deep.RegionHeld3
namespace Go.Proofs.Ytilabonjjiiabaa.ringPushes
open Go.ChangeShapes Go.WideShapes Go.ChangeAt Go.RowKit
open Rn
attribute [local go_sem ↓] Go.wp_at_zero Go.wp_at_succ
attribute [local go_sem ↓] build_ring build_some build_none build_ref build_refSome

theorem few (A : Option Addr) (c : Nat) (b : List Int) (f m v : Int) (w : World) (hbig : 100 < b.length) :
    Calls Try.prog 4 #[.agg #[.slice A b.length c, .int .i64 f, .int .i64 m], .int .i64 v] w fun e w' => e = .returned (.bool true) ∧ Below w.heap.size w w' := by
  have h1 : (100 : Int) < (b.length : Int) := by omega
  have B0 := Lib.hid (below_one w (.cells #[.slice A b.length c, .int .i64 f, .int .i64 m] 24))
  go_enter Try.func4, Try.ntmps4
  go_wp2_with fail
  refine (knows_any _).mono ?_
  rintro e w1 ⟨rfl, b1⟩
  have B1 := Lib.hid (below_step B0.out b1)
  clear b1
  go_wp2_with fail
  go_ret
  exact ⟨rfl, B1.out⟩

set_option maxHeartbeats 3200000 in
set_option maxRecDepth 100000 in
theorem no (A : Option Addr) (c : Nat) (b : List Int) (f m v : Int) (w : World) (hbig : b.length ≤ 100) (h : rightB b.length f m = false) (hr : Rd w A c b) :
    Calls Try.prog 4 #[.agg #[.slice A b.length c, .int .i64 f, .int .i64 m], .int .i64 v] w fun e w' => e = .returned (.bool true) ∧ Below w.heap.size w w' := by
  have h1 : (b.length : Int) ≤ 100 := by omega
  have H := Lib.hid h
  have B0 : Hid (Below w.heap.size w (w.alloc (.cells #[.slice A b.length c, .int .i64 f, .int .i64 m] 24))) := below_one _ _
  have C0 : Hid (Box (w.alloc (.cells #[.slice A b.length c, .int .i64 f, .int .i64 m] 24)) w.heap.size A b.length c f m) := box_new _ _ _ _ _ _
  have R0 : Hid (Rd (w.alloc (.cells #[.slice A b.length c, .int .i64 f, .int .i64 m] 24)) A c b) := hr.alloc _
  clear h hr
  go_enter Try.func4, Try.ntmps4
  go_wp2_with fail
  generalize (w.alloc (.cells #[.slice A b.length c, .int .i64 f, .int .i64 m] 24)) = w0 at *
  refine (push_no A b.length c f m v _ H.out).mono ?_
  rintro e w1 ⟨rfl, b1⟩
  have B1 : Hid (Below w.heap.size w (w1.alloc (.cells #[.slice A b.length c, .int .i64 f, .int .i64 m] 24))) := below_step (below_step B0.out b1) (below_one _ _)
  have C1 : Hid (Box (w1.alloc (.cells #[.slice A b.length c, .int .i64 f, .int .i64 m] 24)) w.heap.size A b.length c f m) := (C0.out.step b1).alloc _
  have R1 : Hid (Rd (w1.alloc (.cells #[.slice A b.length c, .int .i64 f, .int .i64 m] 24)) A c b) := (R0.out.below b1).alloc _
  have X1 : Hid (Box (w1.alloc (.cells #[.slice A b.length c, .int .i64 f, .int .i64 m] 24)) w1.heap.size A b.length c f m) := box_new _ _ _ _ _ _
  obtain ⟨⟨r0, r1, r2⟩, _⟩ := C1.out
  clear b1 B0 C0 R0
  go_wp2_with fail
  generalize w1.heap.size = X at *
  generalize (w1.alloc (.cells #[.slice A b.length c, .int .i64 f, .int .i64 m] 24)) = w2 at *
  refine (as_any A b.length c f m _).mono ?_
  rintro e w3 ⟨rfl, b3⟩
  have B3 : Hid (Below w.heap.size w (w3.alloc (.cells #[.slice A b.length c, .int .i64 f, .int .i64 m] 30))) := below_step (below_step B1.out b3) (below_one _ _)
  have X3 : Hid (Box (w3.alloc (.cells #[.slice A b.length c, .int .i64 f, .int .i64 m] 30)) X A b.length c f m) := (X1.out.step b3).alloc _
  have R3 : Hid (Rd (w3.alloc (.cells #[.slice A b.length c, .int .i64 f, .int .i64 m] 30)) A c b) := (R1.out.below b3).alloc _
  have Y3 : Hid (Box (w3.alloc (.cells #[.slice A b.length c, .int .i64 f, .int .i64 m] 30)) w3.heap.size A b.length c f m) := boxR_new _ _ _ _ _ _
  clear b3 B1 C1 R1 X1 r0 r1 r2
  go_wp2_with fail
  generalize w3.heap.size = Y at *
  generalize (w3.alloc (.cells #[.slice A b.length c, .int .i64 f, .int .i64 m] 30)) = w4 at *
  refine (refRight_any A b.length c f m _ (by omega)).mono ?_
  rintro e w5 ⟨rfl, b5⟩
  rw [H.out]
  have B5 := Lib.hid (below_step B3.out b5)
  have R5 := Lib.hid (R3.out.below b5)
  obtain ⟨⟨x0, x1, x2⟩, _⟩ := X3.out.step b5
  obtain ⟨⟨y0, y1, y2⟩, _⟩ := Y3.out.step b5
  clear b5 B3 X3 R3 Y3
  go_wp2_with fail
  go_region_held3 (fun w' => w'.cell? ⟨X, 0, none⟩ = some (.slice A b.length c) ∧ w'.cell? ⟨X, 1, none⟩ = some (.int .i64 f) ∧ w'.cell? ⟨X, 2, none⟩ = some (.int .i64 m) ∧ w'.cell? ⟨Y, 0, none⟩ = some (.slice A b.length c) ∧ w'.cell? ⟨Y, 1, none⟩ = some (.int .i64 f) ∧ w'.cell? ⟨Y, 2, none⟩ = some (.int .i64 m) ∧ Hid (Below w5.heap.size w5 w'))
    (first
      | (go_split_ands; exact ⟨cell_below bX (by assumption), cell_below bX (by assumption), cell_below bX (by assumption), cell_below bX (by assumption), cell_below bX (by assumption), cell_below bX (by assumption), below_step (Hid.out (by assumption)) bX⟩)
      | (exact ⟨x0, x1, x2, y0, y1, y2, (Below.refl _ w5).drew⟩))
    (first
      | (go_at_call 11; refine (as_any A b.length c f m _).mono ?_; rintro e w6 ⟨rfl, bX⟩)
      | (go_at_call 16; refine (same_n b.length b.length A A c c f m b _ rfl rfl (by omega) (by go_split_ands; exact R5.out.below (Hid.out (by assumption))) (by go_split_ands; exact R5.out.below (Hid.out (by assumption)))).mono ?_; rintro e w7 ⟨rfl, bX⟩)
      | (go_at_call 8; refine (knows_any _).mono ?_; rintro e w8 ⟨rfl, bX⟩))
  all_goals
    go_split_ands
    have HBf : Hid (Below w5.heap.size w5 w8) := by assumption
    go_wp2_with fail
    go_ret
    exact ⟨rfl, below_step B5.out HBf.out⟩

set_option maxHeartbeats 6400000 in
set_option maxRecDepth 100000 in
theorem room (A : Option Addr) (c : Nat) (b : List Int) (f m : Nat) (v : Int) (w : World) (hbig : b.length ≤ 100) (hf : f < b.length) (hm : m < b.length) (hr : Rd w A c b) :
    Calls Try.prog 4 #[.agg #[.slice A b.length c, .int .i64 (f : Int), .int .i64 (m : Int)], .int .i64 v] w fun e w' => e = .returned (.bool true) ∧ Below w.heap.size w w' := by
  have h1 : (b.length : Int) ≤ 100 := by omega
  have hne : ((m : Int) == (b.length : Int)) = false := beq_eq_false_iff_ne.2 (by omega)
  have H := Lib.hid (rightB_of hf (Nat.le_of_lt hm))
  have HE : ∃ b', Hid (b.set ((f + m) % b.length) v = b') := ⟨_, rfl⟩
  obtain ⟨b', HB'⟩ := HE
  have HL' : Hid (b'.length = b.length) := by show _ = _; rw [← HB'.out, List.length_set]
  have B0 : Hid (Below w.heap.size w (w.alloc (.cells #[.slice A b.length c, .int .i64 (f : Int), .int .i64 (m : Int)] 24))) := below_one _ _
  have C0 : Hid (Box (w.alloc (.cells #[.slice A b.length c, .int .i64 (f : Int), .int .i64 (m : Int)] 24)) w.heap.size A b.length c (f : Int) (m : Int)) := box_new _ _ _ _ _ _
  have R0 : Hid (Rd (w.alloc (.cells #[.slice A b.length c, .int .i64 (f : Int), .int .i64 (m : Int)] 24)) A c b) := hr.alloc _
  clear hr
  go_enter Try.func4, Try.ntmps4
  go_wp2_with fail
  generalize (w.alloc (.cells #[.slice A b.length c, .int .i64 (f : Int), .int .i64 (m : Int)] 24)) = w0 at *
  refine (push_n A b.length c b b' f m _ _ v _ rfl rfl rfl HB'.out (by omega) hf hm R0.out).mono ?_
  rintro e w1 ⟨A1, c1, rfl, o1, b1⟩
  have B1 : Hid (Below w.heap.size w (w1.alloc (.cells #[.slice A1 b.length c1, .int .i64 (f : Int), .int .i64 ((m : Int) + 1)] 24))) := below_step (below_step B0.out b1) (below_one _ _)
  have C1 : Hid (Box (w1.alloc (.cells #[.slice A1 b.length c1, .int .i64 (f : Int), .int .i64 ((m : Int) + 1)] 24)) w.heap.size A b.length c (f : Int) (m : Int)) := (C0.out.step b1).alloc _
  have R1 : Hid (Rd (w1.alloc (.cells #[.slice A1 b.length c1, .int .i64 (f : Int), .int .i64 ((m : Int) + 1)] 24)) A c b) := (R0.out.below b1).alloc _
  have Q1 : Hid (Rd (w1.alloc (.cells #[.slice A1 b.length c1, .int .i64 (f : Int), .int .i64 ((m : Int) + 1)] 24)) A1 c1 b') := o1.rd.alloc _
  have X1 : Hid (Box (w1.alloc (.cells #[.slice A1 b.length c1, .int .i64 (f : Int), .int .i64 ((m : Int) + 1)] 24)) w1.heap.size A1 b.length c1 (f : Int) ((m : Int) + 1)) := box_new _ _ _ _ _ _
  obtain ⟨⟨r0, r1, r2⟩, _⟩ := C1.out
  clear b1 o1 B0 C0 R0
  go_wp2_with fail
  generalize w1.heap.size = X at *
  generalize (w1.alloc (.cells #[.slice A1 b.length c1, .int .i64 (f : Int), .int .i64 ((m : Int) + 1)] 24)) = w2 at *
  refine (as_any A b.length c (f : Int) (m : Int) _).mono ?_
  rintro e w3 ⟨rfl, b3⟩
  have B3 : Hid (Below w.heap.size w (w3.alloc (.cells #[.slice A b.length c, .int .i64 (f : Int), .int .i64 (m : Int)] 30))) := below_step (below_step B1.out b3) (below_one _ _)
  have X3 : Hid (Box (w3.alloc (.cells #[.slice A b.length c, .int .i64 (f : Int), .int .i64 (m : Int)] 30)) X A1 b.length c1 (f : Int) ((m : Int) + 1)) := (X1.out.step b3).alloc _
  have C3 : Hid (Box (w3.alloc (.cells #[.slice A b.length c, .int .i64 (f : Int), .int .i64 (m : Int)] 30)) w.heap.size A b.length c (f : Int) (m : Int)) := (C1.out.step b3).alloc _
  have R3 : Hid (Rd (w3.alloc (.cells #[.slice A b.length c, .int .i64 (f : Int), .int .i64 (m : Int)] 30)) A c b) := (R1.out.below b3).alloc _
  have Q3 : Hid (Rd (w3.alloc (.cells #[.slice A b.length c, .int .i64 (f : Int), .int .i64 (m : Int)] 30)) A1 c1 b') := (Q1.out.below b3).alloc _
  have Y3 : Hid (Box (w3.alloc (.cells #[.slice A b.length c, .int .i64 (f : Int), .int .i64 (m : Int)] 30)) w3.heap.size A b.length c (f : Int) (m : Int)) := boxR_new _ _ _ _ _ _
  clear b3 B1 C1 R1 X1 Q1 r0 r1 r2
  go_wp2_with fail
  generalize w3.heap.size = Y at *
  generalize (w3.alloc (.cells #[.slice A b.length c, .int .i64 (f : Int), .int .i64 (m : Int)] 30)) = w4 at *
  refine (refRight_any A b.length c (f : Int) (m : Int) _ (by omega)).mono ?_
  rintro e w5 ⟨rfl, b5⟩
  rw [H.out]
  have B5 := Lib.hid (below_step B3.out b5)
  have R5 := Lib.hid (R3.out.below b5)
  have Q5 := Lib.hid (Q3.out.below b5)
  obtain ⟨⟨x0, x1, x2⟩, _⟩ := X3.out.step b5
  obtain ⟨⟨y0, y1, y2⟩, _⟩ := Y3.out.step b5
  obtain ⟨⟨r0, r1, r2⟩, _⟩ := C3.out.step b5
  clear b5 B3 X3 R3 Y3 Q3 C3
  go_wp2_with fail
  clear r0 r1 r2
  go_region_held3 (fun w' => w'.cell? ⟨X, 0, none⟩ = some (.slice A1 b.length c1) ∧ w'.cell? ⟨X, 1, none⟩ = some (.int .i64 (f : Int)) ∧ w'.cell? ⟨X, 2, none⟩ = some (.int .i64 ((m : Int) + 1)) ∧ w'.cell? ⟨Y, 0, none⟩ = some (.slice A b.length c) ∧ w'.cell? ⟨Y, 1, none⟩ = some (.int .i64 (f : Int)) ∧ w'.cell? ⟨Y, 2, none⟩ = some (.int .i64 (m : Int)) ∧ Hid (Below w5.heap.size w5 w'))
    (first
      | (go_split_ands; exact ⟨cell_below bX (by assumption), cell_below bX (by assumption), cell_below bX (by assumption), cell_below bX (by assumption), cell_below bX (by assumption), cell_below bX (by assumption), below_step (Hid.out (by assumption)) bX⟩)
      | (exact ⟨x0, x1, x2, y0, y1, y2, (Below.refl _ w5).drew⟩))
    (first
      | (go_at_call 11; refine (as_any A1 b.length c1 (f : Int) ((m : Int) + 1) _).mono ?_; rintro e w6 ⟨rfl, bX⟩; try (have O7 := Lib.hid (O7.out.below bX)))
      | (go_at_call 18; refine (refMore_n A b.length c b b' f m _ _ v _ rfl rfl rfl HB'.out (by omega) (by omega) (by omega) (by go_split_ands; exact R5.out.below (Hid.out (by assumption)))).mono ?_; rintro e w7 ⟨A7, c7, rfl, o7, bX⟩; have O7 := Lib.hid o7.rd; clear o7)
      | (go_at_call 16; refine (same_n b.length b.length A1 A7 c1 c7 _ _ b' _ HL'.out HL'.out (by rw [HL'.out]; omega) (by go_split_ands; exact Q5.out.below (Hid.out (by assumption))) (by exact O7.out)).mono ?_; rintro e w9 ⟨rfl, bX⟩)
      | (go_at_call 8; refine (knows_any _).mono ?_; rintro e w8 ⟨rfl, bX⟩))
  all_goals
    go_split_ands
    have HBf : Hid (Below w5.heap.size w5 w8) := by assumption
    go_wp2_with fail
    go_ret
    exact ⟨rfl, below_step B5.out HBf.out⟩

set_option maxHeartbeats 3200000 in
set_option maxRecDepth 100000 in
theorem full (A : Option Addr) (c : Nat) (b : List Int) (f : Nat) (v : Int) (w : World) (hbig : b.length ≤ 100) (hf : f < b.length) (hr : Rd w A c b) :
    Calls Try.prog 4 #[.agg #[.slice A b.length c, .int .i64 (f : Int), .int .i64 (b.length : Int)], .int .i64 v] w fun e w' => e = .returned (.bool true) ∧ Below w.heap.size w w' := by
  have h1 : (b.length : Int) ≤ 100 := by omega
  have H := Lib.hid (rightB_of hf (Nat.le_refl b.length))
  have B0 : Hid (Below w.heap.size w (w.alloc (.cells #[.slice A b.length c, .int .i64 (f : Int), .int .i64 (b.length : Int)] 24))) := below_one _ _
  have C0 : Hid (Box (w.alloc (.cells #[.slice A b.length c, .int .i64 (f : Int), .int .i64 (b.length : Int)] 24)) w.heap.size A b.length c (f : Int) (b.length : Int)) := box_new _ _ _ _ _ _
  have R0 : Hid (Rd (w.alloc (.cells #[.slice A b.length c, .int .i64 (f : Int), .int .i64 (b.length : Int)] 24)) A c b) := hr.alloc _
  clear hr
  go_enter Try.func4, Try.ntmps4
  go_wp2_with fail
  generalize (w.alloc (.cells #[.slice A b.length c, .int .i64 (f : Int), .int .i64 (b.length : Int)] 24)) = w0 at *
  refine (push_full A b.length c f _ v _ hf rfl).mono ?_
  rintro e w1 ⟨rfl, b1⟩
  have B1 : Hid (Below w.heap.size w (w1.alloc (.cells #[.slice A b.length c, .int .i64 (f : Int), .int .i64 (b.length : Int)] 24))) := below_step (below_step B0.out b1) (below_one _ _)
  have C1 : Hid (Box (w1.alloc (.cells #[.slice A b.length c, .int .i64 (f : Int), .int .i64 (b.length : Int)] 24)) w.heap.size A b.length c (f : Int) (b.length : Int)) := (C0.out.step b1).alloc _
  have R1 : Hid (Rd (w1.alloc (.cells #[.slice A b.length c, .int .i64 (f : Int), .int .i64 (b.length : Int)] 24)) A c b) := (R0.out.below b1).alloc _
  have X1 : Hid (Box (w1.alloc (.cells #[.slice A b.length c, .int .i64 (f : Int), .int .i64 (b.length : Int)] 24)) w1.heap.size A b.length c (f : Int) (b.length : Int)) := box_new _ _ _ _ _ _
  obtain ⟨⟨r0, r1, r2⟩, _⟩ := C1.out
  clear b1 B0 C0 R0
  go_wp2_with fail
  generalize w1.heap.size = X at *
  generalize (w1.alloc (.cells #[.slice A b.length c, .int .i64 (f : Int), .int .i64 (b.length : Int)] 24)) = w2 at *
  refine (as_any A b.length c (f : Int) (b.length : Int) _).mono ?_
  rintro e w3 ⟨rfl, b3⟩
  have B3 : Hid (Below w.heap.size w (w3.alloc (.cells #[.slice A b.length c, .int .i64 (f : Int), .int .i64 (b.length : Int)] 30))) := below_step (below_step B1.out b3) (below_one _ _)
  have X3 : Hid (Box (w3.alloc (.cells #[.slice A b.length c, .int .i64 (f : Int), .int .i64 (b.length : Int)] 30)) X A b.length c (f : Int) (b.length : Int)) := (X1.out.step b3).alloc _
  have C3 : Hid (Box (w3.alloc (.cells #[.slice A b.length c, .int .i64 (f : Int), .int .i64 (b.length : Int)] 30)) w.heap.size A b.length c (f : Int) (b.length : Int)) := (C1.out.step b3).alloc _
  have R3 : Hid (Rd (w3.alloc (.cells #[.slice A b.length c, .int .i64 (f : Int), .int .i64 (b.length : Int)] 30)) A c b) := (R1.out.below b3).alloc _
  have Y3 : Hid (Box (w3.alloc (.cells #[.slice A b.length c, .int .i64 (f : Int), .int .i64 (b.length : Int)] 30)) w3.heap.size A b.length c (f : Int) (b.length : Int)) := boxR_new _ _ _ _ _ _
  clear b3 B1 C1 R1 X1 r0 r1 r2
  go_wp2_with fail
  generalize w3.heap.size = Y at *
  generalize (w3.alloc (.cells #[.slice A b.length c, .int .i64 (f : Int), .int .i64 (b.length : Int)] 30)) = w4 at *
  refine (refRight_any A b.length c (f : Int) (b.length : Int) _ (by omega)).mono ?_
  rintro e w5 ⟨rfl, b5⟩
  rw [H.out]
  have B5 := Lib.hid (below_step B3.out b5)
  have R5 := Lib.hid (R3.out.below b5)
  obtain ⟨⟨x0, x1, x2⟩, _⟩ := X3.out.step b5
  obtain ⟨⟨y0, y1, y2⟩, _⟩ := Y3.out.step b5
  obtain ⟨⟨r0, r1, r2⟩, _⟩ := C3.out.step b5
  clear b5 B3 X3 R3 Y3 C3
  go_wp2_with fail
  clear r0 r1 r2
  go_region_held3 (fun w' => w'.cell? ⟨X, 0, none⟩ = some (.slice A b.length c) ∧ w'.cell? ⟨X, 1, none⟩ = some (.int .i64 (f : Int)) ∧ w'.cell? ⟨X, 2, none⟩ = some (.int .i64 (b.length : Int)) ∧ w'.cell? ⟨Y, 0, none⟩ = some (.slice A b.length c) ∧ w'.cell? ⟨Y, 1, none⟩ = some (.int .i64 (f : Int)) ∧ w'.cell? ⟨Y, 2, none⟩ = some (.int .i64 (b.length : Int)) ∧ Hid (Below w5.heap.size w5 w'))
    (first
      | (go_split_ands; exact ⟨cell_below bX (by assumption), cell_below bX (by assumption), cell_below bX (by assumption), cell_below bX (by assumption), cell_below bX (by assumption), cell_below bX (by assumption), below_step (Hid.out (by assumption)) bX⟩)
      | (exact ⟨x0, x1, x2, y0, y1, y2, (Below.refl _ w5).drew⟩))
    (first
      | (go_at_call 11; refine (as_any A b.length c (f : Int) (b.length : Int) _).mono ?_; rintro e w6 ⟨rfl, bX⟩)
      | (go_at_call 16; refine (same_n b.length b.length A A c c (f : Int) (b.length : Int) b _ rfl rfl (by omega) (by go_split_ands; exact R5.out.below (Hid.out (by assumption))) (by go_split_ands; exact R5.out.below (Hid.out (by assumption)))).mono ?_; rintro e w7 ⟨rfl, bX⟩)
      | (go_at_call 8; refine (knows_any _).mono ?_; rintro e w8 ⟨rfl, bX⟩))
  all_goals
    go_split_ands
    have HBf : Hid (Below w5.heap.size w5 w8) := by assumption
    go_wp2_with fail
    go_ret
    exact ⟨rfl, below_step B5.out HBf.out⟩

theorem walk (A : Option Addr) (c : Nat) (b : List Int) (f m v : Int) (w : World) (_hlc : b.length ≤ c) (hr : Rd w A c b) :
    Calls Try.prog 4 #[.agg #[.slice A b.length c, .int .i64 f, .int .i64 m], .int .i64 v] w fun e w' => e = .returned (.bool true) ∧ Below w.heap.size w w' := by
  by_cases hbig : 100 < b.length
  · exact few A c b f m v w hbig
  · cases hb : rightB b.length f m with
    | false => exact no A c b f m v w (by omega) hb hr
    | true =>
      obtain ⟨F, M, rfl, rfl, hF, hM⟩ := rightB_nat hb
      by_cases h : M = b.length
      · subst h
        exact full A c b F v w (by omega) hF hr
      · exact room A c b F M v w (by omega) hF (by omega) hr

set_option maxRecDepth 100000 in
theorem lifted (os : Os) (started : os.Started) (H : Type) (enc : TypeId × Value → H) :
    ReturnsInHanded {} Try.checked os 4 .any (Rows.ringPushesSpec.pre6 enc Try.prog Try.f4 Rows.ringPushesRow.domain false) (Rows.ringPushesSpec.post enc Try.prog Try.f4 false true false false) := by
  refine returnsInHanded_of_change (C := Try.checked) own started (by kernel_rfl) Try.func4
    (ChangeSpec.witness6 (enc := enc) (C := Try.checked) false ⟨#[], #[.agg #[.slice none 0 0, .int .i64 0, .int .i64 0], .int .i64 0], []⟩ 8 (by kernel_rfl) (by kernel_rfl) (by kernel_rfl) (by kernel_rfl)) ?_
  intro W base args ds gs before hval0 hW hcnd _
  have hval : ∀ (j : Nat) t v, Try.f4.params[j]? = some t → args[j]? = some v → Value.okWide Try.prog W .any base t v := hval0
  have hW' := hW
  obtain ⟨p, q, hA0, hV, rfl, hfz, hnd⟩ := hW
  have hA : DataW.TrodAll enc Try.prog W 0 (fun _ => true) true Try.f4.params.toList args.toList ds p := hA0
  rw [Try.params4] at hA hval
  obtain ⟨v0, v1, d0, d1, p0, p1, rfl, rfl, rfl, h0, h1⟩ := trodAll_two hA
  obtain ⟨rfl, rfl⟩ := trodVars_none hV
  obtain ⟨A0, c0, b0, f0, m0, rfl, hlc0, hr0⟩ := open_ring (hval 0 24 v0 rfl rfl) h0
  obtain ⟨n1, rfl⟩ := open_num (hval 1 3 v1 rfl rfl) h1
  clear hA0 hval0
  refine (walk A0 c0 b0 f0 m0 n1 W hlc0 hr0 ).mono fun e W' ⟨he, bel⟩ => ?_
  subst he
  have hlt0 : ∀ x ∈ p0, x.block < W.heap.size := fun x hx => hW'.lt x (by simp [hx])
  have hlt1 : ∀ x ∈ p1, x.block < W.heap.size := fun x hx => hW'.lt x (by simp [hx])
  exact ⟨_, rfl, _, _, _, [], _, [], hW', trodAll_mk1 (shut_bool Try.underlying4 _), trodAll_mk2 (Below.trod laidOut (by kernel_rfl) (of_decide_eq_true (by kernel_rfl)) h0 bel hlt0) (Below.trod laidOut (by kernel_rfl) (of_decide_eq_true (by kernel_rfl)) h1 bel hlt1), rfl, bel.frame _, fun h => by cases h⟩

/-- The statement. -/
theorem proved : Rows.RingPushesSaid :=
  OpenClaim.holds_of_wide 4 Try.f4 rfl rfl rfl rfl rfl rfl rfl ⟨rfl, rfl, rfl, rfl, rfl⟩ rfl rfl rfl rfl rfl (by kernel_rfl) Try.func4 (by kernel_rfl)
    (of_decide_eq_true (by kernel_rfl)) (by unfold Func.isWrapper; first | (rw [if_pos (by decide +kernel)]; kernel_rfl) | (rw [if_neg (by decide +kernel)]; exact ⟨rfl, rfl⟩))
    (fun os started H enc _ => lifted os started H enc)
#print axioms proved


end Go.Proofs.Ytilabonjjiiabaa.ringPushes
