/-
  For every ring and every int the statement RingNews of layer 3 returns true (which rings are right, their messages, and how they begin, is what the document says, or the error is told), and its arguments read as before. No condition.
-/
import Derived.Test.YtilabonjjiiabaaLaw03Args
import Derived.Deep.RegionHeld3
namespace Go.Proofs.Ytilabonjjiiabaa.ringNews
open Go.ChangeShapes Go.WideShapes Go.ChangeAt Go.RowKit
open Rn
attribute [local go_sem ↓] Go.wp_at_zero Go.wp_at_succ
attribute [local go_sem ↓] build_ring build_some build_none build_ref build_refSome

/-- what 'make' of n ints lays down -/
theorem mk_run (n : Nat) (hbig : n ≤ 1000000) :
    ∃ zc : Array Value, (∀ w' : World, (Instr.makeSlice 22 (.int .i64 (n : Int)) (.int .i64 (n : Int))).run Try.prog w' = .ok (.slice (some ⟨w'.heap.size, 0, none⟩) n n) (w'.alloc (.cells zc 3))) ∧
      ∀ w' : World, Rd (w'.alloc (.cells zc 3)) (some ⟨w'.heap.size, 0, none⟩) n (zeros n) := by
  obtain ⟨i, hi, hz, hs, hb⟩ := info_parts infoI
  refine ⟨madeCells (Value.int .i64 0).cells (n * 1), fun w' => ?_, fun w' => ?_⟩
  · have hr := run_make (P := Try.prog) w' 22 3 i (.int .i64 0) Try.underlying22 hi hz .i64 .i64 n n (by omega) (Int.le_refl _) (by rw [hb]; omega) (by omega)
    simp only [Int.toNat_natCast, hs] at hr
    exact hr
  · have ho : Ow (w'.alloc (.cells (madeCells (Value.int .i64 0).cells (n * 1)) 3)) w'.heap.size (some ⟨w'.heap.size, 0, none⟩) n (zeros n) := by
      unfold Ow
      rw [zeros_length, ← made_zeros]
      exact World.ownsRow_lit w' _ n (Nat.le_refl _) (by unfold maxLen; omega) (size_madeCells _ _)
    exact ho.rd

theorem few (A : Option Addr) (c : Nat) (b : List Int) (f m n : Int) (w : World) (hbig : 100 < b.length) :
    Calls Try.prog 3 #[.agg #[.slice A b.length c, .int .i64 f, .int .i64 m], .int .i64 n] w fun e w' => e = .returned (.bool true) ∧ Below w.heap.size w w' := by
  have h1 : (100 : Int) < (b.length : Int) := by omega
  have B0 := Lib.hid (below_one w (.cells #[.slice A b.length c, .int .i64 f, .int .i64 m] 24))
  go_enter Try.func3, Try.ntmps3
  go_wp2_with fail
  refine (knows_any _).mono ?_
  rintro e w1 ⟨rfl, b1⟩
  have B1 := Lib.hid (below_step B0.out b1)
  clear b1
  go_wp2_with fail
  go_ret
  exact ⟨rfl, B1.out⟩

set_option maxHeartbeats 6400000 in
set_option maxRecDepth 100000 in
theorem wrongLow (A : Option Addr) (c : Nat) (b : List Int) (f m : Int) (n : Int) (hn : n < 1) (w : World) (hbig : b.length ≤ 100) (h : rightB b.length f m = false) (hr : Rd w A c b) :
    Calls Try.prog 3 #[.agg #[.slice A b.length c, .int .i64 f, .int .i64 m], .int .i64 n] w fun e w' => e = .returned (.bool true) ∧ Below w.heap.size w w' := by
  have h1 : (b.length : Int) ≤ 100 := by omega
  have H := Lib.hid h
  clear h
  have B0 : Hid (Below w.heap.size w (w.alloc (.cells #[.slice A b.length c, .int .i64 f, .int .i64 m] 24))) := below_one _ _
  have C0 : Hid (Box (w.alloc (.cells #[.slice A b.length c, .int .i64 f, .int .i64 m] 24)) w.heap.size A b.length c f m) := box_new _ _ _ _ _ _
  have R0 : Hid (Rd (w.alloc (.cells #[.slice A b.length c, .int .i64 f, .int .i64 m] 24)) A c b) := hr.alloc _
  clear hr
  go_enter Try.func3, Try.ntmps3
  go_wp2_with fail
  generalize (w.alloc (.cells #[.slice A b.length c, .int .i64 f, .int .i64 m] 24)) = w0 at *
  refine (new_no n _ (.inl hn)).mono ?_
  rintro e w1 ⟨rfl, b1⟩
  have B1 : Hid (Below w.heap.size w (w1.alloc (.cells #[.slice none 0 0, .int .i64 0, .int .i64 0] 24))) := below_step (below_step B0.out b1) (below_one _ _)
  have C1 : Hid (Box (w1.alloc (.cells #[.slice none 0 0, .int .i64 0, .int .i64 0] 24)) w.heap.size A b.length c f m) := (C0.out.step b1).alloc _
  have R1 : Hid (Rd (w1.alloc (.cells #[.slice none 0 0, .int .i64 0, .int .i64 0] 24)) A c b) := (R0.out.below b1).alloc _
  have X1 : Hid (Box (w1.alloc (.cells #[.slice none 0 0, .int .i64 0, .int .i64 0] 24)) w1.heap.size none 0 0 0 0) := box_new _ _ _ _ _ _
  obtain ⟨⟨r0, r1, r2⟩, _⟩ := C1.out
  clear b1 B0 C0 R0
  go_wp2_with fail
  generalize w1.heap.size = X at *
  generalize (w1.alloc (.cells #[.slice none 0 0, .int .i64 0, .int .i64 0] 24)) = w2 at *
  refine (as_any A b.length c f m _).mono ?_
  rintro e w3 ⟨rfl, b3⟩
  have B3 := Lib.hid (below_step B1.out b3)
  have C3 := Lib.hid (C1.out.step b3)
  have R3 := Lib.hid (R1.out.below b3)
  have X3 := Lib.hid (X1.out.step b3)
  clear b3 B1 C1 R1 X1 r0 r1 r2
  go_wp2_with fail
  refine (refRight_any A b.length c f m _ (by omega)).mono ?_
  rintro e w4 ⟨rfl, b4⟩
  rw [H.out]
  have B4 := Lib.hid (below_step B3.out b4)
  have C4 := Lib.hid (C3.out.step b4)
  have R4 := Lib.hid (R3.out.below b4)
  have X4 := Lib.hid (X3.out.step b4)
  obtain ⟨⟨r0, r1, r2⟩, _⟩ := C4.out
  clear b4 B3 C3 R3 X3
  go_wp2_with fail
  refine (list_no A b.length c f m _ H.out).mono ?_
  rintro e w5 ⟨rfl, b5⟩
  have B5 := Lib.hid (below_step B4.out b5)
  have C5 := Lib.hid (C4.out.step b5)
  have R5 := Lib.hid (R4.out.below b5)
  have X5 := Lib.hid (X4.out.step b5)
  clear b5 B4 C4 R4 X4 r0 r1 r2
  obtain ⟨⟨r0, r1, r2⟩, _⟩ := C5.out
  go_wp2_with fail
  refine (right_any A b.length c f m _).mono ?_
  rintro e w6 ⟨rfl, b6⟩
  rw [H.out]
  have B6 := Lib.hid (below_step B5.out b6)
  have X6 := Lib.hid (X5.out.step b6)
  clear b6 B5 C5 R5 X5 r0 r1 r2
  obtain ⟨⟨x0, x1, x2⟩, _⟩ := X6.out
  clear X6
  go_wp2_with fail
  refine (knows_any _).mono ?_
  rintro e wk ⟨rfl, bk⟩
  have Bk := Lib.hid (below_step B6.out bk)
  clear bk x0 x1 x2
  go_wp2_with fail
  go_ret
  exact ⟨rfl, Bk.out⟩

set_option maxHeartbeats 6400000 in
set_option maxRecDepth 100000 in
theorem wrongHigh (A : Option Addr) (c : Nat) (b : List Int) (f m : Int) (n : Int) (hn : 4 < n) (w : World) (hbig : b.length ≤ 100) (h : rightB b.length f m = false) (hr : Rd w A c b) :
    Calls Try.prog 3 #[.agg #[.slice A b.length c, .int .i64 f, .int .i64 m], .int .i64 n] w fun e w' => e = .returned (.bool true) ∧ Below w.heap.size w w' := by
  have h1 : (b.length : Int) ≤ 100 := by omega
  have H := Lib.hid h
  clear h
  have q1 : (1 : Int) ≤ n := by omega
  have B0 : Hid (Below w.heap.size w (w.alloc (.cells #[.slice A b.length c, .int .i64 f, .int .i64 m] 24))) := below_one _ _
  have C0 : Hid (Box (w.alloc (.cells #[.slice A b.length c, .int .i64 f, .int .i64 m] 24)) w.heap.size A b.length c f m) := box_new _ _ _ _ _ _
  have R0 : Hid (Rd (w.alloc (.cells #[.slice A b.length c, .int .i64 f, .int .i64 m] 24)) A c b) := hr.alloc _
  clear hr
  go_enter Try.func3, Try.ntmps3
  go_wp2_with fail
  generalize (w.alloc (.cells #[.slice A b.length c, .int .i64 f, .int .i64 m] 24)) = w0 at *
  refine (new_no n _ (.inr hn)).mono ?_
  rintro e w1 ⟨rfl, b1⟩
  have B1 : Hid (Below w.heap.size w (w1.alloc (.cells #[.slice none 0 0, .int .i64 0, .int .i64 0] 24))) := below_step (below_step B0.out b1) (below_one _ _)
  have C1 : Hid (Box (w1.alloc (.cells #[.slice none 0 0, .int .i64 0, .int .i64 0] 24)) w.heap.size A b.length c f m) := (C0.out.step b1).alloc _
  have R1 : Hid (Rd (w1.alloc (.cells #[.slice none 0 0, .int .i64 0, .int .i64 0] 24)) A c b) := (R0.out.below b1).alloc _
  have X1 : Hid (Box (w1.alloc (.cells #[.slice none 0 0, .int .i64 0, .int .i64 0] 24)) w1.heap.size none 0 0 0 0) := box_new _ _ _ _ _ _
  obtain ⟨⟨r0, r1, r2⟩, _⟩ := C1.out
  clear b1 B0 C0 R0
  go_wp2_with fail
  generalize w1.heap.size = X at *
  generalize (w1.alloc (.cells #[.slice none 0 0, .int .i64 0, .int .i64 0] 24)) = w2 at *
  refine (as_any A b.length c f m _).mono ?_
  rintro e w3 ⟨rfl, b3⟩
  have B3 := Lib.hid (below_step B1.out b3)
  have C3 := Lib.hid (C1.out.step b3)
  have R3 := Lib.hid (R1.out.below b3)
  have X3 := Lib.hid (X1.out.step b3)
  clear b3 B1 C1 R1 X1 r0 r1 r2
  go_wp2_with fail
  refine (refRight_any A b.length c f m _ (by omega)).mono ?_
  rintro e w4 ⟨rfl, b4⟩
  rw [H.out]
  have B4 := Lib.hid (below_step B3.out b4)
  have C4 := Lib.hid (C3.out.step b4)
  have R4 := Lib.hid (R3.out.below b4)
  have X4 := Lib.hid (X3.out.step b4)
  obtain ⟨⟨r0, r1, r2⟩, _⟩ := C4.out
  clear b4 B3 C3 R3 X3
  go_wp2_with fail
  refine (list_no A b.length c f m _ H.out).mono ?_
  rintro e w5 ⟨rfl, b5⟩
  have B5 := Lib.hid (below_step B4.out b5)
  have C5 := Lib.hid (C4.out.step b5)
  have R5 := Lib.hid (R4.out.below b5)
  have X5 := Lib.hid (X4.out.step b5)
  clear b5 B4 C4 R4 X4 r0 r1 r2
  obtain ⟨⟨r0, r1, r2⟩, _⟩ := C5.out
  go_wp2_with fail
  refine (right_any A b.length c f m _).mono ?_
  rintro e w6 ⟨rfl, b6⟩
  rw [H.out]
  have B6 := Lib.hid (below_step B5.out b6)
  have X6 := Lib.hid (X5.out.step b6)
  clear b6 B5 C5 R5 X5 r0 r1 r2
  obtain ⟨⟨x0, x1, x2⟩, _⟩ := X6.out
  clear X6
  go_wp2_with fail
  refine (knows_any _).mono ?_
  rintro e wk ⟨rfl, bk⟩
  have Bk := Lib.hid (below_step B6.out bk)
  clear bk x0 x1 x2
  go_wp2_with fail
  go_ret
  exact ⟨rfl, Bk.out⟩

set_option maxHeartbeats 6400000 in
set_option maxRecDepth 100000 in
theorem wrongIn (A : Option Addr) (c : Nat) (b : List Int) (f m : Int) (n : Nat) (hn1 : 1 ≤ n) (hn4 : n ≤ 4) (w : World) (hbig : b.length ≤ 100) (h : rightB b.length f m = false) (hr : Rd w A c b) :
    Calls Try.prog 3 #[.agg #[.slice A b.length c, .int .i64 f, .int .i64 m], .int .i64 (n : Int)] w fun e w' => e = .returned (.bool true) ∧ Below w.heap.size w w' := by
  have h1 : (b.length : Int) ≤ 100 := by omega
  have H := Lib.hid h
  clear h
  have q1 : (1 : Int) ≤ (n : Int) := by omega
  have q4 : (n : Int) ≤ 4 := by omega
  obtain ⟨zc, hmk, hzr⟩ := mk_run n (by omega)
  have ZR := Lib.hid hzr
  clear hzr
  have B0 : Hid (Below w.heap.size w (w.alloc (.cells #[.slice A b.length c, .int .i64 f, .int .i64 m] 24))) := below_one _ _
  have C0 : Hid (Box (w.alloc (.cells #[.slice A b.length c, .int .i64 f, .int .i64 m] 24)) w.heap.size A b.length c f m) := box_new _ _ _ _ _ _
  have R0 : Hid (Rd (w.alloc (.cells #[.slice A b.length c, .int .i64 f, .int .i64 m] 24)) A c b) := hr.alloc _
  clear hr
  go_enter Try.func3, Try.ntmps3
  go_wp2_with fail
  generalize (w.alloc (.cells #[.slice A b.length c, .int .i64 f, .int .i64 m] 24)) = w0 at *
  refine (new_n n _ _ hn1 hn4 rfl).mono ?_
  rintro e w1 ⟨A1, rfl, o1, b1⟩
  have Q1 : Hid (Rd (w1.alloc (.cells #[.slice A1 n n, .int .i64 0, .int .i64 0] 24)) A1 n (zeros n)) := o1.rd.alloc _
  clear o1
  have B1 : Hid (Below w.heap.size w (w1.alloc (.cells #[.slice A1 n n, .int .i64 0, .int .i64 0] 24))) := below_step (below_step B0.out b1) (below_one _ _)
  have C1 : Hid (Box (w1.alloc (.cells #[.slice A1 n n, .int .i64 0, .int .i64 0] 24)) w.heap.size A b.length c f m) := (C0.out.step b1).alloc _
  have R1 : Hid (Rd (w1.alloc (.cells #[.slice A1 n n, .int .i64 0, .int .i64 0] 24)) A c b) := (R0.out.below b1).alloc _
  have X1 : Hid (Box (w1.alloc (.cells #[.slice A1 n n, .int .i64 0, .int .i64 0] 24)) w1.heap.size A1 n n 0 0) := box_new _ _ _ _ _ _
  obtain ⟨⟨r0, r1, r2⟩, _⟩ := C1.out
  clear b1 B0 C0 R0
  go_wp2_with fail
  generalize w1.heap.size = X at *
  generalize (w1.alloc (.cells #[.slice A1 n n, .int .i64 0, .int .i64 0] 24)) = w2 at *
  refine (as_any A b.length c f m _).mono ?_
  rintro e w3 ⟨rfl, b3⟩
  have B3 := Lib.hid (below_step B1.out b3)
  have C3 := Lib.hid (C1.out.step b3)
  have R3 := Lib.hid (R1.out.below b3)
  have X3 := Lib.hid (X1.out.step b3)
  have Q3 := Lib.hid (Q1.out.below b3)
  clear Q1
  clear b3 B1 C1 R1 X1 r0 r1 r2
  go_wp2_with fail
  refine (refRight_any A b.length c f m _ (by omega)).mono ?_
  rintro e w4 ⟨rfl, b4⟩
  rw [H.out]
  have B4 := Lib.hid (below_step B3.out b4)
  have C4 := Lib.hid (C3.out.step b4)
  have R4 := Lib.hid (R3.out.below b4)
  have X4 := Lib.hid (X3.out.step b4)
  have Q4 := Lib.hid (Q3.out.below b4)
  clear Q3
  obtain ⟨⟨r0, r1, r2⟩, _⟩ := C4.out
  clear b4 B3 C3 R3 X3
  go_wp2_with fail
  refine (list_no A b.length c f m _ H.out).mono ?_
  rintro e w5 ⟨rfl, b5⟩
  have B5 := Lib.hid (below_step B4.out b5)
  have C5 := Lib.hid (C4.out.step b5)
  have R5 := Lib.hid (R4.out.below b5)
  have X5 := Lib.hid (X4.out.step b5)
  have Q5 := Lib.hid (Q4.out.below b5)
  clear Q4
  clear b5 B4 C4 R4 X4 r0 r1 r2
  obtain ⟨⟨r0, r1, r2⟩, _⟩ := C5.out
  go_wp2_with fail
  refine (right_any A b.length c f m _).mono ?_
  rintro e w6 ⟨rfl, b6⟩
  rw [H.out]
  have B6 := Lib.hid (below_step B5.out b6)
  have X6 := Lib.hid (X5.out.step b6)
  have Q6 := Lib.hid (Q5.out.below b6)
  clear Q5
  clear b6 B5 C5 R5 X5 r0 r1 r2
  obtain ⟨⟨x0, x1, x2⟩, _⟩ := X6.out
  clear X6
  go_wp2_with fail
  go_region_held3 (fun w' => w'.cell? ⟨X, 0, none⟩ = some (.slice A1 n n) ∧ w'.cell? ⟨X, 1, none⟩ = some (.int .i64 0) ∧ w'.cell? ⟨X, 2, none⟩ = some (.int .i64 0) ∧ Hid (Below w6.heap.size w6 w'))
    (first
      | (go_split_ands; exact ⟨cell_below bX (by assumption), cell_below bX (by assumption), cell_below bX (by assumption), below_step (Hid.out (by assumption)) bX⟩)
      | (go_split_ands; exact ⟨cell_new (by assumption) _, cell_new (by assumption) _, cell_new (by assumption) _, below_step (Hid.out (by assumption)) (below_one _ _)⟩)
      | (exact ⟨x0, x1, x2, (Below.refl _ w6).drew⟩)
      | (exact ⟨cell_new x0 _, cell_new x1 _, cell_new x2 _, (below_one w6 _).drew⟩))
    (first
      | (go_at_call 11; refine (as_any A1 n n 0 0 _).mono ?_; rintro e wa ⟨rfl, bX⟩)
      | (go_at_call 8; refine (knows_any _).mono ?_; rintro e wk ⟨rfl, bX⟩)
      | (go_at_call 16; refine (same_n n n A1 _ n n 0 0 (zeros n) _ (zeros_length n) (zeros_length n) (by rw [zeros_length]; omega) (by go_split_ands; exact Q6.out.below (Hid.out (by assumption))) (by first | exact ZR.out wa | exact (ZR.out w6).drew.below bX)).mono ?_; rintro e ws ⟨rfl, bX⟩))
  all_goals
    go_split_ands
    have HBf : Hid (Below w6.heap.size w6 wk) := by assumption
    go_wp2_with fail
    go_ret
    exact ⟨rfl, below_step B6.out HBf.out⟩

set_option maxHeartbeats 6400000 in
set_option maxRecDepth 100000 in
theorem rightLow (A : Option Addr) (c : Nat) (b : List Int) (f m : Nat) (n : Int) (hn : n < 1) (w : World) (hbig : b.length ≤ 100) (hlc : b.length ≤ c) (hf : f < b.length) (hm : m ≤ b.length) (hr : Rd w A c b) :
    Calls Try.prog 3 #[.agg #[.slice A b.length c, .int .i64 (f : Int), .int .i64 (m : Int)], .int .i64 n] w fun e w' => e = .returned (.bool true) ∧ Below w.heap.size w w' := by
  have h1 : (b.length : Int) ≤ 100 := by omega
  have H := Lib.hid (rightB_of hf hm)
  have HE : ∃ l, Hid (msgs b f m = l) := ⟨_, rfl⟩
  obtain ⟨l, HL⟩ := HE
  have HLn : Hid (l.length = m) := by show _ = _; rw [← HL.out, msgs_length]
  have B0 : Hid (Below w.heap.size w (w.alloc (.cells #[.slice A b.length c, .int .i64 (f : Int), .int .i64 (m : Int)] 24))) := below_one _ _
  have C0 : Hid (Box (w.alloc (.cells #[.slice A b.length c, .int .i64 (f : Int), .int .i64 (m : Int)] 24)) w.heap.size A b.length c (f : Int) (m : Int)) := box_new _ _ _ _ _ _
  have R0 : Hid (Rd (w.alloc (.cells #[.slice A b.length c, .int .i64 (f : Int), .int .i64 (m : Int)] 24)) A c b) := hr.alloc _
  clear hr
  go_enter Try.func3, Try.ntmps3
  go_wp2_with fail
  generalize (w.alloc (.cells #[.slice A b.length c, .int .i64 (f : Int), .int .i64 (m : Int)] 24)) = w0 at *
  refine (new_no n _ (.inl hn)).mono ?_
  rintro e w1 ⟨rfl, b1⟩
  have B1 : Hid (Below w.heap.size w (w1.alloc (.cells #[.slice none 0 0, .int .i64 0, .int .i64 0] 24))) := below_step (below_step B0.out b1) (below_one _ _)
  have C1 : Hid (Box (w1.alloc (.cells #[.slice none 0 0, .int .i64 0, .int .i64 0] 24)) w.heap.size A b.length c (f : Int) (m : Int)) := (C0.out.step b1).alloc _
  have R1 : Hid (Rd (w1.alloc (.cells #[.slice none 0 0, .int .i64 0, .int .i64 0] 24)) A c b) := (R0.out.below b1).alloc _
  have X1 : Hid (Box (w1.alloc (.cells #[.slice none 0 0, .int .i64 0, .int .i64 0] 24)) w1.heap.size none 0 0 0 0) := box_new _ _ _ _ _ _
  obtain ⟨⟨r0, r1, r2⟩, _⟩ := C1.out
  clear b1 B0 C0 R0
  go_wp2_with fail
  generalize w1.heap.size = X at *
  generalize (w1.alloc (.cells #[.slice none 0 0, .int .i64 0, .int .i64 0] 24)) = w2 at *
  refine (as_any A b.length c (f : Int) (m : Int) _).mono ?_
  rintro e w3 ⟨rfl, b3⟩
  have B3 := Lib.hid (below_step B1.out b3)
  have C3 := Lib.hid (C1.out.step b3)
  have R3 := Lib.hid (R1.out.below b3)
  have X3 := Lib.hid (X1.out.step b3)
  clear b3 B1 C1 R1 X1 r0 r1 r2
  go_wp2_with fail
  refine (refRight_any A b.length c (f : Int) (m : Int) _ (by omega)).mono ?_
  rintro e w4 ⟨rfl, b4⟩
  rw [H.out]
  have B4 := Lib.hid (below_step B3.out b4)
  have C4 := Lib.hid (C3.out.step b4)
  have R4 := Lib.hid (R3.out.below b4)
  have X4 := Lib.hid (X3.out.step b4)
  obtain ⟨⟨r0, r1, r2⟩, _⟩ := C4.out
  clear b4 B3 C3 R3 X3
  go_wp2_with fail
  refine (list_n A b.length c b l f m _ _ _ rfl rfl rfl HL.out (by omega) hf hm R4.out).mono ?_
  rintro e w5 ⟨A5, c5, rfl, o5, _, b5⟩
  have O5 := Lib.hid o5.rd
  clear o5
  have B5 := Lib.hid (below_step B4.out b5)
  have C5 := Lib.hid (C4.out.step b5)
  have R5 := Lib.hid (R4.out.below b5)
  have X5 := Lib.hid (X4.out.step b5)
  clear b5 B4 C4 R4 X4 r0 r1 r2
  obtain ⟨⟨r0, r1, r2⟩, _⟩ := C5.out
  go_wp2_with fail
  refine (right_any A b.length c (f : Int) (m : Int) _).mono ?_
  rintro e w6 ⟨rfl, b6⟩
  rw [H.out]
  have B6 := Lib.hid (below_step B5.out b6)
  have X6 := Lib.hid (X5.out.step b6)
  have C6 := Lib.hid (C5.out.step b6)
  have R6 := Lib.hid (R5.out.below b6)
  have O6 := Lib.hid (O5.out.below b6)
  clear b6 B5 C5 R5 X5 O5 r0 r1 r2
  obtain ⟨⟨r0, r1, r2⟩, _⟩ := C6.out
  go_wp2_with fail
  refine (as_any A b.length c (f : Int) (m : Int) _).mono ?_
  rintro e w7 ⟨rfl, b7⟩
  have B7 := Lib.hid (below_step B6.out b7)
  have R7 := Lib.hid (R6.out.below b7)
  have O7 := Lib.hid (O6.out.below b7)
  have X7 := Lib.hid (X6.out.step b7)
  clear b7 B6 C6 R6 X6 O6 r0 r1 r2
  go_wp2_with fail
  refine (refList_n A b.length c b l f m _ _ _ rfl rfl rfl HL.out (by omega) hlc hf hm R7.out).mono ?_
  rintro e w8 ⟨g8, c8, rfl, o8, b8⟩
  have P8 := Lib.hid o8
  have B8 := Lib.hid (below_step B7.out b8)
  have O8 := Lib.hid (O7.out.below b8)
  have X8 := Lib.hid (X7.out.step b8)
  clear b8 o8 B7 R7 X7 O7
  go_wp2_with fail
  refine (sameList_n m m A5 (some ⟨g8, 0, none⟩) c5 c8 l _ HLn.out HLn.out (by rw [HLn.out]; omega) O8.out P8.out).mono ?_
  rintro e w9 ⟨rfl, b9⟩
  have B9 := Lib.hid (below_step B8.out b9)
  have X9 := Lib.hid (X8.out.step b9)
  clear b9 B8 X8 O8 P8
  obtain ⟨⟨x0, x1, x2⟩, _⟩ := X9.out
  clear X9
  go_wp2_with fail
  refine (knows_any _).mono ?_
  rintro e wk ⟨rfl, bk⟩
  have Bk := Lib.hid (below_step B9.out bk)
  clear bk x0 x1 x2
  go_wp2_with fail
  go_ret
  exact ⟨rfl, Bk.out⟩

set_option maxHeartbeats 6400000 in
set_option maxRecDepth 100000 in
theorem rightHigh (A : Option Addr) (c : Nat) (b : List Int) (f m : Nat) (n : Int) (hn : 4 < n) (w : World) (hbig : b.length ≤ 100) (hlc : b.length ≤ c) (hf : f < b.length) (hm : m ≤ b.length) (hr : Rd w A c b) :
    Calls Try.prog 3 #[.agg #[.slice A b.length c, .int .i64 (f : Int), .int .i64 (m : Int)], .int .i64 n] w fun e w' => e = .returned (.bool true) ∧ Below w.heap.size w w' := by
  have h1 : (b.length : Int) ≤ 100 := by omega
  have H := Lib.hid (rightB_of hf hm)
  have HE : ∃ l, Hid (msgs b f m = l) := ⟨_, rfl⟩
  obtain ⟨l, HL⟩ := HE
  have HLn : Hid (l.length = m) := by show _ = _; rw [← HL.out, msgs_length]
  have q1 : (1 : Int) ≤ n := by omega
  have B0 : Hid (Below w.heap.size w (w.alloc (.cells #[.slice A b.length c, .int .i64 (f : Int), .int .i64 (m : Int)] 24))) := below_one _ _
  have C0 : Hid (Box (w.alloc (.cells #[.slice A b.length c, .int .i64 (f : Int), .int .i64 (m : Int)] 24)) w.heap.size A b.length c (f : Int) (m : Int)) := box_new _ _ _ _ _ _
  have R0 : Hid (Rd (w.alloc (.cells #[.slice A b.length c, .int .i64 (f : Int), .int .i64 (m : Int)] 24)) A c b) := hr.alloc _
  clear hr
  go_enter Try.func3, Try.ntmps3
  go_wp2_with fail
  generalize (w.alloc (.cells #[.slice A b.length c, .int .i64 (f : Int), .int .i64 (m : Int)] 24)) = w0 at *
  refine (new_no n _ (.inr hn)).mono ?_
  rintro e w1 ⟨rfl, b1⟩
  have B1 : Hid (Below w.heap.size w (w1.alloc (.cells #[.slice none 0 0, .int .i64 0, .int .i64 0] 24))) := below_step (below_step B0.out b1) (below_one _ _)
  have C1 : Hid (Box (w1.alloc (.cells #[.slice none 0 0, .int .i64 0, .int .i64 0] 24)) w.heap.size A b.length c (f : Int) (m : Int)) := (C0.out.step b1).alloc _
  have R1 : Hid (Rd (w1.alloc (.cells #[.slice none 0 0, .int .i64 0, .int .i64 0] 24)) A c b) := (R0.out.below b1).alloc _
  have X1 : Hid (Box (w1.alloc (.cells #[.slice none 0 0, .int .i64 0, .int .i64 0] 24)) w1.heap.size none 0 0 0 0) := box_new _ _ _ _ _ _
  obtain ⟨⟨r0, r1, r2⟩, _⟩ := C1.out
  clear b1 B0 C0 R0
  go_wp2_with fail
  generalize w1.heap.size = X at *
  generalize (w1.alloc (.cells #[.slice none 0 0, .int .i64 0, .int .i64 0] 24)) = w2 at *
  refine (as_any A b.length c (f : Int) (m : Int) _).mono ?_
  rintro e w3 ⟨rfl, b3⟩
  have B3 := Lib.hid (below_step B1.out b3)
  have C3 := Lib.hid (C1.out.step b3)
  have R3 := Lib.hid (R1.out.below b3)
  have X3 := Lib.hid (X1.out.step b3)
  clear b3 B1 C1 R1 X1 r0 r1 r2
  go_wp2_with fail
  refine (refRight_any A b.length c (f : Int) (m : Int) _ (by omega)).mono ?_
  rintro e w4 ⟨rfl, b4⟩
  rw [H.out]
  have B4 := Lib.hid (below_step B3.out b4)
  have C4 := Lib.hid (C3.out.step b4)
  have R4 := Lib.hid (R3.out.below b4)
  have X4 := Lib.hid (X3.out.step b4)
  obtain ⟨⟨r0, r1, r2⟩, _⟩ := C4.out
  clear b4 B3 C3 R3 X3
  go_wp2_with fail
  refine (list_n A b.length c b l f m _ _ _ rfl rfl rfl HL.out (by omega) hf hm R4.out).mono ?_
  rintro e w5 ⟨A5, c5, rfl, o5, _, b5⟩
  have O5 := Lib.hid o5.rd
  clear o5
  have B5 := Lib.hid (below_step B4.out b5)
  have C5 := Lib.hid (C4.out.step b5)
  have R5 := Lib.hid (R4.out.below b5)
  have X5 := Lib.hid (X4.out.step b5)
  clear b5 B4 C4 R4 X4 r0 r1 r2
  obtain ⟨⟨r0, r1, r2⟩, _⟩ := C5.out
  go_wp2_with fail
  refine (right_any A b.length c (f : Int) (m : Int) _).mono ?_
  rintro e w6 ⟨rfl, b6⟩
  rw [H.out]
  have B6 := Lib.hid (below_step B5.out b6)
  have X6 := Lib.hid (X5.out.step b6)
  have C6 := Lib.hid (C5.out.step b6)
  have R6 := Lib.hid (R5.out.below b6)
  have O6 := Lib.hid (O5.out.below b6)
  clear b6 B5 C5 R5 X5 O5 r0 r1 r2
  obtain ⟨⟨r0, r1, r2⟩, _⟩ := C6.out
  go_wp2_with fail
  refine (as_any A b.length c (f : Int) (m : Int) _).mono ?_
  rintro e w7 ⟨rfl, b7⟩
  have B7 := Lib.hid (below_step B6.out b7)
  have R7 := Lib.hid (R6.out.below b7)
  have O7 := Lib.hid (O6.out.below b7)
  have X7 := Lib.hid (X6.out.step b7)
  clear b7 B6 C6 R6 X6 O6 r0 r1 r2
  go_wp2_with fail
  refine (refList_n A b.length c b l f m _ _ _ rfl rfl rfl HL.out (by omega) hlc hf hm R7.out).mono ?_
  rintro e w8 ⟨g8, c8, rfl, o8, b8⟩
  have P8 := Lib.hid o8
  have B8 := Lib.hid (below_step B7.out b8)
  have O8 := Lib.hid (O7.out.below b8)
  have X8 := Lib.hid (X7.out.step b8)
  clear b8 o8 B7 R7 X7 O7
  go_wp2_with fail
  refine (sameList_n m m A5 (some ⟨g8, 0, none⟩) c5 c8 l _ HLn.out HLn.out (by rw [HLn.out]; omega) O8.out P8.out).mono ?_
  rintro e w9 ⟨rfl, b9⟩
  have B9 := Lib.hid (below_step B8.out b9)
  have X9 := Lib.hid (X8.out.step b9)
  clear b9 B8 X8 O8 P8
  obtain ⟨⟨x0, x1, x2⟩, _⟩ := X9.out
  clear X9
  go_wp2_with fail
  refine (knows_any _).mono ?_
  rintro e wk ⟨rfl, bk⟩
  have Bk := Lib.hid (below_step B9.out bk)
  clear bk x0 x1 x2
  go_wp2_with fail
  go_ret
  exact ⟨rfl, Bk.out⟩

set_option maxHeartbeats 6400000 in
set_option maxRecDepth 100000 in
theorem rightIn (A : Option Addr) (c : Nat) (b : List Int) (f m : Nat) (n : Nat) (hn1 : 1 ≤ n) (hn4 : n ≤ 4) (w : World) (hbig : b.length ≤ 100) (hlc : b.length ≤ c) (hf : f < b.length) (hm : m ≤ b.length) (hr : Rd w A c b) :
    Calls Try.prog 3 #[.agg #[.slice A b.length c, .int .i64 (f : Int), .int .i64 (m : Int)], .int .i64 (n : Int)] w fun e w' => e = .returned (.bool true) ∧ Below w.heap.size w w' := by
  have h1 : (b.length : Int) ≤ 100 := by omega
  have H := Lib.hid (rightB_of hf hm)
  have HE : ∃ l, Hid (msgs b f m = l) := ⟨_, rfl⟩
  obtain ⟨l, HL⟩ := HE
  have HLn : Hid (l.length = m) := by show _ = _; rw [← HL.out, msgs_length]
  have q1 : (1 : Int) ≤ (n : Int) := by omega
  have q4 : (n : Int) ≤ 4 := by omega
  obtain ⟨zc, hmk, hzr⟩ := mk_run n (by omega)
  have ZR := Lib.hid hzr
  clear hzr
  have B0 : Hid (Below w.heap.size w (w.alloc (.cells #[.slice A b.length c, .int .i64 (f : Int), .int .i64 (m : Int)] 24))) := below_one _ _
  have C0 : Hid (Box (w.alloc (.cells #[.slice A b.length c, .int .i64 (f : Int), .int .i64 (m : Int)] 24)) w.heap.size A b.length c (f : Int) (m : Int)) := box_new _ _ _ _ _ _
  have R0 : Hid (Rd (w.alloc (.cells #[.slice A b.length c, .int .i64 (f : Int), .int .i64 (m : Int)] 24)) A c b) := hr.alloc _
  clear hr
  go_enter Try.func3, Try.ntmps3
  go_wp2_with fail
  generalize (w.alloc (.cells #[.slice A b.length c, .int .i64 (f : Int), .int .i64 (m : Int)] 24)) = w0 at *
  refine (new_n n _ _ hn1 hn4 rfl).mono ?_
  rintro e w1 ⟨A1, rfl, o1, b1⟩
  have Q1 : Hid (Rd (w1.alloc (.cells #[.slice A1 n n, .int .i64 0, .int .i64 0] 24)) A1 n (zeros n)) := o1.rd.alloc _
  clear o1
  have B1 : Hid (Below w.heap.size w (w1.alloc (.cells #[.slice A1 n n, .int .i64 0, .int .i64 0] 24))) := below_step (below_step B0.out b1) (below_one _ _)
  have C1 : Hid (Box (w1.alloc (.cells #[.slice A1 n n, .int .i64 0, .int .i64 0] 24)) w.heap.size A b.length c (f : Int) (m : Int)) := (C0.out.step b1).alloc _
  have R1 : Hid (Rd (w1.alloc (.cells #[.slice A1 n n, .int .i64 0, .int .i64 0] 24)) A c b) := (R0.out.below b1).alloc _
  have X1 : Hid (Box (w1.alloc (.cells #[.slice A1 n n, .int .i64 0, .int .i64 0] 24)) w1.heap.size A1 n n 0 0) := box_new _ _ _ _ _ _
  obtain ⟨⟨r0, r1, r2⟩, _⟩ := C1.out
  clear b1 B0 C0 R0
  go_wp2_with fail
  generalize w1.heap.size = X at *
  generalize (w1.alloc (.cells #[.slice A1 n n, .int .i64 0, .int .i64 0] 24)) = w2 at *
  refine (as_any A b.length c (f : Int) (m : Int) _).mono ?_
  rintro e w3 ⟨rfl, b3⟩
  have B3 := Lib.hid (below_step B1.out b3)
  have C3 := Lib.hid (C1.out.step b3)
  have R3 := Lib.hid (R1.out.below b3)
  have X3 := Lib.hid (X1.out.step b3)
  have Q3 := Lib.hid (Q1.out.below b3)
  clear Q1
  clear b3 B1 C1 R1 X1 r0 r1 r2
  go_wp2_with fail
  refine (refRight_any A b.length c (f : Int) (m : Int) _ (by omega)).mono ?_
  rintro e w4 ⟨rfl, b4⟩
  rw [H.out]
  have B4 := Lib.hid (below_step B3.out b4)
  have C4 := Lib.hid (C3.out.step b4)
  have R4 := Lib.hid (R3.out.below b4)
  have X4 := Lib.hid (X3.out.step b4)
  have Q4 := Lib.hid (Q3.out.below b4)
  clear Q3
  obtain ⟨⟨r0, r1, r2⟩, _⟩ := C4.out
  clear b4 B3 C3 R3 X3
  go_wp2_with fail
  refine (list_n A b.length c b l f m _ _ _ rfl rfl rfl HL.out (by omega) hf hm R4.out).mono ?_
  rintro e w5 ⟨A5, c5, rfl, o5, _, b5⟩
  have O5 := Lib.hid o5.rd
  clear o5
  have B5 := Lib.hid (below_step B4.out b5)
  have C5 := Lib.hid (C4.out.step b5)
  have R5 := Lib.hid (R4.out.below b5)
  have X5 := Lib.hid (X4.out.step b5)
  have Q5 := Lib.hid (Q4.out.below b5)
  clear Q4
  clear b5 B4 C4 R4 X4 r0 r1 r2
  obtain ⟨⟨r0, r1, r2⟩, _⟩ := C5.out
  go_wp2_with fail
  refine (right_any A b.length c (f : Int) (m : Int) _).mono ?_
  rintro e w6 ⟨rfl, b6⟩
  rw [H.out]
  have B6 := Lib.hid (below_step B5.out b6)
  have X6 := Lib.hid (X5.out.step b6)
  have Q6 := Lib.hid (Q5.out.below b6)
  clear Q5
  have C6 := Lib.hid (C5.out.step b6)
  have R6 := Lib.hid (R5.out.below b6)
  have O6 := Lib.hid (O5.out.below b6)
  clear b6 B5 C5 R5 X5 O5 r0 r1 r2
  obtain ⟨⟨r0, r1, r2⟩, _⟩ := C6.out
  go_wp2_with fail
  refine (as_any A b.length c (f : Int) (m : Int) _).mono ?_
  rintro e w7 ⟨rfl, b7⟩
  have B7 := Lib.hid (below_step B6.out b7)
  have R7 := Lib.hid (R6.out.below b7)
  have O7 := Lib.hid (O6.out.below b7)
  have X7 := Lib.hid (X6.out.step b7)
  have Q7 := Lib.hid (Q6.out.below b7)
  clear Q6
  clear b7 B6 C6 R6 X6 O6 r0 r1 r2
  go_wp2_with fail
  refine (refList_n A b.length c b l f m _ _ _ rfl rfl rfl HL.out (by omega) hlc hf hm R7.out).mono ?_
  rintro e w8 ⟨g8, c8, rfl, o8, b8⟩
  have P8 := Lib.hid o8
  have B8 := Lib.hid (below_step B7.out b8)
  have O8 := Lib.hid (O7.out.below b8)
  have X8 := Lib.hid (X7.out.step b8)
  have Q8 := Lib.hid (Q7.out.below b8)
  clear Q7
  clear b8 o8 B7 R7 X7 O7
  go_wp2_with fail
  refine (sameList_n m m A5 (some ⟨g8, 0, none⟩) c5 c8 l _ HLn.out HLn.out (by rw [HLn.out]; omega) O8.out P8.out).mono ?_
  rintro e w9 ⟨rfl, b9⟩
  have B9 := Lib.hid (below_step B8.out b9)
  have X9 := Lib.hid (X8.out.step b9)
  have Q9 := Lib.hid (Q8.out.below b9)
  clear Q8
  clear b9 B8 X8 O8 P8
  obtain ⟨⟨x0, x1, x2⟩, _⟩ := X9.out
  clear X9
  go_wp2_with fail
  go_region_held3 (fun w' => w'.cell? ⟨X, 0, none⟩ = some (.slice A1 n n) ∧ w'.cell? ⟨X, 1, none⟩ = some (.int .i64 0) ∧ w'.cell? ⟨X, 2, none⟩ = some (.int .i64 0) ∧ Hid (Below w9.heap.size w9 w'))
    (first
      | (go_split_ands; exact ⟨cell_below bX (by assumption), cell_below bX (by assumption), cell_below bX (by assumption), below_step (Hid.out (by assumption)) bX⟩)
      | (go_split_ands; exact ⟨cell_new (by assumption) _, cell_new (by assumption) _, cell_new (by assumption) _, below_step (Hid.out (by assumption)) (below_one _ _)⟩)
      | (exact ⟨x0, x1, x2, (Below.refl _ w9).drew⟩)
      | (exact ⟨cell_new x0 _, cell_new x1 _, cell_new x2 _, (below_one w9 _).drew⟩))
    (first
      | (go_at_call 11; refine (as_any A1 n n 0 0 _).mono ?_; rintro e wa ⟨rfl, bX⟩)
      | (go_at_call 8; refine (knows_any _).mono ?_; rintro e wk ⟨rfl, bX⟩)
      | (go_at_call 16; refine (same_n n n A1 _ n n 0 0 (zeros n) _ (zeros_length n) (zeros_length n) (by rw [zeros_length]; omega) (by go_split_ands; exact Q9.out.below (Hid.out (by assumption))) (by first | exact ZR.out wa | exact (ZR.out w9).drew.below bX)).mono ?_; rintro e ws ⟨rfl, bX⟩))
  all_goals
    go_split_ands
    have HBf : Hid (Below w9.heap.size w9 wk) := by assumption
    go_wp2_with fail
    go_ret
    exact ⟨rfl, below_step B9.out HBf.out⟩

theorem walk (A : Option Addr) (c : Nat) (b : List Int) (f m n : Int) (w : World) (hlc : b.length ≤ c) (hr : Rd w A c b) :
    Calls Try.prog 3 #[.agg #[.slice A b.length c, .int .i64 f, .int .i64 m], .int .i64 n] w fun e w' => e = .returned (.bool true) ∧ Below w.heap.size w w' := by
  by_cases hbig : 100 < b.length
  · exact few A c b f m n w hbig
  · have hb' : b.length ≤ 100 := by omega
    cases hb : rightB b.length f m with
    | false =>
      by_cases h1 : n < 1
      · exact wrongLow A c b f m n h1 w hb' hb hr
      · by_cases h4 : 4 < n
        · exact wrongHigh A c b f m n h4 w hb' hb hr
        · obtain ⟨k, rfl⟩ : ∃ k : Nat, n = (k : Int) := ⟨n.toNat, by omega⟩
          exact wrongIn A c b f m k (by omega) (by omega) w hb' hb hr
    | true =>
      obtain ⟨F, M, rfl, rfl, hF, hM⟩ := rightB_nat hb
      by_cases h1 : n < 1
      · exact rightLow A c b F M n h1 w hb' hlc hF hM hr
      · by_cases h4 : 4 < n
        · exact rightHigh A c b F M n h4 w hb' hlc hF hM hr
        · obtain ⟨k, rfl⟩ : ∃ k : Nat, n = (k : Int) := ⟨n.toNat, by omega⟩
          exact rightIn A c b F M k (by omega) (by omega) w hb' hlc hF hM hr

set_option maxRecDepth 100000 in
theorem lifted (os : Os) (started : os.Started) (H : Type) (enc : TypeId × Value → H) :
    ReturnsInHanded {} Try.checked os 3 .any (Rows.ringNewsSpec.pre6 enc Try.prog Try.f3 Rows.ringNewsRow.domain false) (Rows.ringNewsSpec.post enc Try.prog Try.f3 false true false false) := by
  refine returnsInHanded_of_change (C := Try.checked) own started (by kernel_rfl) Try.func3
    (ChangeSpec.witness6 (enc := enc) (C := Try.checked) false ⟨#[], #[.agg #[.slice none 0 0, .int .i64 0, .int .i64 0], .int .i64 0], []⟩ 8 (by kernel_rfl) (by kernel_rfl) (by kernel_rfl) (by kernel_rfl)) ?_
  intro W base args ds gs before hval0 hW hcnd _
  have hval : ∀ (j : Nat) t v, Try.f3.params[j]? = some t → args[j]? = some v → Value.okWide Try.prog W .any base t v := hval0
  have hW' := hW
  obtain ⟨p, q, hA0, hV, rfl, hfz, hnd⟩ := hW
  have hA : DataW.TrodAll enc Try.prog W 0 (fun _ => true) true Try.f3.params.toList args.toList ds p := hA0
  rw [Try.params3] at hA hval
  obtain ⟨v0, v1, d0, d1, p0, p1, rfl, rfl, rfl, h0, h1⟩ := trodAll_two hA
  obtain ⟨rfl, rfl⟩ := trodVars_none hV
  obtain ⟨A0, c0, b0, f0, m0, rfl, hlc0, hr0⟩ := open_ring (hval 0 24 v0 rfl rfl) h0
  obtain ⟨n1, rfl⟩ := open_num (hval 1 3 v1 rfl rfl) h1
  clear hA0 hval0
  refine (walk A0 c0 b0 f0 m0 n1 W hlc0 hr0 ).mono fun e W' ⟨he, bel⟩ => ?_
  subst he
  have hlt0 : ∀ x ∈ p0, x.block < W.heap.size := fun x hx => hW'.lt x (by simp [hx])
  have hlt1 : ∀ x ∈ p1, x.block < W.heap.size := fun x hx => hW'.lt x (by simp [hx])
  exact ⟨_, rfl, _, _, _, [], _, [], hW', trodAll_mk1 (shut_bool Try.underlying4 _), trodAll_mk2 (Below.trod laidOut (by kernel_rfl) (of_decide_eq_true (by kernel_rfl)) h0 bel hlt0) (Below.trod laidOut (by kernel_rfl) (of_decide_eq_true (by kernel_rfl)) h1 bel hlt1), rfl, bel.frame _, fun h => by cases h⟩

/-- The statement. -/
theorem proved : Rows.RingNewsSaid :=
  OpenClaim.holds_of_wide 3 Try.f3 rfl rfl rfl rfl rfl rfl rfl ⟨rfl, rfl, rfl, rfl, rfl⟩ rfl rfl rfl rfl rfl (by kernel_rfl) Try.func3 (by kernel_rfl)
    (of_decide_eq_true (by kernel_rfl)) (by unfold Func.isWrapper; first | (rw [if_pos (by decide +kernel)]; kernel_rfl) | (rw [if_neg (by decide +kernel)]; exact ⟨rfl, rfl⟩))
    (fun os started H enc _ => lifted os started H enc)
#print axioms proved


end Go.Proofs.Ytilabonjjiiabaa.ringNews
