/-
  For every ring the statement RingPops of layer 3 returns true (the first message, and a ring without it, is what the document says, or the error is told), and its argument reads as before. No condition.
-/
import Derived.Test.YtilabonjjiiabaaLaw03Args
import Derived.Deep.RegionHeld3
import Derived.Deep.RegionWith
namespace Go.Proofs.Ytilabonjjiiabaa.ringPops
open Go.ChangeShapes Go.WideShapes Go.ChangeAt Go.RowKit
open Rn
attribute [local go_sem ↓] Go.wp_at_zero Go.wp_at_succ
attribute [local go_sem ↓] build_ring build_some build_none build_ref build_refSome

theorem few (A : Option Addr) (c : Nat) (b : List Int) (f m : Int) (w : World) (hbig : 100 < b.length) :
    Calls Try.prog 5 #[.agg #[.slice A b.length c, .int .i64 f, .int .i64 m]] w fun e w' => e = .returned (.bool true) ∧ Below w.heap.size w w' := by
  have h1 : (100 : Int) < (b.length : Int) := by omega
  have B0 := Lib.hid (below_one w (.cells #[.slice A b.length c, .int .i64 f, .int .i64 m] 24))
  go_enter Try.func5, Try.ntmps5
  go_wp2_with fail
  refine (knows_any _).mono ?_
  rintro e w1 ⟨rfl, b1⟩
  have B1 := Lib.hid (below_step B0.out b1)
  clear b1
  go_wp2_with fail
  go_ret
  exact ⟨rfl, B1.out⟩

set_option maxHeartbeats 3200000 in
set_option maxRecDepth 100000 in
theorem no (A : Option Addr) (c : Nat) (b : List Int) (f m : Int) (w : World) (hbig : b.length ≤ 100) (h : rightB b.length f m = false) (hr : Rd w A c b) :
    Calls Try.prog 5 #[.agg #[.slice A b.length c, .int .i64 f, .int .i64 m]] w fun e w' => e = .returned (.bool true) ∧ Below w.heap.size w w' := by
  have h1 : (b.length : Int) ≤ 100 := by omega
  have H := Lib.hid h
  have B0 : Hid (Below w.heap.size w (w.alloc (.cells #[.slice A b.length c, .int .i64 f, .int .i64 m] 24))) := below_one _ _
  have C0 : Hid (Box (w.alloc (.cells #[.slice A b.length c, .int .i64 f, .int .i64 m] 24)) w.heap.size A b.length c f m) := box_new _ _ _ _ _ _
  have R0 : Hid (Rd (w.alloc (.cells #[.slice A b.length c, .int .i64 f, .int .i64 m] 24)) A c b) := hr.alloc _
  clear h hr
  go_enter Try.func5, Try.ntmps5
  go_wp2_with fail
  generalize (w.alloc (.cells #[.slice A b.length c, .int .i64 f, .int .i64 m] 24)) = w0 at *
  refine (pop_no A b.length c f m _ H.out).mono ?_
  rintro e w1 ⟨rfl, b1⟩
  have B1 : Hid (Below w.heap.size w (w1.alloc (.cells #[.slice A b.length c, .int .i64 f, .int .i64 m] 24))) := below_step (below_step B0.out b1) (below_one _ _)
  have C1 : Hid (Box (w1.alloc (.cells #[.slice A b.length c, .int .i64 f, .int .i64 m] 24)) w.heap.size A b.length c f m) := (C0.out.step b1).alloc _
  have R1 : Hid (Rd (w1.alloc (.cells #[.slice A b.length c, .int .i64 f, .int .i64 m] 24)) A c b) := (R0.out.below b1).alloc _
  have X1 : Hid (Box (w1.alloc (.cells #[.slice A b.length c, .int .i64 f, .int .i64 m] 24)) w1.heap.size A b.length c f m) := box_new _ _ _ _ _ _
  obtain ⟨⟨r0, r1, r2⟩, _⟩ := C1.out
  clear b1 B0 C0 R0
  go_wp2_with fail
  generalize w1.heap.size = X at *
  generalize (w1.alloc (.cells #[.slice A b.length c, .int .i64 f, .int .i64 m] 24)) = w2 at *
  refine (as_any A b.length c f m _).mono ?_
  rintro e w3 ⟨rfl, b3⟩
  have B3 : Hid (Below w.heap.size w (w3.alloc (.cells #[.slice A b.length c, .int .i64 f, .int .i64 m] 30))) := below_step (below_step B1.out b3) (below_one _ _)
  have X3 : Hid (Box (w3.alloc (.cells #[.slice A b.length c, .int .i64 f, .int .i64 m] 30)) X A b.length c f m) := (X1.out.step b3).alloc _
  have R3 : Hid (Rd (w3.alloc (.cells #[.slice A b.length c, .int .i64 f, .int .i64 m] 30)) A c b) := (R1.out.below b3).alloc _
  have Y3 : Hid (Box (w3.alloc (.cells #[.slice A b.length c, .int .i64 f, .int .i64 m] 30)) w3.heap.size A b.length c f m) := boxR_new _ _ _ _ _ _
  clear b3 B1 C1 R1 X1 r0 r1 r2
  go_wp2_with fail
  generalize w3.heap.size = Y at *
  generalize (w3.alloc (.cells #[.slice A b.length c, .int .i64 f, .int .i64 m] 30)) = w4 at *
  refine (refRight_any A b.length c f m _ (by omega)).mono ?_
  rintro e w5 ⟨rfl, b5⟩
  rw [H.out]
  have B5 := Lib.hid (below_step B3.out b5)
  have R5 := Lib.hid (R3.out.below b5)
  obtain ⟨⟨x0, x1, x2⟩, _⟩ := X3.out.step b5
  obtain ⟨⟨y0, y1, y2⟩, _⟩ := Y3.out.step b5
  clear b5 B3 X3 R3 Y3
  go_wp2_with fail
  go_region_held3 (fun w' => w'.cell? ⟨X, 0, none⟩ = some (.slice A b.length c) ∧ w'.cell? ⟨X, 1, none⟩ = some (.int .i64 f) ∧ w'.cell? ⟨X, 2, none⟩ = some (.int .i64 m) ∧ w'.cell? ⟨Y, 0, none⟩ = some (.slice A b.length c) ∧ w'.cell? ⟨Y, 1, none⟩ = some (.int .i64 f) ∧ w'.cell? ⟨Y, 2, none⟩ = some (.int .i64 m) ∧ Hid (Below w5.heap.size w5 w'))
    (first
      | (go_split_ands; exact ⟨cell_below bX (by assumption), cell_below bX (by assumption), cell_below bX (by assumption), cell_below bX (by assumption), cell_below bX (by assumption), cell_below bX (by assumption), below_step (Hid.out (by assumption)) bX⟩)
      | (exact ⟨x0, x1, x2, y0, y1, y2, (Below.refl _ w5).drew⟩))
    (first
      | (go_at_call 11; refine (as_any A b.length c f m _).mono ?_; rintro e w6 ⟨rfl, bX⟩)
      | (go_at_call 16; refine (same_n b.length b.length A A c c f m b _ rfl rfl (by omega) (by go_split_ands; exact R5.out.below (Hid.out (by assumption))) (by go_split_ands; exact R5.out.below (Hid.out (by assumption)))).mono ?_; rintro e w7 ⟨rfl, bX⟩)
      | (go_at_call 8; refine (knows_any _).mono ?_; rintro e w8 ⟨rfl, bX⟩))
  all_goals
    go_split_ands
    have HBf : Hid (Below w5.heap.size w5 w8) := by assumption
    go_wp2_with fail
    go_ret
    exact ⟨rfl, below_step B5.out HBf.out⟩

set_option maxHeartbeats 3200000 in
set_option maxRecDepth 100000 in
theorem empty (A : Option Addr) (c : Nat) (b : List Int) (f : Nat) (w : World) (hbig : b.length ≤ 100) (hf : f < b.length) (hr : Rd w A c b) :
    Calls Try.prog 5 #[.agg #[.slice A b.length c, .int .i64 (f : Int), .int .i64 0]] w fun e w' => e = .returned (.bool true) ∧ Below w.heap.size w w' := by
  have h1 : (b.length : Int) ≤ 100 := by omega
  have H : Hid (rightB b.length (f : Int) 0 = true) := rightB_of (M := 0) hf (Nat.zero_le _)
  have B0 : Hid (Below w.heap.size w (w.alloc (.cells #[.slice A b.length c, .int .i64 (f : Int), .int .i64 0] 24))) := below_one _ _
  have C0 : Hid (Box (w.alloc (.cells #[.slice A b.length c, .int .i64 (f : Int), .int .i64 0] 24)) w.heap.size A b.length c (f : Int) 0) := box_new _ _ _ _ _ _
  have R0 : Hid (Rd (w.alloc (.cells #[.slice A b.length c, .int .i64 (f : Int), .int .i64 0] 24)) A c b) := hr.alloc _
  clear hr
  go_enter Try.func5, Try.ntmps5
  go_wp2_with fail
  generalize (w.alloc (.cells #[.slice A b.length c, .int .i64 (f : Int), .int .i64 0] 24)) = w0 at *
  refine (pop_none A b.length c f _ hf).mono ?_
  rintro e w1 ⟨rfl, b1⟩
  have B1 : Hid (Below w.heap.size w (w1.alloc (.cells #[.slice A b.length c, .int .i64 (f : Int), .int .i64 0] 24))) := below_step (below_step B0.out b1) (below_one _ _)
  have C1 : Hid (Box (w1.alloc (.cells #[.slice A b.length c, .int .i64 (f : Int), .int .i64 0] 24)) w.heap.size A b.length c (f : Int) 0) := (C0.out.step b1).alloc _
  have R1 : Hid (Rd (w1.alloc (.cells #[.slice A b.length c, .int .i64 (f : Int), .int .i64 0] 24)) A c b) := (R0.out.below b1).alloc _
  have X1 : Hid (Box (w1.alloc (.cells #[.slice A b.length c, .int .i64 (f : Int), .int .i64 0] 24)) w1.heap.size A b.length c (f : Int) 0) := box_new _ _ _ _ _ _
  obtain ⟨⟨r0, r1, r2⟩, _⟩ := C1.out
  clear b1 B0 C0 R0
  go_wp2_with fail
  generalize w1.heap.size = X at *
  generalize (w1.alloc (.cells #[.slice A b.length c, .int .i64 (f : Int), .int .i64 0] 24)) = w2 at *
  refine (as_any A b.length c (f : Int) 0 _).mono ?_
  rintro e w3 ⟨rfl, b3⟩
  have B3 : Hid (Below w.heap.size w (w3.alloc (.cells #[.slice A b.length c, .int .i64 (f : Int), .int .i64 0] 30))) := below_step (below_step B1.out b3) (below_one _ _)
  have X3 : Hid (Box (w3.alloc (.cells #[.slice A b.length c, .int .i64 (f : Int), .int .i64 0] 30)) X A b.length c (f : Int) 0) := (X1.out.step b3).alloc _
  have C3 : Hid (Box (w3.alloc (.cells #[.slice A b.length c, .int .i64 (f : Int), .int .i64 0] 30)) w.heap.size A b.length c (f : Int) 0) := (C1.out.step b3).alloc _
  have R3 : Hid (Rd (w3.alloc (.cells #[.slice A b.length c, .int .i64 (f : Int), .int .i64 0] 30)) A c b) := (R1.out.below b3).alloc _
  have Y3 : Hid (Box (w3.alloc (.cells #[.slice A b.length c, .int .i64 (f : Int), .int .i64 0] 30)) w3.heap.size A b.length c (f : Int) 0) := boxR_new _ _ _ _ _ _
  clear b3 B1 C1 R1 X1 r0 r1 r2
  go_wp2_with fail
  generalize w3.heap.size = Y at *
  generalize (w3.alloc (.cells #[.slice A b.length c, .int .i64 (f : Int), .int .i64 0] 30)) = w4 at *
  refine (refRight_any A b.length c (f : Int) 0 _ (by omega)).mono ?_
  rintro e w5 ⟨rfl, b5⟩
  rw [H.out]
  have B5 := Lib.hid (below_step B3.out b5)
  have R5 := Lib.hid (R3.out.below b5)
  obtain ⟨⟨x0, x1, x2⟩, _⟩ := X3.out.step b5
  obtain ⟨⟨y0, y1, y2⟩, _⟩ := Y3.out.step b5
  obtain ⟨⟨r0, r1, r2⟩, _⟩ := C3.out.step b5
  clear b5 B3 X3 R3 Y3 C3
  go_wp2_with fail
  clear r0 r1 r2
  go_region_held3 (fun w' => w'.cell? ⟨X, 0, none⟩ = some (.slice A b.length c) ∧ w'.cell? ⟨X, 1, none⟩ = some (.int .i64 (f : Int)) ∧ w'.cell? ⟨X, 2, none⟩ = some (.int .i64 0) ∧ w'.cell? ⟨Y, 0, none⟩ = some (.slice A b.length c) ∧ w'.cell? ⟨Y, 1, none⟩ = some (.int .i64 (f : Int)) ∧ w'.cell? ⟨Y, 2, none⟩ = some (.int .i64 0) ∧ Hid (Below w5.heap.size w5 w'))
    (first
      | (go_split_ands; exact ⟨cell_below bX (by assumption), cell_below bX (by assumption), cell_below bX (by assumption), cell_below bX (by assumption), cell_below bX (by assumption), cell_below bX (by assumption), below_step (Hid.out (by assumption)) bX⟩)
      | (exact ⟨x0, x1, x2, y0, y1, y2, (Below.refl _ w5).drew⟩))
    (first
      | (go_at_call 11; refine (as_any A b.length c (f : Int) 0 _).mono ?_; rintro e w6 ⟨rfl, bX⟩)
      | (go_at_call 16; refine (same_n b.length b.length A A c c (f : Int) 0 b _ rfl rfl (by omega) (by go_split_ands; exact R5.out.below (Hid.out (by assumption))) (by go_split_ands; exact R5.out.below (Hid.out (by assumption)))).mono ?_; rintro e w7 ⟨rfl, bX⟩)
      | (go_at_call 8; refine (knows_any _).mono ?_; rintro e w8 ⟨rfl, bX⟩))
  all_goals
    go_split_ands
    have HBf : Hid (Below w5.heap.size w5 w8) := by assumption
    go_wp2_with fail
    go_ret
    exact ⟨rfl, below_step B5.out HBf.out⟩

set_option maxHeartbeats 6400000 in
set_option maxRecDepth 100000 in
theorem some_ (A : Option Addr) (c : Nat) (b : List Int) (f m M : Nat) (w : World) (hbig : b.length ≤ 100) (hlc : b.length ≤ c) (hf : f < b.length) (hM : M ≤ b.length) (hMm : M = m + 1) (hr : Rd w A c b) :
    Calls Try.prog 5 #[.agg #[.slice A b.length c, .int .i64 (f : Int), .int .i64 (M : Int)]] w fun e w' => e = .returned (.bool true) ∧ Below w.heap.size w w' := by
  have h1 : (b.length : Int) ≤ 100 := by omega
  have hne : ((M : Int) == 0) = false := beq_eq_false_iff_ne.2 (by omega)
  have hM0 : (0 : Int) < (M : Int) := by omega
  have hM1 : 0 < M := by omega
  have hm : m < b.length := by omega
  have HMm : Hid ((M : Int) = (m : Int) + 1) := by show _ = _; omega
  have H := Lib.hid (rightB_of hf hM)
  have HE : ∃ p, Hid (p = (f + 1) % b.length) := ⟨_, rfl⟩
  obtain ⟨p, HP⟩ := HE
  have HE : ∃ l, Hid (msgs b f M = l) := ⟨_, rfl⟩
  obtain ⟨l, HL⟩ := HE
  have HL0 : Hid (at_ l 0 = at_ b f) := by show _ = _; rw [← HL.out]; exact msgs_one b f hf M (by omega)
  have HLn : Hid (l.length = M) := by show _ = _; rw [← HL.out, msgs_length]
  have B0 : Hid (Below w.heap.size w (w.alloc (.cells #[.slice A b.length c, .int .i64 (f : Int), .int .i64 (M : Int)] 24))) := below_one _ _
  have C0 : Hid (Box (w.alloc (.cells #[.slice A b.length c, .int .i64 (f : Int), .int .i64 (M : Int)] 24)) w.heap.size A b.length c (f : Int) (M : Int)) := box_new _ _ _ _ _ _
  have R0 : Hid (Rd (w.alloc (.cells #[.slice A b.length c, .int .i64 (f : Int), .int .i64 (M : Int)] 24)) A c b) := hr.alloc _
  clear hr hMm
  go_enter Try.func5, Try.ntmps5
  go_wp2_with fail
  generalize (w.alloc (.cells #[.slice A b.length c, .int .i64 (f : Int), .int .i64 (M : Int)] 24)) = w0 at *
  refine (pop_n A b.length c b f p m _ (p : Int) _ (m : Int) (at_ b f) _ rfl rfl HP.out rfl HMm.out rfl rfl (by omega) hf hm R0.out).mono ?_
  rintro e w1 ⟨rfl, b1⟩
  have B1 : Hid (Below w.heap.size w (w1.alloc (.cells #[.slice A b.length c, .int .i64 (p : Int), .int .i64 (m : Int)] 24))) := below_step (below_step B0.out b1) (below_one _ _)
  have C1 : Hid (Box (w1.alloc (.cells #[.slice A b.length c, .int .i64 (p : Int), .int .i64 (m : Int)] 24)) w.heap.size A b.length c (f : Int) (M : Int)) := (C0.out.step b1).alloc _
  have R1 : Hid (Rd (w1.alloc (.cells #[.slice A b.length c, .int .i64 (p : Int), .int .i64 (m : Int)] 24)) A c b) := (R0.out.below b1).alloc _
  have X1 : Hid (Box (w1.alloc (.cells #[.slice A b.length c, .int .i64 (p : Int), .int .i64 (m : Int)] 24)) w1.heap.size A b.length c (p : Int) (m : Int)) := box_new _ _ _ _ _ _
  obtain ⟨⟨r0, r1, r2⟩, _⟩ := C1.out
  clear b1 B0 C0 R0
  go_wp2_with fail
  generalize w1.heap.size = X at *
  generalize (w1.alloc (.cells #[.slice A b.length c, .int .i64 (p : Int), .int .i64 (m : Int)] 24)) = w2 at *
  refine (as_any A b.length c (f : Int) (M : Int) _).mono ?_
  rintro e w3 ⟨rfl, b3⟩
  have B3 : Hid (Below w.heap.size w (w3.alloc (.cells #[.slice A b.length c, .int .i64 (f : Int), .int .i64 (M : Int)] 30))) := below_step (below_step B1.out b3) (below_one _ _)
  have X3 : Hid (Box (w3.alloc (.cells #[.slice A b.length c, .int .i64 (f : Int), .int .i64 (M : Int)] 30)) X A b.length c (p : Int) (m : Int)) := (X1.out.step b3).alloc _
  have C3 : Hid (Box (w3.alloc (.cells #[.slice A b.length c, .int .i64 (f : Int), .int .i64 (M : Int)] 30)) w.heap.size A b.length c (f : Int) (M : Int)) := (C1.out.step b3).alloc _
  have R3 : Hid (Rd (w3.alloc (.cells #[.slice A b.length c, .int .i64 (f : Int), .int .i64 (M : Int)] 30)) A c b) := (R1.out.below b3).alloc _
  have Y3 : Hid (Box (w3.alloc (.cells #[.slice A b.length c, .int .i64 (f : Int), .int .i64 (M : Int)] 30)) w3.heap.size A b.length c (f : Int) (M : Int)) := boxR_new _ _ _ _ _ _
  clear b3 B1 C1 R1 X1 r0 r1 r2
  go_wp2_with fail
  generalize w3.heap.size = Y at *
  generalize (w3.alloc (.cells #[.slice A b.length c, .int .i64 (f : Int), .int .i64 (M : Int)] 30)) = w4 at *
  refine (refRight_any A b.length c (f : Int) (M : Int) _ (by omega)).mono ?_
  rintro e w5 ⟨rfl, b5⟩
  rw [H.out]
  have B5 := Lib.hid (below_step B3.out b5)
  have R5 := Lib.hid (R3.out.below b5)
  obtain ⟨⟨x0, x1, x2⟩, _⟩ := X3.out.step b5
  obtain ⟨⟨y0, y1, y2⟩, _⟩ := Y3.out.step b5
  obtain ⟨⟨r0, r1, r2⟩, _⟩ := C3.out.step b5
  clear b5 B3 X3 R3 Y3 C3
  go_wp2_with fail
  clear r0 r1 r2
  go_region_with (first
      | (go_at_call 15; refine (refList_n A b.length c b l f M _ _ _ rfl rfl rfl HL.out (by omega) hlc hf hM (by exact R5.out.drew)).mono ?_; rintro e w6 ⟨g, c6, rfl, o6, b6⟩
         have bX : Below w5.heap.size w5 w6 := (Below.refl _ w5).drew.trans b6
         have u0 : w6.cell? ⟨g, 0, none⟩ = some (.int .i64 (at_ b f)) := by
           obtain ⟨g', off', e', hc⟩ := o6.2 (by rw [HLn.out]; omega)
           injection e' with e'
           injection e' with e1 e2
           subst e1
           subst e2
           have := hc 0 (by rw [HLn.out]; omega)
           rw [HL0.out] at this
           exact this
         have x0 := cell_below bX x0
         have x1 := cell_below bX x1
         have x2 := cell_below bX x2
         have y0 := cell_below bX y0
         have y1 := cell_below bX y1
         have y2 := cell_below bX y2
         have R5 := Lib.hid (R5.out.below bX)
         have HBx := Lib.hid bX
         clear o6 b6 bX)
      | (go_at_call 11; refine (as_any A b.length c (p : Int) (m : Int) _).mono ?_; rintro e w7 ⟨rfl, bX⟩
         have x0 := cell_below bX x0
         have x1 := cell_below bX x1
         have x2 := cell_below bX x2
         have y0 := cell_below bX y0
         have y1 := cell_below bX y1
         have y2 := cell_below bX y2
         have R5 := Lib.hid (R5.out.below bX)
         have HBx := Lib.hid (below_step HBx.out bX)
         clear bX)
      | (go_at_call 20; refine (refLess_n A b.length c f p m _ (p : Int) _ (m : Int) _ rfl HP.out rfl HMm.out rfl (by omega) hf hm).mono ?_; rintro e w8 ⟨rfl, bX⟩
         have x0 := cell_below bX x0
         have x1 := cell_below bX x1
         have x2 := cell_below bX x2
         have y0 := cell_below bX y0
         have y1 := cell_below bX y1
         have y2 := cell_below bX y2
         have R5 := Lib.hid (R5.out.below bX)
         have HBx := Lib.hid (below_step HBx.out bX)
         clear bX)
      | (go_at_call 16; refine (same_n b.length b.length A A c c _ _ b _ rfl rfl (by omega) (by exact R5.out) (by exact R5.out)).mono ?_; rintro e w9 ⟨rfl, bX⟩
         have x0 := cell_below bX x0
         have x1 := cell_below bX x1
         have x2 := cell_below bX x2
         have y0 := cell_below bX y0
         have y1 := cell_below bX y1
         have y2 := cell_below bX y2
         have R5 := Lib.hid (R5.out.below bX)
         have HBx := Lib.hid (below_step HBx.out bX)
         clear bX)
      | (go_at_call 8; refine (knows_any _).mono ?_; rintro e wk ⟨rfl, bX⟩
         have x0 := cell_below bX x0
         have x1 := cell_below bX x1
         have x2 := cell_below bX x2
         have y0 := cell_below bX y0
         have y1 := cell_below bX y1
         have y2 := cell_below bX y2
         have R5 := Lib.hid (R5.out.below bX)
         have HBx := Lib.hid (below_step HBx.out bX)
         clear bX))
  all_goals
    have HBf : Hid (Below w5.heap.size w5 wk) := HBx
    clear x0 x1 x2 y0 y1 y2
    go_wp2_with fail
    go_ret
    exact ⟨rfl, below_step B5.out HBf.out⟩

theorem walk (A : Option Addr) (c : Nat) (b : List Int) (f m : Int) (w : World) (hlc : b.length ≤ c) (hr : Rd w A c b) :
    Calls Try.prog 5 #[.agg #[.slice A b.length c, .int .i64 f, .int .i64 m]] w fun e w' => e = .returned (.bool true) ∧ Below w.heap.size w w' := by
  by_cases hbig : 100 < b.length
  · exact few A c b f m w hbig
  · cases hb : rightB b.length f m with
    | false => exact no A c b f m w (by omega) hb hr
    | true =>
      obtain ⟨F, M, rfl, rfl, hF, hM⟩ := rightB_nat hb
      by_cases h : M = 0
      · subst h
        exact empty A c b F w (by omega) hF hr
      · exact some_ A c b F (M - 1) M w (by omega) hlc hF hM (by omega) hr

set_option maxRecDepth 100000 in
theorem lifted (os : Os) (started : os.Started) (H : Type) (enc : TypeId × Value → H) :
    ReturnsInHanded {} Try.checked os 5 .any (Rows.ringPopsSpec.pre6 enc Try.prog Try.f5 Rows.ringPopsRow.domain false) (Rows.ringPopsSpec.post enc Try.prog Try.f5 false true false false) := by
  refine returnsInHanded_of_change (C := Try.checked) own started (by kernel_rfl) Try.func5
    (ChangeSpec.witness6 (enc := enc) (C := Try.checked) false ⟨#[], #[.agg #[.slice none 0 0, .int .i64 0, .int .i64 0]], []⟩ 8 (by kernel_rfl) (by kernel_rfl) (by kernel_rfl) (by kernel_rfl)) ?_
  intro W base args ds gs before hval0 hW hcnd _
  have hval : ∀ (j : Nat) t v, Try.f5.params[j]? = some t → args[j]? = some v → Value.okWide Try.prog W .any base t v := hval0
  have hW' := hW
  obtain ⟨p, q, hA0, hV, rfl, hfz, hnd⟩ := hW
  have hA : DataW.TrodAll enc Try.prog W 0 (fun _ => true) true Try.f5.params.toList args.toList ds p := hA0
  rw [Try.params5] at hA hval
  obtain ⟨v0, d0, rfl, rfl, h0⟩ := trodAll_one hA
  obtain ⟨rfl, rfl⟩ := trodVars_none hV
  obtain ⟨A0, c0, b0, f0, m0, rfl, hlc0, hr0⟩ := open_ring (hval 0 24 v0 rfl rfl) h0
  clear hA0 hval0
  refine (walk A0 c0 b0 f0 m0 W hlc0 hr0).mono fun e W' ⟨he, bel⟩ => ?_
  subst he
  have hlt0 : ∀ x ∈ p, x.block < W.heap.size := fun x hx => hW'.lt x (by simpa using hx)
  exact ⟨_, rfl, _, _, _, [], _, [], hW', trodAll_mk1 (shut_bool Try.underlying4 _), trodAll_mk1 (Below.trod laidOut (by kernel_rfl) (of_decide_eq_true (by kernel_rfl)) h0 bel hlt0), rfl, bel.frame _, fun h => by cases h⟩

/-- The statement. -/
theorem proved : Rows.RingPopsSaid :=
  OpenClaim.holds_of_wide 5 Try.f5 rfl rfl rfl rfl rfl rfl rfl ⟨rfl, rfl, rfl, rfl, rfl⟩ rfl rfl rfl rfl rfl (by kernel_rfl) Try.func5 (by kernel_rfl)
    (of_decide_eq_true (by kernel_rfl)) (by unfold Func.isWrapper; first | (rw [if_pos (by decide +kernel)]; kernel_rfl) | (rw [if_neg (by decide +kernel)]; exact ⟨rfl, rfl⟩))
    (fun os started H enc _ => lifted os started H enc)
#print axioms proved


end Go.Proofs.Ytilabonjjiiabaa.ringPops
