/-
  Layer 3 (ring): Put to a full ring, Pop.
-/
import Derived.Test.YtilabonjjiiabaaRingPush
import Derived.BigRegion
namespace Go.Proofs.Ytilabonjjiiabaa
open Go.RowKit
namespace Rn
attribute [local go_sem ↓] Go.wp_at_zero Go.wp_at_succ
attribute [local go_sem ↓] build_ring build_some build_none build_ref build_refSome

/-- Put to a full ring: the first message is lost -/
def PutOf (w : World) (b : List Int) (f m : Nat) (v : Int) (e : Ending) (w' : World) : Prop :=
  ∃ (A : Option Addr) (c p : Nat), p = (f + 1) % b.length ∧ e = .returned (.agg #[.slice A b.length c, .int .i64 (p : Int), .int .i64 ((m : Int) + 1)]) ∧ Ow w' w.heap.size A c (b.set ((p + m) % b.length) v) ∧ Below w.heap.size w w'

set_option maxHeartbeats 800000 in
theorem put_full (A : Option Addr) (c : Nat) (b : List Int) (f m : Nat) (M v : Int) (w : World) (hbig : b.length ≤ 100000) (hf : f < b.length) (hm : m + 1 = b.length) (hM : M = (b.length : Int)) (hr : Rd w A c b) :
    Calls Try.prog 21 #[.agg #[.slice A b.length c, .int .i64 (f : Int), .int .i64 M], .int .i64 v] w (PutOf w b f m v) := by
  subst hM
  have H := Lib.hid (rightB_of hf (Nat.le_refl b.length))
  have T0 := Lib.hid (two_new w A b.length c (f : Int) (b.length : Int))
  have HR := Lib.hid hr
  clear hr
  go_enter Try.func21, Try.ntmps21
  go_wp2_with fail
  generalize ((w.alloc (.cells #[.slice A b.length c, .int .i64 (f : Int), .int .i64 (b.length : Int)] 24)).alloc (.cells #[.slice none 0 0, .int .i64 0, .int .i64 0] 24)) = w0 at *
  refine (right_any A b.length c (f : Int) (b.length : Int) _).mono ?_
  rintro e w1 ⟨rfl, b1⟩
  rw [H.out]
  have T1 := Lib.hid (T0.out.step b1)
  obtain ⟨⟨x0, x1, x2⟩, _, _, _, _, _⟩ := T1.out
  clear b1
  go_wp2_with fail
  refine (full_any A b.length c (f : Int) (b.length : Int) _).mono ?_
  rintro e w2 ⟨rfl, b2⟩
  have T2 := Lib.hid (T1.out.step b2)
  clear x0 x1 x2
  obtain ⟨⟨x0, x1, x2⟩, _, _, _, _, _⟩ := T2.out
  clear b2
  go_wp2_with fail
  refine (less_any A b.length c f m _ _ (by omega) hf (by omega) (by omega)).mono ?_
  rintro e w3 ⟨p, rfl, hp, b3⟩
  have HPl := Lib.hid hp
  have hpn : p < b.length := by rw [hp]; exact place_lt _ (by omega)
  have T3 := Lib.hid (T2.out.step b3)
  clear x0 x1 x2 hp
  obtain ⟨⟨x0, x1, x2⟩, ⟨y0, y1, y2⟩, ⟨f0, f1, f2⟩, ⟨g0, g1, g2⟩, HBw, HZ⟩ := T3.out
  have HR3 := Lib.hid (HR.out.below HBw)
  have HZ3 := Lib.hid HZ
  have HB3 := Lib.hid HBw
  clear b3 HBw HZ
  go_wp2_with fail
  have HR4 : Hid (Rd (((w3.setCell ⟨w.heap.size, 0, none⟩ (.slice A b.length c)).setCell ⟨w.heap.size, 1, none⟩ (.int .i64 (p : Int))).setCell ⟨w.heap.size, 2, none⟩ (.int .i64 (m : Int))) A c b) := by
    obtain ⟨b', off, e, hc⟩ := HR.out.2 (by omega)
    have hlt := lt_of_cell (hc 0 (by omega))
    have hne : ∀ b'' off'', A = some ⟨b'', off'', none⟩ → w.heap.size ≠ b'' := fun b'' off'' e' => by
      rw [e] at e'; injection e' with e'; injection e' with e1 e2
      have hlt' : b' < w.heap.size := hlt
      omega
    exact ((HR3.out.far hne _).far hne _).far hne _
  have B4 : Hid (Below w.heap.size w (((w3.setCell ⟨w.heap.size, 0, none⟩ (.slice A b.length c)).setCell ⟨w.heap.size, 1, none⟩ (.int .i64 (p : Int))).setCell ⟨w.heap.size, 2, none⟩ (.int .i64 (m : Int)))) :=
    ((HB3.out.setCell (by simp) _).setCell (by simp) _).setCell (by simp) _
  have Z4 : Hid (w.heap.size + 2 ≤ (((w3.setCell ⟨w.heap.size, 0, none⟩ (.slice A b.length c)).setCell ⟨w.heap.size, 1, none⟩ (.int .i64 (p : Int))).setCell ⟨w.heap.size, 2, none⟩ (.int .i64 (m : Int))).heap.size) := by
    have := HZ3.out
    show _ ≤ _
    simpa [World.setCell] using this
  have Y0 : (((w3.setCell ⟨w.heap.size, 0, none⟩ (.slice A b.length c)).setCell ⟨w.heap.size, 1, none⟩ (.int .i64 (p : Int))).setCell ⟨w.heap.size, 2, none⟩ (.int .i64 (m : Int))).cell? ⟨w.heap.size + 1, 0, none⟩ = some (.slice none 0 0) := cell_far (cell_far (cell_far y0 (by simp) _) (by simp) _) (by simp) _
  have Y1 : (((w3.setCell ⟨w.heap.size, 0, none⟩ (.slice A b.length c)).setCell ⟨w.heap.size, 1, none⟩ (.int .i64 (p : Int))).setCell ⟨w.heap.size, 2, none⟩ (.int .i64 (m : Int))).cell? ⟨w.heap.size + 1, 1, none⟩ = some (.int .i64 0) := cell_far (cell_far (cell_far y1 (by simp) _) (by simp) _) (by simp) _
  have Y2 : (((w3.setCell ⟨w.heap.size, 0, none⟩ (.slice A b.length c)).setCell ⟨w.heap.size, 1, none⟩ (.int .i64 (p : Int))).setCell ⟨w.heap.size, 2, none⟩ (.int .i64 (m : Int))).cell? ⟨w.heap.size + 1, 2, none⟩ = some (.int .i64 0) := cell_far (cell_far (cell_far y2 (by simp) _) (by simp) _) (by simp) _
  have F0 : (((w3.setCell ⟨w.heap.size, 0, none⟩ (.slice A b.length c)).setCell ⟨w.heap.size, 1, none⟩ (.int .i64 (p : Int))).setCell ⟨w.heap.size, 2, none⟩ (.int .i64 (m : Int))).frozen? ⟨w.heap.size + 1, 0, none⟩ = false := by go_simp
  have F1 : (((w3.setCell ⟨w.heap.size, 0, none⟩ (.slice A b.length c)).setCell ⟨w.heap.size, 1, none⟩ (.int .i64 (p : Int))).setCell ⟨w.heap.size, 2, none⟩ (.int .i64 (m : Int))).frozen? ⟨w.heap.size + 1, 1, none⟩ = false := by go_simp
  have F2 : (((w3.setCell ⟨w.heap.size, 0, none⟩ (.slice A b.length c)).setCell ⟨w.heap.size, 1, none⟩ (.int .i64 (p : Int))).setCell ⟨w.heap.size, 2, none⟩ (.int .i64 (m : Int))).frozen? ⟨w.heap.size + 1, 2, none⟩ = false := by go_simp
  clear x0 x1 x2 y0 y1 y2 f0 f1 f2 g0 g1 g2
  generalize (((w3.setCell ⟨w.heap.size, 0, none⟩ (.slice A b.length c)).setCell ⟨w.heap.size, 1, none⟩ (.int .i64 (p : Int))).setCell ⟨w.heap.size, 2, none⟩ (.int .i64 (m : Int))) = w4 at *
  refine (more_any A c b p m v _ hbig hpn (by omega) HR4.out).mono ?_
  rintro e w5 ⟨A5, c5, rfl, o5, b5⟩
  have O5 := Lib.hid o5
  have B5 := Lib.hid (below_step B4.out b5)
  have y0 := cell_below b5 Y0
  have y1 := cell_below b5 Y1
  have y2 := cell_below b5 Y2
  have f0 := frozen_below b5 Y0 F0
  have f1 := frozen_below b5 Y1 F1
  have f2 := frozen_below b5 Y2 F2
  clear b5 o5 Y0 Y1 Y2 F0 F1 F2
  go_wp2_with fail
  refine bodyPost_ret (v := .agg #[.slice A5 b.length c5, .int .i64 (p : Int), .int .i64 ((m : Int) + 1)]) (by simp [results, Try.results21, go_sem, y0, y1, y2]) rfl ?_
  exact ⟨A5, c5, p, HPl.out, rfl, (O5.out.out (by have := Z4.out; omega) _ _ _).rebase (by have := Z4.out; omega), ((B5.out.setCell (by simp) _).setCell (by simp) _).setCell (by simp) _⟩

set_option maxHeartbeats 1600000 in
theorem pop_no (A : Option Addr) (n c : Nat) (f m : Int) (w : World) (h : rightB n f m = false) :
    Calls Try.prog 19 #[.agg #[.slice A n c, .int .i64 f, .int .i64 m]] w fun e w' => e = .returned (.tuple #[.int .i64 0, .agg #[.slice A n c, .int .i64 f, .int .i64 m], .int .i64 1]) ∧ Below w.heap.size w w' := by
  have H := Lib.hid h
  clear h
  have T0 := Lib.hid (two_new w A n c f m)
  go_enter Try.func19, Try.ntmps19
  go_wp2_with fail
  generalize ((w.alloc (.cells #[.slice A n c, .int .i64 f, .int .i64 m] 24)).alloc (.cells #[.slice none 0 0, .int .i64 0, .int .i64 0] 24)) = w0 at *
  refine (right_any A n c f m _).mono ?_
  rintro e w1 ⟨rfl, b1⟩
  rw [H.out]
  have T1 := Lib.hid (T0.out.step b1)
  obtain ⟨⟨x0, x1, x2⟩, ⟨y0, y1, y2⟩, ⟨f0, f1, f2⟩, _, _, _⟩ := T1.out
  clear b1
  go_wp2_with fail
  go_region
  all_goals
    go_wp2_with fail
    refine bodyPost_ret (v := .tuple #[.int .i64 0, .agg #[.slice A n c, .int .i64 f, .int .i64 m], .int .i64 1]) (by simp [results, Try.results19, go_sem, y0, y1, y2]) rfl ?_
    exact ⟨rfl, Below.drew (T1.out.out _ _ _)⟩

set_option maxHeartbeats 1600000 in
theorem pop_none (A : Option Addr) (n c f : Nat) (w : World) (hf : f < n) :
    Calls Try.prog 19 #[.agg #[.slice A n c, .int .i64 (f : Int), .int .i64 0]] w fun e w' => e = .returned (.tuple #[.int .i64 0, .agg #[.slice A n c, .int .i64 (f : Int), .int .i64 0], .int .i64 4]) ∧ Below w.heap.size w w' := by
  have H : Hid (rightB n (f : Int) 0 = true) := rightB_of (M := 0) hf (Nat.zero_le _)
  have T0 := Lib.hid (two_new w A n c (f : Int) 0)
  go_enter Try.func19, Try.ntmps19
  go_wp2_with fail
  generalize ((w.alloc (.cells #[.slice A n c, .int .i64 (f : Int), .int .i64 0] 24)).alloc (.cells #[.slice none 0 0, .int .i64 0, .int .i64 0] 24)) = w0 at *
  refine (right_any A n c (f : Int) 0 _).mono ?_
  rintro e w1 ⟨rfl, b1⟩
  rw [H.out]
  have T1 := Lib.hid (T0.out.step b1)
  obtain ⟨⟨x0, x1, x2⟩, ⟨y0, y1, y2⟩, ⟨f0, f1, f2⟩, _, _, _⟩ := T1.out
  clear b1
  go_wp2_with fail
  go_region
  all_goals
    go_wp2_with fail
    refine bodyPost_ret (v := .tuple #[.int .i64 0, .agg #[.slice A n c, .int .i64 (f : Int), .int .i64 0], .int .i64 4]) (by simp [results, Try.results19, go_sem, y0, y1, y2]) rfl ?_
    exact ⟨rfl, Below.drew (T1.out.out _ _ _)⟩

end Rn
end Go.Proofs.Ytilabonjjiiabaa
