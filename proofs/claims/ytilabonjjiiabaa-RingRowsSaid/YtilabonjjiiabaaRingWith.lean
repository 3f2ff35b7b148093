/-
  Layer 3 (ring): with, New.
-/
import Derived.Test.YtilabonjjiiabaaRingCalls
namespace Go.Proofs.Ytilabonjjiiabaa
open Go.RowKit
namespace Rn
attribute [local go_sem ↓] Go.wp_at_zero Go.wp_at_succ
attribute [local go_sem ↓] build_ring build_some build_none build_ref build_refSome

/-- a ring with a message more, in a new buffer -/
def MoreOf (w : World) (b : List Int) (f m : Nat) (v : Int) (e : Ending) (w' : World) : Prop :=
  ∃ (A : Option Addr) (c : Nat), e = .returned (.agg #[.slice A b.length c, .int .i64 (f : Int), .int .i64 ((m : Int) + 1)]) ∧ Ow w' w.heap.size A c (b.set ((f + m) % b.length) v) ∧ Below w.heap.size w w'

set_option maxHeartbeats 1600000 in
theorem more_any (A : Option Addr) (c : Nat) (b : List Int) (f m : Nat) (v : Int) (w : World) (hbig : b.length ≤ 100000) (hf : f < b.length) (hm : m < b.length) (hr : Rd w A c b) :
    Calls Try.prog 24 #[.agg #[.slice A b.length c, .int .i64 (f : Int), .int .i64 (m : Int)], .int .i64 v] w (MoreOf w b f m v) := by
  have hs : IntKind.i64.wrap ((m : Int) + 1) = (m : Int) + 1 := IntWalk.i64_in _ (by omega)
  have HR : Hid (Rd (((w.alloc (.cells #[.slice A b.length c, .int .i64 (f : Int), .int .i64 (m : Int)] 24)).alloc (.cells #[.slice none 0 0, .int .i64 0, .int .i64 0] 24))) A c b) := (hr.alloc _).alloc _
  clear hr
  have B0 : Hid (Below w.heap.size w (((w.alloc (.cells #[.slice A b.length c, .int .i64 (f : Int), .int .i64 (m : Int)] 24)).alloc (.cells #[.slice none 0 0, .int .i64 0, .int .i64 0] 24)))) := below_two _ _ _
  have x0 : (((w.alloc (.cells #[.slice A b.length c, .int .i64 (f : Int), .int .i64 (m : Int)] 24)).alloc (.cells #[.slice none 0 0, .int .i64 0, .int .i64 0] 24))).cell? ⟨w.heap.size, 0, none⟩ = some (.slice A b.length c) := by go_simp
  have x1 : (((w.alloc (.cells #[.slice A b.length c, .int .i64 (f : Int), .int .i64 (m : Int)] 24)).alloc (.cells #[.slice none 0 0, .int .i64 0, .int .i64 0] 24))).cell? ⟨w.heap.size, 1, none⟩ = some (.int .i64 (f : Int)) := by go_simp
  have x2 : (((w.alloc (.cells #[.slice A b.length c, .int .i64 (f : Int), .int .i64 (m : Int)] 24)).alloc (.cells #[.slice none 0 0, .int .i64 0, .int .i64 0] 24))).cell? ⟨w.heap.size, 2, none⟩ = some (.int .i64 (m : Int)) := by go_simp
  have y0 : (((w.alloc (.cells #[.slice A b.length c, .int .i64 (f : Int), .int .i64 (m : Int)] 24)).alloc (.cells #[.slice none 0 0, .int .i64 0, .int .i64 0] 24))).cell? ⟨w.heap.size + 1, 0, none⟩ = some (.slice none 0 0) := by go_simp
  have y1 : (((w.alloc (.cells #[.slice A b.length c, .int .i64 (f : Int), .int .i64 (m : Int)] 24)).alloc (.cells #[.slice none 0 0, .int .i64 0, .int .i64 0] 24))).cell? ⟨w.heap.size + 1, 1, none⟩ = some (.int .i64 0) := by go_simp
  have y2 : (((w.alloc (.cells #[.slice A b.length c, .int .i64 (f : Int), .int .i64 (m : Int)] 24)).alloc (.cells #[.slice none 0 0, .int .i64 0, .int .i64 0] 24))).cell? ⟨w.heap.size + 1, 2, none⟩ = some (.int .i64 0) := by go_simp
  have f0 : (((w.alloc (.cells #[.slice A b.length c, .int .i64 (f : Int), .int .i64 (m : Int)] 24)).alloc (.cells #[.slice none 0 0, .int .i64 0, .int .i64 0] 24))).frozen? ⟨w.heap.size + 1, 0, none⟩ = false := by go_simp
  have f1 : (((w.alloc (.cells #[.slice A b.length c, .int .i64 (f : Int), .int .i64 (m : Int)] 24)).alloc (.cells #[.slice none 0 0, .int .i64 0, .int .i64 0] 24))).frozen? ⟨w.heap.size + 1, 1, none⟩ = false := by go_simp
  have f2 : (((w.alloc (.cells #[.slice A b.length c, .int .i64 (f : Int), .int .i64 (m : Int)] 24)).alloc (.cells #[.slice none 0 0, .int .i64 0, .int .i64 0] 24))).frozen? ⟨w.heap.size + 1, 2, none⟩ = false := by go_simp
  have Z0 : Hid ((((w.alloc (.cells #[.slice A b.length c, .int .i64 (f : Int), .int .i64 (m : Int)] 24)).alloc (.cells #[.slice none 0 0, .int .i64 0, .int .i64 0] 24))).heap.size = w.heap.size + 2) := by show _ = _; simp
  go_enter Try.func24, Try.ntmps24
  go_wp2_with (at_builtin; refine list_app rfl _ _ rfl (base := w.heap.size + 2) (A := none) (c := 0) (l := []) (r := b) rfl rfl (World.ownsRow_nil _ _ _ _) HR.out (by simp; omega) (by simp) ?_)
  intro A1 c1 w1 k1 k2 k3
  rw [← Z0.out] at k1
  generalize ((w.alloc (.cells #[.slice A b.length c, .int .i64 (f : Int), .int .i64 (m : Int)] 24)).alloc (.cells #[.slice none 0 0, .int .i64 0, .int .i64 0] 24)) = w0 at *
  have b1 : Below w0.heap.size w0 w1 := (Below.refl _ _).grown k2 (Nat.le_refl _) (fun k hk => by cases hk)
  have O1 : Ow w1 w0.heap.size A1 c1 b := k1
  obtain ⟨g, rfl, hg1, hg2, hg3⟩ := O1.form (by omega)
  have HO1 := Lib.hid O1
  have HB1 := Lib.hid b1
  have X0 := cell_below b1 x0
  have X1 := cell_below b1 x1
  have X2 := cell_below b1 x2
  clear k1 k2 k3 O1 b1
  go_wp2_with fail
  refine (place_any A b.length c f m _ _ _ (by omega) hf (by omega) rfl).mono ?_
  rintro e w2 ⟨p, rfl, hp, b2⟩
  have HPl := Lib.hid hp
  have hp1 : (p : Int) < (b.length : Int) := by have := place_lt (f + m) (n := b.length) (by omega); omega
  have hp0 : (0 : Int) ≤ (p : Int) := by omega
  have HB2 : Hid (Below w0.heap.size w0 w2) := below_step HB1.out b2
  have HO2 := Lib.hid (HO1.out.below b2 (Nat.le_refl _))
  have X0 := cell_below HB2.out x0
  have X1 := cell_below HB2.out x1
  have X2 := cell_below HB2.out x2
  have Y0 := cell_below HB2.out y0
  have Y1 := cell_below HB2.out y1
  have Y2 := cell_below HB2.out y2
  have F0 := frozen_below HB2.out y0 f0
  have F1 := frozen_below HB2.out y1 f1
  have F2 := frozen_below HB2.out y2 f2
  have g1 := HO2.out.cell p (by omega)
  have g2 := World.ownsRow.frozenAt HO2.out p
  have n1 : w.heap.size ≠ g := by have := Z0.out; omega
  have n2 : w.heap.size + 1 ≠ g := by have := Z0.out; omega
  have n1' : g ≠ w.heap.size := by omega
  have n2' : g ≠ w.heap.size + 1 := by omega
  clear hp b2 x0 x1 x2 y0 y1 y2 f0 f1 f2
  go_wp2_with fail
  have Y0' := cell_far (p := ⟨g, p, none⟩) Y0 n2 (.int .i64 v)
  have Y1' := cell_far (p := ⟨g, p, none⟩) Y1 n2 (.int .i64 v)
  have Y2' := cell_far (p := ⟨g, p, none⟩) Y2 n2 (.int .i64 v)
  refine bodyPost_ret (v := .agg #[.slice (some ⟨g, 0, none⟩) b.length c1, .int .i64 (f : Int), .int .i64 ((m : Int) + 1)]) (by simp [results, Try.results24, go_sem, Y0', Y1', Y2']) rfl ?_
  refine ⟨_, _, rfl, ?_, ?_⟩
  · have hq := (HO2.out.put p v).1
    rw [← HPl.out]
    refine (((hq.rebase ?_).farAny ?_ _).farAny ?_ _).farAny ?_ _
    · have := Z0.out; omega
    all_goals
      intro g' hg'
      injection hg' with hg'
      injection hg' with hg'
      subst hg'
      exact n2
  · have hb := B0.out.trans (HB2.out.mono B0.out.size)
    exact (((hb.setCell (p := ⟨g, p, none⟩) (by show w.heap.size ≤ g; have := Z0.out; omega) _).setCell (p := ⟨w.heap.size + 1, 0, none⟩) (by simp) _).setCell (p := ⟨w.heap.size + 1, 1, none⟩) (by simp) _).setCell (p := ⟨w.heap.size + 1, 2, none⟩) (by simp) _

/-- New: n is not from 1 to 4 -/
theorem new_no (n : Int) (w : World) (h : n < 1 ∨ 4 < n) :
    Calls Try.prog 9 #[.int .i64 n] w fun e w' => e = .returned (.tuple #[.agg #[.slice none 0 0, .int .i64 0, .int .i64 0], .int .i64 1]) ∧ Below w.heap.size w w' := by
  have fin : Hid (Below w.heap.size w ((((w.alloc (.cells #[.slice none 0 0, .int .i64 0, .int .i64 0] 24))).setCell ⟨w.heap.size, 0, none⟩ (.slice none 0 0)).setCell ⟨w.heap.size, 1, none⟩ (.int .i64 0) |>.setCell ⟨w.heap.size, 2, none⟩ (.int .i64 0))) :=
    (((below_one _ _).setCell (by simp) _).setCell (by simp) _).setCell (by simp) _
  rcases h with h | h
  · go_enter Try.func9, Try.ntmps9
    go_wp2_with fail
    refine bodyPost_ret (v := .tuple #[.agg #[.slice none 0 0, .int .i64 0, .int .i64 0], .int .i64 1]) (by simp [results, Try.results9, go_sem]) rfl ⟨rfl, ?_⟩
    first | exact fin.out | exact below_one _ _
  · have h1 : (1 : Int) ≤ n := by omega
    go_enter Try.func9, Try.ntmps9
    go_wp2_with fail
    refine bodyPost_ret (v := .tuple #[.agg #[.slice none 0 0, .int .i64 0, .int .i64 0], .int .i64 1]) (by simp [results, Try.results9, go_sem]) rfl ⟨rfl, ?_⟩
    first | exact fin.out | exact below_one _ _

/-- New: an empty ring with n places -/
def NewOf (w : World) (n : Nat) (e : Ending) (w' : World) : Prop :=
  ∃ A : Option Addr, e = .returned (.tuple #[.agg #[.slice A n n, .int .i64 0, .int .i64 0], .int .i64 0]) ∧ Ow w' w.heap.size A n (zeros n) ∧ Below w.heap.size w w'
set_option maxHeartbeats 800000 in
theorem new_some (n : Nat) (N : Int) (w : World) (h1 : 1 ≤ n) (h4 : n ≤ 4) (hN : N = (n : Int)) :
    Calls Try.prog 9 #[.int .i64 N] w (NewOf w n) := by
  subst hN
  have h1' : (1 : Int) ≤ (n : Int) := by omega
  have h4' : (n : Int) ≤ 4 := by omega
  have B0 : Hid (Below w.heap.size w ((w.alloc (.cells #[.slice none 0 0, .int .i64 0, .int .i64 0] 24)))) := below_one _ _
  have y0 : ((w.alloc (.cells #[.slice none 0 0, .int .i64 0, .int .i64 0] 24))).cell? ⟨w.heap.size, 0, none⟩ = some (.slice none 0 0) := by go_simp
  have y1 : ((w.alloc (.cells #[.slice none 0 0, .int .i64 0, .int .i64 0] 24))).cell? ⟨w.heap.size, 1, none⟩ = some (.int .i64 0) := by go_simp
  have y2 : ((w.alloc (.cells #[.slice none 0 0, .int .i64 0, .int .i64 0] 24))).cell? ⟨w.heap.size, 2, none⟩ = some (.int .i64 0) := by go_simp
  have f0 : ((w.alloc (.cells #[.slice none 0 0, .int .i64 0, .int .i64 0] 24))).frozen? ⟨w.heap.size, 0, none⟩ = false := by go_simp
  have f1 : ((w.alloc (.cells #[.slice none 0 0, .int .i64 0, .int .i64 0] 24))).frozen? ⟨w.heap.size, 1, none⟩ = false := by go_simp
  have f2 : ((w.alloc (.cells #[.slice none 0 0, .int .i64 0, .int .i64 0] 24))).frozen? ⟨w.heap.size, 2, none⟩ = false := by go_simp
  have Z0 : Hid (((w.alloc (.cells #[.slice none 0 0, .int .i64 0, .int .i64 0] 24))).heap.size = w.heap.size + 1) := by show _ = _; simp
  go_enter Try.func9, Try.ntmps9
  go_wp2_with (at_make; refine list_mk rfl _ _ rfl (base := w.heap.size + 1) n rfl rfl (by omega) (by simp) ?_)
  intro w1 k1 k2
  rw [← Z0.out] at k1
  generalize (w.alloc (.cells #[.slice none 0 0, .int .i64 0, .int .i64 0] 24)) = w0 at *
  have b1 : Below w0.heap.size w0 w1 := (Below.refl _ _).grown k2 (Nat.le_refl _) (fun k hk => by cases hk)
  have O1 := Lib.hid k1
  have HB1 := Lib.hid b1
  have Y0 := cell_below b1 y0
  have Y1 := cell_below b1 y1
  have Y2 := cell_below b1 y2
  have F0 := frozen_below b1 y0 f0
  have F1 := frozen_below b1 y1 f1
  have F2 := frozen_below b1 y2 f2
  clear b1 k1 k2 y0 y1 y2 f0 f1 f2
  go_wp2_with fail
  refine bodyPost_ret (v := .tuple #[.agg #[.slice (some ⟨w0.heap.size, 0, none⟩) n n, .int .i64 0, .int .i64 0], .int .i64 0]) (by simp [results, Try.results9, go_sem, Y0, Y1, Y2]; exact Z0.out.symm) rfl ?_
  refine ⟨_, rfl, ?_, ?_⟩
  · refine (((O1.out.rebase ?_).farAny ?_ _).farAny ?_ _).farAny ?_ _
    · have := Z0.out; omega
    all_goals
      intro g' hg'
      injection hg' with hg'
      injection hg' with hg'
      subst hg'
      show w.heap.size ≠ w0.heap.size
      have := Z0.out
      omega
  · have hb := B0.out.trans (HB1.out.mono B0.out.size)
    exact ((hb.setCell (p := ⟨w.heap.size, 0, none⟩) (by simp) _).setCell (p := ⟨w.heap.size, 1, none⟩) (by simp) _).setCell (p := ⟨w.heap.size, 2, none⟩) (by simp) _

end Rn
end Go.Proofs.Ytilabonjjiiabaa
