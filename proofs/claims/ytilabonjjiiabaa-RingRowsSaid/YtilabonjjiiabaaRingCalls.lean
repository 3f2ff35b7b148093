/-
  Layer 3 (ring): withoutFirst, with, New.
-/
import Derived.Test.YtilabonjjiiabaaRingWalks
namespace Go.Proofs.Ytilabonjjiiabaa
open Go.RowKit
namespace Rn
attribute [local go_sem ↓] Go.wp_at_zero Go.wp_at_succ

theorem cell_far {w : World} {p q : Addr} {v : Value} (h : w.cell? q = some v) (hne : q.block ≠ p.block) (u : Value) : (w.setCell p u).cell? q = some v :=
  (World.cell?_of_block (w := w) (Below.heap_setCell w p u q.block hne)).trans h

/-- a ring put together -/
theorem build_ring (A : Option Addr) (n c : Nat) (f m : Int) (w : World) : (Instr.build 24 #[(0, .slice A n c), (1, .int .i64 f), (2, .int .i64 m)]).run Try.prog w = .ok (.agg #[.slice A n c, .int .i64 f, .int .i64 m]) w := by kernel_rfl
theorem build_some (A : Option Addr) (n c : Nat) (w : World) : (Instr.build 24 #[(0, .slice A n c)]).run Try.prog w = .ok (.agg #[.slice A n c, .int .i64 0, .int .i64 0]) w := by kernel_rfl
theorem build_none (w : World) : (Instr.build 24 #[]).run Try.prog w = .ok (.agg #[.slice none 0 0, .int .i64 0, .int .i64 0]) w := by kernel_rfl
theorem build_ref (A : Option Addr) (n c : Nat) (f m : Int) (w : World) : (Instr.build 30 #[(0, .slice A n c), (1, .int .i64 f), (2, .int .i64 m)]).run Try.prog w = .ok (.agg #[.slice A n c, .int .i64 f, .int .i64 m]) w := by kernel_rfl
theorem build_refSome (A : Option Addr) (n c : Nat) (w : World) : (Instr.build 30 #[(0, .slice A n c)]).run Try.prog w = .ok (.agg #[.slice A n c, .int .i64 0, .int .i64 0]) w := by kernel_rfl
attribute [local go_sem ↓] build_ring build_some build_none build_ref build_refSome

/-- a ring without its first message: the buffer is shared -/
def LessOf (w : World) (A : Option Addr) (n c f m : Nat) (e : Ending) (w' : World) : Prop :=
  ∃ p : Nat, e = .returned (.agg #[.slice A n c, .int .i64 (p : Int), .int .i64 (m : Int)]) ∧ p = (f + 1) % n ∧ Below w.heap.size w w'

set_option maxHeartbeats 1600000 in
theorem less_any (A : Option Addr) (n c f m : Nat) (M : Int) (w : World) (hbig : n ≤ 1000000) (hf : f < n) (hm : m < n) (hM : M = (m : Int) + 1) :
    Calls Try.prog 25 #[.agg #[.slice A n c, .int .i64 (f : Int), .int .i64 M]] w (LessOf w A n c f m) := by
  have hs : IntKind.i64.wrap (M - 1) = (m : Int) := by rw [IntWalk.i64_in _ (by omega)]; omega
  clear hM
  go_enter Try.func25, Try.ntmps25
  go_wp2_with fail
  have B0 : Hid (Below w.heap.size w (((w.alloc (.cells #[.slice A n c, .int .i64 (f : Int), .int .i64 M] 24)).alloc (.cells #[.slice none 0 0, .int .i64 0, .int .i64 0] 24)))) := below_two _ _ _
  have x0 : (((w.alloc (.cells #[.slice A n c, .int .i64 (f : Int), .int .i64 M] 24)).alloc (.cells #[.slice none 0 0, .int .i64 0, .int .i64 0] 24))).cell? ⟨w.heap.size, 0, none⟩ = some (.slice A n c) := by go_simp
  have x1 : (((w.alloc (.cells #[.slice A n c, .int .i64 (f : Int), .int .i64 M] 24)).alloc (.cells #[.slice none 0 0, .int .i64 0, .int .i64 0] 24))).cell? ⟨w.heap.size, 1, none⟩ = some (.int .i64 (f : Int)) := by go_simp
  have x2 : (((w.alloc (.cells #[.slice A n c, .int .i64 (f : Int), .int .i64 M] 24)).alloc (.cells #[.slice none 0 0, .int .i64 0, .int .i64 0] 24))).cell? ⟨w.heap.size, 2, none⟩ = some (.int .i64 M) := by go_simp
  have y0 : (((w.alloc (.cells #[.slice A n c, .int .i64 (f : Int), .int .i64 M] 24)).alloc (.cells #[.slice none 0 0, .int .i64 0, .int .i64 0] 24))).cell? ⟨w.heap.size + 1, 0, none⟩ = some (.slice none 0 0) := by go_simp
  have y1 : (((w.alloc (.cells #[.slice A n c, .int .i64 (f : Int), .int .i64 M] 24)).alloc (.cells #[.slice none 0 0, .int .i64 0, .int .i64 0] 24))).cell? ⟨w.heap.size + 1, 1, none⟩ = some (.int .i64 0) := by go_simp
  have y2 : (((w.alloc (.cells #[.slice A n c, .int .i64 (f : Int), .int .i64 M] 24)).alloc (.cells #[.slice none 0 0, .int .i64 0, .int .i64 0] 24))).cell? ⟨w.heap.size + 1, 2, none⟩ = some (.int .i64 0) := by go_simp
  have f0 : (((w.alloc (.cells #[.slice A n c, .int .i64 (f : Int), .int .i64 M] 24)).alloc (.cells #[.slice none 0 0, .int .i64 0, .int .i64 0] 24))).frozen? ⟨w.heap.size + 1, 0, none⟩ = false := by go_simp
  have f1 : (((w.alloc (.cells #[.slice A n c, .int .i64 (f : Int), .int .i64 M] 24)).alloc (.cells #[.slice none 0 0, .int .i64 0, .int .i64 0] 24))).frozen? ⟨w.heap.size + 1, 1, none⟩ = false := by go_simp
  have f2 : (((w.alloc (.cells #[.slice A n c, .int .i64 (f : Int), .int .i64 M] 24)).alloc (.cells #[.slice none 0 0, .int .i64 0, .int .i64 0] 24))).frozen? ⟨w.heap.size + 1, 2, none⟩ = false := by go_simp
  generalize ((w.alloc (.cells #[.slice A n c, .int .i64 (f : Int), .int .i64 M] 24)).alloc (.cells #[.slice none 0 0, .int .i64 0, .int .i64 0] 24)) = w0 at *
  go_region_held3 (fun w' => w'.cell? ⟨w.heap.size, 0, none⟩ = some (.slice A n c) ∧ w'.cell? ⟨w.heap.size, 1, none⟩ = some (.int .i64 (f : Int)) ∧ w'.cell? ⟨w.heap.size, 2, none⟩ = some (.int .i64 M) ∧ Hid (Below w.heap.size w w'))
    (first
      | (exact ⟨cell_far (cell_far (cell_far (cell_below bX x0) (by simp) _) (by simp) _) (by simp) _, cell_far (cell_far (cell_far (cell_below bX x1) (by simp) _) (by simp) _) (by simp) _, cell_far (cell_far (cell_far (cell_below bX x2) (by simp) _) (by simp) _) (by simp) _, (((B0.out.trans (bX.mono B0.out.size)).setCell (by simp) _).setCell (by simp) _).setCell (by simp) _⟩)
      | (exact ⟨cell_below bX x0, cell_below bX x1, cell_below bX x2, B0.out.trans (bX.mono B0.out.size)⟩)
      | (exact ⟨x0, x1, x2, B0.out.drew⟩))
    (first
      | (go_at_call 22; refine (place_any A n c f 1 M _ _ hbig hf (by omega) (by rfl)).mono ?_; rintro e w1 ⟨p, rfl, hp, b1⟩
         have HPl := Lib.hid hp
         have bX : Below w0.heap.size w0 w1 := (Below.refl _ w0).drew.trans b1
         have k0 := cell_below bX y0
         have k1 := cell_below bX y1
         have k2 := cell_below bX y2
         have j0 := frozen_below bX y0 f0
         have j1 := frozen_below bX y1 f1
         have j2 := frozen_below bX y2 f2
         clear hp b1))
  go_split_ands
  have HBf : Hid (Below w.heap.size w (((w1.setCell ⟨w.heap.size + 1, 0, none⟩ (.slice A n c)).setCell ⟨w.heap.size + 1, 1, none⟩ (.int .i64 (p : Int))).setCell ⟨w.heap.size + 1, 2, none⟩ (.int .i64 (m : Int)))) := by assumption
  go_wp2_with fail
  refine bodyPost_ret (v := .agg #[.slice A n c, .int .i64 (p : Int), .int .i64 (m : Int)]) (by simp [results, Try.results25, go_sem, k0, k1, k2]) rfl ?_
  exact ⟨p, rfl, HPl.out, HBf.out⟩

end Rn
end Go.Proofs.Ytilabonjjiiabaa
