/-
  Layer 3: the references of the statements: List.
-/
import Derived.Test.YtilabonjjiiabaaLaw03Refs2
namespace Go.Proofs.Ytilabonjjiiabaa
open Go.RowKit
namespace Rn
attribute [local go_sem ↓] Go.wp_at_zero Go.wp_at_succ
attribute [local go_sem ↓] build_ring build_some build_none build_ref build_refSome

/-- the messages -/
def RefListOf (w : World) (l : List Int) (m : Nat) (e : Ending) (w' : World) : Prop :=
  ∃ g c : Nat, e = .returned (.slice (some ⟨g, 0, none⟩) m c) ∧ Rd w' (some ⟨g, 0, none⟩) c l ∧ Below w.heap.size w w'

set_option maxHeartbeats 6400000 in
theorem refList_any (A : Option Addr) (c : Nat) (b : List Int) (f m : Nat) (w : World) (hbig : b.length ≤ 100000) (hlc : b.length ≤ c) (hf : f < b.length) (hm : m ≤ b.length) (hr : Rd w A c b) :
    Calls Try.prog 15 #[.agg #[.slice A b.length c, .int .i64 (f : Int), .int .i64 (m : Int)]] w (RefListOf w (msgs b f m) m) := by
  have HR0 : Hid (Rd (w.alloc (.cells #[.slice A b.length c, .int .i64 (f : Int), .int .i64 (m : Int)] 30)) A c b) := hr.alloc _
  have B0 : Hid (Below w.heap.size w (w.alloc (.cells #[.slice A b.length c, .int .i64 (f : Int), .int .i64 (m : Int)] 30))) := below_one _ _
  have x0 : (w.alloc (.cells #[.slice A b.length c, .int .i64 (f : Int), .int .i64 (m : Int)] 30)).cell? ⟨w.heap.size, 0, none⟩ = some (.slice A b.length c) := by go_simp
  have x1 : (w.alloc (.cells #[.slice A b.length c, .int .i64 (f : Int), .int .i64 (m : Int)] 30)).cell? ⟨w.heap.size, 1, none⟩ = some (.int .i64 (f : Int)) := by go_simp
  have x2 : (w.alloc (.cells #[.slice A b.length c, .int .i64 (f : Int), .int .i64 (m : Int)] 30)).cell? ⟨w.heap.size, 2, none⟩ = some (.int .i64 (m : Int)) := by go_simp
  obtain ⟨B, off, rfl, _⟩ := hr.2 (by omega)
  clear hr
  have q0 : (0 : Int) ≤ (f : Int) := by omega
  have q1 : (f : Int) ≤ (b.length : Int) := by omega
  have q2 : (b.length : Int) ≤ (c : Int) := by omega
  have q3 : (f : Int) ≤ (c : Int) := by omega
  have q4 : (0 : Int) ≤ (m : Int) := by omega
  have q5 : ¬ c = f := by omega
  have HT1 : Hid ((b.drop f).length = b.length - f) := by show List.length _ = _; simp
  have HT2 : Hid ((b.take f).length = f) := by show List.length _ = _; simp; omega
  have HT3 : Hid ((b.drop f).length + (b.take f).length = b.length) := by show _ + _ = _; rw [HT1.out, HT2.out]; omega
  have HM := Lib.hid (msgs_ref b f m hf hm)
  go_enter Try.func15, Try.ntmps15
  go_wp2_with fail
  generalize (w.alloc (.cells #[.slice (some ⟨B, off, none⟩) b.length c, .int .i64 (f : Int), .int .i64 (m : Int)] 30)) = w0 at *
  have nw : w.heap.size ≠ w0.heap.size := by have := lt_of_cell x0; have h : w.heap.size < w0.heap.size := this; omega
  have HF := Lib.hid (HR0.out.frontAt f c)
  have HK := Lib.hid (HR0.out.backAt f (c - f))
  generalize hdd : b.drop f = dd at *
  generalize htt : b.take f = tt at *
  have HDD := Lib.hid hdd
  have HTT := Lib.hid htt
  clear hdd htt
  go_region_held3 (fun w' => w'.cell? ⟨w.heap.size, 0, none⟩ = some (.slice (some ⟨B, off, none⟩) b.length c) ∧ w'.cell? ⟨w.heap.size, 1, none⟩ = some (.int .i64 (f : Int)) ∧ w'.cell? ⟨w.heap.size, 2, none⟩ = some (.int .i64 (m : Int)))
    (first
      | (exact ⟨cell_below HBx.out x0, cell_below HBx.out x1, cell_below HBx.out x2⟩)
      | (exact ⟨cell_new x0 (.cells #[] 3), cell_new x1 (.cells #[] 3), cell_new x2 (.cells #[] 3)⟩)
      | (exact ⟨x0, x1, x2⟩))
    (first
      | (refine step_app (by rfl) _ _ (by rfl) (base := w0.heap.size) (l := []) (r := dd) (by rfl) (by rw [HT1.out]; rfl) (by exact own_lit w0 _ (Nat.le_refl _)) (by exact HK.out.alloc _) (by rw [HT1.out]; simp; omega) (by simp) ?_
         intro A5 c5 w5 k1 k2 k3
         have HBx : Hid (Below w0.heap.size w0 w5) := Below.grown (B := w0.heap.size) (a := w0) (by exact (below_one w0 _).drew) k2 (by simp) (fun k hk => by simp [Value.ownBlock] at hk; omega)
         have HO5 := Lib.hid k1
         rw [show ([] : List Int).length + dd.length = b.length - f from by rw [HT1.out]; exact Nat.zero_add _]
         clear k1 k2 k3)
      | (refine step_app (by rfl) _ _ (by rfl) (base := w0.heap.size) (l := dd) (r := tt) (by rw [HT1.out]; rfl) (by rw [HT2.out]; rfl) (by exact HO5.out) (by exact HF.out.below HBx.out) (by rw [HT3.out]; omega) (by exact HBx.out.size) ?_
         intro A6 c6 w6 k1 k2 k3
         have HBx : Hid (Below w0.heap.size w0 w6) := Below.grown (B := w0.heap.size) (a := w0) HBx.out k2 HBx.out.size (fun k hk => HO5.out.row k hk)
         have HO6 := Lib.hid k1
         rw [HT3.out]
         clear k1 k2 k3))
  go_split_ands
  obtain ⟨g, rfl, _, _, hgc⟩ := HO6.out.form (by rw [List.length_append, HT3.out]; omega)
  rw [List.length_append, HT3.out] at hgc
  have p1 : (m : Int) ≤ (c6 : Int) := by omega
  have p2 : (b.length : Int) ≤ (c6 : Int) := by omega
  have HBf := Lib.hid (below_step B0.out HBx.out)
  clear x0 x1 x2 HO5
  go_wp2_with fail
  go_ret
  refine ⟨g, c6, rfl, ?_, HBf.out⟩
  rw [← HM.out]
  exact HO6.out.rd.frontAt m c6

end Rn
end Go.Proofs.Ytilabonjjiiabaa
