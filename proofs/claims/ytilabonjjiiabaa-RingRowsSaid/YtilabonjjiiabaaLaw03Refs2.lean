/-
  Layer 3: the references of the statements: Without, With, List.
-/
import Derived.Test.YtilabonjjiiabaaLaw03Refs
namespace Go.Proofs.Ytilabonjjiiabaa
open Go.RowKit
namespace Rn
attribute [local go_sem ↓] Go.wp_at_zero Go.wp_at_succ
attribute [local go_sem ↓] build_ring build_some build_none build_ref build_refSome

/-- the reference's ring in a block of its own, and behind it a ring of zeros -/
theorem twoR_new (w : World) (A : Option Addr) (n c : Nat) (f m : Int) : Two w ((w.alloc (.cells #[.slice A n c, .int .i64 f, .int .i64 m] 30)).alloc (.cells #[.slice none 0 0, .int .i64 0, .int .i64 0] 30)) A n c f m := by
  refine ⟨⟨?_, ?_, ?_⟩, ⟨?_, ?_, ?_⟩, ⟨?_, ?_, ?_⟩, ⟨?_, ?_, ?_⟩, below_two _ _ _, by simp⟩ <;> go_simp

set_option maxHeartbeats 800000 in
theorem refLess_any (A : Option Addr) (n c f m : Nat) (M : Int) (w : World) (hbig : n ≤ 1000000) (hf : f < n) (hm : m < n) (hM : M = (m : Int) + 1) :
    Calls Try.prog 20 #[.agg #[.slice A n c, .int .i64 (f : Int), .int .i64 M]] w (LessOf w A n c f m) := by
  have hs : IntKind.i64.wrap (M - 1) = (m : Int) := by rw [IntWalk.i64_in _ (by omega)]; omega
  have hw : IntKind.i64.wrap ((f : Int) + 1) = (f : Int) + 1 := IntWalk.i64_in _ (by omega)
  have T0 := Lib.hid (twoR_new w A n c (f : Int) M)
  clear hM
  by_cases h : f + 1 = n
  · have hb : ((f : Int) + 1 == (n : Int)) = true := by rw [beq_iff_eq]; omega
    have HP : Hid (0 = (f + 1) % n) := by show _ = _; rw [h, Nat.mod_self]
    clear h
    go_enter Try.func20, Try.ntmps20
    go_wp2_with fail
    refine bodyPost_ret (v := .agg #[.slice A n c, .int .i64 ((0 : Nat) : Int), .int .i64 (m : Int)]) (by simp [results, Try.results20, go_sem]) rfl ?_
    refine ⟨0, rfl, HP.out, ?_⟩
    first | exact T0.out.out _ _ _ | exact below_two _ _ _
  · have hb : ((f : Int) + 1 == (n : Int)) = false := beq_eq_false_iff_ne.2 (by omega)
    have HP : Hid (f + 1 = (f + 1) % n) := (Nat.mod_eq_of_lt (by omega)).symm
    clear h
    go_enter Try.func20, Try.ntmps20
    go_wp2_with fail
    refine bodyPost_ret (v := .agg #[.slice A n c, .int .i64 ((f : Int) + 1), .int .i64 (m : Int)]) (by simp [results, Try.results20, go_sem]) rfl ?_
    refine ⟨f + 1, by rw [show ((f + 1 : Nat) : Int) = (f : Int) + 1 from by omega], HP.out, ?_⟩
    first | exact T0.out.out _ _ _ | exact below_two _ _ _

theorem with_tail (w w0 w1 : World) (A : Option Addr) (b : List Int) (c c1 f m p g : Nat) (v : Int) (T0 : Two w w0 A b.length c (f : Int) (m : Int)) (hp : p = (f + m) % b.length) (b1 : Below w0.heap.size w0 w1) (O1 : Ow w1 w0.heap.size (some ⟨g, 0, none⟩) c1 b) :
    MoreOf w b f m v (.returned (.agg #[.slice (some ⟨g, 0, none⟩) b.length c1, .int .i64 (f : Int), .int .i64 ((m : Int) + 1)]))
      ((((w1.setCell ⟨g, p, none⟩ (.int .i64 v)).setCell ⟨w.heap.size + 1, 0, none⟩ (.slice (some ⟨g, 0, none⟩) b.length c1)).setCell ⟨w.heap.size + 1, 1, none⟩ (.int .i64 (f : Int))).setCell ⟨w.heap.size + 1, 2, none⟩ (.int .i64 ((m : Int) + 1))) := by
  have hz := T0.2.2.2.2.2
  have hg : w0.heap.size ≤ g := by
    rcases O1.cases with ⟨h, _⟩ | ⟨g', h, h2, _⟩
    · cases h
    · injection h with h; injection h with h; omega
  refine ⟨_, _, rfl, ?_, ?_⟩
  · rw [← hp]
    exact ((O1.put p v).1.out (by omega) _ _ _).rebase (by omega)
  · have hb := below_step T0.2.2.2.2.1 b1
    exact (((hb.setCell (p := ⟨g, p, none⟩) (by show w.heap.size ≤ g; omega) _).setCell (by simp) _).setCell (by simp) _).setCell (by simp) _

theorem own_lit3 (w : World) (o o' : Obj) : Ow (((w.alloc o).alloc o').alloc (.cells #[] 3)) (w.heap.size + 2) (some ⟨w.heap.size + 2, 0, none⟩) 0 [] := by
  have h : ((w.alloc o).alloc o').heap.size = w.heap.size + 2 := by simp
  rw [← h]
  exact own_lit _ _ (Nat.le_refl _)

set_option maxHeartbeats 3200000 in
theorem refMore_any (A : Option Addr) (c : Nat) (b : List Int) (f m : Nat) (v : Int) (w : World) (hbig : b.length ≤ 100000) (hf : f < b.length) (hm : m < b.length) (hr : Rd w A c b) :
    Calls Try.prog 18 #[.agg #[.slice A b.length c, .int .i64 (f : Int), .int .i64 (m : Int)], .int .i64 v] w (MoreOf w b f m v) := by
  have hs : IntKind.i64.wrap ((m : Int) + 1) = (m : Int) + 1 := IntWalk.i64_in _ (by omega)
  have hw : IntKind.i64.wrap ((f : Int) + (m : Int)) = (f : Int) + (m : Int) := IntWalk.i64_in _ (by omega)
  have T0 := Lib.hid (twoR_new w A b.length c (f : Int) (m : Int))
  have HR : Hid (Rd (((w.alloc (.cells #[.slice A b.length c, .int .i64 (f : Int), .int .i64 (m : Int)] 30)).alloc (.cells #[.slice none 0 0, .int .i64 0, .int .i64 0] 30))) A c b) := (hr.alloc _).alloc _
  have Z0 : Hid (((w.alloc (.cells #[.slice A b.length c, .int .i64 (f : Int), .int .i64 (m : Int)] 30)).alloc (.cells #[.slice none 0 0, .int .i64 0, .int .i64 0] 30)).heap.size = w.heap.size + 2) := by show _ = _; simp
  clear hr
  have main : ∀ p : Nat, Hid (p = (f + m) % b.length) → (((b.length : Int) ≤ (f : Int) + (m : Int) ∧ IntKind.i64.wrap ((f : Int) + (m : Int) - (b.length : Int)) = (p : Int)) ∨ ((f : Int) + (m : Int) < (b.length : Int) ∧ (f : Int) + (m : Int) = (p : Int))) → Calls Try.prog 18 #[.agg #[.slice A b.length c, .int .i64 (f : Int), .int .i64 (m : Int)], .int .i64 v] w (MoreOf w b f m v) := by
    intro p HP hcase
    have hpn : p < b.length := by rw [HP.out]; exact place_lt _ (by omega)
    have hp0 : (0 : Int) ≤ (p : Int) := by omega
    have hp1 : (p : Int) < (b.length : Int) := by omega
    rcases hcase with ⟨h1, h2⟩ | ⟨h1, h2⟩
    all_goals
      go_enter Try.func18, Try.ntmps18
      go_wp2_with (at_builtin; refine list_app rfl _ _ rfl (base := w.heap.size + 2) (l := []) (r := b) rfl rfl (by exact own_lit3 w _ _) (by exact HR.out.alloc _) (by simp; omega) (by simp) ?_)
      intro A1 c1 w1 k1 k2 k3
      have b1 : Below ((w.alloc (.cells #[.slice A b.length c, .int .i64 (f : Int), .int .i64 (m : Int)] 30)).alloc (.cells #[.slice none 0 0, .int .i64 0, .int .i64 0] 30)).heap.size ((w.alloc (.cells #[.slice A b.length c, .int .i64 (f : Int), .int .i64 (m : Int)] 30)).alloc (.cells #[.slice none 0 0, .int .i64 0, .int .i64 0] 30)) w1 :=
        Below.grown (below_one _ _) k2 (by simp) (fun k hk => by simp [Value.ownBlock] at hk; simp; omega)
      rw [← Z0.out] at k1
      generalize ((w.alloc (.cells #[.slice A b.length c, .int .i64 (f : Int), .int .i64 (m : Int)] 30)).alloc (.cells #[.slice none 0 0, .int .i64 0, .int .i64 0] 30)) = w0 at *
      obtain ⟨g, rfl, hg1, hg2, hg3⟩ := k1.form (by omega)
      have HO := Lib.hid k1
      have HB := Lib.hid b1
      have T1 := T0.out.step b1
      obtain ⟨⟨x0, x1, x2⟩, ⟨y0, y1, y2⟩, ⟨f0, f1, f2⟩, _, _, _⟩ := T1
      have g1 := k1.cell p hpn
      have g2 := World.ownsRow.frozenAt k1 p
      have n1 : w.heap.size ≠ g := by have := Z0.out; omega
      have n2 : w.heap.size + 1 ≠ g := by have := Z0.out; omega
      have n1' : g ≠ w.heap.size := by omega
      have n2' : g ≠ w.heap.size + 1 := by omega
      clear k1 k2 k3 b1
      go_wp2_with fail
      have Y0' := cell_far (p := ⟨g, p, none⟩) y0 n2 (.int .i64 v)
      have Y1' := cell_far (p := ⟨g, p, none⟩) y1 n2 (.int .i64 v)
      have Y2' := cell_far (p := ⟨g, p, none⟩) y2 n2 (.int .i64 v)
      refine bodyPost_ret (v := .agg #[.slice (some ⟨g, 0, none⟩) b.length c1, .int .i64 (f : Int), .int .i64 ((m : Int) + 1)]) (by simp [results, Try.results18, go_sem, Y0', Y1', Y2']) rfl ?_
      exact with_tail w w0 w1 A b c c1 f m p g v T0.out HP.out HB.out HO.out
  by_cases h : b.length ≤ f + m
  · exact main (f + m - b.length) (by show _ = _; rw [mod_two (by omega), if_pos h]) (.inl ⟨by omega, by rw [IntWalk.i64_in _ (by omega)]; omega⟩)
  · exact main (f + m) (by show _ = _; rw [Nat.mod_eq_of_lt (by omega)]) (.inr ⟨by omega, by omega⟩)

end Rn
end Go.Proofs.Ytilabonjjiiabaa
