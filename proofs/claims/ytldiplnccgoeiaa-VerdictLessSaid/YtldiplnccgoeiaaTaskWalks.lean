/-
  Layer 5 (task): what the small calls answer: end, inOrder, apart, nested, validTimes.
-/
import Derived.Test.YtldiplnccgoeiaaTaskMem
namespace Go.Proofs.Ytldiplnccgoeiaa
open Go.RowKit Mm
namespace Tk

theorem end_any (x : Sc) (w : World) (h0 : 0 ≤ x.2.1) (h1 : 0 ≤ x.2.2) (h2 : x.2.1 + x.2.2 ≤ 200) :
    Calls Try.prog 62 #[.agg #[.int .i64 x.1, .int .i64 x.2.1, .int .i64 x.2.2]] w fun e w' => e = .returned (.int .i64 (x.2.1 + x.2.2)) ∧ Below w.heap.size w w' := by
  go_enter Try.func62, Try.ntmps62
  go_wp2
  go_ret
  refine ⟨ret_int ?_, below_one _ _⟩
  go_num

theorem end_n (r a n : Int) (w : World) (h0 : 0 ≤ a) (h1 : 0 ≤ n) (h2 : a + n ≤ 200) :
    Calls Try.prog 62 #[.agg #[.int .i64 r, .int .i64 a, .int .i64 n]] w fun e w' => e = .returned (.int .i64 (a + n)) ∧ Below w.heap.size w w' := end_any (r, a, n) w h0 h1 h2

theorem inOrder_any (x y : Sc) (w : World) :
    Calls Try.prog 58 #[.agg #[.int .i64 x.1, .int .i64 x.2.1, .int .i64 x.2.2], .agg #[.int .i64 y.1, .int .i64 y.2.1, .int .i64 y.2.2]] w fun e w' => e = .returned (.bool (ordB x y)) ∧ Below w.heap.size w w' := by
  go_enter Try.func58, Try.ntmps58
  go_wp2
  all_goals
    go_ret
    refine ⟨ret_bool ?_, below_two _ _ _⟩
    rw [Bool.eq_iff_iff]; simp [ordB]; omega

theorem validTimes_any (C D T : Int) (V : Value) (w : World) :
    Calls Try.prog 52 #[.agg #[.int .i64 C, .int .i64 D, .int .i64 T, V]] w fun e w' => e = .returned (.bool (timesB C D T)) ∧ Below w.heap.size w w' := by
  go_enter Try.func52, Try.ntmps52
  go_wp2
  all_goals
    go_ret
    refine ⟨ret_bool ?_, below_one _ _⟩
    rw [Bool.eq_iff_iff]; simp [timesB]; omega

theorem apart_any (x y : Sc) (w : World) (h0 : 0 ≤ x.2.1) (h1 : 0 ≤ x.2.2) (h2 : x.2.1 + x.2.2 ≤ 200) :
    Calls Try.prog 59 #[.agg #[.int .i64 x.1, .int .i64 x.2.1, .int .i64 x.2.2], .agg #[.int .i64 y.1, .int .i64 y.2.1, .int .i64 y.2.2]] w fun e w' => e = .returned (.bool (apartB x y)) ∧ Below w.heap.size w w' := by
  go_enter Try.func59, Try.ntmps59
  go_wp2_with fail
  have B0 := Lib.hid (below_two w (Obj.cells #[.int .i64 x.1, .int .i64 x.2.1, .int .i64 x.2.2] 61) (Obj.cells #[.int .i64 y.1, .int .i64 y.2.1, .int .i64 y.2.2] 61))
  obtain ⟨x1, x2, x3⟩ := (bx_new w x).below (below_one _ (Obj.cells #[.int .i64 y.1, .int .i64 y.2.1, .int .i64 y.2.2] 61))
  obtain ⟨y1, y2, y3⟩ := bx_at (w.alloc (Obj.cells #[.int .i64 x.1, .int .i64 x.2.1, .int .i64 x.2.2] 61)) y (w.heap.size + 1) (by simp)
  generalize (w.alloc (Obj.cells #[.int .i64 x.1, .int .i64 x.2.1, .int .i64 x.2.2] 61)).alloc (Obj.cells #[.int .i64 y.1, .int .i64 y.2.1, .int .i64 y.2.2] 61) = w0 at *
  replace x1 := cell_bw x1
  replace x2 := cell_bw x2
  replace x3 := cell_bw x3
  replace y1 := cell_bw y1
  replace y2 := cell_bw y2
  replace y3 := cell_bw y3
  refine wp_region_bw (by kernel_rfl) (by kernel_rfl) ?_
  repeat
    (with_reducible refine wpQuiet_step (fun K hK => ?_)
     go_simp
     first
       | (with_reducible refine hK _ ?_
          clear hK K)
       | (rw [if_neg]
          rotate_left
          focus (intro h; cases h; done)
          with_reducible refine hK _ ?_
          clear hK K)
       | (apply Exists.intro
          refine ⟨fun _ => ?_, hK _ ?_⟩
          (exact Calls.bw (end_any x _ h0 h1 h2))
          clear hK K))
  with_reducible refine wpQuiet_nil ?_
  intro wb hw'
  obtain ⟨⟨wb', lb⟩, hw''⟩ := hw'
  subst hw''
  go_wp2_with fail
  go_ret
  exact ⟨rfl, below_step B0.out lb⟩

theorem nested_any (x y : Sc) (w : World) (h0 : 0 ≤ x.2.1) (h1 : 0 ≤ x.2.2) (h2 : x.2.1 + x.2.2 ≤ 200) (k0 : 0 ≤ y.2.1) (k1 : 0 ≤ y.2.2) (k2 : y.2.1 + y.2.2 ≤ 200) :
    Calls Try.prog 60 #[.agg #[.int .i64 x.1, .int .i64 x.2.1, .int .i64 x.2.2], .agg #[.int .i64 y.1, .int .i64 y.2.1, .int .i64 y.2.2]] w fun e w' => e = .returned (.bool (nestB x y)) ∧ Below w.heap.size w w' := by
  cases hle : decide (y.2.1 + y.2.2 ≤ x.2.1 + x.2.2)
  all_goals
    go_enter Try.func60, Try.ntmps60
    go_wp2_with fail
    have B0 := Lib.hid (below_two w (Obj.cells #[.int .i64 x.1, .int .i64 x.2.1, .int .i64 x.2.2] 61) (Obj.cells #[.int .i64 y.1, .int .i64 y.2.1, .int .i64 y.2.2] 61))
    obtain ⟨x1, x2, x3⟩ := (bx_new w x).below (below_one _ (Obj.cells #[.int .i64 y.1, .int .i64 y.2.1, .int .i64 y.2.2] 61))
    obtain ⟨y1, y2, y3⟩ := bx_at (w.alloc (Obj.cells #[.int .i64 x.1, .int .i64 x.2.1, .int .i64 x.2.2] 61)) y (w.heap.size + 1) (by simp)
    generalize (w.alloc (Obj.cells #[.int .i64 x.1, .int .i64 x.2.1, .int .i64 x.2.2] 61)).alloc (Obj.cells #[.int .i64 y.1, .int .i64 y.2.1, .int .i64 y.2.2] 61) = w0 at *
    replace x1 := cell_bw x1
    replace x2 := cell_bw x2
    replace x3 := cell_bw x3
    replace y1 := cell_bw y1
    replace y2 := cell_bw y2
    replace y3 := cell_bw y3
    refine wp_region_bw (by kernel_rfl) (by kernel_rfl) ?_
    repeat
      (with_reducible refine wpQuiet_step (fun K hK => ?_)
       go_simp
       first
         | (with_reducible refine hK _ ?_
            clear hK K)
         | (rw [if_neg]
            rotate_left
            focus (intro h; cases h; done)
            with_reducible refine hK _ ?_
            clear hK K)
         | (apply Exists.intro
            refine ⟨fun _ => ?_, hK _ ?_⟩
            (exact Calls.bw (end_n _ _ _ _ (by omega) (by omega) (by omega)))
            clear hK K))
    with_reducible refine wpQuiet_nil ?_
    intro wb hw'
    obtain ⟨⟨wb', lb⟩, hw''⟩ := hw'
    subst hw''
    go_wp2_with fail
    go_ret
    exact ⟨ret_bool (by have hle := hle; simp at hle; rw [Bool.eq_iff_iff]; simp [nestB]; omega), below_step B0.out lb⟩

end Tk
end Go.Proofs.Ytldiplnccgoeiaa
