/-
  Layer 7 (demand): Bound.
-/
import Derived.Test.YtldiplnccgoeiaaDemandBound
namespace Go.Proofs.Ytldiplnccgoeiaa
open Go.RowKit Mm Tk
namespace Dm

theorem addEnters : ∀ args w, (callFunc 35 args).run Try.prog w = .ok (.enter 35 args) w := enters_of Try.func35 (by kernel_rfl) rfl
theorem bnd_bad {L : List Tsk} {t : Int} (h : ¬ (allB L = true ∧ 0 ≤ t ∧ t ≤ 4611686018427387903)) : bndZ L t = 0 ∧ bndE L t = 1 := by
  unfold bndZ bndE
  rw [if_neg h, if_neg h]
  exact ⟨rfl, rfl⟩
theorem bnd_good {L : List Tsk} {t : Int} (h : allB L = true) (h0 : 0 ≤ t) (ht : t ≤ 4611686018427387903) : bndZ L t = sumV (bnd L t) ∧ bndE L t = errV (bnd L t) := by
  unfold bndZ bndE
  rw [if_pos ⟨h, h0, ht⟩, if_pos ⟨h, h0, ht⟩]
  exact ⟨rfl, rfl⟩
/-- one task asks for at most as many ticks as there are -/
theorem one_le {x : Tsk} (h : rightT x = true) {t : Int} (h0 : 0 ≤ t) : 0 ≤ x.1 * njobs x.2.1 x.2.2.1 t ∧ x.1 * njobs x.2.1 x.2.2.1 t ≤ t := by
  have hx := right_T h
  have hn := njobs_nonneg (D := x.2.1) (T := x.2.2.1) (t := t) (by omega)
  refine ⟨Int.mul_nonneg (by omega) hn, ?_⟩
  by_cases hz : njobs x.2.1 x.2.2.1 t = 0
  · rw [hz]; omega
  · have h1 := (lt_njobs (D := x.2.1) (T := x.2.2.1) (t := t) (by omega) (njobs x.2.1 x.2.2.1 t - 1) (by omega)).2 (by omega)
    generalize njobs x.2.1 x.2.2.1 t = n at *
    have h2 : x.1 * (n - 1) ≤ (n - 1) * x.2.2.1 := by
      rw [Int.mul_comm]
      exact Int.mul_le_mul_of_nonneg_left (by omega) (by omega)
    rw [Int.mul_sub, Int.mul_one] at h2
    omega

theorem cell_kept {w w' : World} {X E Y j : Nat} (hk : ∀ i, i < w.heap.size → i ≠ X → i ≠ E → w'.heap[i]? = w.heap[i]?) (h1 : Y ≠ X) (h2 : Y ≠ E) {v : Value} (h : w.cell? ⟨Y, j, none⟩ = some v) : w'.cell? ⟨Y, j, none⟩ = some v :=
  (World.cell?_of_block (w := w) (hk Y (lt_of_cell h) h1 h2)).trans h
theorem fresh_frozen (w : World) (c : Array Value) {t : TypeId} : (w.alloc (.cells c t)).frozen? ⟨w.heap.size, 0, none⟩ = false := by simp
theorem acc_new (w : World) : Acc ((w.alloc (.cells #[.int .i64 0] 3)).alloc (.cells #[.int .i64 0] 25)) w.heap.size (w.heap.size + 1) 0 := by
  obtain ⟨u1, u2⟩ := sum_small (v := 0) (by decide)
  have x1 : (w.alloc (.cells #[.int .i64 0] 3)).cell? ⟨w.heap.size, 0, none⟩ = some (.int .i64 0) := by simp
  have x2 : (w.alloc (.cells #[.int .i64 0] 3)).frozen? ⟨w.heap.size, 0, none⟩ = false := by simp
  have y1 : ((w.alloc (.cells #[.int .i64 0] 3)).alloc (.cells #[.int .i64 0] 25)).cell? ⟨(w.alloc (.cells #[.int .i64 0] 3)).heap.size, 0, none⟩ = some (.int .i64 0) := by simp only [World.cell?_alloc_new]; rfl
  have y2 : ((w.alloc (.cells #[.int .i64 0] 3)).alloc (.cells #[.int .i64 0] 25)).frozen? ⟨(w.alloc (.cells #[.int .i64 0] 3)).heap.size, 0, none⟩ = false := fresh_frozen _ _
  rw [World.size_alloc] at y1 y2
  unfold Acc
  rw [u1, u2]
  exact ⟨cell_new x1 _, y1, frozen_below (below_one _ _) x1 x2, y2⟩

set_option maxHeartbeats 1600000 in
theorem bound_any (A : Option Addr) (c : Nat) (L : List Tsk) (t : Int) (w : World) (H : TL w A c L) :
    Calls Try.prog 21 #[.slice A L.length c, .int .i64 t] w fun e w' => e = .returned (.tuple #[.int .i64 (bndZ L t), .int .i64 (bndE L t)]) ∧ Below w.heap.size w w' := by
  have hb1 := H.1
  have HT := Lib.hid H
  clear H
  by_cases hok : allB L = true ∧ 0 ≤ t ∧ t ≤ 4611686018427387903
  · obtain ⟨ha, h0, h1⟩ := hok
    have HZ := Lib.hid (bnd_good ha h0 h1)
    have HA := Lib.hid ha
    have h0' : ¬ t < 0 := by omega
    have h1' : ¬ 4611686018427387903 < t := by omega
    go_enter Try.func21, Try.ntmps21
    go_wp2_with fail
    refine (all_any A c L _ hb1 HT.out.2.1 HT.out.2.2).mono ?_
    rintro e w1 ⟨rfl, b1⟩
    rw [ha]
    replace HT := Lib.hid (HT.out.below b1)
    have B1 := Lib.hid b1
    clear b1
    clear ha
    go_wp2_with fail
    go_loopw [25] (fun i wr => ∃ k : Nat, i = .int .i64 k ∧ k ≤ L.length ∧ Hid (Acc wr w1.heap.size (w1.heap.size + 1) (bndTo L t k)) ∧ Hid (Below w1.heap.size w1 wr)) (fun i _ => L.length - (intOf i).toNat)
    case atStart => exact ⟨0, rfl, Nat.zero_le _, acc_new w1, below_two _ _ _⟩
    case round =>
      obtain ⟨k, rfl, hk, HC, HB⟩ := hrel
      by_cases hlt : k < L.length
      · obtain ⟨bb, off, rfl, hc⟩ := task_at (HT.out.below HB.out).2.2 (by omega)
        obtain ⟨B, d, x1, x2, x3, x4, _, _, _, _⟩ := hc k hlt
        have hR := all_right HA.out k hlt
        have hT := right_T hR
        have hO0 := one_le hR h0
        have hv : 0 ≤ bndTo L t k := bndTo_nonneg (all_right HA.out) t hk
        have HN : Hid (bndTo L t k + (at_ L k).1 * njobs (at_ L k).2.1 (at_ L k).2.2.1 t = bndTo L t (k + 1)) := rfl
        clear hc hR
        generalize at_ L k = x at *
        generalize bndTo L t k = v at *
        obtain ⟨p, hp⟩ : ∃ p, x.1 * njobs x.2.1 x.2.2.1 t = p := ⟨_, rfl⟩
        rw [hp] at hO0 HN
        have hO : 0 ≤ p ∧ p ≤ 4611686018427387903 := by omega
        have e1 : IntKind.i64.wrap (x.1 * njobs x.2.1 x.2.2.1 t) = p := by rw [hp]; exact IntWalk.i64_in _ (by omega)
        have HP := Lib.hid hp
        clear hp
        have hne : w1.heap.size ≠ w1.heap.size + 1 := by omega
        obtain ⟨z1, z2, z3, z4⟩ := box_new wr x.1 x.2.1 x.2.2.1 B x.2.2.2.length d
        have bw1 := below_one wr (Obj.cells #[.int .i64 x.1, .int .i64 x.2.1, .int .i64 x.2.2.1, .slice B x.2.2.2.length d] 47)
        have C2 := Lib.hid (HC.out.below bw1.drew)
        have B2 := Lib.hid (below_step HB.out bw1)
        have hYX : w1.heap.size ≤ wr.heap.size ∧ w1.heap.size + 1 < wr.heap.size := by
          have := lt_of_cell HC.out.2.1
          simp only at this
          omega
        have hY2 : wr.heap.size < (wr.alloc (Obj.cells #[.int .i64 x.1, .int .i64 x.2.1, .int .i64 x.2.2.1, .slice B x.2.2.2.length d] 47)).heap.size := by simp
        go_wp2_with fail
        clear x1 x2 x3 x4 bw1
        generalize wr.alloc (Obj.cells #[.int .i64 x.1, .int .i64 x.2.1, .int .i64 x.2.2.1, .slice B x.2.2.2.length d] 47) = w2 at *
        generalize wr.heap.size = Y at *
        have hY1 : Y ≠ w1.heap.size := by omega
        have hY2' : Y ≠ w1.heap.size + 1 := by omega
        go_region_held3 (fun w' => w'.cell? ⟨Y, 0, none⟩ = some (.int .i64 x.1) ∧ w'.cell? ⟨Y, 1, none⟩ = some (.int .i64 x.2.1) ∧ w'.cell? ⟨Y, 2, none⟩ = some (.int .i64 x.2.2.1) ∧ w'.cell? ⟨Y, 3, none⟩ = some (.slice B x.2.2.2.length d))
          (first
            | (go_split_ands; exact ⟨cell_kept hk6 hY1 hY2' (by assumption), cell_kept hk6 hY1 hY2' (by assumption), cell_kept hk6 hY1 hY2' (by assumption), cell_kept hk6 hY1 hY2' (by assumption)⟩)
            | (go_split_ands; exact ⟨cell_below b5 (by assumption), cell_below b5 (by assumption), cell_below b5 (by assumption), cell_below b5 (by assumption)⟩)
            | (exact ⟨z1, z2, z3, z4⟩))
          (first
            | (go_at_call 36; refine (jobs_any x.1 x.2.1 x.2.2.1 B x.2.2.2.length d t _ (by omega) (by omega) (by omega)).mono ?_; rintro e w5 ⟨rfl, b5⟩)
            | (go_at_call 35; refine (add_closure w1.heap.size w1.heap.size (w1.heap.size + 1) v p _ (by omega) (by omega) hne hv hO (C2.out.below b5)).mono ?_; rintro e w6 ⟨rfl, ha6, hb6, hk6⟩))
        go_split_ands
        have B6 := Lib.hid ((below_step (below_step B2.out (Below.refl _ _).drew) b5).trans hb6)
        have C6 : Hid (Acc w6 w1.heap.size (w1.heap.size + 1) (bndTo L t (k + 1))) := by
          have := HN.out
          rw [← this]
          exact ha6
        go_wp2_with fail
        go_roundw
        case rel =>
          exact ⟨k + 1, by go_num, hlt, C6, B6⟩
        case measure => simp [intOf]; omega
      · have hkl : k = L.length := by omega
        subst hkl
        have B2 := Lib.hid (below_step B1.out HB.out)
        obtain ⟨c1, c2, c3, c4⟩ := HC.out
        have HF : Hid (bndZ L t = sumV (bndTo L t L.length) ∧ bndE L t = errV (bndTo L t L.length)) := HZ.out
        generalize sumV (bndTo L t L.length) = sv at *
        generalize errV (bndTo L t L.length) = ev at *
        clear HC HZ
        go_wp2_with fail
        replace c1 := cell_bw c1
        replace c2 := cell_bw c2
        refine wp_region_bw (by kernel_rfl) (by kernel_rfl) ?_
        repeat
          (with_reducible refine wpQuiet_step (fun K hK => ?_)
           go_simp
           first
             | (with_reducible refine hK _ ?_
                clear hK K)
             | (rw [if_neg]
                rotate_left
                focus (intro h; cases h; done)
                with_reducible refine hK _ ?_
                clear hK K)
             | (apply Exists.intro
                refine ⟨fun _ => ?_, hK _ ?_⟩
                (fail)
                clear hK K))
        with_reducible refine wpQuiet_nil ?_
        intro wb hw'
        obtain ⟨⟨wb', lb⟩, hw''⟩ := hw'
        subst hw''
        have B3 := Lib.hid (below_step B2.out lb)
        clear lb
        go_wp2_with fail
        go_ret2
        exact ⟨by rw [HF.out.1, HF.out.2]; rfl, B3.out⟩
  · obtain ⟨z1, z2⟩ := bnd_bad hok
    have Z1 := Lib.hid z1
    have Z2 := Lib.hid z2
    clear z1 z2
    cases ha : allB L with
    | false =>
      go_enter Try.func21, Try.ntmps21
      go_wp2_with fail
      refine (all_any A c L _ hb1 HT.out.2.1 HT.out.2.2).mono ?_
      rintro e w1 ⟨rfl, b1⟩
      rw [ha]
      have B1 := Lib.hid b1
      clear b1
      go_wp2_with fail
      go_ret2
      exact ⟨by rw [Z1.out, Z2.out]; rfl, B1.out⟩
    | true =>
      have hcase : t < 0 ∨ 4611686018427387903 < t := by
        by_cases h : t < 0
        · exact .inl h
        · exact .inr (by
            by_cases h2 : t ≤ 4611686018427387903
            · exact absurd ⟨ha, by omega, h2⟩ hok
            · omega)
      rcases hcase with h | h
      · clear hok
        go_enter Try.func21, Try.ntmps21
        go_wp2_with fail
        refine (all_any A c L _ hb1 HT.out.2.1 HT.out.2.2).mono ?_
        rintro e w1 ⟨rfl, b1⟩
        rw [ha]
        have B1 := Lib.hid b1
        clear b1
        go_wp2_with fail
        go_ret2
        exact ⟨by rw [Z1.out, Z2.out]; rfl, B1.out⟩
      · clear hok
        have h' : ¬ t < 0 := by omega
        go_enter Try.func21, Try.ntmps21
        go_wp2_with fail
        refine (all_any A c L _ hb1 HT.out.2.1 HT.out.2.2).mono ?_
        rintro e w1 ⟨rfl, b1⟩
        rw [ha]
        have B1 := Lib.hid b1
        clear b1
        go_wp2_with fail
        go_ret2
        exact ⟨by rw [Z1.out, Z2.out]; rfl, B1.out⟩

end Dm
end Go.Proofs.Ytldiplnccgoeiaa
