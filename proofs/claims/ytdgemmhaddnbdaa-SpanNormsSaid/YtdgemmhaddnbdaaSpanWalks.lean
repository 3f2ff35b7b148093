/-
  Layer 4 (span): what the small calls answer: valid; Right.
-/
import Derived.Test.YtdgemmhaddnbdaaSpanMem
import Derived.Shelf.SlSortCmp.QuietGrown
import Derived.Deep.RegionWith
import Derived.Deep.RegionHeld3
namespace Go.Proofs.Ytdgemmhaddnbdaa
open Go.RowKit Go.Sort
namespace Hp

theorem grow_below (w : World) (q : Nat) (os : Array Obj) : Below w.heap.size w (grow (w.drewN q) os) :=
  ⟨rfl, rfl, rfl, by simp [grow, World.drewN], fun i hi => heap_grow_old (w.drewN q) os hi⟩
theorem inn_hit {l : List It} {k : Nat} {t : Int} (hk : k < l.length) (h : hasT (at_ l k) t = true) : inn l t = true :=
  inn_iff.2 ⟨_, at_mem hk, hasT_iff.1 h⟩
theorem inn_miss {l : List It} {t : Int} (h : ∀ j, j < l.length → hasT (at_ l j) t = false) : inn l t = false := by
  rw [← Bool.not_eq_true, inn_iff]
  rintro ⟨x, hx, r⟩
  obtain ⟨i, hi, rfl⟩ := mem_at hx
  have := h i hi
  rw [hasT_iff.2 r] at this
  cases this

theorem valid_grow (x : It) (w : World) :
    Calls Try.prog 20 #[.agg #[.int .i64 x.1, .int .i64 x.2]] w fun e w' => e = .returned (.bool (ok x)) ∧ ∃ q os, w' = grow (w.drewN q) os := by
  obtain ⟨a, b⟩ := x
  go_enter Try.func20, Try.ntmps20
  go_wp2
  all_goals
    go_ret
    refine ⟨ret_bool ?_, 0, _, alloc_eq_grow _ _⟩
    rw [Bool.eq_iff_iff]; simp [ok]; omega
theorem valid_any (x : It) (w : World) :
    Calls Try.prog 20 #[.agg #[.int .i64 x.1, .int .i64 x.2]] w fun e w' => e = .returned (.bool (ok x)) ∧ Below w.heap.size w w' :=
  (valid_grow x w).mono fun _ _ ⟨h, _, _, h'⟩ => ⟨h, by rw [h']; exact grow_below _ _ _⟩
theorem rowTo_step {l : List It} {k : Nat} (h : rowTo l k) (hk : ok (at_ l k) = true ∧ (0 < k → (at_ l (k - 1)).2 < (at_ l k).1)) : rowTo l (k + 1) := by
  intro j hj
  by_cases e : j = k
  · subst e; exact hk
  · exact h j (by omega)
theorem valid_r (x : It) (r : Bool) (h : ok x = r) (w : World) :
    Calls Try.prog 20 #[.agg #[.int .i64 x.1, .int .i64 x.2]] w fun e w' => e = .returned (.bool r) ∧ Below w.heap.size w w' := by
  subst h
  exact valid_any x w
theorem valid_is (x : It) (r : Bool) (h : ok x = r) (w : World) :
    Calls Try.prog 20 #[.agg #[.int .i64 x.1, .int .i64 x.2]] w fun e w' => e = .returned (.bool r) ∧ ∃ q os, w' = grow (w.drewN q) os := by
  subst h
  exact valid_grow x w

set_option maxHeartbeats 800000 in
theorem right_any (A : Option Addr) (c : Nat) (l : List It) (w : World) (hbig : l.length ≤ 1000000) (hr : Rd w A c l) :
    Calls Try.prog 10 #[.slice A l.length c] w fun e w' => e = .returned (.bool (rightB l)) ∧ Below w.heap.size w w' := by
  have HR := Lib.hid hr
  clear hr
  go_enter Try.func10, Try.ntmps10
  go_wp2
  go_loopw [7] (fun i wr => ∃ k : Nat, i = .int .i64 k ∧ Hid (rowTo l k) ∧ Hid (Below w.heap.size w wr)) (fun i _ => l.length - (intOf i).toNat)
  case atStart => exact ⟨0, rfl, (fun j h1 => by omega), Below.refl _ _⟩
  case round =>
    obtain ⟨k, rfl, HH, HB⟩ := hrel
    by_cases hlt : k < l.length
    · obtain ⟨b, off, rfl, hc⟩ := (HR.out.below HB.out).2 (by omega)
      obtain ⟨x1, x2⟩ := hc k hlt
      cases hv : ok (at_ l k) with
      | false =>
        have HV := Lib.hid hv
        have HF := Lib.hid (rightB_not hlt (.inl hv))
        clear hv hc
        generalize at_ l k = x at x1 x2 HV
        go_wp2_with fail
        have s1 : (wr.alloc (Obj.cells #[.int .i64 x.1, .int .i64 x.2] 29)).cell? ⟨wr.heap.size, 0, none⟩ = some (.int .i64 x.1) := by simp
        have s2 : (wr.alloc (Obj.cells #[.int .i64 x.1, .int .i64 x.2] 29)).cell? ⟨wr.heap.size, 1, none⟩ = some (.int .i64 x.2) := by simp
        have B0 := Lib.hid (HB.out.trans ((below_one wr (Obj.cells #[.int .i64 x.1, .int .i64 x.2] 29)).mono HB.out.size))
        clear x1 x2
        generalize wr.alloc (Obj.cells #[.int .i64 x.1, .int .i64 x.2] 29) = wq at s1 s2 B0 ⊢
        generalize wr.heap.size = S at s1 s2 ⊢
        have g1 := cell_grown (lt_of_cell s1) s1
        have g2 := cell_grown (lt_of_cell s2) s2
        clear s1 s2
        refine wp_region_quiet_grown (by kernel_rfl) (by kernel_rfl) ?_
        repeat
          (with_reducible refine wpQuiet_step (fun K hK => ?_)
           go_simp
           first
             | (with_reducible refine hK _ ?_
                clear hK K)
             | (rw [if_neg]
                rotate_left
                focus (intro h; cases h; done)
                with_reducible refine hK _ ?_
                clear hK K)
             | (apply Exists.intro
                refine ⟨fun _ => ?_, hK _ ?_⟩
                (exact Calls.grown_of (valid_is x false HV.out _))
                clear hK K))
        with_reducible refine wpQuiet_nil ?_
        intro _ hw'
        obtain ⟨⟨nq, osq⟩, hw''⟩ := hw'
        subst hw''
        have B1 := Lib.hid (B0.out.trans ((grow_below wq nq osq).mono B0.out.size))
        clear g1 g2
        generalize grow (wq.drewN nq) osq = w1 at B1 ⊢
        go_wp2_with fail
        go_ret
        exact ⟨ret_bool HF.out.symm, B1.out⟩
      | true =>
        by_cases hk : k = 0
        · have HF : Hid (ok (at_ l k) = true ∧ (0 < k → (at_ l (k - 1)).2 < (at_ l k).1)) := ⟨hv, fun h => absurd h (by omega)⟩
          have HV := Lib.hid hv
          have hd : decide (0 < k) = false := decide_eq_false (by omega)
          clear hv hc hk
          generalize at_ l k = x at x1 x2 HV
          go_wp2_with fail
          have s1 : (wr.alloc (Obj.cells #[.int .i64 x.1, .int .i64 x.2] 29)).cell? ⟨wr.heap.size, 0, none⟩ = some (.int .i64 x.1) := by simp
          have s2 : (wr.alloc (Obj.cells #[.int .i64 x.1, .int .i64 x.2] 29)).cell? ⟨wr.heap.size, 1, none⟩ = some (.int .i64 x.2) := by simp
          have B0 := Lib.hid (HB.out.trans ((below_one wr (Obj.cells #[.int .i64 x.1, .int .i64 x.2] 29)).mono HB.out.size))
          clear x1 x2
          generalize wr.alloc (Obj.cells #[.int .i64 x.1, .int .i64 x.2] 29) = wq at s1 s2 B0 ⊢
          generalize wr.heap.size = S at s1 s2 ⊢
          have g1 := cell_grown (lt_of_cell s1) s1
          have g2 := cell_grown (lt_of_cell s2) s2
          clear s1 s2
          refine wp_region_quiet_grown (by kernel_rfl) (by kernel_rfl) ?_
          repeat
            (with_reducible refine wpQuiet_step (fun K hK => ?_)
             go_simp
             first
               | (with_reducible refine hK _ ?_
                  clear hK K)
               | (rw [if_neg]
                  rotate_left
                  focus (intro h; cases h; done)
                  with_reducible refine hK _ ?_
                  clear hK K)
               | (apply Exists.intro
                  refine ⟨fun _ => ?_, hK _ ?_⟩
                  (exact Calls.grown_of (valid_is x true HV.out _))
                  clear hK K))
          with_reducible refine wpQuiet_nil ?_
          intro _ hw'
          obtain ⟨⟨nq, osq⟩, hw''⟩ := hw'
          subst hw''
          have B1 := Lib.hid (B0.out.trans ((grow_below wq nq osq).mono B0.out.size))
          clear g1 g2
          generalize grow (wq.drewN nq) osq = w1 at B1 ⊢
          go_wp2_with fail
          go_roundw
          case rel => exact ⟨k + 1, by go_num, rowTo_step HH.out HF.out, B1⟩
          case measure => simp [intOf]; omega
        · obtain ⟨y1, y2⟩ := hc (k - 1) (by omega)
          have hd : decide (0 < k) = true := decide_eq_true (by omega)
          have q2 : k - 1 < l.length := by omega
          have HV := Lib.hid hv
          by_cases ho : (at_ l k).1 ≤ (at_ l (k - 1)).2
          · have HF := Lib.hid (rightB_not hlt (.inr ⟨by omega, ho⟩))
            clear hv hc
            generalize at_ l k = x at x1 x2 HV ho
            generalize at_ l (k - 1) = y at y1 y2 ho
            go_wp2_with fail
            have s1 : (wr.alloc (Obj.cells #[.int .i64 x.1, .int .i64 x.2] 29)).cell? ⟨wr.heap.size, 0, none⟩ = some (.int .i64 x.1) := by simp
            have s2 : (wr.alloc (Obj.cells #[.int .i64 x.1, .int .i64 x.2] 29)).cell? ⟨wr.heap.size, 1, none⟩ = some (.int .i64 x.2) := by simp
            have z2 := cell_new y2 (Obj.cells #[.int .i64 x.1, .int .i64 x.2] 29)
            have B0 := Lib.hid (HB.out.trans ((below_one wr (Obj.cells #[.int .i64 x.1, .int .i64 x.2] 29)).mono HB.out.size))
            clear x1 x2 y1 y2
            generalize wr.alloc (Obj.cells #[.int .i64 x.1, .int .i64 x.2] 29) = wq at s1 s2 B0 z2 ⊢
            generalize wr.heap.size = S at s1 s2 ⊢
            have g1 := cell_grown (lt_of_cell s1) s1
            have g2 := cell_grown (lt_of_cell s2) s2
            have g3 := cell_grown (lt_of_cell z2) z2
            clear s1 s2 z2
            have q3 : IntKind.i64.wrap ((k : Int) - 1) = ((k - 1 : Nat) : Int) := by rw [IntWalk.i64_in _ (by omega)]; omega
            refine wp_region_quiet_grown (by kernel_rfl) (by kernel_rfl) ?_
            repeat
              (with_reducible refine wpQuiet_step (fun K hK => ?_)
               go_simp
               first
                 | (with_reducible refine hK _ ?_
                    clear hK K)
                 | (rw [if_neg]
                    rotate_left
                    focus (intro h; cases h; done)
                    with_reducible refine hK _ ?_
                    clear hK K)
                 | (apply Exists.intro
                    refine ⟨fun _ => ?_, hK _ ?_⟩
                    (exact Calls.grown_of (valid_is x true HV.out _))
                    clear hK K))
            with_reducible refine wpQuiet_nil ?_
            intro _ hw'
            obtain ⟨⟨nq, osq⟩, hw''⟩ := hw'
            subst hw''
            have B1 := Lib.hid (B0.out.trans ((grow_below wq nq osq).mono B0.out.size))
            clear g1 g2 g3 q3
            generalize grow (wq.drewN nq) osq = w1 at B1 ⊢
            go_wp2_with fail
            go_ret
            exact ⟨ret_bool HF.out.symm, B1.out⟩
          · have HF : Hid (ok (at_ l k) = true ∧ (0 < k → (at_ l (k - 1)).2 < (at_ l k).1)) := ⟨hv, fun h => by omega⟩
            clear hv hc
            generalize at_ l k = x at x1 x2 HV ho
            generalize at_ l (k - 1) = y at y1 y2 ho
            go_wp2_with fail
            have s1 : (wr.alloc (Obj.cells #[.int .i64 x.1, .int .i64 x.2] 29)).cell? ⟨wr.heap.size, 0, none⟩ = some (.int .i64 x.1) := by simp
            have s2 : (wr.alloc (Obj.cells #[.int .i64 x.1, .int .i64 x.2] 29)).cell? ⟨wr.heap.size, 1, none⟩ = some (.int .i64 x.2) := by simp
            have z2 := cell_new y2 (Obj.cells #[.int .i64 x.1, .int .i64 x.2] 29)
            have B0 := Lib.hid (HB.out.trans ((below_one wr (Obj.cells #[.int .i64 x.1, .int .i64 x.2] 29)).mono HB.out.size))
            clear x1 x2 y1 y2
            generalize wr.alloc (Obj.cells #[.int .i64 x.1, .int .i64 x.2] 29) = wq at s1 s2 B0 z2 ⊢
            generalize wr.heap.size = S at s1 s2 ⊢
            have g1 := cell_grown (lt_of_cell s1) s1
            have g2 := cell_grown (lt_of_cell s2) s2
            have g3 := cell_grown (lt_of_cell z2) z2
            clear s1 s2 z2
            have q3 : IntKind.i64.wrap ((k : Int) - 1) = ((k - 1 : Nat) : Int) := by rw [IntWalk.i64_in _ (by omega)]; omega
            refine wp_region_quiet_grown (by kernel_rfl) (by kernel_rfl) ?_
            repeat
              (with_reducible refine wpQuiet_step (fun K hK => ?_)
               go_simp
               first
                 | (with_reducible refine hK _ ?_
                    clear hK K)
                 | (rw [if_neg]
                    rotate_left
                    focus (intro h; cases h; done)
                    with_reducible refine hK _ ?_
                    clear hK K)
                 | (apply Exists.intro
                    refine ⟨fun _ => ?_, hK _ ?_⟩
                    (exact Calls.grown_of (valid_is x true HV.out _))
                    clear hK K))
            with_reducible refine wpQuiet_nil ?_
            intro _ hw'
            obtain ⟨⟨nq, osq⟩, hw''⟩ := hw'
            subst hw''
            have B1 := Lib.hid (B0.out.trans ((grow_below wq nq osq).mono B0.out.size))
            clear g1 g2 g3 q3
            generalize grow (wq.drewN nq) osq = w1 at B1 ⊢
            go_wp2_with fail
            go_roundw
            case rel => exact ⟨k + 1, by go_num, rowTo_step HH.out HF.out, B1⟩
            case measure => simp [intOf]; omega
    · go_wp2
      go_ret
      exact ⟨ret_bool (rightB_of_row fun j hj => HH.out j (by omega)).symm, HB.out⟩

end Hp
end Go.Proofs.Ytdgemmhaddnbdaa
