/-
  Layer 4: the document's answers: May, In, Same.
-/
import Derived.Test.YtdgemmhaddnbdaaSpanWalks
namespace Go.Proofs.Ytdgemmhaddnbdaa
open Go.RowKit Go.Sort
namespace Hp

theorem may_grow (x : It) (w : World) :
    Calls Try.prog 21 #[.agg #[.int .i64 x.1, .int .i64 x.2]] w fun e w' => e = .returned (.bool (ok x)) ∧ ∃ q os, w' = grow (w.drewN q) os := by
  obtain ⟨a, b⟩ := x
  go_enter Try.func21, Try.ntmps21
  go_wp2
  all_goals
    go_ret
    refine ⟨ret_bool ?_, 0, _, alloc_eq_grow _ _⟩
    rw [Bool.eq_iff_iff]; simp [ok]; omega
theorem may_any (x : It) (w : World) :
    Calls Try.prog 21 #[.agg #[.int .i64 x.1, .int .i64 x.2]] w fun e w' => e = .returned (.bool (ok x)) ∧ Below w.heap.size w w' :=
  (may_grow x w).mono fun _ _ ⟨h, _, _, h'⟩ => ⟨h, by rw [h']; exact grow_below _ _ _⟩

set_option maxHeartbeats 800000 in
theorem refIn_any (A : Option Addr) (c : Nat) (l : List It) (t : Int) (w : World) (hbig : l.length ≤ 1000000) (hr : Rd w A c l) :
    Calls Try.prog 16 #[.slice A l.length c, .int .i64 t] w fun e w' => e = .returned (.bool (inn l t)) ∧ Below w.heap.size w w' := by
  have HR := Lib.hid hr
  clear hr
  go_enter Try.func16, Try.ntmps16
  go_wp2
  go_loopw [5] (fun i wr => ∃ k : Nat, i = .int .i64 k ∧ Hid (∀ j, j < k → j < l.length → hasT (at_ l j) t = false) ∧ Hid (Below w.heap.size w wr)) (fun i _ => l.length - (intOf i).toNat)
  case atStart => exact ⟨0, rfl, (fun j h1 => by omega), Below.refl _ _⟩
  case round =>
    obtain ⟨k, rfl, HH, HB⟩ := hrel
    by_cases hlt : k < l.length
    · obtain ⟨b, off, rfl, hc⟩ := (HR.out.below HB.out).2 (by omega)
      obtain ⟨x1, x2⟩ := hc k hlt
      have HT : Hid (hasT (at_ l k) t = true → inn l t = true) := fun h => inn_hit hlt h
      clear hc
      generalize hx : at_ l k = x at x1 x2 HT
      have HX := Lib.hid hx
      clear hx
      cases hv : ok x with
      | false =>
        have HV := Lib.hid hv
        have HF : Hid (hasT x t = false) := by show hasT x t = false; simp [hasT, hv]
        clear hv
        go_wp2_with fail
        refine (may_any x _).mono ?_
        rintro e w1 ⟨rfl, b1⟩
        have B1 := Lib.hid (HB.out.trans (b1.mono HB.out.size))
        clear b1
        rw [HV.out]
        go_wp2_with fail
        go_roundw
        case rel =>
          refine ⟨k + 1, by go_num, ?_, B1⟩
          intro j hj hjl
          by_cases e : j = k
          · subst e; rw [HX.out]; exact HF.out
          · exact HH.out j (by omega) hjl
        case measure => simp [intOf]; omega
      | true =>
        have HV := Lib.hid hv
        clear hv
        by_cases h1 : x.1 ≤ t
        · by_cases h2 : t < x.2
          · have HF : Hid (inn l t = true) := HT.out (by simp [hasT, HV.out, h1, h2])
            go_wp2_with fail
            refine (may_any x _).mono ?_
            rintro e w1 ⟨rfl, b1⟩
            have B1 := Lib.hid (HB.out.trans (b1.mono HB.out.size))
            have y1 := cell_below b1 x1
            have y2 := cell_below b1 x2
            clear b1
            rw [HV.out]
            go_wp2_with fail
            go_ret
            exact ⟨ret_bool HF.out.symm, B1.out⟩
          · have HF : Hid (hasT x t = false) := by show hasT x t = false; simp [hasT, h2]
            go_wp2_with fail
            refine (may_any x _).mono ?_
            rintro e w1 ⟨rfl, b1⟩
            have B1 := Lib.hid (HB.out.trans (b1.mono HB.out.size))
            have y1 := cell_below b1 x1
            have y2 := cell_below b1 x2
            clear b1
            rw [HV.out]
            go_wp2_with fail
            go_roundw
            case rel =>
              refine ⟨k + 1, by go_num, ?_, B1⟩
              intro j hj hjl
              by_cases e : j = k
              · subst e; rw [HX.out]; exact HF.out
              · exact HH.out j (by omega) hjl
            case measure => simp [intOf]; omega
        · have HF : Hid (hasT x t = false) := by show hasT x t = false; simp [hasT, h1]
          go_wp2_with fail
          refine (may_any x _).mono ?_
          rintro e w1 ⟨rfl, b1⟩
          have B1 := Lib.hid (HB.out.trans (b1.mono HB.out.size))
          have y1 := cell_below b1 x1
          have y2 := cell_below b1 x2
          clear b1
          rw [HV.out]
          go_wp2_with fail
          go_roundw
          case rel =>
            refine ⟨k + 1, by go_num, ?_, B1⟩
            intro j hj hjl
            by_cases e : j = k
            · subst e; rw [HX.out]; exact HF.out
            · exact HH.out j (by omega) hjl
          case measure => simp [intOf]; omega
    · go_wp2
      go_ret
      exact ⟨ret_bool (inn_miss fun j hj => HH.out j (by omega) hj).symm, HB.out⟩

theorem may_is (x : It) (r : Bool) (h : ok x = r) (w : World) :
    Calls Try.prog 21 #[.agg #[.int .i64 x.1, .int .i64 x.2]] w fun e w' => e = .returned (.bool r) ∧ ∃ q os, w' = grow (w.drewN q) os := by
  subst h
  exact may_grow x w

set_option maxHeartbeats 800000 in
theorem refRight_any (A : Option Addr) (c : Nat) (l : List It) (w : World) (hbig : l.length ≤ 1000000) (hr : Rd w A c l) :
    Calls Try.prog 11 #[.slice A l.length c] w fun e w' => e = .returned (.bool (rightB l)) ∧ Below w.heap.size w w' := by
  have HR := Lib.hid hr
  clear hr
  go_enter Try.func11, Try.ntmps11
  go_wp2
  go_loopw [3] (fun i wr => ∃ k : Nat, i = .int .i64 k ∧ Hid (rowTo l k) ∧ Hid (Below w.heap.size w wr)) (fun i _ => l.length - (intOf i).toNat)
  case atStart => exact ⟨0, rfl, (fun j h1 => by omega), Below.refl _ _⟩
  case round =>
    obtain ⟨k, rfl, HH, HB⟩ := hrel
    by_cases hlt : k < l.length
    · obtain ⟨b, off, rfl, hc⟩ := (HR.out.below HB.out).2 (by omega)
      obtain ⟨x1, x2⟩ := hc k hlt
      cases hv : ok (at_ l k) with
      | false =>
        have HV := Lib.hid hv
        have HF := Lib.hid (rightB_not hlt (.inl hv))
        clear hv hc
        generalize at_ l k = x at x1 x2 HV
        go_wp2_with fail
        have g1 := cell_grown (lt_of_cell x1) x1
        have g2 := cell_grown (lt_of_cell x2) x2
        clear x1 x2
        refine wp_region_quiet_grown (by kernel_rfl) (by kernel_rfl) ?_
        repeat
          (with_reducible refine wpQuiet_step (fun K hK => ?_)
           go_simp
           first
             | (with_reducible refine hK _ ?_
                clear hK K)
             | (rw [if_neg]
                rotate_left
                focus (intro h; cases h; done)
                with_reducible refine hK _ ?_
                clear hK K)
             | (apply Exists.intro
                refine ⟨fun _ => ?_, hK _ ?_⟩
                (exact Calls.grown_of (may_is x false HV.out _))
                clear hK K))
        with_reducible refine wpQuiet_nil ?_
        intro _ hw'
        obtain ⟨⟨nq, osq⟩, hw''⟩ := hw'
        subst hw''
        have B1 := Lib.hid (HB.out.trans ((grow_below wr nq osq).mono HB.out.size))
        clear g1 g2
        generalize grow (wr.drewN nq) osq = w1 at B1 ⊢
        go_wp2_with fail
        go_ret
        exact ⟨ret_bool HF.out.symm, B1.out⟩
      | true =>
        by_cases hk : k = 0
        · have HF : Hid (ok (at_ l k) = true ∧ (0 < k → (at_ l (k - 1)).2 < (at_ l k).1)) := ⟨hv, fun h => absurd h (by omega)⟩
          have HV := Lib.hid hv
          have hd : decide (0 < k) = false := decide_eq_false (by omega)
          clear hv hc hk
          generalize at_ l k = x at x1 x2 HV
          go_wp2_with fail
          have g1 := cell_grown (lt_of_cell x1) x1
          have g2 := cell_grown (lt_of_cell x2) x2
          clear x1 x2
          refine wp_region_quiet_grown (by kernel_rfl) (by kernel_rfl) ?_
          repeat
            (with_reducible refine wpQuiet_step (fun K hK => ?_)
             go_simp
             first
               | (with_reducible refine hK _ ?_
                  clear hK K)
               | (rw [if_neg]
                  rotate_left
                  focus (intro h; cases h; done)
                  with_reducible refine hK _ ?_
                  clear hK K)
               | (apply Exists.intro
                  refine ⟨fun _ => ?_, hK _ ?_⟩
                  (exact Calls.grown_of (may_is x true HV.out _))
                  clear hK K))
          with_reducible refine wpQuiet_nil ?_
          intro _ hw'
          obtain ⟨⟨nq, osq⟩, hw''⟩ := hw'
          subst hw''
          have B1 := Lib.hid (HB.out.trans ((grow_below wr nq osq).mono HB.out.size))
          clear g1 g2
          generalize grow (wr.drewN nq) osq = w1 at B1 ⊢
          go_wp2_with fail
          go_roundw
          case rel => exact ⟨k + 1, by go_num, rowTo_step HH.out HF.out, B1⟩
          case measure => simp [intOf]; omega
        · obtain ⟨y1, y2⟩ := hc (k - 1) (by omega)
          have hd : decide (0 < k) = true := decide_eq_true (by omega)
          have q2 : k - 1 < l.length := by omega
          have HV := Lib.hid hv
          by_cases ho : (at_ l k).1 ≤ (at_ l (k - 1)).2
          · have HF := Lib.hid (rightB_not hlt (.inr ⟨by omega, ho⟩))
            clear hv hc
            generalize at_ l k = x at x1 x2 HV ho
            generalize at_ l (k - 1) = y at y1 y2 ho
            go_wp2_with fail
            have g1 := cell_grown (lt_of_cell x1) x1
            have g2 := cell_grown (lt_of_cell x2) x2
            have g3 := cell_grown (lt_of_cell y2) y2
            clear x1 x2 y1 y2
            have q3 : IntKind.i64.wrap ((k : Int) - 1) = ((k - 1 : Nat) : Int) := by rw [IntWalk.i64_in _ (by omega)]; omega
            refine wp_region_quiet_grown (by kernel_rfl) (by kernel_rfl) ?_
            repeat
              (with_reducible refine wpQuiet_step (fun K hK => ?_)
               go_simp
               first
                 | (with_reducible refine hK _ ?_
                    clear hK K)
                 | (rw [if_neg]
                    rotate_left
                    focus (intro h; cases h; done)
                    with_reducible refine hK _ ?_
                    clear hK K)
                 | (apply Exists.intro
                    refine ⟨fun _ => ?_, hK _ ?_⟩
                    (exact Calls.grown_of (may_is x true HV.out _))
                    clear hK K))
            with_reducible refine wpQuiet_nil ?_
            intro _ hw'
            obtain ⟨⟨nq, osq⟩, hw''⟩ := hw'
            subst hw''
            have B1 := Lib.hid (HB.out.trans ((grow_below wr nq osq).mono HB.out.size))
            clear g1 g2 g3 q3
            generalize grow (wr.drewN nq) osq = w1 at B1 ⊢
            go_wp2_with fail
            go_ret
            exact ⟨ret_bool HF.out.symm, B1.out⟩
          · have HF : Hid (ok (at_ l k) = true ∧ (0 < k → (at_ l (k - 1)).2 < (at_ l k).1)) := ⟨hv, fun h => by omega⟩
            clear hv hc
            generalize at_ l k = x at x1 x2 HV ho
            generalize at_ l (k - 1) = y at y1 y2 ho
            go_wp2_with fail
            have g1 := cell_grown (lt_of_cell x1) x1
            have g2 := cell_grown (lt_of_cell x2) x2
            have g3 := cell_grown (lt_of_cell y2) y2
            clear x1 x2 y1 y2
            have q3 : IntKind.i64.wrap ((k : Int) - 1) = ((k - 1 : Nat) : Int) := by rw [IntWalk.i64_in _ (by omega)]; omega
            refine wp_region_quiet_grown (by kernel_rfl) (by kernel_rfl) ?_
            repeat
              (with_reducible refine wpQuiet_step (fun K hK => ?_)
               go_simp
               first
                 | (with_reducible refine hK _ ?_
                    clear hK K)
                 | (rw [if_neg]
                    rotate_left
                    focus (intro h; cases h; done)
                    with_reducible refine hK _ ?_
                    clear hK K)
                 | (apply Exists.intro
                    refine ⟨fun _ => ?_, hK _ ?_⟩
                    (exact Calls.grown_of (may_is x true HV.out _))
                    clear hK K))
            with_reducible refine wpQuiet_nil ?_
            intro _ hw'
            obtain ⟨⟨nq, osq⟩, hw''⟩ := hw'
            subst hw''
            have B1 := Lib.hid (HB.out.trans ((grow_below wr nq osq).mono HB.out.size))
            clear g1 g2 g3 q3
            generalize grow (wr.drewN nq) osq = w1 at B1 ⊢
            go_wp2_with fail
            go_roundw
            case rel => exact ⟨k + 1, by go_num, rowTo_step HH.out HF.out, B1⟩
            case measure => simp [intOf]; omega
    · go_wp2
      go_ret
      exact ⟨ret_bool (rightB_of_row fun j hj => HH.out j (by omega)).symm, HB.out⟩

end Hp
end Go.Proofs.Ytdgemmhaddnbdaa
