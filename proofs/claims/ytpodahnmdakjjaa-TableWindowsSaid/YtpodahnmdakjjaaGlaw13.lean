/-
  Merged texts: Law13Args, Law13Right, Law13At, Law13Ticks, Law13Knows, Law13Same, Law13Least.
-/
import Derived.Test.YtpodahnmdakjjaaGmem
import Derived.Test.YtpodahnmdakjjaaGtable
/-
  Layer 13: the arguments of the statements, opened: a table.
-/
namespace Go.Proofs.Ytpodahnmdakjjaa
open Go.ChangeShapes Go.WideShapes Go.ChangeAt Go.RowKit Go.Deep Go.Joins Mm
namespace Tb

theorem opNum : Opens Try.prog 3 Int := opens_int Try.underlying3 (by kernel_rfl)
theorem opWin : Opens Try.prog 54 Win := opens_struct Try.underlying54 (by kernel_rfl) (fieldsOpen_cons rfl opNum (fieldsOpen_cons rfl opNum (fieldsOpen_one rfl opNum)))
theorem opWins : Opens Try.prog 22 (List Win) := opens_slice Try.underlying22 (by kernel_rfl) opWin
theorem opTable : Opens Try.prog 24 (Int × List Win) := opens_struct Try.underlying24 (by kernel_rfl) (fieldsOpen_cons rfl opNum (fieldsOpen_one rfl opWins))

section
variable {H : Type} {enc : TypeId × Value → H} {w : World} {base : Nat} {spare : Nat → Bool} {held : Bool}
theorem open_table {r : Reach} {b0 : Nat} {v : Value} {d : DataW H} {ps : List MemPlace} (hv : Value.okWide Try.prog w r b0 24 v) (h : DataW.Trod enc Try.prog w base spare held 24 v d ps) :
    ∃ (A : Option Addr) (c : Nat) (f : Int) (W : List Win), v = .agg #[.int .i64 f, .slice A W.length c] ∧ Fit f ∧ Rd w A c W := by
  obtain ⟨cs, x, rfl, hx⟩ := open_strct (α := Int × List Win) Try.underlying24 opTable hv h
  obtain ⟨v, r, rfl, ⟨rfl, f1⟩, h2⟩ := hx
  obtain ⟨B, d, rfl, hr⟩ := h2
  exact ⟨B, d, x.1, x.2, rfl, f1, hr⟩
end

end Tb
end Go.Proofs.Ytpodahnmdakjjaa

/-
  Layer 13: the document's answer Right.
-/
namespace Go.Proofs.Ytpodahnmdakjjaa
open Go.RowKit Mm
namespace Tb

set_option maxRecDepth 20000 in
set_option maxHeartbeats 6400000 in
theorem refRight_any (f : Int) (A : Option Addr) (c : Nat) (W : List Win) (w : World) (H : WL w A c W) :
    Calls Try.prog 10 #[.int .i64 f, .slice A W.length c] w fun e w' => e = .returned (.bool (rightB f W)) ∧ Below w.heap.size w w' := by
  have hbig := H.1
  have HL := Lib.hid H
  clear H
  by_cases h1 : f < 1
  · have HH := Lib.hid (right_bad (f := f) (W := W) (by omega))
    go_enter Try.func10, Try.ntmps10
    go_wp2_with fail
    go_ret
    exact ⟨ret_bool HH.out.symm, Below.refl _ _⟩
  · by_cases h2 : 240 < f
    · have HH := Lib.hid (right_bad (f := f) (W := W) (by omega))
      go_enter Try.func10, Try.ntmps10
      go_wp2_with fail
      go_ret
      exact ⟨ret_bool HH.out.symm, Below.refl _ _⟩
    · go_enter Try.func10, Try.ntmps10
      go_wp2_with fail
      go_loopw [5] (fun i wr => ∃ k : Nat, i = .int .i64 k ∧ k ≤ W.length ∧ Hid (Fine f W k) ∧ Hid (Below w.heap.size w wr)) (fun i _ => W.length - (intOf i).toNat)
      case atStart => exact ⟨0, rfl, Nat.zero_le _, (fun j h => by omega), Below.refl _ _⟩
      case round =>
        obtain ⟨k, rfl, hk, HF, HB⟩ := hrel
        by_cases hlt : k < W.length
        · obtain ⟨b, off, rfl, hc⟩ := win_at (HL.out.2.below HB.out) (by omega)
          obtain ⟨x1, x2, x3, _⟩ := hc k hlt
          have HC := Lib.hid hc
          clear hc
          generalize hx : at_ W k = x at *
          have HX := Lib.hid hx
          clear hx
          have i1 : (0 : Int) ≤ (k : Int) := by omega
          have i2 : (k : Int) < (W.length : Int) := by omega
          have bw := below_one wr (Obj.cells #[.int .i64 x.1, .int .i64 x.2.1, .int .i64 x.2.2] 54)
          have HB2 := Lib.hid (below_step HB.out bw)
          obtain ⟨w1, w2, w3⟩ := wx_new wr x
          by_cases c1 : x.1 < 0
          · skip
            have HH := Lib.hid (right_win hlt (show winB f (at_ W k) = false from decide_eq_false (by rw [HX.out]; omega)))
            go_wp2_with fail
            go_ret
            exact ⟨ret_bool HH.out.symm, HB2.out⟩
          · by_cases c2 : 3 < x.1
            · skip
              have HH := Lib.hid (right_win hlt (show winB f (at_ W k) = false from decide_eq_false (by rw [HX.out]; omega)))
              go_wp2_with fail
              go_ret
              exact ⟨ret_bool HH.out.symm, HB2.out⟩
            · by_cases c3 : x.2.1 < 0
              · skip
                have HH := Lib.hid (right_win hlt (show winB f (at_ W k) = false from decide_eq_false (by rw [HX.out]; omega)))
                go_wp2_with fail
                go_ret
                exact ⟨ret_bool HH.out.symm, HB2.out⟩
              · by_cases c4 : f < x.2.1
                · by_cases c9 : 1 ≤ x.2.2
                  · skip
                    have HH := Lib.hid (right_win hlt (show winB f (at_ W k) = false from decide_eq_false (by rw [HX.out]; omega)))
                    go_wp2_with fail
                    go_ret
                    exact ⟨ret_bool HH.out.symm, HB2.out⟩
                  · skip
                    have HH := Lib.hid (right_win hlt (show winB f (at_ W k) = false from decide_eq_false (by rw [HX.out]; omega)))
                    go_wp2_with fail
                    go_ret
                    exact ⟨ret_bool HH.out.symm, HB2.out⟩
                · by_cases c5 : x.2.2 < 1
                  · skip
                    have HH := Lib.hid (right_win hlt (show winB f (at_ W k) = false from decide_eq_false (by rw [HX.out]; omega)))
                    go_wp2_with fail
                    go_ret
                    exact ⟨ret_bool HH.out.symm, HB2.out⟩
                  · by_cases c6 : f < x.2.2
                    · skip
                      have HH := Lib.hid (right_win hlt (show winB f (at_ W k) = false from decide_eq_false (by rw [HX.out]; omega)))
                      go_wp2_with fail
                      go_ret
                      exact ⟨ret_bool HH.out.symm, HB2.out⟩
                    · have s1 : IntKind.i64.wrap (x.2.1 + x.2.2) = x.2.1 + x.2.2 := IntWalk.i64_in _ (by omega)
                      by_cases c7 : f < x.2.1 + x.2.2
                      · skip
                        have HH := Lib.hid (right_win hlt (show winB f (at_ W k) = false from decide_eq_false (by rw [HX.out]; omega)))
                        go_wp2_with fail
                        go_ret
                        exact ⟨ret_bool HH.out.symm, HB2.out⟩
                      · have hw : winB f x = true := win_iff.2 (by omega)
                        have HW := Lib.hid hw
                        clear hw
                        by_cases hk0 : 0 < k
                        · obtain ⟨m, hm⟩ : ∃ m, m = k - 1 := ⟨_, rfl⟩
                          have e1 : IntKind.i64.wrap ((k : Int) - 1) = (m : Int) := by rw [IntWalk.i64_in _ (by omega)]; omega
                          have i3 : (0 : Int) < (k : Int) := by omega
                          have i4 : (0 : Int) ≤ (m : Int) := by omega
                          have i5 : (m : Int) < (W.length : Int) := by omega
                          have i6 : decide ((0 : Int) ≤ (m : Int) ∧ (m : Int) < (W.length : Int)) = true := decide_eq_true ⟨i4, i5⟩
                          have HFY := Lib.hid (HF.out m (by omega)).1
                          obtain ⟨y1, y2, y3, _⟩ := HC.out m (by omega)
                          have HGO : Hid (stepB (at_ W m) x = true → Fine f W (k + 1)) := fun h => HF.out.succ (by rw [HX.out]; exact HW.out) (fun _ => by rw [← hm, HX.out]; exact h)
                          have HNO : Hid (stepB (at_ W m) x = false → rightB f W = false) := fun h => right_step hlt hk0 (by rw [← hm, HX.out]; exact h)
                          generalize at_ W m = y at *
                          have hy := win_iff.1 HFY.out
                          have s2 : IntKind.i64.wrap (y.2.1 + y.2.2) = y.2.1 + y.2.2 := IntWalk.i64_in _ (by omega)
                          replace y1 := (cell_below bw) y1
                          replace y2 := (cell_below bw) y2
                          replace y3 := (cell_below bw) y3
                          have HM := Lib.hid hm
                          obtain ⟨en, hen⟩ : ∃ en : Int, y.2.1 + y.2.2 = en := ⟨_, rfl⟩
                          replace s2 := s2.trans hen
                          have HST : Hid (stepB y x = true ↔ en ≤ x.2.1 ∧ (x.2.1 = en → x.1 ≠ y.1)) := by show _ ↔ _; rw [step_iff, hen]
                          have HEN := Lib.hid hen
                          clear hm hy hen
                          go_wp2_with fail
                          generalize wr.alloc (Obj.cells #[.int .i64 x.1, .int .i64 x.2.1, .int .i64 x.2.2] 54) = w5 at *
                          have W1 := Lib.hid w1
                          have W2 := Lib.hid w2
                          have Y1 := Lib.hid y1
                          by_cases c8 : x.2.1 < en
                          · have d7 : decide (x.2.1 < en) = true := decide_eq_true c8
                            have HH := Lib.hid (HNO.out (by have h := HST.out; rcases hq : stepB y x with _ | _; rfl; exact absurd (h.1 hq) (by omega)))
                            replace y2 := cell_bw y2
                            replace y3 := cell_bw y3
                            refine wp_region_bw (by kernel_rfl) (by kernel_rfl) ?_
                            repeat
                              (with_reducible refine wpQuiet_step (fun K hK => ?_)
                               go_simp
                               first
                                 | (with_reducible refine hK _ ?_
                                    clear hK K)
                                 | (rw [if_neg]
                                    rotate_left
                                    focus (intro h; cases h; done)
                                    with_reducible refine hK _ ?_
                                    clear hK K)
                                 | (apply Exists.intro
                                    refine ⟨fun _ => ?_, hK _ ?_⟩
                                    (fail)
                                    clear hK K))
                            with_reducible refine wpQuiet_nil ?_
                            intro wb hw'
                            obtain ⟨⟨wb', lb⟩, hw''⟩ := hw'
                            subst hw''
                            clear y1 y2 y3 w1 w2 w3
                            replace HB2 := Lib.hid (below_step HB2.out lb)
                            have y1 := cell_bw (cell_below lb Y1.out)
                            have w1 := cell_bw (cell_below lb W1.out)
                            have w2 := cell_bw (cell_below lb W2.out)
                            clear lb
                            go_wp2_with fail
                            refine wp_region_bw (by kernel_rfl) (by kernel_rfl) ?_
                            repeat
                              (with_reducible refine wpQuiet_step (fun K hK => ?_)
                               go_simp
                               first
                                 | (with_reducible refine hK _ ?_
                                    clear hK K)
                                 | (rw [if_neg]
                                    rotate_left
                                    focus (intro h; cases h; done)
                                    with_reducible refine hK _ ?_
                                    clear hK K)
                                 | (apply Exists.intro
                                    refine ⟨fun _ => ?_, hK _ ?_⟩
                                    (fail)
                                    clear hK K))
                            with_reducible refine wpQuiet_nil ?_
                            intro wb hw'
                            obtain ⟨⟨wb', lb⟩, hw''⟩ := hw'
                            subst hw''
                            replace HB2 := Lib.hid (below_step HB2.out lb)
                            clear lb y1 w1 w2
                            go_wp2_with fail
                            go_ret
                            exact ⟨ret_bool HH.out.symm, HB2.out⟩
                          · have d7 : decide (x.2.1 < en) = false := decide_eq_false c8
                            by_cases c9 : en < x.2.1
                            · have d9 : ¬ x.2.1 = en := by omega
                              have d8 : (x.2.1 == en) = false := by rw [beq_eq_false_iff_ne]; exact d9
                              have HF2 := Lib.hid (HGO.out (HST.out.2 (by omega)))
                              replace y2 := cell_bw y2
                              replace y3 := cell_bw y3
                              refine wp_region_bw (by kernel_rfl) (by kernel_rfl) ?_
                              repeat
                                (with_reducible refine wpQuiet_step (fun K hK => ?_)
                                 go_simp
                                 first
                                   | (with_reducible refine hK _ ?_
                                      clear hK K)
                                   | (rw [if_neg]
                                      rotate_left
                                      focus (intro h; cases h; done)
                                      with_reducible refine hK _ ?_
                                      clear hK K)
                                   | (apply Exists.intro
                                      refine ⟨fun _ => ?_, hK _ ?_⟩
                                      (fail)
                                      clear hK K))
                              with_reducible refine wpQuiet_nil ?_
                              intro wb hw'
                              obtain ⟨⟨wb', lb⟩, hw''⟩ := hw'
                              subst hw''
                              clear y1 y2 y3 w1 w2 w3
                              replace HB2 := Lib.hid (below_step HB2.out lb)
                              have y1 := cell_bw (cell_below lb Y1.out)
                              have w1 := cell_bw (cell_below lb W1.out)
                              have w2 := cell_bw (cell_below lb W2.out)
                              clear lb
                              go_wp2_with fail
                              refine wp_region_bw (by kernel_rfl) (by kernel_rfl) ?_
                              repeat
                                (with_reducible refine wpQuiet_step (fun K hK => ?_)
                                 go_simp
                                 first
                                   | (with_reducible refine hK _ ?_
                                      clear hK K)
                                   | (rw [if_neg]
                                      rotate_left
                                      focus (intro h; cases h; done)
                                      with_reducible refine hK _ ?_
                                      clear hK K)
                                   | (apply Exists.intro
                                      refine ⟨fun _ => ?_, hK _ ?_⟩
                                      (fail)
                                      clear hK K))
                              with_reducible refine wpQuiet_nil ?_
                              intro wb hw'
                              obtain ⟨⟨wb', lb⟩, hw''⟩ := hw'
                              subst hw''
                              replace HB2 := Lib.hid (below_step HB2.out lb)
                              clear lb y1 w1 w2
                              go_wp2_with fail
                              go_roundw
                              case rel => exact ⟨k + 1, by go_num, hlt, HF2, HB2⟩
                              case measure => (simp [intOf] <;> omega)
                            · have d9 : x.2.1 = en := by omega
                              have d8 : (x.2.1 == en) = true := by rw [beq_iff_eq]; exact d9
                              by_cases c10 : x.1 = y.1
                              · have d10 : (x.1 == y.1) = true := by rw [beq_iff_eq]; exact c10
                                have HH := Lib.hid (HNO.out (by have h := HST.out; rcases hq : stepB y x with _ | _; rfl; exact absurd (h.1 hq) (by omega)))
                                replace y2 := cell_bw y2
                                replace y3 := cell_bw y3
                                refine wp_region_bw (by kernel_rfl) (by kernel_rfl) ?_
                                repeat
                                  (with_reducible refine wpQuiet_step (fun K hK => ?_)
                                   go_simp
                                   first
                                     | (with_reducible refine hK _ ?_
                                        clear hK K)
                                     | (rw [if_neg]
                                        rotate_left
                                        focus (intro h; cases h; done)
                                        with_reducible refine hK _ ?_
                                        clear hK K)
                                     | (apply Exists.intro
                                        refine ⟨fun _ => ?_, hK _ ?_⟩
                                        (fail)
                                        clear hK K))
                                with_reducible refine wpQuiet_nil ?_
                                intro wb hw'
                                obtain ⟨⟨wb', lb⟩, hw''⟩ := hw'
                                subst hw''
                                clear y1 y2 y3 w1 w2 w3
                                replace HB2 := Lib.hid (below_step HB2.out lb)
                                have y1 := cell_bw (cell_below lb Y1.out)
                                have w1 := cell_bw (cell_below lb W1.out)
                                have w2 := cell_bw (cell_below lb W2.out)
                                clear lb
                                go_wp2_with fail
                                refine wp_region_bw (by kernel_rfl) (by kernel_rfl) ?_
                                repeat
                                  (with_reducible refine wpQuiet_step (fun K hK => ?_)
                                   go_simp
                                   first
                                     | (with_reducible refine hK _ ?_
                                        clear hK K)
                                     | (rw [if_neg]
                                        rotate_left
                                        focus (intro h; cases h; done)
                                        with_reducible refine hK _ ?_
                                        clear hK K)
                                     | (apply Exists.intro
                                        refine ⟨fun _ => ?_, hK _ ?_⟩
                                        (fail)
                                        clear hK K))
                                with_reducible refine wpQuiet_nil ?_
                                intro wb hw'
                                obtain ⟨⟨wb', lb⟩, hw''⟩ := hw'
                                subst hw''
                                replace HB2 := Lib.hid (below_step HB2.out lb)
                                clear lb y1 w1 w2
                                go_wp2_with fail
                                go_ret
                                exact ⟨ret_bool HH.out.symm, HB2.out⟩
                              · have d10 : (x.1 == y.1) = false := by rw [beq_eq_false_iff_ne]; exact c10
                                have HF2 := Lib.hid (HGO.out (HST.out.2 (by omega)))
                                replace y2 := cell_bw y2
                                replace y3 := cell_bw y3
                                refine wp_region_bw (by kernel_rfl) (by kernel_rfl) ?_
                                repeat
                                  (with_reducible refine wpQuiet_step (fun K hK => ?_)
                                   go_simp
                                   first
                                     | (with_reducible refine hK _ ?_
                                        clear hK K)
                                     | (rw [if_neg]
                                        rotate_left
                                        focus (intro h; cases h; done)
                                        with_reducible refine hK _ ?_
                                        clear hK K)
                                     | (apply Exists.intro
                                        refine ⟨fun _ => ?_, hK _ ?_⟩
                                        (fail)
                                        clear hK K))
                                with_reducible refine wpQuiet_nil ?_
                                intro wb hw'
                                obtain ⟨⟨wb', lb⟩, hw''⟩ := hw'
                                subst hw''
                                clear y1 y2 y3 w1 w2 w3
                                replace HB2 := Lib.hid (below_step HB2.out lb)
                                have y1 := cell_bw (cell_below lb Y1.out)
                                have w1 := cell_bw (cell_below lb W1.out)
                                have w2 := cell_bw (cell_below lb W2.out)
                                clear lb
                                go_wp2_with fail
                                refine wp_region_bw (by kernel_rfl) (by kernel_rfl) ?_
                                repeat
                                  (with_reducible refine wpQuiet_step (fun K hK => ?_)
                                   go_simp
                                   first
                                     | (with_reducible refine hK _ ?_
                                        clear hK K)
                                     | (rw [if_neg]
                                        rotate_left
                                        focus (intro h; cases h; done)
                                        with_reducible refine hK _ ?_
                                        clear hK K)
                                     | (apply Exists.intro
                                        refine ⟨fun _ => ?_, hK _ ?_⟩
                                        (fail)
                                        clear hK K))
                                with_reducible refine wpQuiet_nil ?_
                                intro wb hw'
                                obtain ⟨⟨wb', lb⟩, hw''⟩ := hw'
                                subst hw''
                                replace HB2 := Lib.hid (below_step HB2.out lb)
                                clear lb y1 w1 w2
                                go_wp2_with fail
                                go_roundw
                                case rel => exact ⟨k + 1, by go_num, hlt, HF2, HB2⟩
                                case measure => (simp [intOf] <;> omega)
                        · have HF2 : Hid (Fine f W (k + 1)) := HF.out.succ (by rw [HX.out]; exact HW.out) (fun h => absurd h hk0)
                          have i3 : ¬ (0 : Int) < (k : Int) := by omega
                          clear hk0
                          go_wp2_with fail
                          go_roundw
                          case rel => exact ⟨k + 1, by go_num, hlt, HF2, HB2⟩
                          case measure => (simp [intOf] <;> omega)
        · have hkl : k = W.length := by omega
          subst hkl
          have HH : Hid (rightB f W = true) := right_iff.2 ⟨by omega, HF.out⟩
          go_wp2_with fail
          go_ret
          exact ⟨ret_bool HH.out.symm, HB.out⟩

end Tb
end Go.Proofs.Ytpodahnmdakjjaa

/-
  Layer 13: the document's answer At.
-/
namespace Go.Proofs.Ytpodahnmdakjjaa
open Go.RowKit Mm
namespace Tb

/-- whose a tick is, the first m ticks of a window laid over what was -/
def hitTo (x : Win) (v q : Int) (m : Nat) : Int := if x.2.1 ≤ q ∧ q < x.2.1 + m then x.1 else v
theorem hit_end {f : Int} {W : List Win} {k : Nat} (h : Fine f W W.length) (hk : k < W.length) {q : Int} {n : Nat} (hn : (at_ W k).2.2 = n) : hitTo (at_ W k) (tkTo W k q) q n = tkTo W (k + 1) q := by
  by_cases e : In (at_ W k) q
  · rw [h.to_in hk e]
    unfold hitTo
    rw [if_pos (by unfold In at e; omega)]
  · rw [to_out hk e]
    unfold hitTo
    rw [if_neg (by unfold In at e; omega)]

set_option maxRecDepth 20000 in
set_option maxHeartbeats 6400000 in
theorem refAt_any (fr n q : Nat) (A : Option Addr) (c : Nat) (W : List Win) (w : World) (hf1 : 1 ≤ fr) (hf2 : fr ≤ 240) (hq : n % fr = q) (hF : Fine fr W W.length) (H : WL w A c W) :
    Calls Try.prog 13 #[.int .i64 fr, .slice A W.length c, .int .i64 n] w fun e w' => e = .returned (.int .i64 (tk W (q : Int))) ∧ Below w.heap.size w w' := by
  have hbig := H.1
  have HL := Lib.hid H
  have HF := Lib.hid hF
  have q1 : (n : Int) % (fr : Int) = (q : Int) := by rw [← hq]; push_cast; rfl
  have q2 : (n : Int).tmod (fr : Int) = (q : Int) := by rw [Int.tmod_eq_emod_of_nonneg (by omega), q1]
  have q3 : IntKind.i64.wrap (q : Int) = (q : Int) := by
    have := Nat.mod_lt n (show 0 < fr by omega)
    exact IntWalk.i64_in _ (by omega)
  have j1 : ¬ (fr : Int) = 0 := by omega
  have j2 : ¬ fr = 0 := by omega
  clear H hF hq
  go_enter Try.func13, Try.ntmps13
  go_wp2_with fail
  go_loopw [7, 8] (fun v i wr => ∃ k : Nat, i = .int .i64 k ∧ v = .int .i64 (tkTo W k (q : Int)) ∧ k ≤ W.length ∧ Hid (Below w.heap.size w wr)) (fun _ i _ => W.length - (intOf i).toNat)
  case atStart => exact ⟨0, rfl, rfl, Nat.zero_le _, Below.refl _ _⟩
  case round =>
    obtain ⟨k, rfl, rfl, hk, HB⟩ := hrel
    by_cases hlt : k < W.length
    · have hw := win_iff.1 (HF.out k hlt).1
      obtain ⟨ln, hln⟩ : ∃ ln : Nat, (at_ W k).2.2 = ln := ⟨(at_ W k).2.2.toNat, by omega⟩
      obtain ⟨a, ha⟩ : ∃ a : Nat, (at_ W k).2.1 = a := ⟨(at_ W k).2.1.toNat, by omega⟩
      have hal : a + ln ≤ 240 := by omega
      have HE := Lib.hid (hit_end HF.out hlt (q := (q : Int)) hln)
      have HX := Lib.hid ha
      generalize hv : tkTo W k (q : Int) = v at *
      have HV := Lib.hid hv
      have i1 : (0 : Int) ≤ (k : Int) := by omega
      have i2 : (k : Int) < (W.length : Int) := by omega
      obtain ⟨b, off, rfl, hc⟩ := win_at (HL.out.2.below HB.out) (by omega)
      obtain ⟨x1, x2, x3, _⟩ := hc k hlt
      rw [ha] at x2
      rw [hln] at x3
      have HX1 := Lib.hid x1
      have HX2 := Lib.hid x2
      have HX3 := Lib.hid x3
      clear hc hw ha hln hv x1 x2 x3
      go_wp2_with fail
      generalize wr = wo at *
      go_loopw [7, 9] (fun v2 i wr => ∃ m : Nat, i = .int .i64 m ∧ v2 = .int .i64 (hitTo (at_ W k) v (q : Int) m) ∧ m ≤ ln ∧ Hid (Below wo.heap.size wo wr)) (fun _ i _ => ln - (intOf i).toNat)
      case atStart => exact ⟨0, rfl, by unfold hitTo; rw [if_neg (by omega)], Nat.zero_le _, Below.refl _ _⟩
      case round =>
        obtain ⟨m, rfl, rfl, hm, HB3⟩ := hrel
        have x1 := cell_below HB3.out HX1.out
        have x2 := cell_below HB3.out HX2.out
        have x3 := cell_below HB3.out HX3.out
        by_cases hml : m < ln
        · have i3 : (m : Int) < (ln : Int) := by omega
          obtain ⟨s, hs⟩ : ∃ s, s = a + m := ⟨_, rfl⟩
          have e1 : IntKind.i64.wrap ((a : Int) + (m : Int)) = (s : Int) := by rw [IntWalk.i64_in _ (by omega)]; omega
          have HS := Lib.hid hs
          clear hs
          by_cases he : s = q
          · have HN : Hid ((at_ W k).1 = hitTo (at_ W k) v (q : Int) (m + 1)) := by
              show _ = _
              have h1 := HS.out
              have h2 := HX.out
              unfold hitTo
              rw [if_pos (by omega)]
            subst he
            generalize (at_ W k).1 = p at *
            generalize hitTo (at_ W k) v (s : Int) m = v3 at *
            go_wp2_with fail
            replace x1 := cell_bw x1
            replace x2 := cell_bw x2
            replace x3 := cell_bw x3
            refine wp_region_bw (by kernel_rfl) (by kernel_rfl) ?_
            repeat
              (with_reducible refine wpQuiet_step (fun K hK => ?_)
               go_simp
               first
                 | (with_reducible refine hK _ ?_
                    clear hK K)
                 | (rw [if_neg]
                    rotate_left
                    focus (intro h; cases h; done)
                    with_reducible refine hK _ ?_
                    clear hK K)
                 | (apply Exists.intro
                    refine ⟨fun _ => ?_, hK _ ?_⟩
                    (fail)
                    clear hK K))
            with_reducible refine wpQuiet_nil ?_
            intro wb hw'
            obtain ⟨⟨wb', lb⟩, hw''⟩ := hw'
            subst hw''
            have HB4 := Lib.hid (below_step HB3.out lb)
            clear lb x1 x2 x3
            have x1 := cell_below HB4.out HX1.out
            go_wp2_with fail
            go_roundw
            case rel => exact ⟨m + 1, by go_num, by rw [HN.out], hml, HB4⟩
            case measure => (simp [intOf] <;> omega)
          · have HN : Hid (hitTo (at_ W k) v (q : Int) m = hitTo (at_ W k) v (q : Int) (m + 1)) := by
              show _ = _
              have h1 := HS.out
              have h2 := HX.out
              unfold hitTo
              by_cases e : (at_ W k).2.1 ≤ (q : Int) ∧ (q : Int) < (at_ W k).2.1 + m
              · rw [if_pos e, if_pos (by omega)]
              · rw [if_neg e, if_neg (by omega)]
            have e2 : ((s : Int) == (q : Int)) = false := by rw [beq_eq_false_iff_ne]; omega
            generalize hitTo (at_ W k) v (q : Int) m = v3 at *
            generalize (at_ W k).1 = p at *
            go_wp2_with fail
            replace x1 := cell_bw x1
            replace x2 := cell_bw x2
            replace x3 := cell_bw x3
            refine wp_region_bw (by kernel_rfl) (by kernel_rfl) ?_
            repeat
              (with_reducible refine wpQuiet_step (fun K hK => ?_)
               go_simp
               first
                 | (with_reducible refine hK _ ?_
                    clear hK K)
                 | (rw [if_neg]
                    rotate_left
                    focus (intro h; cases h; done)
                    with_reducible refine hK _ ?_
                    clear hK K)
                 | (apply Exists.intro
                    refine ⟨fun _ => ?_, hK _ ?_⟩
                    (fail)
                    clear hK K))
            with_reducible refine wpQuiet_nil ?_
            intro wb hw'
            obtain ⟨⟨wb', lb⟩, hw''⟩ := hw'
            subst hw''
            have HB4 := Lib.hid (below_step HB3.out lb)
            clear lb
            go_wp2_with fail
            go_roundw
            case rel => exact ⟨m + 1, by go_num, by rw [HN.out], hml, HB4⟩
            case measure => (simp [intOf] <;> omega)
        · have hmn : m = ln := by omega
          subst hmn
          have HB4 := Lib.hid (below_step HB.out HB3.out)
          generalize hitTo (at_ W k) v (q : Int) m = v3 at *
          go_wp2_with fail
          go_roundw
          case rel => exact ⟨k + 1, by go_num, by rw [HE.out], hlt, HB4⟩
          case measure => (simp [intOf] <;> omega)
    · have hkl : k = W.length := by omega
      have HT : Hid (tkTo W k (q : Int) = tk W (q : Int)) := by show _ = _; rw [hkl, tkTo_end]
      generalize tkTo W k (q : Int) = v at *
      subst hkl
      go_wp2_with fail
      go_ret
      exact ⟨ret_int HT.out, HB.out⟩

end Tb
end Go.Proofs.Ytpodahnmdakjjaa

/-
  Layer 13: the document's answer Ticks.
-/
namespace Go.Proofs.Ytpodahnmdakjjaa
open Go.RowKit Mm
namespace Tb

theorem tkL_succ (t : Nat) (W : List Win) : tkL (t + 1) W = tkL t W ++ [tk W (t : Int)] := by unfold tkL; rw [List.range_succ, List.map_append]; rfl

set_option maxRecDepth 20000 in
set_option maxHeartbeats 3200000 in
theorem refTicks_any (fr : Nat) (A : Option Addr) (c : Nat) (W : List Win) (n : Nat) (hn : W.length = n) (w : World) (hf1 : 1 ≤ fr) (hf2 : fr ≤ 240) (hF : Fine fr W W.length) (H : WL w A c W) :
    Calls Try.prog 15 #[.int .i64 fr, .slice A n c] w fun e w' => ∃ B cp, e = .returned (.slice B fr cp) ∧ Rd w' B cp (tkL fr W) ∧ Below w.heap.size w w' := by
  subst hn
  have HL := Lib.hid H
  have HF := Lib.hid hF
  clear H hF
  go_enter Try.func15, Try.ntmps15
  go_wp2_with fail
  go_loopw [5, 6] (fun g i wr => ∃ (t cp : Nat) (B : Option Addr), i = .int .i64 t ∧ g = .slice B t cp ∧ t ≤ fr ∧ Hid (Ow wr w.heap.size 3 B cp (tkL t W)) ∧ Hid (Below w.heap.size w wr)) (fun _ i _ => fr - (intOf i).toNat)
  case atStart => exact ⟨0, 0, none, rfl, rfl, Nat.zero_le _, ow_none _ _ _, Below.refl _ _⟩
  case round =>
    obtain ⟨t, cp, B, rfl, rfl, ht, HOW, HB⟩ := hrel
    by_cases hlt : t < fr
    · have HT := Lib.hid (tkL_succ t W)
      have HLL : Hid ((tkL t W).length = t) := tkL_length _ _
      have hx := HF.out.bounds (t : Int)
      have HC := Lib.hid (refAt_any fr t t A c W wr hf1 hf2 (Nat.mod_eq_of_lt hlt) HF.out (HL.out.below HB.out))
      generalize tk W (t : Int) = x at *
      go_wp2_with fail
      refine HC.out.mono ?_
      rintro e w3 ⟨rfl, b3⟩
      have bA := below_one w3 (Obj.cells #[.int .i64 x] 3)
      have HDA := Lib.hid (rd_new1 w3 3 x ⟨by omega, by omega⟩)
      have HRA := Lib.hid ((HOW.out.below b3 (Nat.le_refl _)).alloc (Obj.cells #[.int .i64 x] 3))
      have BA := Lib.hid (below_step (below_step HB.out b3) bA)
      clear bA b3 HC
      go_wp2_with (at_builtin
                   refine list_app_n slI rfl _ _ rfl (base := w.heap.size) (l := tkL t W) (r := [x]) (n := t) (m := 1) HLL.out rfl rfl rfl HRA.out HDA.out (by omega) (by have := BA.out.size; exact this) ?_
                   intro A3 c3 w4 k1 k2 k3
                   have O3 := Lib.hid k1
                   have B3 := Lib.hid (BA.out.trans k2)
                   clear k1 k2 k3)
      rw [← HT.out] at O3
      go_roundw
      case rel => exact ⟨t + 1, c3, A3, by go_num, rfl, hlt, O3.out, B3.out⟩
      case measure => (simp [intOf] <;> omega)
    · have hkl : t = fr := by omega
      subst hkl
      go_wp2_with fail
      go_ret
      exact ⟨B, cp, rfl, HOW.out.rd, HB.out⟩

end Tb
end Go.Proofs.Ytpodahnmdakjjaa

/-
  Layer 13: the helper knows: the document's examples.
-/
namespace Go.Proofs.Ytpodahnmdakjjaa
open Go.RowKit Mm
namespace Tb

theorem eqWin (a b c d e f : Int) (w : World) : (binOp .eql 54 (.agg #[.int .i64 a, .int .i64 b, .int .i64 c]) (.agg #[.int .i64 d, .int .i64 e, .int .i64 f])).run Try.prog w = .ok (.bool (decide (a = d) && (decide (b = e) && decide (c = f)))) w := by
  have h := run_eql_ints (P := Try.prog) (t := 54) 3 Try.underlying3 (by kernel_rfl) (by kernel_rfl) (by kernel_rfl) w [a, b, c] [d, e, f] rfl rfl
  rw [show (decide (a = d) && (decide (b = e) && decide (c = f))) = decide ([a, b, c] = [d, e, f]) from by simp]
  exact h
theorem buildWin1 (a : Int) (w : World) : (Instr.build 54 #[(2, .int .i64 a)]).run Try.prog w = .ok (.agg #[.int .i64 0, .int .i64 0, .int .i64 a]) w := by kernel_rfl
theorem buildWin3 (a b c : Int) (w : World) : (Instr.build 54 #[(0, .int .i64 a), (1, .int .i64 b), (2, .int .i64 c)]).run Try.prog w = .ok (.agg #[.int .i64 a, .int .i64 b, .int .i64 c]) w := by kernel_rfl
attribute [local go_sem ↓] eqWin buildWin1 buildWin3

def kT : List Int := [0, 0, -1, 1]
def kW : List Win := [(0, 0, 2), (1, 3, 1)]
theorem kT_il (w : World) : IL (w.alloc (.cells #[.int .i64 0, .int .i64 0, .int .i64 (-1), .int .i64 1] 3)) (some ⟨w.heap.size, 0, none⟩) 4 kT :=
  ⟨by decide, rd_literal w kT 4 rfl _ _ (by decide) (rows_int_ _ (fit_lit rfl) (rows_int_ _ (fit_lit rfl) (rows_int_ _ ⟨by decide, by decide⟩ (rows_int_ _ (fit_lit rfl) rows_nil_))))⟩
theorem kO : ofOk kT := ⟨by decide, by decide, fun j hj => by
  have : j = 0 ∨ j = 1 ∨ j = 2 ∨ j = 3 := by simp [kT] at hj; omega
  rcases this with rfl | rfl | rfl | rfl <;> decide⟩
theorem kR : rightB (4 : Nat) kW = true := by decide +kernel
theorem kTk : tkL 4 kW = kT := by decide +kernel
theorem kTl : ticksL 4 kW = kT := by decide +kernel
theorem kTe : ((ticksE 4 kW : Nat) : Int) = 0 := by decide +kernel
theorem kLv : ((lstV 4 kW 0 3 : Nat) : Int) = 1 := by decide +kernel
theorem kLe : ((lstE 4 kW 3 : Nat) : Int) = 0 := by decide +kernel
theorem kAt : atV 4 kW 7 = 1 := by decide +kernel
theorem kR' : rightB 4 kW = true := by decide +kernel
theorem k_cells {w : World} {A : Option Addr} {c : Nat} (h : WL w A c kW) : ∃ b off, A = some ⟨b, off, none⟩ ∧ w.cell? ⟨b, off, none⟩ = some (.int .i64 0) ∧ w.cell? ⟨b, off + 1, none⟩ = some (.int .i64 0) ∧ w.cell? ⟨b, off + 2, none⟩ = some (.int .i64 2) ∧
    w.cell? ⟨b, off + 3, none⟩ = some (.int .i64 1) ∧ w.cell? ⟨b, off + 3 + 1, none⟩ = some (.int .i64 3) ∧ w.cell? ⟨b, off + 3 + 2, none⟩ = some (.int .i64 1) := by
  obtain ⟨b, off, e, hc⟩ := win_at h.2 (by decide)
  obtain ⟨x1, x2, x3, _⟩ := hc 0 (by decide)
  obtain ⟨y1, y2, y3, _⟩ := hc 1 (by decide)
  exact ⟨b, off, e, x1, x2, x3, y1, y2, y3⟩

set_option maxRecDepth 20000 in
set_option maxHeartbeats 3200000 in
theorem knows13_any (w : World) :
    Calls Try.prog 8 #[] w fun e w' => e = .returned (.bool true) ∧ Below w.heap.size w w' := by
  have HA := Lib.hid (kT_il w)
  have B0 := Lib.hid (below_one w (.cells #[.int .i64 0, .int .i64 0, .int .i64 (-1), .int .i64 1] 3))
  go_enter Try.func8, Try.ntmps8
  go_wp2_with fail
  refine (of_told _ 4 kT kW 4 2 rfl rfl kO kR kTk _ HA.out).mono ?_
  rintro e w1 ⟨B, cp, rfl, _, hl, b1⟩
  have bz := below_one w1 (Obj.cells #[.int .i64 4, .slice B 2 cp] 24)
  have tx := tx_new w1 4 B 2 cp
  have t1 := tx.f
  have t2 := tx.l
  have HL := Lib.hid (hl.below bz)
  have B1 := Lib.hid (below_step (below_step B0.out b1) bz)
  clear hl b1 bz tx HA
  go_wp2_with fail
  generalize w1.alloc (Obj.cells #[.int .i64 4, .slice B 2 cp] 24) = v1 at *
  refine (ticks_to 4 B cp kW kT 4 0 kTl rfl kTe 2 rfl _ HL.out).mono ?_
  rintro e w2 ⟨D, dp, rfl, _, b2⟩
  replace HL := Lib.hid (HL.out.below b2)
  have B2 := Lib.hid (below_step B1.out b2)
  replace t1 := (cell_below b2) t1
  replace t2 := (cell_below b2) t2
  clear b2
  go_wp2_with fail
  refine (least_to 4 B cp kW 0 3 1 0 kLv kLe 2 rfl _ HL.out).mono ?_
  rintro e w3 ⟨rfl, b3⟩
  replace t1 := cell_below b3 t1
  replace t2 := cell_below b3 t2
  have B3 := Lib.hid (below_step B2.out b3)
  replace HL := Lib.hid (HL.out.below b3)
  clear b3
  go_wp2_with fail
  obtain ⟨b, off, rfl, x1, x2, x3, y1, y2, y3⟩ := k_cells HL.out
  go_wp2_with fail
  go_simp
  go_wp2_with fail
  refine (at_to 4 _ cp kW 7 1 kAt 2 rfl _ HL.out).mono ?_
  rintro e w4 ⟨rfl, b4⟩
  replace t1 := cell_below b4 t1
  replace t2 := cell_below b4 t2
  have B4 := Lib.hid (below_step B3.out b4)
  replace HL := Lib.hid (HL.out.below b4)
  clear b4
  go_wp2_with fail
  refine (right_to 4 _ cp kW true kR' 2 rfl _ HL.out).mono ?_
  rintro e w5 ⟨rfl, b5⟩
  have B5 := Lib.hid (below_step B4.out b5)
  clear b5
  go_wp2_with fail
  go_ret
  exact ⟨rfl, B5.out⟩

end Tb
end Go.Proofs.Ytpodahnmdakjjaa

/-
  Layer 13: the helper Same, at equal tables.
-/
namespace Go.Proofs.Ytpodahnmdakjjaa
open Go.RowKit Mm
namespace Tb

theorem neqWin (x y z : Int) (w : World) : (binOp .neq 54 (.agg #[.int .i64 x, .int .i64 y, .int .i64 z]) (.agg #[.int .i64 x, .int .i64 y, .int .i64 z])).run Try.prog w = .ok (.bool false) w := by
  have h := run_neq_ints (P := Try.prog) (t := 54) 3 Try.underlying3 (by kernel_rfl) (by kernel_rfl) (by kernel_rfl) w [x, y, z] [x, y, z] rfl rfl
  rw [show (!decide ([x, y, z] = [x, y, z])) = false from by simp] at h
  exact h
attribute [local go_sem ↓] neqWin

set_option maxRecDepth 20000 in
set_option maxHeartbeats 3200000 in
theorem same_one (f : Int) (A B : Option Addr) (c d : Nat) (W : List Win) (n : Nat) (hn : W.length = n) (w : World) (H1 : WL w A c W) (H2 : WL w B d W) :
    Calls Try.prog 17 #[.agg #[.int .i64 f, .slice A n c], .agg #[.int .i64 f, .slice B n d]] w fun e w' => e = .returned (.bool true) ∧ Below w.heap.size w w' := by
  subst hn
  have hbig := H1.1
  have b0 := below_two w (Obj.cells #[.int .i64 f, .slice A W.length c] 24) (Obj.cells #[.int .i64 f, .slice B W.length d] 24)
  have s1 : (w.alloc (Obj.cells #[.int .i64 f, .slice A W.length c] 24)).heap.size = w.heap.size + 1 := by simp
  have t1 := (tx_new w f A W.length c).below (below_one _ (Obj.cells #[.int .i64 f, .slice B W.length d] 24))
  have t2 := tx_new (w.alloc (Obj.cells #[.int .i64 f, .slice A W.length c] 24)) f B W.length d
  rw [s1] at t2
  have HA := Lib.hid (H1.below b0)
  have HB := Lib.hid (H2.below b0)
  have B0 := Lib.hid b0
  have a1 := t1.f
  have a2 := t1.l
  have a3 := t2.f
  have a4 := t2.l
  clear H1 H2 b0 t1 t2 s1
  go_enter Try.func17, Try.ntmps17
  go_wp2_with fail
  generalize (w.alloc (Obj.cells #[.int .i64 f, .slice A W.length c] 24)).alloc (Obj.cells #[.int .i64 f, .slice B W.length d] 24) = w0 at *
  have A2 := Lib.hid a2
  have A4 := Lib.hid a4
  clear a1 a2 a3 a4
  go_loopw [5] (fun i wr => ∃ k : Nat, i = .int .i64 k ∧ k ≤ W.length ∧ Hid (Below w0.heap.size w0 wr)) (fun i _ => W.length - (intOf i).toNat)
  case atStart => exact ⟨0, rfl, Nat.zero_le _, Below.refl _ _⟩
  case round =>
    obtain ⟨k, rfl, hk, HBL⟩ := hrel
    have a2 := cell_below HBL.out A2.out
    have a4 := cell_below HBL.out A4.out
    by_cases hlt : k < W.length
    · obtain ⟨b, off, rfl, hc⟩ := win_at (HA.out.2.below HBL.out) (by omega)
      obtain ⟨x1, x2, x3, _⟩ := hc k hlt
      clear hc
      obtain ⟨b2, off2, rfl, hc⟩ := win_at (HB.out.2.below HBL.out) (by omega)
      obtain ⟨y1, y2, y3, _⟩ := hc k hlt
      clear hc
      generalize at_ W k = x at *
      have i1 : (0 : Int) ≤ (k : Int) := by omega
      have i2 : (k : Int) < (W.length : Int) := by omega
      go_wp2_with fail
      replace a2 := cell_bw a2
      replace a4 := cell_bw a4
      replace x1 := cell_bw x1
      replace x2 := cell_bw x2
      replace x3 := cell_bw x3
      replace y1 := cell_bw y1
      replace y2 := cell_bw y2
      replace y3 := cell_bw y3
      refine wp_region_bw (by kernel_rfl) (by kernel_rfl) ?_
      repeat
        (with_reducible refine wpQuiet_step (fun K hK => ?_)
         go_simp
         first
           | (with_reducible refine hK _ ?_
              clear hK K)
           | (rw [if_neg]
              rotate_left
              focus (intro h; cases h; done)
              with_reducible refine hK _ ?_
              clear hK K)
           | (apply Exists.intro
              refine ⟨fun _ => ?_, hK _ ?_⟩
              (fail)
              clear hK K))
      with_reducible refine wpQuiet_nil ?_
      intro wb hw'
      obtain ⟨⟨wb', lb⟩, hw''⟩ := hw'
      subst hw''
      have HB2 := Lib.hid (below_step HBL.out lb)
      clear lb
      go_wp2_with fail
      go_roundw
      case rel => exact ⟨k + 1, by go_num, hlt, HB2⟩
      case measure => (simp [intOf] <;> omega)
    · go_wp2_with fail
      go_ret
      exact ⟨rfl, below_step B0.out HBL.out⟩
theorem same_none (w : World) : Calls Try.prog 17 #[.agg #[.int .i64 0, .slice none 0 0], .agg #[.int .i64 0, .slice none 0 0]] w fun e w' => e = .returned (.bool true) ∧ Below w.heap.size w w' :=
  same_one 0 none none 0 0 [] 0 rfl w ⟨by simp, rd_nil (fun _ => rfl) (by unfold maxLen; omega)⟩ ⟨by simp, rd_nil (fun _ => rfl) (by unfold maxLen; omega)⟩

end Tb
end Go.Proofs.Ytpodahnmdakjjaa

/-
  Layer 13: the document's answer Least.
-/
namespace Go.Proofs.Ytpodahnmdakjjaa
open Go.RowKit Mm
namespace Tb

theorem leastN_succ (g : Nat → Int) (f : Nat) (part : Int) (n k : Nat) : leastN g f part n (k + 1) = if hasN g f part k n < leastN g f part n k then hasN g f part k n else leastN g f part n k := by rw [leastN]; split <;> omega

set_option maxRecDepth 20000 in
set_option maxHeartbeats 6400000 in
theorem refLeast_any (g : Nat → Int) (B : Option Addr) (cp : Nat) (l : List Int) (fr n : Nat) (part : Int) (b : Nat) (hb : leastN g fr part n fr = b) (w : World) (hl : l.length = fr) (h1 : 1 ≤ fr) (h2 : fr ≤ 240) (hn : n ≤ 2000) (hg : ∀ j, j < fr → at_ l j = g j) (hr : Rd w B cp l) :
    Calls Try.prog 19 #[.slice B fr cp, .int .i64 part, .int .i64 n] w fun e w' => e = .returned (.int .i64 b) ∧ Below w.heap.size w w' := by
  have HR := Lib.hid hr
  have HG := Lib.hid hg
  have HLL := Lib.hid hl
  have HBB := Lib.hid hb
  have j1 : ¬ (fr : Int) = 0 := by omega
  have j2 : ¬ fr = 0 := by omega
  clear hr hg hl hb
  go_enter Try.func19, Try.ntmps19
  go_wp2_with fail
  go_loopw [7, 8] (fun o i wr => ∃ k : Nat, i = .int .i64 k ∧ o = .int .i64 (leastN g fr part n k : Nat) ∧ k ≤ fr ∧ Hid (Below w.heap.size w wr)) (fun _ i _ => fr - (intOf i).toNat)
  case atStart => exact ⟨0, rfl, rfl, Nat.zero_le _, Below.refl _ _⟩
  case round =>
    obtain ⟨k, rfl, rfl, hk, HB⟩ := hrel
    by_cases hlt : k < fr
    · obtain ⟨o, ho⟩ : ∃ o, leastN g fr part n k = o := ⟨_, rfl⟩
      have ho2 : o ≤ n := by rw [← ho]; exact leastN_le _ _ _ _ _
      have HO := Lib.hid (leastN_succ g fr part n k)
      rw [ho] at HO
      have k1 : (k : Int) < (fr : Int) := by omega
      obtain ⟨kn, hkn⟩ : ∃ kn, kn = k + n := ⟨_, rfl⟩
      have e0 : IntKind.i64.wrap ((k : Int) + (n : Int)) = (kn : Int) := by rw [IntWalk.i64_in _ (by omega)]; omega
      have hkb : kn ≤ 2240 := by omega
      have HKN := Lib.hid hkn
      rw [ho]
      clear ho hkn
      go_wp2_with fail
      generalize wr = wo at *
      go_loopw [9, 10] (fun h i wr => ∃ m t : Nat, i = .int .i64 t ∧ h = .int .i64 (hasN g fr part k m : Nat) ∧ t = k + m ∧ m ≤ n ∧ Hid (Below wo.heap.size wo wr)) (fun _ i _ => k + n - (intOf i).toNat)
      case atStart => exact ⟨0, k, rfl, by rw [hasN_zero]; rfl, rfl, Nat.zero_le _, Below.refl _ _⟩
      case round =>
        obtain ⟨m, t, rfl, rfl, hT, hm, HB2⟩ := hrel
        have hkn := HKN.out
        by_cases hml : m < n
        · have i1 : (t : Int) < (kn : Int) := by omega
          obtain ⟨q, hq⟩ : ∃ q, t % fr = q := ⟨_, rfl⟩
          have hq2 : q < fr := by rw [← hq]; exact Nat.mod_lt _ (by omega)
          have q1 : (t : Int) % (fr : Int) = (q : Int) := by rw [← hq]; push_cast; rfl
          have q2 : (t : Int).tmod (fr : Int) = (q : Int) := by rw [Int.tmod_eq_emod_of_nonneg (by omega), q1]
          have q3 : IntKind.i64.wrap (q : Int) = (q : Int) := IntWalk.i64_in _ (by omega)
          have i3 : (0 : Int) ≤ (q : Int) := by omega
          have i4 : (q : Int) < (fr : Int) := by omega
          obtain ⟨h, hh⟩ : ∃ h, hasN g fr part k m = h := ⟨_, rfl⟩
          have hs := hasN_succ g fr part k m
          rw [hh, ← hT] at hs
          have hm1 : mineP g fr part t = decide (at_ l q = part ∧ 0 ≤ part) := by unfold mineP; rw [hq, HG.out q hq2]
          rw [hm1] at hs
          have hh2 : h ≤ m := by rw [← hh]; exact hasN_le _ _ _ _ _
          have et : IntKind.i64.wrap ((t : Int) + 1) = (t : Int) + 1 := IntWalk.i64_in _ (by omega)
          have eh : IntKind.i64.wrap ((h : Int) + 1) = (h : Int) + 1 := IntWalk.i64_in _ (by omega)
          obtain ⟨b', off, rfl, hc⟩ := (HR.out.below (below_step HB.out HB2.out)).int (by rw [HLL.out]; omega)
          obtain ⟨x1, _⟩ := hc q (by rw [HLL.out]; exact hq2)
          clear hc hq
          generalize at_ l q = x at *
          rw [hh]
          have HM1 : Hid (t + 1 = k + (m + 1)) := by show _ = _; omega
          have HMN : Hid (m + 1 ≤ n) := hml
          have HTN : Hid (t < k + n) := by show _ < _; omega
          clear hh hm1 hT hkn hm hml
          by_cases e : x = part
          · by_cases p : 0 ≤ part
            · rw [decide_eq_true ⟨e, p⟩, if_pos rfl] at hs
              have HS := Lib.hid hs
              have d1 : (x == part) = true := by rw [beq_iff_eq]; exact e
              have p0 : (0 : Int) ≤ part := p
              clear hs
              go_wp2_with fail
              go_roundw
              case rel => exact ⟨m + 1, t + 1, by push_cast; rfl, by rw [HS.out]; push_cast; rfl, HM1.out, HMN.out, HB2.out⟩
              case measure => (have := HTN.out; simp [intOf] <;> omega)
            · rw [decide_eq_false (fun h => p h.2), if_neg (by decide)] at hs
              have HS := Lib.hid hs
              have d1 : (x == part) = true := by rw [beq_iff_eq]; exact e
              clear hs
              go_wp2_with fail
              go_roundw
              case rel => exact ⟨m + 1, t + 1, by push_cast; rfl, by rw [HS.out]; rfl, HM1.out, HMN.out, HB2.out⟩
              case measure => (have := HTN.out; simp [intOf] <;> omega)
          · rw [decide_eq_false (fun h => e h.1), if_neg (by decide)] at hs
            have HS := Lib.hid hs
            have d1 : (x == part) = false := by rw [beq_eq_false_iff_ne]; exact e
            clear hs
            go_wp2_with fail
            go_roundw
            case rel => exact ⟨m + 1, t + 1, by push_cast; rfl, by rw [HS.out]; rfl, HM1.out, HMN.out, HB2.out⟩
            case measure => (have := HTN.out; simp [intOf] <;> omega)
        · have hmn : m = n := by omega
          subst hmn
          have htk : t = kn := by omega
          subst htk
          have i1 : ¬ (t : Int) < (t : Int) := by omega
          have HB3 := Lib.hid (below_step HB.out HB2.out)
          generalize hasN g fr part k m = h at *
          clear hT hkn
          by_cases c1 : h < o
          · rw [if_pos c1] at HO
            have c2 : (h : Int) < (o : Int) := by omega
            go_wp2_with fail
            go_roundw
            case rel => exact ⟨k + 1, by go_num, by rw [HO.out], hlt, HB3.out⟩
            case measure => (simp [intOf] <;> omega)
          · rw [if_neg c1] at HO
            have c2 : ¬ (h : Int) < (o : Int) := by omega
            go_wp2_with fail
            go_roundw
            case rel => exact ⟨k + 1, by go_num, by rw [HO.out], hlt, HB3.out⟩
            case measure => (simp [intOf] <;> omega)
    · have hkl : k = fr := by omega
      subst hkl
      rw [HBB.out]
      go_wp2_with fail
      go_ret
      exact ⟨rfl, HB.out⟩

end Tb
end Go.Proofs.Ytpodahnmdakjjaa

