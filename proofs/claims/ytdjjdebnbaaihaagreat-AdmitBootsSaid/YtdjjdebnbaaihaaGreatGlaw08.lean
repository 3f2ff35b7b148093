/-
  Merged texts: Law08Refs.
-/
import Derived.Test.YtdjjdebnbaaihaaGreatGlaw05
import Derived.Test.YtdjjdebnbaaihaaGreatGtask
import Derived.Test.YtdjjdebnbaaihaaGreatGblock
/-
  Layer 8: the document's answer Of.
-/
namespace Go.Proofs.YtdjjdebnbaaihaaGreat
open Go.RowKit Mm Tk
namespace Bk

/-- is a resource used by one of the first tasks that is due by t -/
def nearTo (L : List Tsk) (t r : Int) (j : Nat) : Bool := (L.take j).any fun y => decide (y.2.1 ≤ t) && useT y r
theorem nearTo_all (L : List Tsk) (t r : Int) : nearTo L t r L.length = nearB L t r := by unfold nearTo nearB; rw [List.take_length]
theorem nearTo_succ {L : List Tsk} {t r : Int} {j : Nat} (h : j < L.length) : nearTo L t r (j + 1) = (nearTo L t r j || (decide ((at_ L j).2.1 ≤ t) && useT (at_ L j) r)) := by
  unfold nearTo
  rw [take_succ_at h, List.any_append]
  simp
/-- how long a section may be in the way, as the loops see it -/
def gS (L : List Tsk) (t : Int) (x : Tsk) (s : Sc) (j : Nat) : Nat := if (decide (t < x.2.1) && nearTo L t s.1 j) = true then s.2.2.toNat else 0
def gM (L : List Tsk) (t : Int) (x : Tsk) (s : Sc) : Nat := if t < x.2.1 then blkS L t s else 0
theorem gS_zero (L : List Tsk) (t : Int) (x : Tsk) (s : Sc) : gS L t x s 0 = 0 := by unfold gS nearTo; simp
theorem gS_all (L : List Tsk) (t : Int) (x : Tsk) (s : Sc) : gS L t x s L.length = gM L t x s := by
  unfold gS gM blkS
  rw [nearTo_all]
  by_cases h : t < x.2.1
  · simp [h]
  · simp [h]
theorem gM_all (L : List Tsk) (t : Int) (x : Tsk) : mostTo (gM L t x) x.2.2.2 x.2.2.2.length = blkT L t x := by
  unfold blkT
  by_cases h : t < x.2.1
  · rw [if_pos h]
    exact most_congr fun s _ => by unfold gM; rw [if_pos h]
  · rw [if_neg h]
    exact most_zero fun s _ => by unfold gM; rw [if_neg h]
theorem gS_le (L : List Tsk) (t : Int) (x : Tsk) (s : Sc) (j : Nat) : gS L t x s j ≤ s.2.2.toNat := by unfold gS; split <;> omega
theorem gS_no {L : List Tsk} {t : Int} {x : Tsk} {s : Sc} {j : Nat} (h : j < L.length) (hn : ¬ (t < x.2.1 ∧ (at_ L j).2.1 ≤ t ∧ useT (at_ L j) s.1 = true)) : gS L t x s (j + 1) = gS L t x s j := by
  unfold gS
  rw [nearTo_succ h]
  by_cases h1 : t < x.2.1
  · have : (decide ((at_ L j).2.1 ≤ t) && useT (at_ L j) s.1) = false := by
      rw [Bool.eq_false_iff]
      intro e
      rw [Bool.and_eq_true, decide_eq_true_eq] at e
      exact hn ⟨h1, e.1, e.2⟩
    rw [this, Bool.or_false]
  · simp [h1]
theorem gS_yes {L : List Tsk} {t : Int} {x : Tsk} {s : Sc} {j : Nat} (h : j < L.length) (h1 : t < x.2.1) (h2 : (at_ L j).2.1 ≤ t) (h3 : useT (at_ L j) s.1 = true) : gS L t x s (j + 1) = s.2.2.toNat := by
  unfold gS
  rw [nearTo_succ h, h3]
  simp [h1, h2]

set_option maxRecDepth 20000 in
set_option maxHeartbeats 4000000 in
theorem refOf_any (A : Option Addr) (c : Nat) (L : List Tsk) (t : Int) (w : World) (H : TL w A c L) :
    Calls Tryz.prog 105 #[.slice A L.length c, .int .i64 t] w fun e w' => e = .returned (.int .i64 (blk L t : Nat)) ∧ Below w.heap.size w w' := by
  have hb1 := H.1
  have HT := Lib.hid H
  clear H
  go_enter Tryz.func105, Tryz.ntmps105
  go_wp2_with fail
  go_loopw [5, 6] (fun n i wr => ∃ k q : Nat, i = .int .i64 k ∧ n = .int .i64 q ∧ k ≤ L.length ∧ Hid (q = mostTo (blkT L t) L k) ∧ Hid (Below w.heap.size w wr)) (fun _ i _ => L.length - (intOf i).toNat)
  case atStart => exact ⟨0, 0, rfl, rfl, Nat.zero_le _, rfl, Below.refl _ _⟩
  case round =>
    obtain ⟨k, q, rfl, rfl, hk, HQ, HB⟩ := hrel
    by_cases hlt : k < L.length
    · obtain ⟨b, off, rfl, hc⟩ := task_at HT.out.2.2 (by omega)
      obtain ⟨B, d, _, x2, _, x4, _, _, _, r⟩ := hc k hlt
      have HCE := Lib.hid hc
      have HX2 := Lib.hid x2
      have HX4 := Lib.hid x4
      have HR := Lib.hid r.rd
      have hbs := HT.out.2.1 k hlt
      have HV : Hid (max q (mostTo (gM L t (at_ L k)) (at_ L k).2.2.2 (at_ L k).2.2.2.length) = mostTo (blkT L t) L (k + 1)) := by show _ = _; rw [mostTo, ← HQ.out, gM_all]
      clear hc r HQ
      generalize at_ L k = x at *
      have i1 : (0 : Int) ≤ (k : Int) := by omega
      have i2 : (k : Int) < (L.length : Int) := by omega
      go_wp2_with fail
      generalize wr = wo at *
      go_loopw [5, 7] (fun n i wr => ∃ j p : Nat, i = .int .i64 j ∧ n = .int .i64 p ∧ j ≤ x.2.2.2.length ∧ Hid (p = max q (mostTo (gM L t x) x.2.2.2 j)) ∧ Hid (Below w.heap.size w wr)) (fun _ i _ => x.2.2.2.length - (intOf i).toNat)
      case atStart => exact ⟨0, q, rfl, rfl, Nat.zero_le _, by show q = max q 0; rw [Nat.max_zero], HB.out⟩
      case round =>
        clear HB
        obtain ⟨j, p, rfl, rfl, hj, HP, HB⟩ := hrel
        have z4 := cell_below HB.out x4
        by_cases hjl : j < x.2.2.2.length
        · obtain ⟨b3, off3, rfl, hc⟩ := sec_at HR.out (by omega)
          obtain ⟨s1, _, s3, _, _, _⟩ := hc j hjl
          have HQ2 : Hid (max p (gM L t x (at_ x.2.2.2 j)) = max q (mostTo (gM L t x) x.2.2.2 (j + 1))) := by show _ = _; rw [HP.out, mostTo, Nat.max_assoc]
          have HS3 := Lib.hid s3
          clear hc HP
          generalize at_ x.2.2.2 j = s at *
          have j1 : (0 : Int) ≤ (j : Int) := by omega
          have j2 : (j : Int) < (x.2.2.2.length : Int) := by omega
          go_wp2_with fail
          clear z4
          generalize wr = wo2 at *
          go_loopw [5, 8] (fun n i wr => ∃ m u : Nat, i = .int .i64 m ∧ n = .int .i64 u ∧ m ≤ L.length ∧ Hid (u = max p (gS L t x s m)) ∧ Hid (Below w.heap.size w wr)) (fun _ i _ => L.length - (intOf i).toNat)
          case atStart => exact ⟨0, p, rfl, rfl, Nat.zero_le _, by show p = max p _; rw [gS_zero, Nat.max_zero], HB.out⟩
          case round =>
            clear HB
            obtain ⟨m, u, rfl, rfl, hm, HU, HB⟩ := hrel
            by_cases hml : m < L.length
            · obtain ⟨B2, d2, y1, y2, y3, y4, _, _, _, ry⟩ := HCE.out m hml
              have RY := Lib.hid ry.rd
              have HYL := Lib.hid (HT.out.2.1 m hml)
              have HNO : Hid (¬ (t < x.2.1 ∧ (at_ L m).2.1 ≤ t ∧ useT (at_ L m) s.1 = true) → u = max p (gS L t x s (m + 1))) := fun h => by rw [gS_no hml h]; exact HU.out
              have HYES : Hid (t < x.2.1 → (at_ L m).2.1 ≤ t → useT (at_ L m) s.1 = true → max u s.2.2.toNat = max p (gS L t x s (m + 1))) := fun h1 h2 h3 => by
                rw [gS_yes hml h1 h2 h3, HU.out]
                have := gS_le L t x s m
                omega
              clear ry HU
              generalize at_ L m = y at *
              have m1 : (0 : Int) ≤ (m : Int) := by omega
              have m2 : (m : Int) < (L.length : Int) := by omega
              replace x2 := cell_below HB.out x2
              replace x4 := cell_below HB.out x4
              replace y1 := cell_below HB.out y1
              replace y2 := cell_below HB.out y2
              replace y3 := cell_below HB.out y3
              replace y4 := cell_below HB.out y4
              replace s1 := cell_below HB.out s1
              replace s3 := cell_below HB.out s3
              replace RY := Lib.hid (RY.out.below HB.out)
              by_cases h1 : t < x.2.1
              · have g1 : decide (t < x.2.1) = true := decide_eq_true h1
                by_cases h2 : y.2.1 ≤ t
                · have g2 : decide (y.2.1 ≤ t) = true := decide_eq_true h2
                  cases h3 : useT y s.1 with
                  | false =>
                    have HC := Lib.hid (HNO.out (fun h => by rw [h3] at h; cases h.2.2))
                    have HU3 : Hid ((y.2.2.2.any fun x => decide (x.1 = s.1)) = false) := h3
                    clear h3
                    go_wp2_with fail
                    have HQC : Hid (∀ p : BW wr, Calls Tryz.prog 113 #[.agg #[.int .i64 y.1, .int .i64 y.2.1, .int .i64 y.2.2.1, .slice B2 y.2.2.2.length d2], .int .i64 s.1] p.to fun e w'' => e = .returned (.bool false) ∧ ∃ p : BW wr, w'' = p.to) := fun p => by
                      have := refUses_any y.1 y.2.1 y.2.2.1 B2 d2 y.2.2.2 s.1 p.to HYL.out (RY.out.bw p)
                      rw [HU3.out] at this
                      exact Calls.bw this
                    replace x2 := cell_bw x2
                    replace x4 := cell_bw x4
                    replace y1 := cell_bw y1
                    replace y2 := cell_bw y2
                    replace y3 := cell_bw y3
                    replace y4 := cell_bw y4
                    replace s1 := cell_bw s1
                    replace s3 := cell_bw s3
                    refine wp_region_bw (by kernel_rfl) (by kernel_rfl) ?_
                    repeat
                      (with_reducible refine wpQuiet_step (fun K hK => ?_)
                       go_simp
                       first
                         | (with_reducible refine hK _ ?_
                            clear hK K)
                         | (rw [if_neg]
                            rotate_left
                            focus (intro h; cases h; done)
                            with_reducible refine hK _ ?_
                            clear hK K)
                         | (apply Exists.intro
                            refine ⟨fun _ => ?_, hK _ ?_⟩
                            (exact HQC.out _)
                            clear hK K))
                    with_reducible refine wpQuiet_nil ?_
                    intro wb hw'
                    obtain ⟨⟨wb', lb⟩, hw''⟩ := hw'
                    subst hw''
                    have HB2 := Lib.hid (below_step HB.out lb)
                    clear lb
                    replace x2 := cell_below HB2.out HX2.out
                    replace x4 := cell_below HB2.out HX4.out
                    replace s3 := cell_below HB2.out HS3.out
                    go_wp2_with fail
                    go_roundw
                    case rel => exact ⟨m + 1, u, by go_num, rfl, hml, HC, HB2⟩
                    case measure => simp [intOf]; omega
                  | true =>
                    have HC := Lib.hid (HYES.out h1 h2 h3)
                    have HU3 : Hid ((y.2.2.2.any fun x => decide (x.1 = s.1)) = true) := h3
                    clear h3
                    by_cases h4 : (u : Int) < s.2.2
                    · have HC2 : Hid (((s.2.2.toNat : Nat) : Int) = s.2.2 ∧ s.2.2.toNat = max p (gS L t x s (m + 1))) := by
                        have := HC.out
                        show _ ∧ _
                        omega
                      have g4 : decide ((u : Int) < s.2.2) = true := decide_eq_true h4
                      go_wp2_with fail
                      have HQC : Hid (∀ p : BW wr, Calls Tryz.prog 113 #[.agg #[.int .i64 y.1, .int .i64 y.2.1, .int .i64 y.2.2.1, .slice B2 y.2.2.2.length d2], .int .i64 s.1] p.to fun e w'' => e = .returned (.bool true) ∧ ∃ p : BW wr, w'' = p.to) := fun p => by
                        have := refUses_any y.1 y.2.1 y.2.2.1 B2 d2 y.2.2.2 s.1 p.to HYL.out (RY.out.bw p)
                        rw [HU3.out] at this
                        exact Calls.bw this
                      replace x2 := cell_bw x2
                      replace x4 := cell_bw x4
                      replace y1 := cell_bw y1
                      replace y2 := cell_bw y2
                      replace y3 := cell_bw y3
                      replace y4 := cell_bw y4
                      replace s1 := cell_bw s1
                      replace s3 := cell_bw s3
                      refine wp_region_bw (by kernel_rfl) (by kernel_rfl) ?_
                      repeat
                        (with_reducible refine wpQuiet_step (fun K hK => ?_)
                         go_simp
                         first
                           | (with_reducible refine hK _ ?_
                              clear hK K)
                           | (rw [if_neg]
                              rotate_left
                              focus (intro h; cases h; done)
                              with_reducible refine hK _ ?_
                              clear hK K)
                           | (apply Exists.intro
                              refine ⟨fun _ => ?_, hK _ ?_⟩
                              (exact HQC.out _)
                              clear hK K))
                      with_reducible refine wpQuiet_nil ?_
                      intro wb hw'
                      obtain ⟨⟨wb', lb⟩, hw''⟩ := hw'
                      subst hw''
                      have HB2 := Lib.hid (below_step HB.out lb)
                      clear lb
                      replace x2 := cell_below HB2.out HX2.out
                      replace x4 := cell_below HB2.out HX4.out
                      replace s3 := cell_below HB2.out HS3.out
                      go_wp2_with fail
                      go_roundw
                      case rel => exact ⟨m + 1, s.2.2.toNat, by go_num, by rw [HC2.out.1], hml, HC2.out.2, HB2⟩
                      case measure => simp [intOf]; omega
                    · have HC2 : Hid (u = max p (gS L t x s (m + 1))) := by
                        have := HC.out
                        show _ = _
                        omega
                      have g4 : decide ((u : Int) < s.2.2) = false := decide_eq_false h4
                      go_wp2_with fail
                      have HQC : Hid (∀ p : BW wr, Calls Tryz.prog 113 #[.agg #[.int .i64 y.1, .int .i64 y.2.1, .int .i64 y.2.2.1, .slice B2 y.2.2.2.length d2], .int .i64 s.1] p.to fun e w'' => e = .returned (.bool true) ∧ ∃ p : BW wr, w'' = p.to) := fun p => by
                        have := refUses_any y.1 y.2.1 y.2.2.1 B2 d2 y.2.2.2 s.1 p.to HYL.out (RY.out.bw p)
                        rw [HU3.out] at this
                        exact Calls.bw this
                      replace x2 := cell_bw x2
                      replace x4 := cell_bw x4
                      replace y1 := cell_bw y1
                      replace y2 := cell_bw y2
                      replace y3 := cell_bw y3
                      replace y4 := cell_bw y4
                      replace s1 := cell_bw s1
                      replace s3 := cell_bw s3
                      refine wp_region_bw (by kernel_rfl) (by kernel_rfl) ?_
                      repeat
                        (with_reducible refine wpQuiet_step (fun K hK => ?_)
                         go_simp
                         first
                           | (with_reducible refine hK _ ?_
                              clear hK K)
                           | (rw [if_neg]
                              rotate_left
                              focus (intro h; cases h; done)
                              with_reducible refine hK _ ?_
                              clear hK K)
                           | (apply Exists.intro
                              refine ⟨fun _ => ?_, hK _ ?_⟩
                              (exact HQC.out _)
                              clear hK K))
                      with_reducible refine wpQuiet_nil ?_
                      intro wb hw'
                      obtain ⟨⟨wb', lb⟩, hw''⟩ := hw'
                      subst hw''
                      have HB2 := Lib.hid (below_step HB.out lb)
                      clear lb
                      replace x2 := cell_below HB2.out HX2.out
                      replace x4 := cell_below HB2.out HX4.out
                      replace s3 := cell_below HB2.out HS3.out
                      go_wp2_with fail
                      go_roundw
                      case rel => exact ⟨m + 1, u, by go_num, rfl, hml, HC2, HB2⟩
                      case measure => simp [intOf]; omega
                · have g2 : decide (y.2.1 ≤ t) = false := decide_eq_false h2
                  have HC := Lib.hid (HNO.out (fun h => h2 h.2.1))
                  go_wp2_with fail
                  replace x2 := cell_bw x2
                  replace x4 := cell_bw x4
                  replace y1 := cell_bw y1
                  replace y2 := cell_bw y2
                  replace y3 := cell_bw y3
                  replace y4 := cell_bw y4
                  replace s1 := cell_bw s1
                  replace s3 := cell_bw s3
                  refine wp_region_bw (by kernel_rfl) (by kernel_rfl) ?_
                  repeat
                    (with_reducible refine wpQuiet_step (fun K hK => ?_)
                     go_simp
                     first
                       | (with_reducible refine hK _ ?_
                          clear hK K)
                       | (rw [if_neg]
                          rotate_left
                          focus (intro h; cases h; done)
                          with_reducible refine hK _ ?_
                          clear hK K)
                       | (apply Exists.intro
                          refine ⟨fun _ => ?_, hK _ ?_⟩
                          (fail)
                          clear hK K))
                  with_reducible refine wpQuiet_nil ?_
                  intro wb hw'
                  obtain ⟨⟨wb', lb⟩, hw''⟩ := hw'
                  subst hw''
                  have HB2 := Lib.hid (below_step HB.out lb)
                  clear lb
                  go_wp2_with fail
                  go_roundw
                  case rel => exact ⟨m + 1, u, by go_num, rfl, hml, HC, HB2⟩
                  case measure => simp [intOf]; omega
              · have g1 : decide (t < x.2.1) = false := decide_eq_false h1
                have HC := Lib.hid (HNO.out (fun h => h1 h.1))
                go_wp2_with fail
                replace x2 := cell_bw x2
                replace x4 := cell_bw x4
                replace y1 := cell_bw y1
                replace y2 := cell_bw y2
                replace y3 := cell_bw y3
                replace y4 := cell_bw y4
                replace s1 := cell_bw s1
                replace s3 := cell_bw s3
                refine wp_region_bw (by kernel_rfl) (by kernel_rfl) ?_
                repeat
                  (with_reducible refine wpQuiet_step (fun K hK => ?_)
                   go_simp
                   first
                     | (with_reducible refine hK _ ?_
                        clear hK K)
                     | (rw [if_neg]
                        rotate_left
                        focus (intro h; cases h; done)
                        with_reducible refine hK _ ?_
                        clear hK K)
                     | (apply Exists.intro
                        refine ⟨fun _ => ?_, hK _ ?_⟩
                        (fail)
                        clear hK K))
                with_reducible refine wpQuiet_nil ?_
                intro wb hw'
                obtain ⟨⟨wb', lb⟩, hw''⟩ := hw'
                subst hw''
                have HB2 := Lib.hid (below_step HB.out lb)
                clear lb
                go_wp2_with fail
                go_roundw
                case rel => exact ⟨m + 1, u, by go_num, rfl, hml, HC, HB2⟩
                case measure => simp [intOf]; omega
            · have hml' : m = L.length := by omega
              subst hml'
              have HF : Hid (u = max q (mostTo (gM L t x) x.2.2.2 (j + 1))) := by show _ = _; rw [HU.out, gS_all]; exact HQ2.out
              go_wp2_with fail
              go_roundw
              case rel => exact ⟨j + 1, u, by go_num, rfl, hjl, HF, HB⟩
              case measure => simp [intOf]; omega
        · have hjl' : j = x.2.2.2.length := by omega
          subst hjl'
          have HF : Hid (p = mostTo (blkT L t) L (k + 1)) := by show _ = _; rw [HP.out]; exact HV.out
          go_wp2_with fail
          go_roundw
          case rel => exact ⟨k + 1, p, by go_num, rfl, hlt, HF, HB⟩
          case measure => simp [intOf]; omega
    · have hkl : k = L.length := by omega
      subst hkl
      have HF : Hid (blk L t = q) := by show _ = _; rw [HQ.out]; rfl
      go_wp2_with fail
      go_ret
      exact ⟨ret_int (by rw [HF.out]), HB.out⟩

end Bk
end Go.Proofs.YtdjjdebnbaaihaaGreat

