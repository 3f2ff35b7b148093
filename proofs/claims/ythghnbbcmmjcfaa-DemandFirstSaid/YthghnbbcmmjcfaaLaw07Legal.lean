/-
  Layer 7: the document's answer Legal; the helper great.
-/
import Derived.Test.YthghnbbcmmjcfaaLaw07Refs
import Derived.Test.YthghnbbcmmjcfaaDemandLegal
namespace Go.Proofs.Ythghnbbcmmjcfaa
open Go.RowKit Mm Tk
namespace Dm

set_option maxHeartbeats 3200000 in
theorem refLegal_any (A : Option Addr) (c : Nat) (L : List Tsk) (A2 : Option Addr) (c2 : Nat) (R : List (List Int)) (w : World) (H : TL w A c L) (H2 : LL w A2 c2 R) :
    Calls Try.prog 17 #[.slice A L.length c, .slice A2 R.length c2] w fun e w' => e = .returned (.bool (legalB L R)) ∧ Below w.heap.size w w' := by
  have hb1 := H.1
  have hb2 := H2.1
  have HT := Lib.hid H
  have HL := Lib.hid H2
  clear H H2
  cases ha : allB L with
  | false =>
    have HF := Lib.hid (legal_none (R := R) ha)
    go_enter Try.func17, Try.ntmps17
    go_wp2_with fail
    refine (refAll_any A c L _ hb1 HT.out.2.1 HT.out.2.2).mono ?_
    rintro e w1 ⟨rfl, b1⟩
    rw [ha]
    go_wp2_with fail
    go_ret
    exact ⟨ret_bool HF.out.symm, b1⟩
  | true =>
    by_cases hn : R.length = L.length
    · have HA := Lib.hid ha
      have hn1 : ((R.length : Int) == (L.length : Int)) = true := by simp [hn]
      have hn2 : ((R.length : Int) != (L.length : Int)) = false := by simp [hn]
      have HN := Lib.hid hn
      clear hn
      go_enter Try.func17, Try.ntmps17
      go_wp2_with fail
      refine (refAll_any A c L _ hb1 HT.out.2.1 HT.out.2.2).mono ?_
      rintro e w1 ⟨rfl, b1⟩
      rw [ha]
      replace HT := Lib.hid (HT.out.below b1)
      replace HL := Lib.hid (HL.out.below b1)
      have B1 := Lib.hid b1
      clear b1
      clear ha
      go_wp2_with fail
      go_loopw [5] (fun i wr => ∃ k : Nat, i = .int .i64 k ∧ k ≤ R.length ∧ Hid (∀ j, j < k → rowB (at_ L j).2.2.1 (at_ R j) = true) ∧ Hid (Below w1.heap.size w1 wr)) (fun i _ => R.length - (intOf i).toNat)
      case atStart => exact ⟨0, rfl, Nat.zero_le _, (fun j h => by omega), Below.refl _ _⟩
      case round =>
        obtain ⟨k, rfl, hk, HH, HB⟩ := hrel
        by_cases hlt : k < R.length
        · have hltL : k < L.length := by have := HN.out; omega
          obtain ⟨b, off, rfl, hc⟩ := task_at (HT.out.below HB.out).2.2 (by omega)
          obtain ⟨B, d, x1, x2, x3, x4, _, _, _, _⟩ := hc k hltL
          obtain ⟨bb, off2, rfl, hc2⟩ := list_at (HL.out.below HB.out).2.2 (by omega)
          obtain ⟨B2, d2, y1, r2⟩ := hc2 k hlt
          have hT := task_times HA.out hltL
          have hrl := (HL.out.2.1 k hlt)
          have i1 : (0 : Int) ≤ (k : Int) := by omega
          have i2 : (k : Int) < (R.length : Int) := by omega
          have i3 : (k : Int) < (L.length : Int) := by omega
          have HF : Hid (rowB (at_ L k).2.2.1 (at_ R k) = false → legalB L R = false) := fun h => legal_false hlt h
          have HG : Hid (rowB (at_ L k).2.2.1 (at_ R k) = true → ∀ j, j < k + 1 → rowB (at_ L j).2.2.1 (at_ R j) = true) := fun h j hj => by
            by_cases e : j = k
            · subst e; exact h
            · exact HH.out j (by omega)
          have R2 := Lib.hid r2.rd
          clear hc hc2 r2 x1 x2 x4
          generalize at_ L k = x at *
          generalize at_ R k = row at *
          by_cases h1000 : 1000 < row.length
          · have HC := Lib.hid (HF.out (row_long h1000))
            have i4 : (1000 : Int) < (row.length : Int) := by omega
            have H1000 := Lib.hid h1000
            clear h1000
            go_wp2_with fail
            go_ret
            exact ⟨ret_bool HC.out.symm, below_step B1.out HB.out⟩
          · have i4 : ¬ (1000 : Int) < (row.length : Int) := by omega
            have H1000 := Lib.hid h1000
            clear h1000
            go_wp2_with fail
            go_loopw [6] (fun u wz => ∃ j : Nat, u = .int .i64 j ∧ j ≤ row.length ∧ Hid (RowTo x.2.2.1 row j) ∧ Hid (Below wr.heap.size wr wz)) (fun u _ => row.length - (intOf u).toNat)
            case atStart => exact ⟨0, rfl, Nat.zero_le _, RowTo.zero _ _, Below.refl _ _⟩
            case round =>
              obtain ⟨j, rfl, hj, HJ, HZ⟩ := hrel
              replace x3 := cell_below HZ.out x3
              replace y1 := cell_below HZ.out y1
              by_cases hjl : j < row.length
              · obtain ⟨b3, off3, rfl, hc⟩ := (R2.out.below HZ.out).int (by omega)
                obtain ⟨z1, _⟩ := hc j hjl
                have j1 : (0 : Int) ≤ (j : Int) := by omega
                have j2 : (j : Int) < (row.length : Int) := by omega
                by_cases hin : at_ row j < 0 ∨ 4611686018427387903 < at_ row j
                · have HC := Lib.hid (HF.out (row_out hjl hin))
                  clear hc
                  generalize at_ row j = y at *
                  rcases hin with hin | hin
                  all_goals
                    go_wp2_with fail
                    go_ret
                    exact ⟨ret_bool HC.out.symm, below_step B1.out (below_step HB.out HZ.out)⟩
                · have hin1 : ¬ at_ row j < 0 := by omega
                  have hin2 : ¬ 4611686018427387903 < at_ row j := by omega
                  by_cases h0 : j = 0
                  · subst h0
                    rw [Nat.add_zero] at z1
                    have HS := Lib.hid (HJ.out.step (by omega) (fun h => by omega))
                    have g1 : decide ((0 : Int) < ((0 : Nat) : Int)) = false := by decide
                    have g2 : decide ((0 : Int) < 0) = false := by decide
                    clear hc hin
                    generalize at_ row 0 = y at *
                    go_wp2_with fail
                    refine wp_region_bw (by kernel_rfl) (by kernel_rfl) ?_
                    repeat
                      (with_reducible refine wpQuiet_step (fun K hK => ?_)
                       go_simp
                       first
                         | (with_reducible refine hK _ ?_
                            clear hK K)
                         | (rw [if_neg]
                            rotate_left
                            focus (intro h; cases h; done)
                            with_reducible refine hK _ ?_
                            clear hK K)
                         | (apply Exists.intro
                            refine ⟨fun _ => ?_, hK _ ?_⟩
                            (fail)
                            clear hK K))
                    with_reducible refine wpQuiet_nil ?_
                    intro wb hw'
                    obtain ⟨⟨wb', lb⟩, hw''⟩ := hw'
                    subst hw''
                    have Z2 := Lib.hid (below_step HZ.out lb)
                    clear lb
                    go_wp2_with fail
                    go_roundw
                    case rel => exact ⟨1, by go_num, hjl, HS, Z2⟩
                    case measure => simp [intOf]; omega
                  · obtain ⟨m, rfl⟩ : ∃ m, j = m + 1 := ⟨j - 1, by omega⟩
                    obtain ⟨z2, _⟩ := hc m (by omega)
                    have hy := HJ.out.1 m (by omega)
                    have m1 : (0 : Int) ≤ (m : Int) := by omega
                    have m2 : (m : Int) < (row.length : Int) := by omega
                    have g1 : decide ((0 : Int) < ((m + 1 : Nat) : Int)) = true := decide_eq_true (by omega)
                    have g2 : decide ((0 : Int) < (m : Int) + 1) = true := decide_eq_true (by omega)
                    have g3 : (0 : Int) < (m : Int) + 1 := by omega
                    have e1 : IntKind.i64.wrap ((m : Int) + 1 - 1) = (m : Int) := by rw [Int.add_sub_cancel]; exact IntWalk.i64_in _ (by omega)
                    have e3 : IntKind.i64.wrap (m : Int) = (m : Int) := IntWalk.i64_in _ (by omega)
                    have e2 : IntKind.i64.wrap (at_ row m + x.2.2.1) = at_ row m + x.2.2.1 := IntWalk.i64_in _ (by omega)
                    by_cases hg : at_ row (m + 1) < at_ row m + x.2.2.1
                    · have HC := Lib.hid (HF.out (row_near (k := m + 1) (by omega) hjl (by rw [Nat.add_sub_cancel]; exact hg)))
                      clear hc hin
                      generalize at_ row (m + 1) = y at *
                      generalize at_ row m = v at *
                      go_wp2_with fail
                      replace x3 := cell_bw x3
                      replace y1 := cell_bw y1
                      replace z2 := cell_bw z2
                      refine wp_region_bw (by kernel_rfl) (by kernel_rfl) ?_
                      repeat
                        (with_reducible refine wpQuiet_step (fun K hK => ?_)
                         go_simp
                         first
                           | (with_reducible refine hK _ ?_
                              clear hK K)
                           | (rw [if_neg]
                              rotate_left
                              focus (intro h; cases h; done)
                              with_reducible refine hK _ ?_
                              clear hK K)
                           | (apply Exists.intro
                              refine ⟨fun _ => ?_, hK _ ?_⟩
                              (fail)
                              clear hK K))
                      with_reducible refine wpQuiet_nil ?_
                      intro wb hw'
                      obtain ⟨⟨wb', lb⟩, hw''⟩ := hw'
                      subst hw''
                      have Z2 := Lib.hid (below_step HZ.out lb)
                      clear lb
                      go_wp2_with fail
                      go_ret
                      exact ⟨ret_bool HC.out.symm, below_step B1.out (below_step HB.out Z2.out)⟩
                    · have HS := Lib.hid (HJ.out.step (by omega) (fun _ => by rw [Nat.add_sub_cancel]; omega))
                      have hg2 : decide (at_ row (m + 1) < at_ row m + x.2.2.1) = false := by simp; omega
                      clear hc hin
                      generalize at_ row (m + 1) = y at *
                      generalize at_ row m = v at *
                      go_wp2_with fail
                      replace x3 := cell_bw x3
                      replace y1 := cell_bw y1
                      replace z2 := cell_bw z2
                      refine wp_region_bw (by kernel_rfl) (by kernel_rfl) ?_
                      repeat
                        (with_reducible refine wpQuiet_step (fun K hK => ?_)
                         go_simp
                         first
                           | (with_reducible refine hK _ ?_
                              clear hK K)
                           | (rw [if_neg]
                              rotate_left
                              focus (intro h; cases h; done)
                              with_reducible refine hK _ ?_
                              clear hK K)
                           | (apply Exists.intro
                              refine ⟨fun _ => ?_, hK _ ?_⟩
                              (fail)
                              clear hK K))
                      with_reducible refine wpQuiet_nil ?_
                      intro wb hw'
                      obtain ⟨⟨wb', lb⟩, hw''⟩ := hw'
                      subst hw''
                      have Z2 := Lib.hid (below_step HZ.out lb)
                      clear lb
                      go_wp2_with fail
                      go_roundw
                      case rel => exact ⟨m + 1 + 1, by go_num, hjl, HS, Z2⟩
                      case measure => simp [intOf]; omega
              · have hjl2 : j = row.length := by omega
                subst hjl2
                have HC := Lib.hid (HG.out (HJ.out.done (by have := H1000.out; omega)))
                have Z2 := Lib.hid (below_step HB.out HZ.out)
                go_wp2_with fail
                go_roundw
                case rel => exact ⟨k + 1, by go_num, hlt, HC, Z2⟩
                case measure => simp [intOf]; omega
        · have hkl : k = R.length := by omega
          subst hkl
          have HC := Lib.hid (legal_of HA.out HN.out HH.out)
          go_wp2_with fail
          go_ret
          exact ⟨ret_bool HC.out.symm, below_step B1.out HB.out⟩
    · have HF := Lib.hid (legal_size (L := L) hn)
      have hn1 : ((R.length : Int) == (L.length : Int)) = false := by simp; omega
      have hn2 : ((R.length : Int) != (L.length : Int)) = true := by simp; omega
      go_enter Try.func17, Try.ntmps17
      go_wp2_with fail
      refine (refAll_any A c L _ hb1 HT.out.2.1 HT.out.2.2).mono ?_
      rintro e w1 ⟨rfl, b1⟩
      rw [ha]
      go_wp2_with fail
      go_ret
      exact ⟨ret_bool HF.out.symm, b1⟩

/-- more than is looked at -/
def great7B (L : List Tsk) (R : List (List Int)) : Bool := (R.any fun r => decide (1100 < r.length)) || (greatB L || decide (20 < R.length))
theorem great7_no {L : List Tsk} {R : List (List Int)} (h : great7B L R = false) : (L.length ≤ 20 ∧ ∀ j, j < L.length → (at_ L j).2.2.2.length ≤ 20) ∧ R.length ≤ 20 ∧ ∀ j, j < R.length → (at_ R j).length ≤ 1100 := by
  unfold great7B at h
  rw [Bool.or_eq_false_iff, Bool.or_eq_false_iff, decide_eq_false_iff_not, List.any_eq_false] at h
  refine ⟨great_no h.2.1, by omega, fun j hj => ?_⟩
  have := h.1 _ (at_mem hj)
  simpa using this
set_option maxHeartbeats 1600000 in
theorem great7_any (A : Option Addr) (c : Nat) (L : List Tsk) (A2 : Option Addr) (c2 : Nat) (R : List (List Int)) (w : World) (hr : Rd w A c L) (hr2 : Rd w A2 c2 R) :
    Calls Try.prog 14 #[.slice A L.length c, .slice A2 R.length c2] w fun e w' => e = .returned (.bool (great7B L R)) ∧ Below w.heap.size w w' := by
  have hbig := Nat.le_trans hr2.le hr2.max
  unfold maxLen at hbig
  have HR := Lib.hid hr
  have HR2 := Lib.hid hr2
  clear hr hr2
  go_enter Try.func14, Try.ntmps14
  go_wp2_with fail
  go_loop [5] (fun i => ∃ k : Nat, i = .int .i64 k ∧ k ≤ R.length ∧ Hid (∀ j, j < k → (at_ R j).length ≤ 1100)) (fun i => R.length - (intOf i).toNat)
  case atStart => exact ⟨0, rfl, Nat.zero_le _, fun j h => by omega⟩
  case round =>
    obtain ⟨k, rfl, hk, HH⟩ := hrel
    by_cases hlt : k < R.length
    · obtain ⟨b, off, rfl, hc⟩ := list_at HR2.out (by omega)
      obtain ⟨B, d, x1, r⟩ := hc k hlt
      have hxl := Nat.le_trans r.le r.max
      unfold maxLen at hxl
      have i1 : (0 : Int) ≤ (k : Int) := by omega
      have i2 : (k : Int) < (R.length : Int) := by omega
      clear hc r
      by_cases h20 : 1100 < (at_ R k).length
      · have HF : Hid (great7B L R = true) := by
          show _ = _
          unfold great7B
          rw [Bool.or_eq_true, List.any_eq_true]
          exact .inl ⟨_, at_mem hlt, by simpa using h20⟩
        have h21 : (1100 : Int) < ((at_ R k).length : Int) := by omega
        have H20 := Lib.hid h20
        clear h20
        generalize (at_ R k).length = n at *
        go_wp2_with fail
        go_ret
        exact ⟨ret_bool HF.out.symm, Below.refl _ _⟩
      · have HH2 : Hid ((at_ R k).length ≤ 1100) := by show _ ≤ _; omega
        have h21 : decide ((1100 : Int) < ((at_ R k).length : Int)) = false := by simp; omega
        have H20 := Lib.hid h20
        clear h20
        generalize hn : (at_ R k).length = n at *
        have HN := Lib.hid hn
        clear hn
        go_wp2_with fail
        go_round
        case rel =>
          refine ⟨k + 1, by go_num, hlt, fun j hj => ?_⟩
          by_cases e : j = k
          · subst e; rw [HN.out]; exact HH2.out
          · exact HH.out j (by omega)
        case measure => simp [intOf]; omega
    · have HF : Hid (great7B L R = (greatB L || decide (20 < R.length))) := by
        show _ = _
        unfold great7B
        have : (R.any fun r => decide (1100 < r.length)) = false := by
          rw [List.any_eq_false]
          intro x hx
          obtain ⟨j, hj, rfl⟩ := mem_at hx
          have := HH.out j (by omega)
          simpa using this
        rw [this, Bool.false_or]
      go_wp2_with fail
      refine (great_any A c L _ HR.out).mono ?_
      rintro e w1 ⟨rfl, b1⟩
      have B1 := Lib.hid b1
      clear b1
      cases hg : greatB L with
      | true =>
        have HG := Lib.hid hg
        clear hg
        go_wp2_with fail
        go_ret
        exact ⟨ret_bool (by rw [HF.out, HG.out]; rfl), B1.out⟩
      | false =>
        have HG := Lib.hid hg
        clear hg
        by_cases h20 : 20 < R.length
        · have h21 : (20 : Int) < (R.length : Int) := by omega
          go_wp2_with fail
          go_ret
          exact ⟨ret_bool (by rw [HF.out, HG.out]; simp [h20]), B1.out⟩
        · have h21 : decide ((20 : Int) < (R.length : Int)) = false := by simp; omega
          have H20 := Lib.hid h20
          clear h20
          go_wp2_with fail
          go_ret
          exact ⟨ret_bool (by rw [HF.out, HG.out]; have := H20.out; simp [this]), B1.out⟩

end Dm
end Go.Proofs.Ythghnbbcmmjcfaa
