/-
  Layer 7: the document's answers Bound, Of, Legal; the helper great.
-/
import Derived.Test.YthghnbbcmmjcfaaLaw05Refs
import Derived.Test.YthghnbbcmmjcfaaDemandCalls
import Derived.Test.YthghnbbcmmjcfaaTaskList
namespace Go.Proofs.Ythghnbbcmmjcfaa
open Go.RowKit Mm Tk
namespace Dm

set_option maxHeartbeats 1600000 in
theorem refBound_any (A : Option Addr) (c : Nat) (L : List Tsk) (t : Int) (w : World) (ha : allB L = true) (ht : 0 ≤ t ∧ t ≤ 5000) (H : TL w A c L) :
    Calls Try.prog 13 #[.slice A L.length c, .int .i64 t] w fun e w' => e = .returned (.int .i64 (bnd L t)) ∧ Below w.heap.size w w' := by
  have hb1 := H.1
  have HT := Lib.hid H
  have HA := Lib.hid ha
  have HS : Hid (∀ k, k ≤ L.length → 0 ≤ bndTo L t k ∧ bndTo L t k ≤ 8000000) := fun k hk => by
    have h1 := bndTo_nonneg (all_right ha) t hk
    have h2 := bndTo_le (all_right ha) t hk (Nat.le_refl _)
    have h3 := bnd_small ha (t := t) (m := 5000) ht.1 ht.2
    unfold bnd at h3
    omega
  have HB : Hid (bnd L t = bndTo L t L.length) := rfl
  clear H ha
  go_enter Try.func13, Try.ntmps13
  go_wp2_with fail
  go_loop [5, 6] (fun n i => ∃ (k : Nat) (q : Int), i = .int .i64 k ∧ n = .int .i64 q ∧ k ≤ L.length ∧ Hid (q = bndTo L t k)) (fun _ i => L.length - (intOf i).toNat)
  case atStart => exact ⟨0, 0, rfl, rfl, Nat.zero_le _, rfl⟩
  case round =>
    obtain ⟨k, q, rfl, rfl, hk, HQ⟩ := hrel
    by_cases hlt : k < L.length
    · obtain ⟨bb, off, rfl, hc⟩ := task_at HT.out.2.2 (by omega)
      obtain ⟨B, d, x1, x2, x3, x4, _, _, _, _⟩ := hc k hlt
      have hT := right_T (all_right HA.out k hlt)
      have i1 : (0 : Int) ≤ (k : Int) := by omega
      have i3 : (k : Int) < (L.length : Int) := by omega
      have HE : Hid (bndTo L t (k + 1) = bndTo L t k + (at_ L k).1 * njobs (at_ L k).2.1 (at_ L k).2.2.1 t) := rfl
      have HM := Lib.hid (HS.out (k + 1) hlt)
      have h0 := HS.out k hk
      rw [← HQ.out] at h0
      clear hc
      generalize at_ L k = x at *
      have HJ : Hid (∀ j : Nat, x.2.1 + (j : Int) * x.2.2.1 ≤ t ↔ (j : Int) < njobs x.2.1 x.2.2.1 t) := fun j => lt_njobs (by omega) _ (by omega)
      have hnn := njobs_nonneg (D := x.2.1) (T := x.2.2.1) (t := t) (by omega)
      go_wp2_with fail
      go_loop [5, 7] (fun n u => ∃ (j : Nat) (p d : Int), n = .int .i64 p ∧ u = .int .i64 d ∧ 0 ≤ p ∧ p ≤ 8000000 ∧ 0 ≤ d ∧ d ≤ 5200 ∧ Hid (p = bndTo L t k + x.1 * j) ∧ Hid (d = x.2.1 + j * x.2.2.1) ∧ Hid ((j : Int) ≤ njobs x.2.1 x.2.2.1 t)) (fun _ u => (5201 - intOf u).toNat)
      case atStart => exact ⟨0, q, x.2.1, rfl, rfl, h0.1, h0.2, by omega, by omega, by show _ = _; rw [← HQ.out]; simp, by show _ = _; simp, hnn⟩
      case round =>
        obtain ⟨j, p, d, rfl, rfl, hp0, hp1, hd0, hd1, HP, HD, HL⟩ := hrel
        by_cases hdt : d ≤ t
        · have hj : (j : Int) < njobs x.2.1 x.2.2.1 t := (HJ.out j).1 (by rw [← HD.out]; exact hdt)
          have hp2 : p + x.1 ≤ 8000000 := by
            have h1 : x.1 * ((j : Int) + 1) ≤ x.1 * njobs x.2.1 x.2.2.1 t := Int.mul_le_mul_of_nonneg_left (by omega) (by omega)
            rw [Int.mul_add, Int.mul_one] at h1
            have h2 := HP.out
            have h3 := HE.out
            have hm := HM.out
            omega
          have HP2 : Hid (p + x.1 = bndTo L t k + x.1 * ((j + 1 : Nat) : Int)) := by
            show _ = _
            rw [HP.out, show ((j + 1 : Nat) : Int) = (j : Int) + 1 from by omega, Int.mul_add, Int.mul_one]
            omega
          have HD2 : Hid (d + x.2.2.1 = x.2.1 + ((j + 1 : Nat) : Int) * x.2.2.1) := by
            show _ = _
            rw [HD.out, show ((j + 1 : Nat) : Int) = (j : Int) + 1 from by omega, Int.add_mul, Int.one_mul]
            omega
          have HL2 : Hid (((j + 1 : Nat) : Int) ≤ njobs x.2.1 x.2.2.1 t) := by show _ ≤ _; omega
          clear hj
          go_wp2_with fail
          go_round
          case rel => exact ⟨j + 1, _, _, rfl, rfl, by omega, hp2, by omega, by omega, HP2, HD2, HL2⟩
          case measure => simp [intOf]; omega
        · have hj : Hid (p = bndTo L t (k + 1)) := by
            have h1 : ¬ (j : Int) < njobs x.2.1 x.2.2.1 t := fun e => hdt (by rw [HD.out]; exact (HJ.out j).2 e)
            have h2 : (j : Int) = njobs x.2.1 x.2.2.1 t := by have := HL.out; omega
            show _ = _
            rw [HP.out, h2]
            exact HE.out.symm
          go_wp2_with fail
          go_round
          case rel => exact ⟨k + 1, p, by go_num, rfl, hlt, hj⟩
          case measure => simp [intOf]; omega
    · have hkl : k = L.length := by omega
      subst hkl
      go_wp2_with fail
      go_ret
      exact ⟨ret_int (by rw [HB.out, HQ.out]), Below.refl _ _⟩

set_option maxHeartbeats 1600000 in
theorem refOf_any (A : Option Addr) (c : Nat) (L : List Tsk) (A2 : Option Addr) (c2 : Nat) (R : List (List Int)) (a b : Int) (w : World) (hl : legalB L R = true) (H : TL w A c L) (H2 : LL w A2 c2 R) :
    Calls Try.prog 18 #[.slice A L.length c, .slice A2 R.length c2, .int .i64 a, .int .i64 b] w fun e w' => e = .returned (.int .i64 (dem L R a b)) ∧ Below w.heap.size w w' := by
  have hb1 := H.1
  have hb2 := H2.1
  have HT := Lib.hid H
  have HL := Lib.hid H2
  have HA := Lib.hid hl
  have HN := Lib.hid (legal_iff.1 hl).2.1
  have HF : Hid (dem L R a b = demTo L R a b R.length) := rfl
  have HS : Hid (∀ k, k ≤ R.length → 0 ≤ demTo L R a b k ∧ demTo L R a b k ≤ 1600000) := fun k hk => by
    have h0 := (legal_iff.1 hl).2.1
    have h1 := demTo_nonneg (R := R) (all_right (legal_iff.1 hl).1) a b (k := k) (by omega)
    have h2 := demTo_le hl a b (k := k) (by omega)
    have h3 := all_len (legal_iff.1 hl).1
    omega
  clear H H2 hl
  go_enter Try.func18, Try.ntmps18
  go_wp2_with fail
  go_loop [9, 10] (fun n i => ∃ (k : Nat) (q : Int), i = .int .i64 k ∧ n = .int .i64 q ∧ k ≤ R.length ∧ Hid (q = demTo L R a b k)) (fun _ i => R.length - (intOf i).toNat)
  case atStart => exact ⟨0, 0, rfl, rfl, Nat.zero_le _, rfl⟩
  case round =>
    obtain ⟨k, q, rfl, rfl, hk, HQ⟩ := hrel
    by_cases hlt : k < R.length
    · have hltL : k < L.length := by have := HN.out; omega
      obtain ⟨bb, off, rfl, hc⟩ := task_at HT.out.2.2 (by omega)
      obtain ⟨B, d, x1, x2, x3, x4, _, _, _, _⟩ := hc k hltL
      obtain ⟨bb2, off2, rfl, hc2⟩ := list_at HL.out.2.2 (by omega)
      obtain ⟨B2, d2, y1, r2⟩ := hc2 k hlt
      have R2 := Lib.hid r2
      have hT := right_T (all_right (legal_iff.1 HA.out).1 k hltL)
      have HR2 := Lib.hid (rowB_iff.1 ((legal_iff.1 HA.out).2.2 k hlt))
      have i1 : (0 : Int) ≤ (k : Int) := by omega
      have i2 : (k : Int) < (R.length : Int) := by omega
      have i3 : (k : Int) < (L.length : Int) := by omega
      have HE : Hid (demTo L R a b (k + 1) = demTo L R a b k + (at_ L k).1 * cntIn (at_ R k) a b (at_ L k).2.1) := rfl
      have HM := Lib.hid (HS.out (k + 1) hlt)
      have h0 := HS.out k hk
      rw [← HQ.out] at h0
      have hrl := (HL.out.2.1 k hlt)
      clear hc hc2 r2
      generalize at_ L k = x at *
      generalize at_ R k = row at *
      have HC : Hid (∀ j, j ≤ row.length → x.1 * (cntTo (inB a b x.2.1) row j : Int) ≤ x.1 * (cntIn row a b x.2.1 : Int)) := fun j hj => by
        refine Int.mul_le_mul_of_nonneg_left ?_ (by omega)
        unfold cntIn cntTo
        have : ((row.take j).filter (inB a b x.2.1)).length ≤ (row.filter (inB a b x.2.1)).length := ((List.take_sublist j row).filter _).length_le
        omega
      have HCA : Hid (cntIn row a b x.2.1 = cntTo (inB a b x.2.1) row row.length) := by show _ = _; rw [cntTo_all]; rfl
      go_wp2_with fail
      go_loop [9, 11] (fun n u => ∃ (j : Nat) (p : Int), u = .int .i64 j ∧ n = .int .i64 p ∧ j ≤ row.length ∧ 0 ≤ p ∧ p ≤ 1600000 ∧ Hid (p = demTo L R a b k + x.1 * (cntTo (inB a b x.2.1) row j : Nat))) (fun _ u => row.length - (intOf u).toNat)
      case atStart => exact ⟨0, q, rfl, rfl, Nat.zero_le _, h0.1, h0.2, by show _ = _; rw [← HQ.out, cntTo_zero]; simp⟩
      case round =>
        obtain ⟨j, p, rfl, rfl, hj, hp0, hp1, HP⟩ := hrel
        by_cases hjl : j < row.length
        · obtain ⟨b3, off3, rfl, hc⟩ := R2.out.int (by omega)
          obtain ⟨z1, _⟩ := hc j hjl
          have hz := HR2.out.2.1 j hjl
          have j1 : (0 : Int) ≤ (j : Int) := by omega
          have j2 : (j : Int) < (row.length : Int) := by omega
          have HY : Hid (inB a b x.2.1 (at_ row j) = true → p + x.1 = demTo L R a b k + x.1 * (cntTo (inB a b x.2.1) row (j + 1) : Nat)) := fun h => by
            rw [cntTo_yes hjl h, HP.out, show ((cntTo (inB a b x.2.1) row j + 1 : Nat) : Int) = (cntTo (inB a b x.2.1) row j : Int) + 1 from by omega, Int.mul_add, Int.mul_one]
            omega
          have HO : Hid (inB a b x.2.1 (at_ row j) = false → p = demTo L R a b k + x.1 * (cntTo (inB a b x.2.1) row (j + 1) : Nat)) := fun h => by rw [cntTo_no hjl h]; exact HP.out
          have HLE := Lib.hid (HC.out (j + 1) hjl)
          clear hc
          generalize at_ row j = y at *
          by_cases h1 : a ≤ y
          · by_cases h2 : y + x.2.1 ≤ b
            · have HD := Lib.hid (HY.out (by simp [inB]; omega))
              have hp2 : p + x.1 ≤ 1600000 := by
                have g1 := HD.out
                have g2 := HLE.out
                have g3 := HE.out
                have g4 := HM.out
                omega
              go_wp2_with fail
              go_round
              case rel => exact ⟨j + 1, _, by go_num, rfl, hjl, by omega, hp2, HD⟩
              case measure => simp [intOf]; omega
            · have HD := Lib.hid (HO.out (by simp [inB]; omega))
              go_wp2_with fail
              go_round
              case rel => exact ⟨j + 1, p, by go_num, rfl, hjl, hp0, hp1, HD⟩
              case measure => simp [intOf]; omega
          · have HD := Lib.hid (HO.out (by simp [inB]; omega))
            go_wp2_with fail
            go_round
            case rel => exact ⟨j + 1, p, by go_num, rfl, hjl, hp0, hp1, HD⟩
            case measure => simp [intOf]; omega
        · have hjl2 : j = row.length := by omega
          have HD : Hid (p = demTo L R a b (k + 1)) := by
            show _ = _
            rw [HE.out, HCA.out, ← hjl2]
            exact HP.out
          go_wp2_with fail
          go_round
          case rel => exact ⟨k + 1, p, by go_num, rfl, hlt, HD⟩
          case measure => simp [intOf]; omega
    · have hkl : k = R.length := by omega
      subst hkl
      go_wp2_with fail
      go_ret
      exact ⟨ret_int (by rw [HF.out, HQ.out]), Below.refl _ _⟩

end Dm
end Go.Proofs.Ythghnbbcmmjcfaa
