/-
  Merged texts: Law07Bound.
-/
import Derived.Test.YtdjjdebnbaaihaaGreatGlaw05
import Derived.Test.YtdjjdebnbaaihaaGreatGdemand
import Derived.Test.YtdjjdebnbaaihaaGreatGtask
/-
  Layer 7: the document's answer Bound.
-/
namespace Go.Proofs.YtdjjdebnbaaihaaGreat
open Go.RowKit Mm Tk
namespace Dm

set_option maxHeartbeats 1600000 in
theorem refBound_any (A : Option Addr) (c : Nat) (L : List Tsk) (t : Int) (w : World) (ha : allB L = true) (ht : 0 ≤ t ∧ t ≤ 5000) (H : TL w A c L) :
    Calls Tryz.prog 104 #[.slice A L.length c, .int .i64 t] w fun e w' => e = .returned (.int .i64 (bnd L t)) ∧ Below w.heap.size w w' := by
  have hb1 := H.1
  have HT := Lib.hid H
  have HA := Lib.hid ha
  have HS : Hid (∀ k, k ≤ L.length → 0 ≤ bndTo L t k ∧ bndTo L t k ≤ 8000000) := fun k hk => by
    have h1 := bndTo_nonneg (all_right ha) t hk
    have h2 := bndTo_le (all_right ha) t hk (Nat.le_refl _)
    have h3 := bnd_small ha (t := t) (m := 5000) ht.1 ht.2
    unfold bnd at h3
    omega
  have HB : Hid (bnd L t = bndTo L t L.length) := rfl
  clear H ha
  go_enter Tryz.func104, Tryz.ntmps104
  go_wp2_with fail
  go_loop [5, 6] (fun n i => ∃ (k : Nat) (q : Int), i = .int .i64 k ∧ n = .int .i64 q ∧ k ≤ L.length ∧ Hid (q = bndTo L t k)) (fun _ i => L.length - (intOf i).toNat)
  case atStart => exact ⟨0, 0, rfl, rfl, Nat.zero_le _, rfl⟩
  case round =>
    obtain ⟨k, q, rfl, rfl, hk, HQ⟩ := hrel
    by_cases hlt : k < L.length
    · obtain ⟨bb, off, rfl, hc⟩ := task_at HT.out.2.2 (by omega)
      obtain ⟨B, d, x1, x2, x3, x4, _, _, _, _⟩ := hc k hlt
      have hT := right_T (all_right HA.out k hlt)
      have i1 : (0 : Int) ≤ (k : Int) := by omega
      have i3 : (k : Int) < (L.length : Int) := by omega
      have HE : Hid (bndTo L t (k + 1) = bndTo L t k + (at_ L k).1 * njobs (at_ L k).2.1 (at_ L k).2.2.1 t) := rfl
      have HM := Lib.hid (HS.out (k + 1) hlt)
      have h0 := HS.out k hk
      rw [← HQ.out] at h0
      clear hc
      generalize at_ L k = x at *
      have HJ : Hid (∀ j : Nat, x.2.1 + (j : Int) * x.2.2.1 ≤ t ↔ (j : Int) < njobs x.2.1 x.2.2.1 t) := fun j => lt_njobs (by omega) _ (by omega)
      have hnn := njobs_nonneg (D := x.2.1) (T := x.2.2.1) (t := t) (by omega)
      go_wp2_with fail
      go_loop [5, 7] (fun n u => ∃ (j : Nat) (p d : Int), n = .int .i64 p ∧ u = .int .i64 d ∧ 0 ≤ p ∧ p ≤ 8000000 ∧ 0 ≤ d ∧ d ≤ 5200 ∧ Hid (p = bndTo L t k + x.1 * j) ∧ Hid (d = x.2.1 + j * x.2.2.1) ∧ Hid ((j : Int) ≤ njobs x.2.1 x.2.2.1 t)) (fun _ u => (5201 - intOf u).toNat)
      case atStart => exact ⟨0, q, x.2.1, rfl, rfl, h0.1, h0.2, by omega, by omega, by show _ = _; rw [← HQ.out]; simp, by show _ = _; simp, hnn⟩
      case round =>
        obtain ⟨j, p, d, rfl, rfl, hp0, hp1, hd0, hd1, HP, HD, HL⟩ := hrel
        by_cases hdt : d ≤ t
        · have hj : (j : Int) < njobs x.2.1 x.2.2.1 t := (HJ.out j).1 (by rw [← HD.out]; exact hdt)
          have hp2 : p + x.1 ≤ 8000000 := by
            have h1 : x.1 * ((j : Int) + 1) ≤ x.1 * njobs x.2.1 x.2.2.1 t := Int.mul_le_mul_of_nonneg_left (by omega) (by omega)
            rw [Int.mul_add, Int.mul_one] at h1
            have h2 := HP.out
            have h3 := HE.out
            have hm := HM.out
            omega
          have HP2 : Hid (p + x.1 = bndTo L t k + x.1 * ((j + 1 : Nat) : Int)) := by
            show _ = _
            rw [HP.out, show ((j + 1 : Nat) : Int) = (j : Int) + 1 from by omega, Int.mul_add, Int.mul_one]
            omega
          have HD2 : Hid (d + x.2.2.1 = x.2.1 + ((j + 1 : Nat) : Int) * x.2.2.1) := by
            show _ = _
            rw [HD.out, show ((j + 1 : Nat) : Int) = (j : Int) + 1 from by omega, Int.add_mul, Int.one_mul]
            omega
          have HL2 : Hid (((j + 1 : Nat) : Int) ≤ njobs x.2.1 x.2.2.1 t) := by show _ ≤ _; omega
          clear hj
          go_wp2_with fail
          go_round
          case rel => exact ⟨j + 1, _, _, rfl, rfl, by omega, hp2, by omega, by omega, HP2, HD2, HL2⟩
          case measure => simp [intOf]; omega
        · have hj : Hid (p = bndTo L t (k + 1)) := by
            have h1 : ¬ (j : Int) < njobs x.2.1 x.2.2.1 t := fun e => hdt (by rw [HD.out]; exact (HJ.out j).2 e)
            have h2 : (j : Int) = njobs x.2.1 x.2.2.1 t := by have := HL.out; omega
            show _ = _
            rw [HP.out, h2]
            exact HE.out.symm
          go_wp2_with fail
          go_round
          case rel => exact ⟨k + 1, p, by go_num, rfl, hlt, hj⟩
          case measure => simp [intOf]; omega
    · have hkl : k = L.length := by omega
      subst hkl
      go_wp2_with fail
      go_ret
      exact ⟨ret_int (by rw [HB.out, HQ.out]), Below.refl _ _⟩

end Dm
end Go.Proofs.YtdjjdebnbaaihaaGreat

