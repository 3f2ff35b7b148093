/-
  Layer 7 (demand): the calls jobs, apart, within.
-/
import Derived.Test.YthghnbbcmmjcfaaDemandMath
import Derived.Test.YthghnbbcmmjcfaaMemLists
import Derived.Test.YthghnbbcmmjcfaaTaskMem
import Derived.Test.YthghnbbcmmjcfaaMost
import Derived.WalkSmall
namespace Go.Proofs.Ythghnbbcmmjcfaa
open Go.RowKit Mm Tk
namespace Dm

set_option maxHeartbeats 800000 in
theorem jobs_any (C D T : Int) (A : Option Addr) (n c : Nat) (t : Int) (w : World) (hD : 0 ≤ D ∧ D ≤ 200) (hT : 1 ≤ T ∧ T ≤ 200) (ht : 0 ≤ t ∧ t ≤ 4611686018427387903) :
    Calls Try.prog 23 #[.agg #[.int .i64 C, .int .i64 D, .int .i64 T, .slice A n c], .int .i64 t] w fun e w' => e = .returned (.int .i64 (njobs D T t)) ∧ Below w.heap.size w w' := by
  obtain ⟨t1, t2, t3, t4⟩ := box_new w C D T A n c
  have b0 := below_one w (Obj.cells #[.int .i64 C, .int .i64 D, .int .i64 T, .slice A n c] 32)
  by_cases h : t < D
  · have HV : Hid (njobs D T t = 0) := njobs_zero h
    go_enter Try.func23, Try.ntmps23
    go_wp2_with fail
    go_ret
    exact ⟨ret_int HV.out.symm, b0⟩
  · have HV : Hid (njobs D T t = (t - D) / T + 1) := njobs_eq (by omega)
    have q := IntWalk.tdiv_le (t - D) T (by omega) hT.1
    have e0 : IntKind.i64.wrap (t - D) = t - D := IntWalk.i64_in _ (by omega)
    have e1 : IntKind.i64.wrap ((t - D).tdiv T) = (t - D) / T := IntWalk.i64_quo _ _ ⟨by omega, by omega, hT.1⟩
    have e2 : IntKind.i64.wrap ((t - D) / T + 1) = (t - D) / T + 1 := IntWalk.i64_in _ (by omega)
    go_enter Try.func23, Try.ntmps23
    go_wp2_with fail
    go_ret
    exact ⟨ret_int HV.out.symm, b0⟩

/-- the releases that are known to be apart -/
def RowTo (T : Int) (row : List Int) (k : Nat) : Prop := (∀ j, j < k → 0 ≤ at_ row j ∧ at_ row j ≤ 4611686018427387903) ∧ ∀ j, 0 < j → j < k → at_ row (j - 1) + T ≤ at_ row j
theorem RowTo.zero (T : Int) (row : List Int) : RowTo T row 0 := ⟨fun j h => by omega, fun j _ h => by omega⟩
theorem RowTo.step {T : Int} {row : List Int} {k : Nat} (h : RowTo T row k) (ha : 0 ≤ at_ row k ∧ at_ row k ≤ 4611686018427387903) (hg : 0 < k → at_ row (k - 1) + T ≤ at_ row k) : RowTo T row (k + 1) := ⟨fun j hj => by
  by_cases e : j = k
  · subst e; exact ha
  · exact h.1 j (by omega), fun j h0 hj => by
  by_cases e : j = k
  · subst e; exact hg h0
  · exact h.2 j h0 (by omega)⟩
theorem RowTo.done {T : Int} {row : List Int} (h : RowTo T row row.length) (hl : row.length ≤ 1000) : rowB T row = true := rowB_iff.2 ⟨hl, h.1, h.2⟩
theorem row_long {T : Int} {row : List Int} (h : 1000 < row.length) : rowB T row = false := by
  rw [← Bool.not_eq_true, rowB_iff]
  rintro ⟨h1, _⟩
  omega
theorem row_out {T : Int} {row : List Int} {k : Nat} (hk : k < row.length) (h : at_ row k < 0 ∨ 4611686018427387903 < at_ row k) : rowB T row = false := by
  rw [← Bool.not_eq_true, rowB_iff]
  rintro ⟨_, h2, _⟩
  have := h2 k hk
  omega
theorem row_near {T : Int} {row : List Int} {k : Nat} (h0 : 0 < k) (hk : k < row.length) (h : at_ row k < at_ row (k - 1) + T) : rowB T row = false := by
  rw [← Bool.not_eq_true, rowB_iff]
  rintro ⟨_, _, h3⟩
  have := h3 k h0 hk
  omega

set_option maxHeartbeats 1600000 in
theorem apart_any (A : Option Addr) (c : Nat) (row : List Int) (T : Int) (w : World) (hT : 1 ≤ T ∧ T ≤ 200) (hbig : row.length ≤ 1000000) (hr : Rd w A c row) :
    Calls Try.prog 26 #[.slice A row.length c, .int .i64 T] w fun e w' => e = .returned (.bool (rowB T row)) ∧ Below w.heap.size w w' := by
  have HR := Lib.hid hr
  clear hr
  by_cases h1000 : 1000 < row.length
  · have HF := Lib.hid (row_long (T := T) h1000)
    have i1 : (1000 : Int) < (row.length : Int) := by omega
    go_enter Try.func26, Try.ntmps26
    go_wp2_with fail
    go_ret
    exact ⟨ret_bool HF.out.symm, Below.refl _ _⟩
  · have i1 : ¬ (1000 : Int) < (row.length : Int) := by omega
    go_enter Try.func26, Try.ntmps26
    go_wp2_with fail
    go_loop [12] (fun i => ∃ k : Nat, i = .int .i64 k ∧ k ≤ row.length ∧ Hid (RowTo T row k)) (fun i => row.length - (intOf i).toNat)
    case atStart => exact ⟨0, rfl, Nat.zero_le _, RowTo.zero T row⟩
    case round =>
      obtain ⟨k, rfl, hk, HH⟩ := hrel
      by_cases hlt : k < row.length
      · obtain ⟨b, off, rfl, hc⟩ := HR.out.int (by omega)
        obtain ⟨x1, f1⟩ := hc k hlt
        by_cases hin : at_ row k < 0 ∨ 4611686018427387903 < at_ row k
        · have HF := Lib.hid (row_out (T := T) hlt hin)
          clear hc
          generalize at_ row k = x at *
          rcases hin with hin | hin
          all_goals
            go_wp2_with fail
            go_ret
            exact ⟨ret_bool HF.out.symm, Below.refl _ _⟩
        · have hin1 : ¬ at_ row k < 0 := by omega
          have hin2 : ¬ 4611686018427387903 < at_ row k := by omega
          by_cases h0 : k = 0
          · subst h0
            rw [Nat.add_zero] at x1
            have HS := Lib.hid (HH.out.step (by omega) (fun h => by omega))
            clear hc hin
            generalize at_ row 0 = x at *
            go_wp2_with fail
            go_round
            case rel => exact ⟨1, by go_num, hlt, HS⟩
            case measure => simp [intOf]; omega
          · obtain ⟨m, rfl⟩ : ∃ m, k = m + 1 := ⟨k - 1, by omega⟩
            obtain ⟨y1, f2⟩ := hc m (by omega)
            have hy := HH.out.1 m (by omega)
            have j1 : (0 : Int) < (m : Int) + 1 := by omega
            have j2 : (0 : Int) < ((m + 1 : Nat) : Int) := by omega
            by_cases hg : at_ row (m + 1) - at_ row m < T
            · have HF := Lib.hid (row_near (T := T) (k := m + 1) (by omega) hlt (by rw [Nat.add_sub_cancel]; omega))
              clear hc hin
              generalize at_ row (m + 1) = x at *
              generalize at_ row m = y at *
              go_wp2_with fail
              go_ret
              exact ⟨ret_bool HF.out.symm, Below.refl _ _⟩
            · have HS := Lib.hid (HH.out.step (by omega) (fun _ => by rw [Nat.add_sub_cancel]; omega))
              clear hc hin
              generalize at_ row (m + 1) = x at *
              generalize at_ row m = y at *
              go_wp2_with fail
              go_round
              case rel => exact ⟨m + 1 + 1, by go_num, hlt, HS⟩
              case measure => simp [intOf]; omega
      · have hkl : k = row.length := by omega
        subst hkl
        have HF := Lib.hid (HH.out.done (by omega))
        go_wp2_with fail
        go_ret
        exact ⟨ret_bool HF.out.symm, Below.refl _ _⟩

set_option maxHeartbeats 1600000 in
theorem within_any (A : Option Addr) (c : Nat) (row : List Int) (D a b : Int) (q : Nat) (hq : cntIn row a b D = q) (w : World) (hD : 0 ≤ D ∧ D ≤ 200) (hbig : row.length ≤ 1000000) (hin : ∀ k, k < row.length → 0 ≤ at_ row k ∧ at_ row k ≤ 4611686018427387903) (hr : Rd w A c row) :
    Calls Try.prog 25 #[.slice A row.length c, .int .i64 D, .int .i64 a, .int .i64 b] w fun e w' => e = .returned (.int .i64 q) ∧ Below w.heap.size w w' := by
  have HQ : Hid (cntTo (inB a b D) row row.length = q) := by show _ = _; rw [cntTo_all]; exact hq
  have HR := Lib.hid hr
  have HIN := Lib.hid hin
  clear hr hin
  clear hq
  go_enter Try.func25, Try.ntmps25
  go_wp2_with fail
  go_loop [9, 14] (fun n i => ∃ k q : Nat, i = .int .i64 k ∧ n = .int .i64 q ∧ k ≤ row.length ∧ q ≤ k ∧ Hid (q = cntTo (inB a b D) row k)) (fun _ i => row.length - (intOf i).toNat)
  case atStart => exact ⟨0, 0, rfl, rfl, Nat.zero_le _, Nat.le_refl _, rfl⟩
  case round =>
    obtain ⟨k, n, rfl, rfl, hk, hnk, HN⟩ := hrel
    by_cases hlt : k < row.length
    · obtain ⟨bb, off, rfl, hc⟩ := HR.out.int (by omega)
      obtain ⟨x1, _⟩ := hc k hlt
      have hx := HIN.out k hlt
      have HY : Hid (inB a b D (at_ row k) = true → n + 1 = cntTo (inB a b D) row (k + 1)) := fun h => by rw [cntTo_yes hlt h, ← HN.out]
      have HO : Hid (inB a b D (at_ row k) = false → n = cntTo (inB a b D) row (k + 1)) := fun h => by rw [cntTo_no hlt h, ← HN.out]
      clear hc
      generalize at_ row k = x at *
      by_cases ha : a ≤ x
      · by_cases hb : x + D ≤ b
        · have HC := Lib.hid (HY.out (by simp [inB]; omega))
          go_wp2_with fail
          go_round
          case rel => exact ⟨k + 1, n + 1, by go_num, by go_num, hlt, by omega, HC⟩
          case measure => simp [intOf]; omega
        · have HC := Lib.hid (HO.out (by simp [inB]; omega))
          go_wp2_with fail
          go_round
          case rel => exact ⟨k + 1, n, by go_num, rfl, hlt, by omega, HC⟩
          case measure => simp [intOf]; omega
      · have HC := Lib.hid (HO.out (by simp [inB]; omega))
        go_wp2_with fail
        go_round
        case rel => exact ⟨k + 1, n, by go_num, rfl, hlt, by omega, HC⟩
        case measure => simp [intOf]; omega
    · have hkl : k = row.length := by omega
      subst hkl
      have HF : Hid (n = q) := by show _ = _; rw [HN.out, HQ.out]
      go_wp2_with fail
      go_ret
      exact ⟨ret_int (by rw [HF.out]), Below.refl _ _⟩

end Dm
end Go.Proofs.Ythghnbbcmmjcfaa
