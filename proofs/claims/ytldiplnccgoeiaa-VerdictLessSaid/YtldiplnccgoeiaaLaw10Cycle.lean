/-
  Layer 10: the document's answer Cycle.
-/
import Derived.Test.YtldiplnccgoeiaaVerdictCycle
import Derived.Test.YtldiplnccgoeiaaLaw05Refs
import Derived.Test.YtldiplnccgoeiaaLaw09Bound
import Derived.Test.YtldiplnccgoeiaaLaw05Args
namespace Go.Proofs.Ytldiplnccgoeiaa
open Go.RowKit Mm Tk
namespace Vd

theorem refAll_v (A : Option Addr) (c : Nat) (L : List Tsk) (v : Bool) (hv : allB L = v) (n : Nat) (hn : L.length = n) (w : World) (H : TL w A c L) :
    Calls Try.prog 12 #[.slice A n c] w fun e w' => e = .returned (.bool v) ∧ Below w.heap.size w w' := by
  subst hv; subst hn
  exact refAll_any A c L w H.1 H.2.1 H.2.2

/-- the T of the first k tasks divide n -/
def dvTo (L : List Tsk) (n : Nat) : Nat → Bool
  | 0 => true
  | k + 1 => dvTo L n k && decide (n % (at_ L k).2.2.1.toNat = 0)
theorem dvTo_dvd {L : List Tsk} {n : Nat} : ∀ {k : Nat}, dvTo L n k = true → ∀ j, j < k → (at_ L j).2.2.1.toNat ∣ n
  | 0, _, j, hj => by omega
  | k + 1, h, j, hj => by
    rw [dvTo, Bool.and_eq_true, decide_eq_true_iff] at h
    by_cases e : j = k
    · subst e; exact Nat.dvd_of_mod_eq_zero h.2
    · exact dvTo_dvd h.1 j (by omega)
theorem dvTo_of {L : List Tsk} {n : Nat} : ∀ {k : Nat}, (∀ j, j < k → (at_ L j).2.2.1.toNat ∣ n) → dvTo L n k = true
  | 0, _ => rfl
  | k + 1, h => by
    rw [dvTo, dvTo_of fun j hj => h j (by omega), decide_eq_true (Nat.mod_eq_zero_of_dvd (h k (by omega)))]
    rfl
/-- the cycle itself is found -/
theorem dv_yes {L : List Tsk} {p n : Nat} (hn : 1 ≤ n) (hp : p ∣ n) (hle : n ≤ cyc p L) (h : dvTo L n L.length = true) : n = cyc p L :=
  Nat.le_antisymm hle (Nat.le_of_dvd hn (lcmTo_least hp (dvTo_dvd h)))
theorem dv_no {L : List Tsk} {p n : Nat} (hp : p ∣ n) (hle : n ≤ cyc p L) (h : dvTo L n L.length = false) : n + p ≤ cyc p L := by
  have h1 : n ≠ cyc p L := fun e => by
    rw [dvTo_of (k := L.length) fun j hj => by rw [e]; exact lcmTo_T hj] at h
    cases h
  obtain ⟨a, ha⟩ := hp
  obtain ⟨b, hb⟩ : p ∣ cyc p L := lcmTo_dvd p L (Nat.zero_le _)
  rw [ha, hb] at hle h1 ⊢
  have h2 : a < b := by
    rcases Nat.lt_or_ge a b with h | h
    · exact h
    · exact absurd (Nat.le_antisymm hle (Nat.mul_le_mul_left p h)) h1
  have := Nat.mul_le_mul_left p (show a + 1 ≤ b from h2)
  rw [Nat.mul_add, Nat.mul_one] at this
  exact this

set_option maxRecDepth 20000 in
set_option maxHeartbeats 3200000 in
theorem refCycle_any (P B : Int) (A : Option Addr) (c : Nat) (L : List Tsk) (w : World) (H : TL w A c L) :
    Calls Try.prog 15 #[.slice A L.length c, .agg #[.int .i64 P, .int .i64 B]] w fun e w' => e = .returned (cycV L P B) ∧ Below w.heap.size w w' := by
  obtain ⟨t1, t2⟩ := Sp.fc_new w P B
  have b0 := below_one w (Obj.cells #[.int .i64 P, .int .i64 B] 31)
  have HT := Lib.hid (H.below b0)
  have hb1 := H.1
  have B0 := Lib.hid b0
  clear b0
  clear H
  cases ha : allB L with
  | false =>
    obtain ⟨z1, z2, z3⟩ := cyc_none (L := L) (P := P) (B := B) (by unfold inB; rw [ha]; rfl)
    have HV : Hid (cycV L P B = .tuple #[.int .i64 0, .int .i64 0, .int .i64 1]) := by show _ = _; unfold cycV; rw [z1, z2, z3]; rfl
    have HA := Lib.hid ha
    clear ha
    clear z1 z2 z3
    go_enter Try.func15, Try.ntmps15
    go_wp2_with fail
    refine (refAll_v A c L false HA.out L.length rfl _ HT.out).mono ?_
    rintro e w1 ⟨rfl, b1⟩
    replace t1 := cell_below b1 t1
    replace t2 := cell_below b1 t2
    have B1 := Lib.hid (below_step B0.out b1)
    clear b1
    go_wp2_with fail
    go_ret3
    exact ⟨by rw [HV.out]; rfl, B1.out⟩
  | true =>
    cases hr : Sp.rightB P B with
    | false =>
      obtain ⟨z1, z2, z3⟩ := cyc_none (L := L) (P := P) (B := B) (by unfold inB; rw [hr, Bool.and_false])
      have HV : Hid (cycV L P B = .tuple #[.int .i64 0, .int .i64 0, .int .i64 1]) := by show _ = _; unfold cycV; rw [z1, z2, z3]; rfl
      have HA := Lib.hid ha
      have HR := Lib.hid hr
      clear ha hr
      clear z1 z2 z3
      go_enter Try.func15, Try.ntmps15
      go_wp2_with fail
      refine (refAll_v A c L true HA.out L.length rfl _ HT.out).mono ?_
      rintro e w1 ⟨rfl, b1⟩
      replace t1 := cell_below b1 t1
      replace t2 := cell_below b1 t2
      have B1 := Lib.hid (below_step B0.out b1)
      clear b1
      go_wp2_with fail
      refine (Sp.refRight_v P B false HR.out _).mono ?_
      rintro e w2 ⟨rfl, b2⟩
      replace t1 := cell_below b2 t1
      replace t2 := cell_below b2 t2
      have B2 := Lib.hid (below_step B1.out b2)
      clear b2
      go_wp2_with fail
      go_ret3
      exact ⟨by rw [HV.out]; rfl, B2.out⟩
    | true =>
      have HI : Hid (inB L P B = true) := in_iff.2 ⟨ha, hr⟩
      have HAL := Lib.hid (Dm.all_right ha)
      have HR8 := Dm.all_len ha
      obtain ⟨p, b, rfl, rfl, h1, h2, h3⟩ := Sp.right_nat hr
      have HA := Lib.hid ha
      have HR := Lib.hid hr
      clear ha hr
      go_enter Try.func15, Try.ntmps15
      go_wp2_with fail
      refine (refAll_v A c L true HA.out L.length rfl _ HT.out).mono ?_
      rintro e w1 ⟨rfl, b1⟩
      replace t1 := cell_below b1 t1
      replace t2 := cell_below b1 t2
      have B1 := Lib.hid (below_step B0.out b1)
      replace HT := Lib.hid (HT.out.below b1)
      clear b1
      go_wp2_with fail
      refine (Sp.refRight_v p b true HR.out _).mono ?_
      rintro e w2 ⟨rfl, b2⟩
      replace t1 := cell_below b2 t1
      replace t2 := cell_below b2 t2
      have B2 := Lib.hid (below_step B1.out b2)
      replace HT := Lib.hid (HT.out.below b2)
      clear b2
      go_wp2_with fail
      go_loop [7, 8] (fun f i => ∃ k d : Nat, i = .int .i64 k ∧ f = .int .i64 d ∧ k ≤ L.length ∧ d ≤ 400 ∧ Hid (farTo p L k = d)) (fun _ i => L.length - (intOf i).toNat)
      case atStart => exact ⟨0, 2 * p, rfl, by go_num, Nat.zero_le _, by omega, rfl⟩
      case round =>
        obtain ⟨k, d, rfl, rfl, hk, hd, HD⟩ := hrel
        by_cases hlt : k < L.length
        · obtain ⟨bb, off, rfl, hc⟩ := task_at HT.out.2.2 (by omega)
          obtain ⟨B, e, x1, x2, x3, x4, _, _, _, _⟩ := hc k hlt
          have hx := Dm.right_T (HAL.out k hlt)
          have HF1 : Hid (farTo p L (k + 1) = max d (at_ L k).2.1.toNat) := by show _ = _; rw [farTo, HD.out]
          clear hc
          generalize at_ L k = x at *
          obtain ⟨D, hD⟩ : ∃ D : Nat, x.2.1 = D := ⟨x.2.1.toNat, by omega⟩
          rw [hD] at x2
          rw [hD, Int.toNat_natCast] at HF1
          have hD2 : D ≤ 200 := by omega
          clear hx hD
          by_cases hdd : (d : Int) < (D : Int)
          · rw [show max d D = D from by omega] at HF1
            go_wp2_with fail
            go_round
            case rel => exact ⟨k + 1, D, by go_num, rfl, hlt, by omega, HF1⟩
            case measure => simp [intOf]; omega
          · rw [show max d D = d from by omega] at HF1
            go_wp2_with fail
            go_round
            case rel => exact ⟨k + 1, d, by go_num, rfl, hlt, hd, HF1⟩
            case measure => simp [intOf]; omega
        · have hkl : k = L.length := by omega
          subst hkl
          have HF : Hid (far p L = d) := HD.out
          go_wp2_with fail
          go_loop [9] (fun nn => ∃ n : Nat, nn = .int .i64 n ∧ 1 ≤ n ∧ n ≤ 3200 ∧ Hid (p ∣ n ∧ n ≤ cyc p L)) (fun nn => 3201 - (intOf nn).toNat)
          case atStart => exact ⟨p, rfl, by omega, by omega, Nat.dvd_refl _, Nat.le_of_dvd (lcmTo_pos (by omega) HAL.out (Nat.le_refl _)) (lcmTo_dvd p L (Nat.zero_le _))⟩
          case round =>
            obtain ⟨n, rfl, hn1, hn2, HN⟩ := hrel
            by_cases hle : (n : Int) + (d : Int) ≤ 3000
            · go_wp2_with fail
              go_loop [10, 11] (fun av iv => ∃ (j : Nat) (v : Bool), iv = .int .i64 j ∧ av = .bool v ∧ j ≤ L.length ∧ Hid (dvTo L n j = v)) (fun _ iv => L.length - (intOf iv).toNat)
              case atStart => exact ⟨0, true, rfl, rfl, Nat.zero_le _, rfl⟩
              case round =>
                obtain ⟨j, v, rfl, rfl, hj, HJ⟩ := hrel
                by_cases hjt : j < L.length
                · obtain ⟨bb, off, rfl, hc⟩ := task_at HT.out.2.2 (by omega)
                  obtain ⟨B, e, x1, x2, x3, x4, _, _, _, _⟩ := hc j hjt
                  have hx := Dm.right_T (HAL.out j hjt)
                  have HF1 : Hid (dvTo L n (j + 1) = (v && decide (n % (at_ L j).2.2.1.toNat = 0))) := by show _ = _; rw [dvTo, HJ.out]
                  clear hc
                  generalize at_ L j = x at *
                  obtain ⟨T, hT⟩ : ∃ T : Nat, x.2.2.1 = T := ⟨x.2.2.1.toNat, by omega⟩
                  rw [hT] at x3
                  rw [hT, Int.toNat_natCast] at HF1
                  have hT1 : 1 ≤ T := by omega
                  have hT2 : T ≤ 200 := by omega
                  clear hx hT
                  cases v with
                  | false =>
                    rw [Bool.false_and] at HF1
                    go_wp2_with fail
                    go_round
                    case rel => exact ⟨j + 1, false, by go_num, rfl, hjt, HF1⟩
                    case measure => simp [intOf]; omega
                  | true =>
                    rw [Bool.true_and] at HF1
                    have e1 : (n : Int) % (T : Int) = ((n % T : Nat) : Int) := by push_cast; rfl
                    generalize n % T = r at *
                    by_cases hr : r = 0
                    · rw [decide_eq_true hr] at HF1
                      subst hr
                      go_wp2_with fail
                      go_round
                      case rel => exact ⟨j + 1, true, by go_num, rfl, hjt, HF1⟩
                      case measure => simp [intOf]; omega
                    · rw [decide_eq_false hr] at HF1
                      have hr2 : ¬ (r : Int) = 0 := by omega
                      clear hr
                      go_wp2_with fail
                      go_round
                      case rel => exact ⟨j + 1, false, by go_num, by rw [beq_eq_false_iff_ne.2 hr2], hjt, HF1⟩
                      case measure => simp [intOf]; omega
                · have hjl : j = L.length := by omega
                  subst hjl
                  cases v with
                  | true =>
                    have hn := dv_yes hn1 HN.out.1 HN.out.2 HJ.out
                    obtain ⟨z1, z2, z3⟩ := cyc_fine (L := L) (P := (p : Int)) (B := (b : Int)) (cycOk_iff.2 ⟨HI.out, by rw [Int.toNat_natCast, ← hn, HF.out]; omega⟩)
                    rw [Int.toNat_natCast, ← hn, HF.out] at z2
                    rw [Int.toNat_natCast, ← hn] at z1
                    have HV : Hid (cycV L (p : Int) (b : Int) = .tuple #[.int .i64 n, .int .i64 ((n : Int) + (d : Int)), .int .i64 0]) := by show _ = _; unfold cycV; rw [z1, z2, z3]; push_cast; rfl
                    clear z1 z2 z3 hn
                    go_wp2_with fail
                    go_ret3
                    exact ⟨by rw [HV.out]; rfl, B2.out⟩
                  | false =>
                    have hn := dv_no HN.out.1 HN.out.2 HJ.out
                    have HN2 : Hid (p ∣ n + p ∧ n + p ≤ cyc p L) := ⟨Nat.dvd_add HN.out.1 (Nat.dvd_refl _), hn⟩
                    clear hn
                    go_wp2_with fail
                    go_round
                    case rel => exact ⟨n + p, by go_num, by omega, by omega, HN2⟩
                    case measure => simp [intOf]; omega
            · obtain ⟨z1, z2, z3⟩ := cyc_large (L := L) (P := (p : Int)) (B := (b : Int)) HI.out (by rw [Int.toNat_natCast, HF.out]; have := HN.out.2; omega)
              have HV : Hid (cycV L (p : Int) (b : Int) = .tuple #[.int .i64 0, .int .i64 0, .int .i64 5]) := by show _ = _; unfold cycV; rw [z1, z2, z3]; rfl
              clear z1 z2 z3
              go_wp2_with fail
              go_ret3
              exact ⟨by rw [HV.out]; rfl, B2.out⟩

end Vd
end Go.Proofs.Ytldiplnccgoeiaa
