/-
  Layer 10 (verdict): Cycle.
-/
import Derived.Test.YtldiplnccgoeiaaVerdictCyc
import Derived.Test.YtldiplnccgoeiaaTaskAll
import Derived.Test.YtldiplnccgoeiaaTaskList
import Derived.Test.YtldiplnccgoeiaaArithLcm
namespace Go.Proofs.Ytldiplnccgoeiaa
open Go.RowKit Mm Tk
namespace Vd

theorem lcmZ (m T : Nat) (hm : 1 ≤ m) : (m : Int) / Ar.gcdZ m T * (T : Int) = (Nat.lcm m T : Nat) := by
  unfold Ar.gcdZ Nat.lcm
  rw [Int.toNat_natCast, Int.toNat_natCast, ← Int.natCast_ediv, ← Int.natCast_mul, Nat.div_mul_right_comm (Nat.gcd_dvd_left m T)]
theorem lcm_n (m T v : Nat) (hv : Nat.lcm m T = v) (hm : 1 ≤ m) (hm2 : m ≤ 4611686018427387903) (hT : 1 ≤ T) (hT2 : T ≤ 200) (h : v ≤ 4611686018427387903) (w : World) :
    Calls Try.prog 29 #[.int .i64 m, .int .i64 T] w fun e w' => e = .returned (.tuple #[.int .i64 v, .int .i64 0]) ∧ Below w.heap.size w w' := by
  have e := lcmZ m T hm
  rw [hv] at e
  have := Ar.lcm_ok (m : Int) (T : Int) w (Ar.perm_iff.2 (by omega)) (Ar.perm_iff.2 (by omega)) (by omega) (by omega) (by rw [e]; exact Ar.perm_iff.2 (by omega))
  rw [e] at this
  exact this
theorem lcm_far (m T : Nat) (hm : 1 ≤ m) (hm2 : m ≤ 4611686018427387903) (hT : 1 ≤ T) (hT2 : T ≤ 200) (h : 4611686018427387903 < Nat.lcm m T) (w : World) :
    Calls Try.prog 29 #[.int .i64 m, .int .i64 T] w fun e w' => e = .returned (.tuple #[.int .i64 0, .int .i64 5]) ∧ Below w.heap.size w w' := by
  have e := lcmZ m T hm
  exact Ar.lcm_large (m : Int) (T : Int) w (Ar.perm_iff.2 (by omega)) (Ar.perm_iff.2 (by omega)) (by omega) (by omega) (by rw [e]; exact Ar.perm_no.2 (by omega))

/-- an answer of Cycle -/
def cycV (L : List Tsk) (P B : Int) : Value := .tuple #[.int .i64 (cycZ L P B : Nat), .int .i64 (endZ L P B : Nat), .int .i64 (cycE L P B : Nat)]

set_option maxRecDepth 20000 in
set_option maxHeartbeats 3200000 in
theorem cycle_any (P B : Int) (A : Option Addr) (c : Nat) (L : List Tsk) (w : World) (H : TL w A c L) :
    Calls Try.prog 14 #[.slice A L.length c, .agg #[.int .i64 P, .int .i64 B]] w fun e w' => e = .returned (cycV L P B) ∧ Below w.heap.size w w' := by
  obtain ⟨t1, t2⟩ := Sp.fc_new w P B
  have b0 := below_one w (Obj.cells #[.int .i64 P, .int .i64 B] 31)
  have HT := Lib.hid (H.below b0)
  have hb1 := H.1
  have B0 := Lib.hid b0
  clear b0
  clear H
  cases ha : allB L with
  | false =>
    obtain ⟨z1, z2, z3⟩ := cyc_none (L := L) (P := P) (B := B) (by unfold inB; rw [ha]; rfl)
    have HV : Hid (cycV L P B = .tuple #[.int .i64 0, .int .i64 0, .int .i64 1]) := by show _ = _; unfold cycV; rw [z1, z2, z3]; rfl
    have HA := Lib.hid ha
    clear ha
    clear z1 z2 z3
    go_enter Try.func14, Try.ntmps14
    go_wp2_with fail
    refine (all_any A c L _ HT.out.1 HT.out.2.1 HT.out.2.2).mono ?_
    rintro e w1 ⟨rfl, b1⟩
    rw [HA.out]
    replace t1 := (cell_below b1) t1
    replace t2 := (cell_below b1) t2
    replace HT := Lib.hid (HT.out.below b1)
    have B1 := Lib.hid (below_step B0.out b1)
    clear b1
    go_wp2_with fail
    go_ret3
    exact ⟨by rw [HV.out]; rfl, B1.out⟩
  | true =>
    cases hr : Sp.rightB P B with
    | false =>
      obtain ⟨z1, z2, z3⟩ := cyc_none (L := L) (P := P) (B := B) (by unfold inB; rw [hr, Bool.and_false])
      have HV : Hid (cycV L P B = .tuple #[.int .i64 0, .int .i64 0, .int .i64 1]) := by show _ = _; unfold cycV; rw [z1, z2, z3]; rfl
      have HA := Lib.hid ha
      have HR := Lib.hid hr
      clear ha hr
      clear z1 z2 z3
      go_enter Try.func14, Try.ntmps14
      go_wp2_with fail
      refine (all_any A c L _ HT.out.1 HT.out.2.1 HT.out.2.2).mono ?_
      rintro e w1 ⟨rfl, b1⟩
      rw [HA.out]
      replace t1 := (cell_below b1) t1
      replace t2 := (cell_below b1) t2
      replace HT := Lib.hid (HT.out.below b1)
      have B1 := Lib.hid (below_step B0.out b1)
      clear b1
      go_wp2_with fail
      refine (Sp.right_v P B false HR.out _).mono ?_
      rintro e w2 ⟨rfl, b2⟩
      replace t1 := cell_below b2 t1
      replace t2 := cell_below b2 t2
      have B2 := Lib.hid (below_step B1.out b2)
      clear b2
      go_wp2_with fail
      go_ret3
      exact ⟨by rw [HV.out]; rfl, B2.out⟩
    | true =>
      have HI : Hid (inB L P B = true) := in_iff.2 ⟨ha, hr⟩
      have HAL := Lib.hid (Dm.all_right ha)
      have HR8 := Dm.all_len ha
      obtain ⟨p, b, rfl, rfl, h1, h2, h3⟩ := Sp.right_nat hr
      have HA := Lib.hid ha
      have HR := Lib.hid hr
      clear ha hr
      go_enter Try.func14, Try.ntmps14
      go_wp2_with fail
      refine (all_any A c L _ HT.out.1 HT.out.2.1 HT.out.2.2).mono ?_
      rintro e w1 ⟨rfl, b1⟩
      rw [HA.out]
      replace t1 := (cell_below b1) t1
      replace t2 := (cell_below b1) t2
      replace HT := Lib.hid (HT.out.below b1)
      have B1 := Lib.hid (below_step B0.out b1)
      clear b1
      go_wp2_with fail
      refine (Sp.right_v p b true HR.out _).mono ?_
      rintro e w2 ⟨rfl, b2⟩
      replace t1 := cell_below b2 t1
      replace t2 := cell_below b2 t2
      have B2 := Lib.hid (below_step B1.out b2)
      replace HT := Lib.hid (HT.out.below b2)
      clear b2
      go_wp2_with fail
      replace t1 := cell_bw t1
      replace t2 := cell_bw t2
      have i0 : IntKind.i64.wrap (2 * (p : Int)) = 2 * (p : Int) := IntWalk.i64_in _ (by omega)
      refine wp_region_bw (by kernel_rfl) (by kernel_rfl) ?_
      repeat
        (with_reducible refine wpQuiet_step (fun K hK => ?_)
         go_simp
         first
           | (with_reducible refine hK _ ?_
              clear hK K)
           | (rw [if_neg]
              rotate_left
              focus (intro h; cases h; done)
              with_reducible refine hK _ ?_
              clear hK K)
           | (apply Exists.intro
              refine ⟨fun _ => ?_, hK _ ?_⟩
              (fail)
              clear hK K))
      with_reducible refine wpQuiet_nil ?_
      intro wb hw'
      obtain ⟨⟨wb', lb⟩, hw''⟩ := hw'
      subst hw''
      replace HT := Lib.hid (HT.out.below lb)
      have B3 := Lib.hid (below_step B2.out lb)
      clear lb t1 t2 i0
      go_wp2_with fail
      go_loopw [7, 8, 27] (fun cc f i wr => ∃ k m d : Nat, i = .int .i64 k ∧ cc = .int .i64 m ∧ f = .int .i64 d ∧ k ≤ L.length ∧ 1 ≤ m ∧ m ≤ 4611686018427387903 ∧ d ≤ 400 ∧ Hid (lcmTo p L k = m) ∧ Hid (farTo p L k = d) ∧ Hid (Below w.heap.size w wr) ∧ Hid (TL wr A c L)) (fun _ _ i _ => L.length - (intOf i).toNat)
      case atStart => exact ⟨0, p, 2 * p, rfl, rfl, by go_num, Nat.zero_le _, by omega, by omega, by omega, rfl, rfl, B3.out, HT.out⟩
      case round =>
        obtain ⟨k, m, d, rfl, rfl, rfl, hk, hm1, hm2, hd, HM, HD, HB, HT⟩ := hrel
        by_cases hlt : k < L.length
        · obtain ⟨bb, off, rfl, hc⟩ := task_at HT.out.2.2 (by omega)
          obtain ⟨B, e, x1, x2, x3, x4, _, _, _, _⟩ := hc k hlt
          have hx := Dm.right_T (HAL.out k hlt)
          have HL1 : Hid (lcmTo p L (k + 1) = Nat.lcm m (at_ L k).2.2.1.toNat) := by show _ = _; rw [lcmTo, HM.out]
          have HF1 : Hid (farTo p L (k + 1) = max d (at_ L k).2.1.toNat) := by show _ = _; rw [farTo, HD.out]
          have HLE : Hid (lcmTo p L (k + 1) ≤ cyc p L) := lcmTo_le (by omega) HAL.out hlt (Nat.le_refl _)
          clear hc
          generalize at_ L k = x at *
          obtain ⟨T, hT⟩ : ∃ T : Nat, x.2.2.1 = T := ⟨x.2.2.1.toNat, by omega⟩
          obtain ⟨D, hD⟩ : ∃ D : Nat, x.2.1 = D := ⟨x.2.1.toNat, by omega⟩
          rw [hT] at x3
          rw [hD] at x2
          rw [hT, Int.toNat_natCast] at HL1
          rw [hD, Int.toNat_natCast] at HF1
          have hT1 : 1 ≤ T := by omega
          have hT2 : T ≤ 200 := by omega
          have hD2 : D ≤ 200 := by omega
          clear hx hT hD
          have bw := below_one wr (Obj.cells #[.int .i64 x.1, .int .i64 D, .int .i64 T, .slice B x.2.2.2.length e] 47)
          obtain ⟨y1, y2, y3, y4⟩ := box_new wr x.1 D T B x.2.2.2.length e
          have HT2 := Lib.hid (HT.out.below bw)
          have B4 := Lib.hid (below_step HB.out bw)
          clear bw
          by_cases hdd : (d : Int) < (D : Int)
          · rw [show max d D = D from by omega] at HF1
            obtain ⟨m2, hm3⟩ : ∃ m2, Nat.lcm m T = m2 := ⟨_, rfl⟩
            rw [hm3] at HL1
            by_cases hbig : m2 ≤ 4611686018427387903
            · have HC := Lib.hid (lcm_n m T m2 hm3 hm1 hm2 hT1 hT2 hbig)
              have HP : 1 ≤ m2 := by rw [← HL1.out]; exact lcmTo_pos (by omega) HAL.out hlt
              clear hm3
              go_wp2_with fail
              generalize wr.alloc (Obj.cells #[.int .i64 x.1, .int .i64 D, .int .i64 T, .slice B x.2.2.2.length e] 47) = w4 at *
              clear x1 x2 x3 x4
              refine (HC.out _).mono ?_
              rintro e w5 ⟨rfl, b5⟩
              replace y1 := cell_below b5 y1
              replace y2 := cell_below b5 y2
              replace y3 := cell_below b5 y3
              replace y4 := cell_below b5 y4
              have B5 := Lib.hid (below_step B4.out b5)
              replace HT2 := Lib.hid (HT2.out.below b5)
              clear b5
              go_wp2_with fail
              go_roundw
              case rel => exact ⟨k + 1, m2, D, by go_num, rfl, rfl, hlt, HP, hbig, (by omega), HL1, HF1, B5, HT2⟩
              case measure => simp [intOf]; omega
            · obtain ⟨z1, z2, z3⟩ := cyc_large (L := L) (P := (p : Int)) (B := (b : Int)) HI.out (by rw [Int.toNat_natCast]; have := HLE.out; rw [HL1.out] at this; omega)
              have HV : Hid (cycV L (p : Int) (b : Int) = .tuple #[.int .i64 0, .int .i64 0, .int .i64 5]) := by show _ = _; unfold cycV; rw [z1, z2, z3]; rfl
              have HC := Lib.hid (lcm_far m T hm1 hm2 hT1 hT2 (by omega))
              clear z1 z2 z3 hm3
              go_wp2_with fail
              generalize wr.alloc (Obj.cells #[.int .i64 x.1, .int .i64 D, .int .i64 T, .slice B x.2.2.2.length e] 47) = w4 at *
              clear x1 x2 x3 x4
              refine (HC.out _).mono ?_
              rintro e w5 ⟨rfl, b5⟩
              replace y1 := cell_below b5 y1
              replace y2 := cell_below b5 y2
              replace y3 := cell_below b5 y3
              replace y4 := cell_below b5 y4
              have B5 := Lib.hid (below_step B4.out b5)
              replace HT2 := Lib.hid (HT2.out.below b5)
              clear b5
              go_wp2_with fail
              go_ret3
              exact ⟨by rw [HV.out]; rfl, B5.out⟩
          · rw [show max d D = d from by omega] at HF1
            obtain ⟨m2, hm3⟩ : ∃ m2, Nat.lcm m T = m2 := ⟨_, rfl⟩
            rw [hm3] at HL1
            by_cases hbig : m2 ≤ 4611686018427387903
            · have HC := Lib.hid (lcm_n m T m2 hm3 hm1 hm2 hT1 hT2 hbig)
              have HP : 1 ≤ m2 := by rw [← HL1.out]; exact lcmTo_pos (by omega) HAL.out hlt
              clear hm3
              go_wp2_with fail
              generalize wr.alloc (Obj.cells #[.int .i64 x.1, .int .i64 D, .int .i64 T, .slice B x.2.2.2.length e] 47) = w4 at *
              clear x1 x2 x3 x4
              refine (HC.out _).mono ?_
              rintro e w5 ⟨rfl, b5⟩
              replace y1 := cell_below b5 y1
              replace y2 := cell_below b5 y2
              replace y3 := cell_below b5 y3
              replace y4 := cell_below b5 y4
              have B5 := Lib.hid (below_step B4.out b5)
              replace HT2 := Lib.hid (HT2.out.below b5)
              clear b5
              go_wp2_with fail
              go_roundw
              case rel => exact ⟨k + 1, m2, d, by go_num, rfl, rfl, hlt, HP, hbig, (by omega), HL1, HF1, B5, HT2⟩
              case measure => simp [intOf]; omega
            · obtain ⟨z1, z2, z3⟩ := cyc_large (L := L) (P := (p : Int)) (B := (b : Int)) HI.out (by rw [Int.toNat_natCast]; have := HLE.out; rw [HL1.out] at this; omega)
              have HV : Hid (cycV L (p : Int) (b : Int) = .tuple #[.int .i64 0, .int .i64 0, .int .i64 5]) := by show _ = _; unfold cycV; rw [z1, z2, z3]; rfl
              have HC := Lib.hid (lcm_far m T hm1 hm2 hT1 hT2 (by omega))
              clear z1 z2 z3 hm3
              go_wp2_with fail
              generalize wr.alloc (Obj.cells #[.int .i64 x.1, .int .i64 D, .int .i64 T, .slice B x.2.2.2.length e] 47) = w4 at *
              clear x1 x2 x3 x4
              refine (HC.out _).mono ?_
              rintro e w5 ⟨rfl, b5⟩
              replace y1 := cell_below b5 y1
              replace y2 := cell_below b5 y2
              replace y3 := cell_below b5 y3
              replace y4 := cell_below b5 y4
              have B5 := Lib.hid (below_step B4.out b5)
              replace HT2 := Lib.hid (HT2.out.below b5)
              clear b5
              go_wp2_with fail
              go_ret3
              exact ⟨by rw [HV.out]; rfl, B5.out⟩
        · have hkl : k = L.length := by omega
          subst hkl
          have i0 : IntKind.i64.wrap (3000 - (d : Int)) = 3000 - (d : Int) := IntWalk.i64_in _ (by omega)
          have e1 : cyc p L = m := HM.out
          have e2 : far p L = d := HD.out
          by_cases hbig : 3000 < m + d
          · obtain ⟨z1, z2, z3⟩ := cyc_large (L := L) (P := (p : Int)) (B := (b : Int)) HI.out (by rw [Int.toNat_natCast, e1, e2]; exact hbig)
            have HV : Hid (cycV L (p : Int) (b : Int) = .tuple #[.int .i64 0, .int .i64 0, .int .i64 5]) := by show _ = _; unfold cycV; rw [z1, z2, z3]; rfl
            clear z1 z2 z3 e1 e2
            go_wp2_with fail
            go_ret3
            exact ⟨by rw [HV.out]; rfl, HB.out⟩
          · obtain ⟨z1, z2, z3⟩ := cyc_fine (L := L) (P := (p : Int)) (B := (b : Int)) (cycOk_iff.2 ⟨HI.out, by rw [Int.toNat_natCast, e1, e2]; omega⟩)
            rw [Int.toNat_natCast, e1, e2] at z2
            rw [Int.toNat_natCast, e1] at z1
            have HV : Hid (cycV L (p : Int) (b : Int) = .tuple #[.int .i64 m, .int .i64 ((m : Int) + (d : Int)), .int .i64 0]) := by show _ = _; unfold cycV; rw [z1, z2, z3]; push_cast; rfl
            clear z1 z2 z3 e1 e2
            go_wp2_with fail
            go_ret3
            exact ⟨by rw [HV.out]; rfl, HB.out⟩

end Vd
end Go.Proofs.Ytldiplnccgoeiaa
