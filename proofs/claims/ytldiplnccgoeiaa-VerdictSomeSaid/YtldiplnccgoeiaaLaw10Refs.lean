/-
  Layer 10: the document's answers Asked, Fits.
-/
import Derived.Test.YtldiplnccgoeiaaLaw10Cycle
import Derived.Test.YtldiplnccgoeiaaLaw10Need
namespace Go.Proofs.Ytldiplnccgoeiaa
open Go.RowKit Mm Tk
namespace Vd

theorem refCycle_v (A : Option Addr) (c : Nat) (L : List Tsk) (P B : Int) (z y e : Nat) (hz : cycZ L P B = z) (hy : endZ L P B = y) (he : cycE L P B = e) (n : Nat) (hn : L.length = n) (w : World) (H : TL w A c L) :
    Calls Try.prog 15 #[.slice A n c, .agg #[.int .i64 P, .int .i64 B]] w fun x w' => x = .returned (.tuple #[.int .i64 z, .int .i64 y, .int .i64 e]) ∧ Below w.heap.size w w' := by
  subst hz; subst hy; subst he; subst hn
  exact refCycle_any P B A c L w H

theorem askT_small {x : Tsk} (hx : rightT x = true) {H : Nat} (hH : H ≤ 3000) : 0 ≤ askT x H ∧ askT x H ≤ 600000 := by
  have hT := Dm.right_T hx
  unfold askT
  have h1 : 0 ≤ (H : Int) / x.2.2.1 := Int.ediv_nonneg (by omega) (by omega)
  have h2 : (H : Int) / x.2.2.1 ≤ 3000 := Int.le_trans (Int.ediv_le_self _ (by omega)) (by omega)
  refine ⟨Int.mul_nonneg (by omega) h1, ?_⟩
  have h3 : x.1 * ((H : Int) / x.2.2.1) ≤ 200 * 3000 := Int.mul_le_mul (by omega) h2 h1 (by omega)
  omega
theorem askTo_small {L : List Tsk} (h : ∀ j, j < L.length → rightT (at_ L j) = true) {H : Nat} (hH : H ≤ 3000) : ∀ {k : Nat}, k ≤ L.length → 0 ≤ askTo L H k ∧ askTo L H k ≤ k * 600000
  | 0, _ => by rw [askTo]; omega
  | k + 1, hk => by
    have ih := askTo_small h hH (k := k) (by omega)
    have hx : 0 ≤ askT (at_ L k) H ∧ askT (at_ L k) H ≤ 600000 := askT_small (h k (by omega)) hH
    rw [askTo]
    change 0 ≤ askTo L H k + askT (at_ L k) H ∧ askTo L H k + askT (at_ L k) H ≤ _
    omega

set_option maxHeartbeats 1600000 in
theorem refAsked_any (A : Option Addr) (c : Nat) (L : List Tsk) (p b H : Nat) (hL : allB L = true) (h1 : 1 ≤ b) (h2 : b ≤ p) (h3 : p ≤ 200) (hH : H ≤ 3000) (w : World) (HX : TL w A c L) :
    Calls Try.prog 34 #[.slice A L.length c, .agg #[.int .i64 p, .int .i64 b], .int .i64 H] w fun x w' => x = .returned (.tuple #[.int .i64 (asked L H), .int .i64 (given p b H : Nat)]) ∧ Below w.heap.size w w' := by
  obtain ⟨t1, t2⟩ := Sp.fc_new w (p : Int) (b : Int)
  have b0 := below_one w (Obj.cells #[.int .i64 p, .int .i64 b] 31)
  have HT := Lib.hid (HX.below b0)
  have hlen := Dm.all_len hL
  have hAL := Dm.all_right hL
  have hS : ∀ k, k ≤ L.length → 0 ≤ askTo L H k ∧ askTo L H k ≤ 4800000 := fun k hk => by
    have := askTo_small hAL hH hk
    omega
  have hG : asked L H = askTo L H L.length := rfl
  have B0 := Lib.hid b0
  have HAL := Lib.hid hAL
  have HS := Lib.hid hS
  have HG := Lib.hid hG
  clear b0 hAL hS hG
  clear HX hL
  obtain ⟨q, hq⟩ : ∃ q, H / p = q := ⟨_, rfl⟩
  have hg : ((given p b H : Nat) : Int) = (b : Int) * (q : Int) := by unfold given; rw [hq]; push_cast; rfl
  have hqs : q ≤ 3000 := by rw [← hq]; exact Nat.le_trans (Nat.div_le_self _ _) hH
  have hq2 : (H : Int) / (p : Int) = (q : Int) := by
    rw [← hq]
    push_cast
    rfl
  have hbq : (b : Int) * (q : Int) ≤ 600000 := by
    have : b * q ≤ 200 * 3000 := Nat.mul_le_mul (by omega) hqs
    have e : (b : Int) * (q : Int) = ((b * q : Nat) : Int) := by push_cast; rfl
    omega
  have hbq0 : 0 ≤ (b : Int) * (q : Int) := Int.mul_nonneg (by omega) (by omega)
  have HG_ := Lib.hid hg
  clear hg
  have HQ2 := Lib.hid hq2
  have HBQ := Lib.hid hbq
  have HBQ0 := Lib.hid hbq0
  clear hq2 hbq hbq0
  go_enter Try.func34, Try.ntmps34
  go_wp2_with fail
  have y1 := cell_new t1
  generalize w.alloc (Obj.cells #[.int .i64 (p : Int), .int .i64 (b : Int)] 31) = w1 at *
  clear y1
  go_loopw [8, 9] (fun n i wr => ∃ (k : Nat) (z : Int), i = .int .i64 k ∧ n = .int .i64 z ∧ k ≤ L.length ∧ 0 ≤ z ∧ z ≤ 4800000 ∧ Hid (askTo L H k = z) ∧ Hid (Below w1.heap.size w1 wr)) (fun _ i _ => L.length - (intOf i).toNat)
  case atStart => exact ⟨0, 0, rfl, rfl, Nat.zero_le _, by omega, by omega, rfl, Below.refl _ _⟩
  case round =>
    obtain ⟨k, z, rfl, rfl, hk, hz0, hz1, HZ, HB⟩ := hrel
    replace t1 := cell_below HB.out t1
    replace t2 := cell_below HB.out t2
    replace HT := Lib.hid (HT.out.below HB.out)
    by_cases hlt : k < L.length
    · obtain ⟨bb, off, rfl, hc⟩ := task_at HT.out.2.2 (by omega)
      obtain ⟨D, e, x1, x2, x3, x4, _, _, _, _⟩ := hc k hlt
      have hx := Dm.right_T (HAL.out k hlt)
      have hN : askTo L H (k + 1) = z + askT (at_ L k) H := by rw [askTo, HZ.out]
      have hNs := HS.out (k + 1) hlt
      have hA := askT_small (HAL.out k hlt) hH
      clear hc
      generalize at_ L k = x at *
      unfold askT at hN hA
      obtain ⟨T, hT⟩ : ∃ T : Nat, x.2.2.1 = T := ⟨x.2.2.1.toNat, (Int.toNat_of_nonneg (by omega)).symm⟩
      rw [hT] at x3 hN hA
      obtain ⟨r, hr⟩ : ∃ r : Nat, H / T = r := ⟨_, rfl⟩
      have hr2 : (H : Int) / (T : Int) = (r : Int) := by rw [← hr]; push_cast; rfl
      rw [hr2] at hN hA
      have i0 : IntKind.i64.wrap ((H : Int) / (T : Int)) = (r : Int) := by
        rw [hr2]
        exact IntWalk.i64_in _ (by have : r ≤ H := by { rw [← hr]; exact Nat.div_le_self _ _ }
                                   omega)
      have i1 : ¬ (T : Int) = 0 := by omega
      have i2 : ¬ T = 0 := by omega
      have i3 : ((T : Int) == 0) = false := beq_eq_false_iff_ne.2 i1
      have i4 : IntKind.i64.wrap (x.1 * (r : Int)) = x.1 * (r : Int) := IntWalk.i64_in _ (by omega)
      have i5 : IntKind.i64.wrap (z + x.1 * (r : Int)) = z + x.1 * (r : Int) := IntWalk.i64_in _ (by omega)
      rw [hN] at hNs
      have HN := Lib.hid hN
      have HNS := Lib.hid hNs
      clear hN hNs
      clear hA hr hr2 hx hT
      have j1 : (0 : Int) ≤ (k : Int) := by omega
      have j2 : (k : Int) < (L.length : Int) := by omega
      go_wp2_with fail
      replace t1 := cell_bw t1
      replace t2 := cell_bw t2
      replace x1 := cell_bw x1
      replace x2 := cell_bw x2
      replace x3 := cell_bw x3
      replace x4 := cell_bw x4
      refine wp_region_bw (by kernel_rfl) (by kernel_rfl) ?_
      repeat
        (with_reducible refine wpQuiet_step (fun K hK => ?_)
         go_simp
         first
           | (with_reducible refine hK _ ?_
              clear hK K)
           | (rw [if_neg]
              rotate_left
              focus (intro h; cases h; done)
              with_reducible refine hK _ ?_
              clear hK K)
           | (apply Exists.intro
              refine ⟨fun _ => ?_, hK _ ?_⟩
              (fail)
              clear hK K))
      with_reducible refine wpQuiet_nil ?_
      intro wb hw'
      obtain ⟨⟨wb', lb⟩, hw''⟩ := hw'
      subst hw''
      have B2 := Lib.hid (below_step HB.out lb)
      clear lb t1 t2 x1 x2 x3 x4
      go_wp2_with fail
      go_roundw
      case rel => exact ⟨k + 1, z + x.1 * (r : Int), by go_num, rfl, hlt, HNS.out.1, HNS.out.2, HN, B2⟩
      case measure => simp [intOf]; omega
    · have hkl : k = L.length := by omega
      subst hkl
      have i0 : IntKind.i64.wrap ((H : Int) / (p : Int)) = (q : Int) := by rw [HQ2.out]; exact IntWalk.i64_in _ (by omega)
      have i1 : ¬ (p : Int) = 0 := by omega
      have i2 : ¬ p = 0 := by omega
      have i3 : ((p : Int) == 0) = false := beq_eq_false_iff_ne.2 i1
      have i4 : IntKind.i64.wrap ((b : Int) * (q : Int)) = (b : Int) * (q : Int) := IntWalk.i64_in _ (by have := HBQ.out; have := HBQ0.out; omega)
      go_wp2_with fail
      replace t1 := cell_bw t1
      replace t2 := cell_bw t2
      refine wp_region_bw (by kernel_rfl) (by kernel_rfl) ?_
      repeat
        (with_reducible refine wpQuiet_step (fun K hK => ?_)
         go_simp
         first
           | (with_reducible refine hK _ ?_
              clear hK K)
           | (rw [if_neg]
              rotate_left
              focus (intro h; cases h; done)
              with_reducible refine hK _ ?_
              clear hK K)
           | (apply Exists.intro
              refine ⟨fun _ => ?_, hK _ ?_⟩
              (fail)
              clear hK K))
      with_reducible refine wpQuiet_nil ?_
      intro wb hw'
      obtain ⟨⟨wb', lb⟩, hw''⟩ := hw'
      subst hw''
      have B2 := Lib.hid (below_step HB.out lb)
      clear lb t1 t2
      go_wp2_with fail
      go_ret2
      exact ⟨by rw [HG.out, HZ.out, HG_.out]; rfl, below_step B0.out B2.out⟩

theorem refAsked_n (A : Option Addr) (c : Nat) (L : List Tsk) (p b H : Nat) (hL : allB L = true) (h1 : 1 ≤ b) (h2 : b ≤ p) (h3 : p ≤ 200) (hH : H ≤ 3000) (z : Int) (g : Nat) (hz : asked L H = z) (hg : given p b H = g) (n : Nat) (hn : L.length = n) (w : World) (HX : TL w A c L) :
    Calls Try.prog 34 #[.slice A n c, .agg #[.int .i64 p, .int .i64 b], .int .i64 H] w fun x w' => x = .returned (.tuple #[.int .i64 z, .int .i64 g]) ∧ Below w.heap.size w w' := by
  subst hz; subst hg; subst hn
  exact refAsked_any A c L p b H hL h1 h2 h3 hH w HX

/-- what is asked fits what is given, where no tick up to the end tells otherwise -/
theorem fits_parts {L : List Tsk} {p b : Nat} (hc : cycOk L (p : Int) (b : Int) = true) (hv : firB L p b (endZ L (p : Int) (b : Int)) = false) : asked L (cycZ L (p : Int) (b : Int)) ≤ given p b (cycZ L (p : Int) (b : Int)) := by
  obtain ⟨h1, _⟩ := cycOk_iff.1 hc
  obtain ⟨h2, h3⟩ := in_iff.1 h1
  have h4 := Sp.right_iff.1 h3
  obtain ⟨z1, z2, _⟩ := cyc_fine hc
  rw [Int.toNat_natCast] at z1 z2
  rw [z2] at hv
  rw [z1]
  have hE := cyc_end (L := L) (P := p) (B := b) h2 (by omega) (by omega)
  refine fits_end h2 (by omega) (by omega) hE fun t ht => ?_
  rcases firstOf L p b (cyc p L + far p L) with ⟨_, _, h⟩ | ⟨h, _⟩
  · exact bad_no.1 (h t ht)
  · rw [h] at hv; cases hv

set_option maxHeartbeats 800000 in
theorem refFits_any (P B : Int) (A : Option Addr) (c : Nat) (L : List Tsk) (hc : cycOk L P B = true) (w : World) (HX : TL w A c L) :
    Calls Try.prog 19 #[.slice A L.length c, .agg #[.int .i64 P, .int .i64 B]] w fun x w' => x = .returned (.bool (fitsB L P B)) ∧ Below w.heap.size w w' := by
  obtain ⟨g1, g2⟩ := cycOk_iff.1 hc
  obtain ⟨g3, g4⟩ := in_iff.1 g1
  obtain ⟨p, b, rfl, rfl, h1, h2, h3⟩ := Sp.right_nat g4
  obtain ⟨z1, z2, z3⟩ := cyc_fine hc
  rw [Int.toNat_natCast] at z1 z2 g2
  obtain ⟨H, hH⟩ : ∃ H, cycZ L (p : Int) (b : Int) = H := ⟨_, rfl⟩
  obtain ⟨E, hE⟩ : ∃ E, endZ L (p : Int) (b : Int) = E := ⟨_, rfl⟩
  have hfar := far_two p L
  have hH3 : H ≤ 3000 := by rw [← hH, z1]; omega
  have hE3 : E ≤ 3000 := by rw [← hE, z2]; omega
  obtain ⟨t1, t2⟩ := Sp.fc_new w (p : Int) (b : Int)
  have b0 := below_one w (Obj.cells #[.int .i64 p, .int .i64 b] 31)
  have HT := Lib.hid (HX.below b0)
  have hfp := fits_parts hc
  rw [hH, hE] at hfp
  have hf : fitsB L (p : Int) (b : Int) = !firB L p b E := by
    unfold fitsB
    rw [hc, Int.toNat_natCast, Int.toNat_natCast, hE, Bool.true_and]
  obtain ⟨a, ha⟩ : ∃ a, asked L H = a := ⟨_, rfl⟩
  obtain ⟨g, hg⟩ : ∃ g, given p b H = g := ⟨_, rfl⟩
  obtain ⟨u, hu⟩ : ∃ u, firT L p b E = u := ⟨_, rfl⟩
  obtain ⟨v, hv⟩ : ∃ v, firB L p b E = v := ⟨_, rfl⟩
  have HC := Lib.hid (refCycle_v A c L p b H E 0 hH hE z3 L.length rfl)
  have HA := Lib.hid (refAsked_n A c L p b H g3 h1 h2 h3 hH3 a g ha hg L.length rfl)
  have HF := Lib.hid (refFirst_n A c L p b E g3 h1 h2 h3 hE3 u v hu hv L.length rfl)
  rw [hv, ha, hg] at hfp
  rw [hv] at hf
  have HF_ := Lib.hid hf
  have B0 := Lib.hid b0
  clear b0
  clear HX hf hc g1 g2 g3 g4 hH hE ha hg hu hv z1 z2 z3 hfar hH3 hE3
  cases v with
  | true =>
    clear hfp
    go_enter Try.func19, Try.ntmps19
    go_wp2_with fail
    refine (HC.out _ HT.out).mono ?_
    rintro e w1 ⟨rfl, b1⟩
    replace t1 := cell_below b1 t1
    replace t2 := cell_below b1 t2
    have B1 := Lib.hid (below_step B0.out b1)
    replace HT := Lib.hid (HT.out.below b1)
    clear b1
    go_wp2_with fail
    refine (HA.out _ HT.out).mono ?_
    rintro e w2 ⟨rfl, b2⟩
    replace t1 := cell_below b2 t1
    replace t2 := cell_below b2 t2
    have B2 := Lib.hid (below_step B1.out b2)
    replace HT := Lib.hid (HT.out.below b2)
    clear b2
    go_wp2_with fail
    refine (HF.out _ HT.out).mono ?_
    rintro e w3 ⟨rfl, b3⟩
    replace t1 := cell_below b3 t1
    replace t2 := cell_below b3 t2
    have B3 := Lib.hid (below_step B2.out b3)
    clear b3
    go_wp2_with fail
    all_goals go_ret
    all_goals exact ⟨by rw [HF_.out]; rfl, B3.out⟩
  | false =>
    have hle := hfp rfl
    clear hfp
    go_enter Try.func19, Try.ntmps19
    go_wp2_with fail
    refine (HC.out _ HT.out).mono ?_
    rintro e w1 ⟨rfl, b1⟩
    replace t1 := cell_below b1 t1
    replace t2 := cell_below b1 t2
    have B1 := Lib.hid (below_step B0.out b1)
    replace HT := Lib.hid (HT.out.below b1)
    clear b1
    go_wp2_with fail
    refine (HA.out _ HT.out).mono ?_
    rintro e w2 ⟨rfl, b2⟩
    replace t1 := cell_below b2 t1
    replace t2 := cell_below b2 t2
    have B2 := Lib.hid (below_step B1.out b2)
    replace HT := Lib.hid (HT.out.below b2)
    clear b2
    go_wp2_with fail
    refine (HF.out _ HT.out).mono ?_
    rintro e w3 ⟨rfl, b3⟩
    replace t1 := cell_below b3 t1
    replace t2 := cell_below b3 t2
    have B3 := Lib.hid (below_step B2.out b3)
    clear b3
    go_wp2_with fail
    go_ret
    exact ⟨by rw [HF_.out]; rfl, B3.out⟩
theorem refFits_v (A : Option Addr) (c : Nat) (L : List Tsk) (P B : Int) (hc : cycOk L P B = true) (v : Bool) (hv : fitsB L P B = v) (n : Nat) (hn : L.length = n) (w : World) (H : TL w A c L) :
    Calls Try.prog 19 #[.slice A n c, .agg #[.int .i64 P, .int .i64 B]] w fun x w' => x = .returned (.bool v) ∧ Below w.heap.size w w' := by
  subst hv; subst hn
  exact refFits_any P B A c L hc w H

end Vd
end Go.Proofs.Ytldiplnccgoeiaa
