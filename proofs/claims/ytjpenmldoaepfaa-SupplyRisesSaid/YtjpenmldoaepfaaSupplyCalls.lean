/-
  Layer 9 (supply): provided, Legal, Least.
-/
import Derived.Test.YtjpenmldoaepfaaSupplyList
namespace Go.Proofs.Ytjpenmldoaepfaa
open Go.RowKit Mm
namespace Sp

set_option maxHeartbeats 1600000 in
theorem prov_any (A : Option Addr) (c : Nat) (l : List Bool) (i j : Nat) (w : World) (hij : i ≤ j) (hj : j ≤ l.length) (H : FL w A c l) :
    Calls Try.prog 19 #[.slice A l.length c, .int .i64 i, .int .i64 j] w fun e w' => e = .returned (.int .i64 (inN l i j : Nat)) ∧ Below w.heap.size w w' := by
  have hb := H.1
  have hle := H.2.le
  by_cases hlt : i < j
  · obtain ⟨b, off, rfl, hc⟩ := H.2.flag (by omega)
    have HC := Lib.hid hc
    clear H hc
    go_enter Try.func19, Try.ntmps19
    go_wp2_with fail
    go_loop [7, 16] (fun n k => ∃ q m : Nat, k = .int .i64 q ∧ n = .int .i64 m ∧ q ≤ j - i ∧ m ≤ q ∧ Hid (m = inN l i (i + q))) (fun _ k => j - i - (intOf k).toNat)
    case atStart => exact ⟨0, 0, rfl, rfl, Nat.zero_le _, Nat.le_refl _, (inN_same l i).symm⟩
    case round =>
      obtain ⟨q, m, rfl, rfl, hq, hm, HM⟩ := hrel
      by_cases hlt : q < j - i
      · have x1 := HC.out (i + q) (by omega)
        rw [← Nat.add_assoc] at x1
        cases hp : at_ l (i + q) with
        | true =>
          rw [hp] at x1
          have HN : Hid (m + 1 = inN l i (i + (q + 1))) := by show _ = _; rw [← Nat.add_assoc, inN_yes (by omega) hp, ← HM.out]
          clear hp
          go_wp2_with fail
          go_round
          case rel => exact ⟨q + 1, m + 1, by go_num, by go_num, hlt, by omega, HN⟩
          case measure => simp [intOf]; omega
        | false =>
          rw [hp] at x1
          have HN : Hid (m = inN l i (i + (q + 1))) := by show _ = _; rw [← Nat.add_assoc, inN_no hp, ← HM.out]
          clear hp
          go_wp2_with fail
          go_round
          case rel => exact ⟨q + 1, m, by go_num, rfl, hlt, by omega, HN⟩
          case measure => simp [intOf]; omega
      · have hq' : i + q = j := by omega
        have HF : Hid (m = inN l i j) := by show _ = _; rw [HM.out, hq']
        clear hq'
        go_wp2_with fail
        go_ret
        exact ⟨ret_int (by rw [HF.out]), Below.refl _ _⟩
  · have : j = i := by omega
    subst this
    have HZ := Lib.hid (inN_same l j)
    rcases A with _ | a
    · have := H.2.none_ rfl
      go_enter Try.func19, Try.ntmps19
      go_wp2_with fail
      go_loop [7, 16] (fun n k => n = .int .i64 0 ∧ k = .int .i64 0) (fun _ k => 0)
      case atStart => exact ⟨rfl, rfl⟩
      case round =>
        obtain ⟨rfl, rfl⟩ := hrel
        go_wp2_with fail
        go_ret
        exact ⟨by rw [HZ.out]; rfl, Below.refl _ _⟩
    · go_enter Try.func19, Try.ntmps19
      go_wp2_with fail
      go_loop [7, 16] (fun n k => n = .int .i64 0 ∧ k = .int .i64 0) (fun _ k => 0)
      case atStart => exact ⟨rfl, rfl⟩
      case round =>
        obtain ⟨rfl, rfl⟩ := hrel
        go_wp2_with fail
        go_ret
        exact ⟨by rw [HZ.out]; rfl, Below.refl _ _⟩
theorem prov_v (A : Option Addr) (c : Nat) (l : List Bool) (i j : Nat) (x y z : Int) (n : Nat) (hn : l.length = n) (hx : (i : Int) = x) (hy : (j : Int) = y) (hz : ((inN l i j : Nat) : Int) = z) (w : World) (hij : i ≤ j) (hj : j ≤ l.length) (H : FL w A c l) :
    Calls Try.prog 19 #[.slice A n c, .int .i64 x, .int .i64 y] w fun e w' => e = .returned (.int .i64 z) ∧ Below w.heap.size w w' := by
  subst hx; subst hy; subst hz; subst hn
  exact prov_any A c l i j w hij hj H

set_option maxHeartbeats 1600000 in
theorem legal_any (P B : Int) (A : Option Addr) (c : Nat) (l : List Bool) (w : World) (H : FL w A c l) :
    Calls Try.prog 14 #[.agg #[.int .i64 P, .int .i64 B], .slice A l.length c] w fun e w' => e = .returned (.bool (legalB P B l)) ∧ Below w.heap.size w w' := by
  obtain ⟨t1, t2⟩ := fc_new w P B
  have b0 := below_one w (Obj.cells #[.int .i64 P, .int .i64 B] 23)
  have HT := Lib.hid (H.below b0)
  have hb := H.1
  have B0 := Lib.hid b0
  clear b0
  clear H
  cases hv : rightB P B with
  | false =>
    have HL : Hid (legalB P B l = false) := by show _ = _; unfold legalB; rw [hv]; rfl
    have HV := Lib.hid hv
    clear hv
    go_enter Try.func14, Try.ntmps14
    go_wp2_with fail
    refine (right_v P B false HV.out _).mono ?_
    rintro e w1 ⟨rfl, b1⟩
    replace t1 := cell_below b1 t1
    replace t2 := cell_below b1 t2
    have B1 := Lib.hid (below_step B0.out b1)
    clear b1
    go_wp2_with fail
    go_ret
    exact ⟨ret_bool HL.out.symm, B1.out⟩
  | true =>
    have HL : Hid (legalB P B l = legB P.toNat B.toNat l) := by show _ = _; unfold legalB; rw [hv]; rfl
    obtain ⟨p, b, rfl, rfl, h1, h2, h3⟩ := right_nat hv
    rw [Int.toNat_natCast, Int.toNat_natCast] at HL
    have HV := Lib.hid hv
    clear hv
    obtain ⟨m, hm⟩ : ∃ m, l.length / p = m := ⟨_, rfl⟩
    have hml : m ≤ l.length := by rw [← hm]; exact Nat.div_le_self _ _
    have e1 : ((l.length : Int)) / (p : Int) = (m : Int) := by rw [← Int.natCast_ediv, hm]
    have e2 : IntKind.i64.wrap ((l.length : Int).tdiv (p : Int)) = (m : Int) := by rw [IntWalk.i64_quo _ _ ⟨by omega, by omega, by omega⟩, e1]
    have e3 : IntKind.i64.wrap (m : Int) = (m : Int) := IntWalk.i64_in _ (by omega)
    have i1 : ¬ (p : Int) = 0 := by omega
    have HM := Lib.hid hm
    clear hm
    go_enter Try.func14, Try.ntmps14
    go_wp2_with fail
    refine (right_v p b true HV.out _).mono ?_
    rintro e w1 ⟨rfl, b1⟩
    replace t1 := cell_below b1 t1
    replace t2 := cell_below b1 t2
    have B1 := Lib.hid (below_step B0.out b1)
    replace HT := Lib.hid (HT.out.below b1)
    clear b1
    go_wp2_with fail
    go_loopw [15] (fun i wr => ∃ k : Nat, i = .int .i64 k ∧ k ≤ m ∧ Hid (∀ j, j < k → b ≤ inN l (j * p) (j * p + p)) ∧ Hid (Below w1.heap.size w1 wr)) (fun i _ => m - (intOf i).toNat)
    case atStart => exact ⟨0, rfl, Nat.zero_le _, (fun j h1 => by omega), Below.refl _ _⟩
    case round =>
      obtain ⟨k, rfl, hk, HH, HB⟩ := hrel
      replace t1 := cell_below HB.out t1
      replace t2 := cell_below HB.out t2
      replace HT := Lib.hid (HT.out.below HB.out)
      by_cases hlt : k < m
      · obtain ⟨a, ha⟩ : ∃ a, k * p = a := ⟨_, rfl⟩
        obtain ⟨n, hn⟩ : ∃ n, inN l a (a + p) = n := ⟨_, rfl⟩
        have hap : a + p ≤ l.length := by
          rw [← ha]
          exact period_le (by omega) (by rw [HM.out]; exact hlt)
        have hnp : n ≤ p := by have := inN_len l a (a + p); omega
        have q1 : IntKind.i64.wrap ((k : Int) * (p : Int)) = (a : Int) := by
          rw [show (k : Int) * (p : Int) = (a : Int) from by rw [← ha]; push_cast; rfl]
          exact IntWalk.i64_in _ (by omega)
        have q2 : IntKind.i64.wrap ((a : Int) + (p : Int)) = (a : Int) + (p : Int) := IntWalk.i64_in _ (by omega)
        have HNI : Hid (((inN l a (a + p) : Nat) : Int) = (n : Int)) := by show _ = _; rw [hn]
        by_cases hg : b ≤ n
        · have HH2 : Hid (∀ j, j < k + 1 → b ≤ inN l (j * p) (j * p + p)) := by
            intro j hj
            by_cases e : j = k
            · subst e; rw [ha, hn]; exact hg
            · exact HH.out j (by omega)
          have HA := Lib.hid ha
          have HN := Lib.hid hn
          clear ha hn
          go_wp2_with fail
          replace t1 := cell_bw t1
          replace t2 := cell_bw t2
          have HY : ((a + p : Nat) : Int) = (a : Int) + (p : Int) := by push_cast; rfl
          refine wp_region_bw (by kernel_rfl) (by kernel_rfl) ?_
          repeat
            (with_reducible refine wpQuiet_step (fun K hK => ?_)
             go_simp
             first
               | (with_reducible refine hK _ ?_
                  clear hK K)
               | (rw [if_neg]
                  rotate_left
                  focus (intro h; cases h; done)
                  with_reducible refine hK _ ?_
                  clear hK K)
               | (apply Exists.intro
                  refine ⟨fun _ => ?_, hK _ ?_⟩
                  (exact Calls.bw (prov_v A c l a (a + p) _ _ (n : Int) _ rfl rfl HY HNI.out _ (Nat.le_add_right a p) hap (HT.out.bw _)))
                  clear hK K))
          with_reducible refine wpQuiet_nil ?_
          intro wb hw'
          obtain ⟨⟨wb', lb⟩, hw''⟩ := hw'
          subst hw''
          have B2 := Lib.hid (below_step HB.out lb)
          clear lb
          go_wp2_with fail
          go_roundw
          case rel => exact ⟨k + 1, by go_num, hlt, HH2, B2⟩
          case measure => simp [intOf]; omega
        · have HF : Hid (legalB (p : Int) (b : Int) l = false) := by
            show _ = _
            rw [HL.out]
            exact leg_no (j := k) (by rw [HM.out]; exact hlt) (by rw [ha, hn]; exact hg)
          have HA := Lib.hid ha
          have HN := Lib.hid hn
          clear ha hn
          go_wp2_with fail
          replace t1 := cell_bw t1
          replace t2 := cell_bw t2
          have HY : ((a + p : Nat) : Int) = (a : Int) + (p : Int) := by push_cast; rfl
          refine wp_region_bw (by kernel_rfl) (by kernel_rfl) ?_
          repeat
            (with_reducible refine wpQuiet_step (fun K hK => ?_)
             go_simp
             first
               | (with_reducible refine hK _ ?_
                  clear hK K)
               | (rw [if_neg]
                  rotate_left
                  focus (intro h; cases h; done)
                  with_reducible refine hK _ ?_
                  clear hK K)
               | (apply Exists.intro
                  refine ⟨fun _ => ?_, hK _ ?_⟩
                  (exact Calls.bw (prov_v A c l a (a + p) _ _ (n : Int) _ rfl rfl HY HNI.out _ (Nat.le_add_right a p) hap (HT.out.bw _)))
                  clear hK K))
          with_reducible refine wpQuiet_nil ?_
          intro wb hw'
          obtain ⟨⟨wb', lb⟩, hw''⟩ := hw'
          subst hw''
          have B2 := Lib.hid (below_step HB.out lb)
          clear lb
          go_wp2_with fail
          go_ret
          exact ⟨ret_bool HF.out.symm, below_step B1.out B2.out⟩
      · have HF : Hid (legalB (p : Int) (b : Int) l = true) := by
          show _ = _
          rw [HL.out]
          exact leg_iff.2 fun j hj => HH.out j (by rw [HM.out] at hj; omega)
        go_wp2_with fail
        go_ret
        exact ⟨ret_bool HF.out.symm, below_step B1.out HB.out⟩
theorem legal_v (P B : Int) (A : Option Addr) (c : Nat) (l : List Bool) (v : Bool) (hv : legalB P B l = v) (n : Nat) (hn : l.length = n) (w : World) (H : FL w A c l) :
    Calls Try.prog 14 #[.agg #[.int .i64 P, .int .i64 B], .slice A n c] w fun e w' => e = .returned (.bool v) ∧ Below w.heap.size w w' := by
  subst hv; subst hn
  exact legal_any P B A c l w H

set_option maxHeartbeats 1600000 in
theorem least_out (A : Option Addr) (c : Nat) (l : List Bool) (t : Int) (w : World) (ht : t < 0 ∨ l.length < t) (hb : l.length ≤ 1000000) :
    Calls Try.prog 16 #[.slice A l.length c, .int .i64 t] w fun e w' => e = .returned (.int .i64 (leastZ l t : Nat)) ∧ Below w.heap.size w w' := by
  have HZ := Lib.hid (leastZ_out ht)
  rcases ht with h | h
  · go_enter Try.func16, Try.ntmps16
    go_wp2_with fail
    go_ret
    exact ⟨by rw [HZ.out]; rfl, Below.refl _ _⟩
  · go_enter Try.func16, Try.ntmps16
    go_wp2_with fail
    go_ret
    exact ⟨by rw [HZ.out]; rfl, Below.refl _ _⟩

set_option maxHeartbeats 1600000 in
theorem least_in (A : Option Addr) (c : Nat) (l : List Bool) (t : Nat) (w : World) (ht : t ≤ l.length) (H : FL w A c l) :
    Calls Try.prog 16 #[.slice A l.length c, .int .i64 t] w fun e w' => e = .returned (.int .i64 (leastZ l t : Nat)) ∧ Below w.heap.size w w' := by
  have hb := H.1
  have HT := Lib.hid H
  have HZ := Lib.hid (leastZ_in ht)
  clear H
  obtain ⟨d, hd⟩ : ∃ d, l.length - t = d := ⟨_, rfl⟩
  rw [hd] at HZ
  have hdl : l.length = t + d := by omega
  obtain ⟨q0, hq0⟩ : ∃ q0, inN l 0 t = q0 := ⟨_, rfl⟩
  have hq0t : q0 ≤ t := by have := inN_len l 0 t; omega
  have HQ0 : Hid (((inN l 0 t : Nat) : Int) = (q0 : Int)) := by show _ = _; rw [hq0]
  have HLE : Hid (leastTo l t 0 = q0) := hq0
  have e1 : IntKind.i64.wrap ((l.length : Int) - (t : Int)) = (d : Int) := by rw [IntWalk.i64_in _ (by omega)]; omega
  have e2 : IntKind.i64.wrap (d : Int) = (d : Int) := IntWalk.i64_in _ (by omega)
  clear hd hq0
  have HDL := Lib.hid hdl
  clear hdl
  have hdb : d ≤ 1000000 := by have := HDL.out; omega
  have htb : t ≤ 1000000 := by omega
  go_enter Try.func16, Try.ntmps16
  go_wp2_with fail
  refine (prov_v A c l 0 t _ _ (q0 : Int) _ rfl rfl rfl HQ0.out _ (Nat.zero_le _) ht HT.out).mono ?_
  rintro e w1 ⟨rfl, b1⟩
  have B1 := Lib.hid b1
  replace HT := Lib.hid (HT.out.below b1)
  clear b1
  go_wp2_with fail
  go_loopw [5, 6, 24] (fun q r i wr => ∃ k a m : Nat, i = .int .i64 k ∧ q = .int .i64 a ∧ r = .int .i64 m ∧ k ≤ d ∧ a ≤ t ∧ m ≤ t ∧ Hid (inN l k (k + t) = a) ∧ Hid (leastTo l t k = m) ∧ Hid (Below w1.heap.size w1 wr)) (fun _ _ i _ => d - (intOf i).toNat)
  case atStart =>
    refine ⟨0, q0, q0, rfl, rfl, rfl, Nat.zero_le _, hq0t, hq0t, ?_, HLE.out, Below.refl _ _⟩
    show _ = _
    rw [Nat.zero_add]
    have := HQ0.out
    omega
  case round =>
    obtain ⟨k, a, m, rfl, rfl, rfl, hk, ha, hm, HA, HM, HB⟩ := hrel
    replace HT := Lib.hid (HT.out.below HB.out)
    by_cases hlt : k < d
    · obtain ⟨x, hx⟩ : ∃ x, inN l (k + t) (k + t + 1) = x := ⟨_, rfl⟩
      obtain ⟨y, hy⟩ : ∃ y, inN l k (k + 1) = y := ⟨_, rfl⟩
      obtain ⟨z, hz⟩ : ∃ z, inN l (k + 1) (k + 1 + t) = z := ⟨_, rfl⟩
      have hx1 : x ≤ 1 := by have := inN_len l (k + t) (k + t + 1); omega
      have hy1 : y ≤ 1 := by have := inN_len l k (k + 1); omega
      have hzt : z ≤ t := by have := inN_len l (k + 1) (k + 1 + t); omega
      have hs := inN_slide l k t
      rw [hx, hy, hz, HA.out] at hs
      have e3 : IntKind.i64.wrap ((a : Int) + ((x : Int) - (y : Int))) = (z : Int) := by rw [IntWalk.i64_in _ (by omega)]; omega
      have HXX : Hid (((inN l (k + t) (k + t + 1) : Nat) : Int) = (x : Int)) := by show _ = _; rw [hx]
      have HYY : Hid (((inN l k (k + 1) : Nat) : Int) = (y : Int)) := by show _ = _; rw [hy]
      have hkt : k + t + 1 ≤ l.length := by have := HDL.out; omega
      have hk1 : k + 1 ≤ l.length := by omega
      have c1 : ((k + t : Nat) : Int) = (k : Int) + (t : Int) := by push_cast; rfl
      have c2 : ((k + t + 1 : Nat) : Int) = (k : Int) + (t : Int) + 1 := by push_cast; rfl
      have c3 : ((k + 1 : Nat) : Int) = (k : Int) + 1 := by push_cast; rfl
      have HX := Lib.hid hx
      have HY := Lib.hid hy
      have HS := Lib.hid hs
      have C1 := Lib.hid c1
      have C2 := Lib.hid c2
      have C3 := Lib.hid c3
      have HKT := Lib.hid hkt
      have HK1 := Lib.hid hk1
      clear hx hy hs c1 c2 c3 hkt hk1
      have HZ2 := Lib.hid hz
      clear hz
      by_cases hc : z < m
      · have HN : Hid (leastTo l t (k + 1) = z) := by show _ = _; rw [leastTo, HM.out, HZ2.out]; omega
        go_wp2_with fail
        refine (prov_v A c l (k + t) (k + t + 1) _ _ (x : Int) _ rfl C1.out C2.out HXX.out _ (by omega) HKT.out HT.out).mono ?_
        rintro e w2 ⟨rfl, b2⟩
        have B2 := Lib.hid b2
        replace HT := Lib.hid (HT.out.below b2)
        clear b2
        go_wp2_with fail
        refine (prov_v A c l k (k + 1) _ _ (y : Int) _ rfl rfl C3.out HYY.out _ (by omega) HK1.out HT.out).mono ?_
        rintro e w3 ⟨rfl, b3⟩
        have B3 := Lib.hid (below_step B2.out b3)
        replace HT := Lib.hid (HT.out.below b3)
        clear b3
        go_wp2_with fail
        go_roundw
        case rel => exact ⟨k + 1, z, z, by go_num, rfl, rfl, hlt, hzt, hzt, HZ2.out, HN.out, below_step HB.out B3.out⟩
        case measure => simp [intOf]; omega
      · have HN : Hid (leastTo l t (k + 1) = m) := by show _ = _; rw [leastTo, HM.out, HZ2.out]; omega
        go_wp2_with fail
        refine (prov_v A c l (k + t) (k + t + 1) _ _ (x : Int) _ rfl C1.out C2.out HXX.out _ (by omega) HKT.out HT.out).mono ?_
        rintro e w2 ⟨rfl, b2⟩
        have B2 := Lib.hid b2
        replace HT := Lib.hid (HT.out.below b2)
        clear b2
        go_wp2_with fail
        refine (prov_v A c l k (k + 1) _ _ (y : Int) _ rfl rfl C3.out HYY.out _ (by omega) HK1.out HT.out).mono ?_
        rintro e w3 ⟨rfl, b3⟩
        have B3 := Lib.hid (below_step B2.out b3)
        replace HT := Lib.hid (HT.out.below b3)
        clear b3
        go_wp2_with fail
        go_roundw
        case rel => exact ⟨k + 1, z, m, by go_num, rfl, rfl, hlt, hzt, hm, HZ2.out, HN.out, below_step HB.out B3.out⟩
        case measure => simp [intOf]; omega
    · have hkd : k = d := by omega
      subst hkd
      have HF : Hid (leastZ l (t : Int) = m) := by show _ = _; rw [HZ.out, HM.out]
      go_wp2_with fail
      go_ret
      exact ⟨by rw [HF.out]; rfl, below_step B1.out HB.out⟩
theorem least_call (A : Option Addr) (c : Nat) (l : List Bool) (t : Int) (w : World) (H : FL w A c l) :
    Calls Try.prog 16 #[.slice A l.length c, .int .i64 t] w fun e w' => e = .returned (.int .i64 (leastZ l t : Nat)) ∧ Below w.heap.size w w' := by
  by_cases h : 0 ≤ t ∧ t ≤ l.length
  · obtain ⟨k, rfl⟩ : ∃ k : Nat, t = k := ⟨t.toNat, by omega⟩
    exact least_in A c l k w (by omega) H
  · exact least_out A c l t w (by omega) H.1
theorem least_v (A : Option Addr) (c : Nat) (l : List Bool) (t z : Int) (hz : ((leastZ l t : Nat) : Int) = z) (n : Nat) (hn : l.length = n) (w : World) (H : FL w A c l) :
    Calls Try.prog 16 #[.slice A n c, .int .i64 t] w fun e w' => e = .returned (.int .i64 z) ∧ Below w.heap.size w w' := by
  subst hz; subst hn
  exact least_call A c l t w H

end Sp
end Go.Proofs.Ytjpenmldoaepfaa
