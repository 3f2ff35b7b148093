/-
  Merged texts: Law10Cycle, Law10Need, Law10Refs.
-/
import Derived.Test.YtdjjdebnbaaihaaGreatGverdict
import Derived.Test.YtdjjdebnbaaihaaGreatGlaw05
import Derived.Test.YtdjjdebnbaaihaaGreatGlaw09
import Derived.Test.YtdjjdebnbaaihaaGreatGlaw07
import Derived.Test.YtdjjdebnbaaihaaGreatGlaw08
/-
  Layer 10: the document's answer Cycle.
-/
namespace Go.Proofs.YtdjjdebnbaaihaaGreat
open Go.RowKit Mm Tk
namespace Vd

theorem refAll_v (A : Option Addr) (c : Nat) (L : List Tsk) (v : Bool) (hv : allB L = v) (n : Nat) (hn : L.length = n) (w : World) (H : TL w A c L) :
    Calls Tryz.prog 30 #[.slice A n c] w fun e w' => e = .returned (.bool v) ∧ Below w.heap.size w w' := by
  subst hv; subst hn
  exact refAll_any A c L w H.1 H.2.1 H.2.2

/-- the T of the first k tasks divide n -/
def dvTo (L : List Tsk) (n : Nat) : Nat → Bool
  | 0 => true
  | k + 1 => dvTo L n k && decide (n % (at_ L k).2.2.1.toNat = 0)
theorem dvTo_dvd {L : List Tsk} {n : Nat} : ∀ {k : Nat}, dvTo L n k = true → ∀ j, j < k → (at_ L j).2.2.1.toNat ∣ n
  | 0, _, j, hj => by omega
  | k + 1, h, j, hj => by
    rw [dvTo, Bool.and_eq_true, decide_eq_true_iff] at h
    by_cases e : j = k
    · subst e; exact Nat.dvd_of_mod_eq_zero h.2
    · exact dvTo_dvd h.1 j (by omega)
theorem dvTo_of {L : List Tsk} {n : Nat} : ∀ {k : Nat}, (∀ j, j < k → (at_ L j).2.2.1.toNat ∣ n) → dvTo L n k = true
  | 0, _ => rfl
  | k + 1, h => by
    rw [dvTo, dvTo_of fun j hj => h j (by omega), decide_eq_true (Nat.mod_eq_zero_of_dvd (h k (by omega)))]
    rfl
/-- the cycle itself is found -/
theorem dv_yes {L : List Tsk} {p n : Nat} (hn : 1 ≤ n) (hp : p ∣ n) (hle : n ≤ cyc p L) (h : dvTo L n L.length = true) : n = cyc p L :=
  Nat.le_antisymm hle (Nat.le_of_dvd hn (lcmTo_least hp (dvTo_dvd h)))
theorem dv_no {L : List Tsk} {p n : Nat} (hp : p ∣ n) (hle : n ≤ cyc p L) (h : dvTo L n L.length = false) : n + p ≤ cyc p L := by
  have h1 : n ≠ cyc p L := fun e => by
    rw [dvTo_of (k := L.length) fun j hj => by rw [e]; exact lcmTo_T hj] at h
    cases h
  obtain ⟨a, ha⟩ := hp
  obtain ⟨b, hb⟩ : p ∣ cyc p L := lcmTo_dvd p L (Nat.zero_le _)
  rw [ha, hb] at hle h1 ⊢
  have h2 : a < b := by
    rcases Nat.lt_or_ge a b with h | h
    · exact h
    · exact absurd (Nat.le_antisymm hle (Nat.mul_le_mul_left p h)) h1
  have := Nat.mul_le_mul_left p (show a + 1 ≤ b from h2)
  rw [Nat.mul_add, Nat.mul_one] at this
  exact this

set_option maxRecDepth 20000 in
set_option maxHeartbeats 3200000 in
theorem refCycle_any (P B : Int) (A : Option Addr) (c : Nat) (L : List Tsk) (w : World) (H : TL w A c L) :
    Calls Tryz.prog 21 #[.slice A L.length c, .agg #[.int .i64 P, .int .i64 B]] w fun e w' => e = .returned (cycV L P B) ∧ Below w.heap.size w w' := by
  obtain ⟨t1, t2⟩ := Sp.fc_new w P B
  have b0 := below_one w (Obj.cells #[.int .i64 P, .int .i64 B] 23)
  have HT := Lib.hid (H.below b0)
  have hb1 := H.1
  have B0 := Lib.hid b0
  clear b0
  clear H
  cases ha : allB L with
  | false =>
    obtain ⟨z1, z2, z3⟩ := cyc_none (L := L) (P := P) (B := B) (by unfold inB; rw [ha]; rfl)
    have HV : Hid (cycV L P B = .tuple #[.int .i64 0, .int .i64 0, .int .i64 1]) := by show _ = _; unfold cycV; rw [z1, z2, z3]; rfl
    have HA := Lib.hid ha
    clear ha
    clear z1 z2 z3
    go_enter Tryz.func21, Tryz.ntmps21
    go_wp2_with fail
    refine (refAll_v A c L false HA.out L.length rfl _ HT.out).mono ?_
    rintro e w1 ⟨rfl, b1⟩
    replace t1 := cell_below b1 t1
    replace t2 := cell_below b1 t2
    have B1 := Lib.hid (below_step B0.out b1)
    clear b1
    go_wp2_with fail
    go_ret3
    exact ⟨by rw [HV.out]; rfl, B1.out⟩
  | true =>
    cases hr : Sp.rightB P B with
    | false =>
      obtain ⟨z1, z2, z3⟩ := cyc_none (L := L) (P := P) (B := B) (by unfold inB; rw [hr, Bool.and_false])
      have HV : Hid (cycV L P B = .tuple #[.int .i64 0, .int .i64 0, .int .i64 1]) := by show _ = _; unfold cycV; rw [z1, z2, z3]; rfl
      have HA := Lib.hid ha
      have HR := Lib.hid hr
      clear ha hr
      clear z1 z2 z3
      go_enter Tryz.func21, Tryz.ntmps21
      go_wp2_with fail
      refine (refAll_v A c L true HA.out L.length rfl _ HT.out).mono ?_
      rintro e w1 ⟨rfl, b1⟩
      replace t1 := cell_below b1 t1
      replace t2 := cell_below b1 t2
      have B1 := Lib.hid (below_step B0.out b1)
      clear b1
      go_wp2_with fail
      refine (Sp.refRight_v P B false HR.out _).mono ?_
      rintro e w2 ⟨rfl, b2⟩
      replace t1 := cell_below b2 t1
      replace t2 := cell_below b2 t2
      have B2 := Lib.hid (below_step B1.out b2)
      clear b2
      go_wp2_with fail
      go_ret3
      exact ⟨by rw [HV.out]; rfl, B2.out⟩
    | true =>
      have HI : Hid (inB L P B = true) := in_iff.2 ⟨ha, hr⟩
      have HAL := Lib.hid (Dm.all_right ha)
      have HR8 := Dm.all_len ha
      obtain ⟨p, b, rfl, rfl, h1, h2, h3⟩ := Sp.right_nat hr
      have HA := Lib.hid ha
      have HR := Lib.hid hr
      clear ha hr
      go_enter Tryz.func21, Tryz.ntmps21
      go_wp2_with fail
      refine (refAll_v A c L true HA.out L.length rfl _ HT.out).mono ?_
      rintro e w1 ⟨rfl, b1⟩
      replace t1 := cell_below b1 t1
      replace t2 := cell_below b1 t2
      have B1 := Lib.hid (below_step B0.out b1)
      replace HT := Lib.hid (HT.out.below b1)
      clear b1
      go_wp2_with fail
      refine (Sp.refRight_v p b true HR.out _).mono ?_
      rintro e w2 ⟨rfl, b2⟩
      replace t1 := cell_below b2 t1
      replace t2 := cell_below b2 t2
      have B2 := Lib.hid (below_step B1.out b2)
      replace HT := Lib.hid (HT.out.below b2)
      clear b2
      go_wp2_with fail
      go_loop [7, 8] (fun f i => ∃ k d : Nat, i = .int .i64 k ∧ f = .int .i64 d ∧ k ≤ L.length ∧ d ≤ 400 ∧ Hid (farTo p L k = d)) (fun _ i => L.length - (intOf i).toNat)
      case atStart => exact ⟨0, 2 * p, rfl, by go_num, Nat.zero_le _, by omega, rfl⟩
      case round =>
        obtain ⟨k, d, rfl, rfl, hk, hd, HD⟩ := hrel
        by_cases hlt : k < L.length
        · obtain ⟨bb, off, rfl, hc⟩ := task_at HT.out.2.2 (by omega)
          obtain ⟨B, e, x1, x2, x3, x4, _, _, _, _⟩ := hc k hlt
          have hx := Dm.right_T (HAL.out k hlt)
          have HF1 : Hid (farTo p L (k + 1) = max d (at_ L k).2.1.toNat) := by show _ = _; rw [farTo, HD.out]
          clear hc
          generalize at_ L k = x at *
          obtain ⟨D, hD⟩ : ∃ D : Nat, x.2.1 = D := ⟨x.2.1.toNat, by omega⟩
          rw [hD] at x2
          rw [hD, Int.toNat_natCast] at HF1
          have hD2 : D ≤ 200 := by omega
          clear hx hD
          by_cases hdd : (d : Int) < (D : Int)
          · rw [show max d D = D from by omega] at HF1
            go_wp2_with fail
            go_round
            case rel => exact ⟨k + 1, D, by go_num, rfl, hlt, by omega, HF1⟩
            case measure => simp [intOf]; omega
          · rw [show max d D = d from by omega] at HF1
            go_wp2_with fail
            go_round
            case rel => exact ⟨k + 1, d, by go_num, rfl, hlt, hd, HF1⟩
            case measure => simp [intOf]; omega
        · have hkl : k = L.length := by omega
          subst hkl
          have HF : Hid (far p L = d) := HD.out
          go_wp2_with fail
          go_loop [9] (fun nn => ∃ n : Nat, nn = .int .i64 n ∧ 1 ≤ n ∧ n ≤ 3200 ∧ Hid (p ∣ n ∧ n ≤ cyc p L)) (fun nn => 3201 - (intOf nn).toNat)
          case atStart => exact ⟨p, rfl, by omega, by omega, Nat.dvd_refl _, Nat.le_of_dvd (lcmTo_pos (by omega) HAL.out (Nat.le_refl _)) (lcmTo_dvd p L (Nat.zero_le _))⟩
          case round =>
            obtain ⟨n, rfl, hn1, hn2, HN⟩ := hrel
            by_cases hle : (n : Int) + (d : Int) ≤ 3000
            · go_wp2_with fail
              go_loop [10, 11] (fun av iv => ∃ (j : Nat) (v : Bool), iv = .int .i64 j ∧ av = .bool v ∧ j ≤ L.length ∧ Hid (dvTo L n j = v)) (fun _ iv => L.length - (intOf iv).toNat)
              case atStart => exact ⟨0, true, rfl, rfl, Nat.zero_le _, rfl⟩
              case round =>
                obtain ⟨j, v, rfl, rfl, hj, HJ⟩ := hrel
                by_cases hjt : j < L.length
                · obtain ⟨bb, off, rfl, hc⟩ := task_at HT.out.2.2 (by omega)
                  obtain ⟨B, e, x1, x2, x3, x4, _, _, _, _⟩ := hc j hjt
                  have hx := Dm.right_T (HAL.out j hjt)
                  have HF1 : Hid (dvTo L n (j + 1) = (v && decide (n % (at_ L j).2.2.1.toNat = 0))) := by show _ = _; rw [dvTo, HJ.out]
                  clear hc
                  generalize at_ L j = x at *
                  obtain ⟨T, hT⟩ : ∃ T : Nat, x.2.2.1 = T := ⟨x.2.2.1.toNat, by omega⟩
                  rw [hT] at x3
                  rw [hT, Int.toNat_natCast] at HF1
                  have hT1 : 1 ≤ T := by omega
                  have hT2 : T ≤ 200 := by omega
                  clear hx hT
                  cases v with
                  | false =>
                    rw [Bool.false_and] at HF1
                    go_wp2_with fail
                    go_round
                    case rel => exact ⟨j + 1, false, by go_num, rfl, hjt, HF1⟩
                    case measure => simp [intOf]; omega
                  | true =>
                    rw [Bool.true_and] at HF1
                    have e1 : (n : Int) % (T : Int) = ((n % T : Nat) : Int) := by push_cast; rfl
                    generalize n % T = r at *
                    by_cases hr : r = 0
                    · rw [decide_eq_true hr] at HF1
                      subst hr
                      go_wp2_with fail
                      go_round
                      case rel => exact ⟨j + 1, true, by go_num, rfl, hjt, HF1⟩
                      case measure => simp [intOf]; omega
                    · rw [decide_eq_false hr] at HF1
                      have hr2 : ¬ (r : Int) = 0 := by omega
                      clear hr
                      go_wp2_with fail
                      go_round
                      case rel => exact ⟨j + 1, false, by go_num, by rw [beq_eq_false_iff_ne.2 hr2], hjt, HF1⟩
                      case measure => simp [intOf]; omega
                · have hjl : j = L.length := by omega
                  subst hjl
                  cases v with
                  | true =>
                    have hn := dv_yes hn1 HN.out.1 HN.out.2 HJ.out
                    obtain ⟨z1, z2, z3⟩ := cyc_fine (L := L) (P := (p : Int)) (B := (b : Int)) (cycOk_iff.2 ⟨HI.out, by rw [Int.toNat_natCast, ← hn, HF.out]; omega⟩)
                    rw [Int.toNat_natCast, ← hn, HF.out] at z2
                    rw [Int.toNat_natCast, ← hn] at z1
                    have HV : Hid (cycV L (p : Int) (b : Int) = .tuple #[.int .i64 n, .int .i64 ((n : Int) + (d : Int)), .int .i64 0]) := by show _ = _; unfold cycV; rw [z1, z2, z3]; push_cast; rfl
                    clear z1 z2 z3 hn
                    go_wp2_with fail
                    go_ret3
                    exact ⟨by rw [HV.out]; rfl, B2.out⟩
                  | false =>
                    have hn := dv_no HN.out.1 HN.out.2 HJ.out
                    have HN2 : Hid (p ∣ n + p ∧ n + p ≤ cyc p L) := ⟨Nat.dvd_add HN.out.1 (Nat.dvd_refl _), hn⟩
                    clear hn
                    go_wp2_with fail
                    go_round
                    case rel => exact ⟨n + p, by go_num, by omega, by omega, HN2⟩
                    case measure => simp [intOf]; omega
            · obtain ⟨z1, z2, z3⟩ := cyc_large (L := L) (P := (p : Int)) (B := (b : Int)) HI.out (by rw [Int.toNat_natCast, HF.out]; have := HN.out.2; omega)
              have HV : Hid (cycV L (p : Int) (b : Int) = .tuple #[.int .i64 0, .int .i64 0, .int .i64 5]) := by show _ = _; unfold cycV; rw [z1, z2, z3]; rfl
              clear z1 z2 z3
              go_wp2_with fail
              go_ret3
              exact ⟨by rw [HV.out]; rfl, B2.out⟩

end Vd
end Go.Proofs.YtdjjdebnbaaihaaGreat

/-
  Layer 10: the document's answers Need, First.
-/
namespace Go.Proofs.YtdjjdebnbaaihaaGreat
open Go.RowKit Mm Tk
namespace Vd

set_option maxHeartbeats 800000 in
theorem refNeed_v (A : Option Addr) (c : Nat) (L : List Tsk) (t : Nat) (z : Int) (hz : need L t = z) (hL : allB L = true) (ht : t ≤ 3000) (n : Nat) (hn : L.length = n) (w : World) (H : TL w A c L) :
    Calls Tryz.prog 92 #[.slice A n c, .int .i64 t] w fun x w' => x = .returned (.int .i64 z) ∧ Below w.heap.size w w' := by
  subst hn
  have HT := Lib.hid H
  have hb := need_small hL (t := t) (m := 3000) (by omega)
  have HR := Lib.hid (Dm.refBound_any A c L (t : Int) w hL (by omega) H)
  have hd0 := Dm.bnd_nonneg hL (t : Int)
  have e1 : need L t = Dm.bnd L t + (Bk.blk L t : Nat) := rfl
  rw [hz] at hb e1
  obtain ⟨d, hd⟩ : ∃ d, Dm.bnd L (t : Int) = d := ⟨_, rfl⟩
  obtain ⟨q, hq⟩ : ∃ q, Bk.blk L (t : Int) = q := ⟨_, rfl⟩
  rw [hd] at hd0 e1 HR
  rw [hq] at e1
  have HQ := Lib.hid hq
  subst e1
  clear hz H hL hd hq
  go_enter Tryz.func92, Tryz.ntmps92
  go_wp2_with fail
  refine (HR.out).mono ?_
  rintro e w1 ⟨rfl, b1⟩
  have B1 := Lib.hid b1
  replace HT := Lib.hid (HT.out.below b1)
  clear b1
  go_wp2_with fail
  refine (Bk.refOf_any A c L (t : Int) _ HT.out).mono ?_
  rintro e w2 ⟨rfl, b2⟩
  rw [HQ.out]
  have B2 := Lib.hid (below_step B1.out b2)
  clear b2
  go_wp2_with fail
  go_ret
  exact ⟨rfl, B2.out⟩

theorem refBnd_n (p b t : Nat) (s : Nat) (hs : Sp.sbf p b t = s) (h1 : 1 ≤ b) (h2 : b ≤ p) (h3 : p ≤ 200) (ht : t ≤ 5000) (w : World) :
    Calls Tryz.prog 93 #[.agg #[.int .i64 p, .int .i64 b], .int .i64 t] w fun e w' => e = .returned (.int .i64 s) ∧ Below w.heap.size w w' := by
  subst hs
  exact Sp.refBound_any p b t h1 h2 h3 ht w

set_option maxHeartbeats 1600000 in
theorem refFirst_n (A : Option Addr) (c : Nat) (L : List Tsk) (p b E : Nat) (hL : allB L = true) (h1 : 1 ≤ b) (h2 : b ≤ p) (h3 : p ≤ 200) (hE : E ≤ 3000) (u : Nat) (v : Bool) (hu : firT L p b E = u) (hv : firB L p b E = v) (n : Nat) (hn : L.length = n) (w : World) (H : TL w A c L) :
    Calls Tryz.prog 75 #[.slice A n c, .agg #[.int .i64 p, .int .i64 b], .int .i64 E] w fun x w' => x = .returned (.tuple #[.int .i64 u, .bool v]) ∧ Below w.heap.size w w' := by
  subst hn
  have HF : Hid (∀ t x, FirstOf L p b E t x → t = u ∧ x = v) := fun t x hf => by
    have := hf.same (firstOf L p b E)
    rw [hu, hv] at this
    exact this
  obtain ⟨t1, t2⟩ := Sp.fc_new w (p : Int) (b : Int)
  have b0 := below_one w (Obj.cells #[.int .i64 p, .int .i64 b] 23)
  have HT := Lib.hid (H.below b0)
  have B0 := Lib.hid b0
  have HL := Lib.hid hL
  have HU := Lib.hid hu
  have HV := Lib.hid hv
  clear b0 hL hu hv
  clear H
  go_enter Tryz.func75, Tryz.ntmps75
  go_wp2_with fail
  generalize w.alloc (Obj.cells #[.int .i64 (p : Int), .int .i64 (b : Int)] 23) = w1 at *
  go_loopw [8] (fun i wr => ∃ k : Nat, i = .int .i64 k ∧ k ≤ E + 1 ∧ Hid (∀ u, u < k → badB L p b u = false) ∧ Hid (Below w1.heap.size w1 wr)) (fun i _ => E + 1 - (intOf i).toNat)
  case atStart => exact ⟨0, rfl, Nat.zero_le _, (fun u h => by omega), Below.refl _ _⟩
  case round =>
    obtain ⟨k, rfl, hk, HH, HB⟩ := hrel
    replace t1 := cell_below HB.out t1
    replace t2 := cell_below HB.out t2
    replace HT := Lib.hid (HT.out.below HB.out)
    by_cases hlt : k ≤ E
    · have hk3 : k ≤ 3000 := by omega
      obtain ⟨z, hz⟩ : ∃ z, need L k = z := ⟨_, rfl⟩
      obtain ⟨s, hs⟩ : ∃ s, Sp.sbf p b k = s := ⟨_, rfl⟩
      have hbv : badB L p b k = decide ((s : Int) < z) := by rw [← hz, ← hs]; rfl
      have HZ := Lib.hid (refNeed_v A c L k z hz HL.out hk3 L.length rfl)
      have HS := Lib.hid (refBnd_n p b k s hs h1 h2 h3 (by omega))
      clear hz hs
      by_cases hb : (s : Int) < z
      · have HD : Hid (k = u ∧ true = v) := HF.out _ _ (.inr ⟨rfl, hlt, by rw [hbv]; exact decide_eq_true hb, HH.out⟩)
        clear hbv
        go_wp2_with fail
        replace t1 := cell_bw t1
        replace t2 := cell_bw t2
        refine wp_region_bw (by kernel_rfl) (by kernel_rfl) ?_
        repeat
          (with_reducible refine wpQuiet_step (fun K hK => ?_)
           go_simp
           first
             | (with_reducible refine hK _ ?_
                clear hK K)
             | (rw [if_neg]
                rotate_left
                focus (intro h; cases h; done)
                with_reducible refine hK _ ?_
                clear hK K)
             | (apply Exists.intro
                refine ⟨fun _ => ?_, hK _ ?_⟩
                (first | exact Calls.bw (HZ.out _ (HT.out.bw _)) | exact Calls.bw (HS.out _))
                clear hK K))
        with_reducible refine wpQuiet_nil ?_
        intro wb hw'
        obtain ⟨⟨wb', lb⟩, hw''⟩ := hw'
        subst hw''
        have B2 := Lib.hid (below_step HB.out lb)
        clear lb t1 t2
        go_wp2_with fail
        go_ret2
        exact ⟨by rw [← HD.out.1, ← HD.out.2]; rfl, below_step B0.out B2.out⟩
      · have HD : Hid (∀ u, u < k + 1 → badB L p b u = false) := by
          intro u hu
          by_cases e : u = k
          · subst e; rw [hbv]; exact decide_eq_false hb
          · exact HH.out u (by omega)
        clear hbv
        go_wp2_with fail
        replace t1 := cell_bw t1
        replace t2 := cell_bw t2
        refine wp_region_bw (by kernel_rfl) (by kernel_rfl) ?_
        repeat
          (with_reducible refine wpQuiet_step (fun K hK => ?_)
           go_simp
           first
             | (with_reducible refine hK _ ?_
                clear hK K)
             | (rw [if_neg]
                rotate_left
                focus (intro h; cases h; done)
                with_reducible refine hK _ ?_
                clear hK K)
             | (apply Exists.intro
                refine ⟨fun _ => ?_, hK _ ?_⟩
                (first | exact Calls.bw (HZ.out _ (HT.out.bw _)) | exact Calls.bw (HS.out _))
                clear hK K))
        with_reducible refine wpQuiet_nil ?_
        intro wb hw'
        obtain ⟨⟨wb', lb⟩, hw''⟩ := hw'
        subst hw''
        have B2 := Lib.hid (below_step HB.out lb)
        clear lb t1 t2
        go_wp2_with fail
        go_roundw
        case rel => exact ⟨k + 1, by go_num, by omega, HD, B2⟩
        case measure => simp [intOf]; omega
    · have HD : Hid (0 = u ∧ false = v) := HF.out _ _ (.inl ⟨rfl, rfl, fun u hu => HH.out u (by omega)⟩)
      go_wp2_with fail
      go_ret2
      exact ⟨by rw [← HD.out.1, ← HD.out.2]; rfl, below_step B0.out HB.out⟩

end Vd
end Go.Proofs.YtdjjdebnbaaihaaGreat

/-
  Layer 10: the document's answers Asked, Fits.
-/
namespace Go.Proofs.YtdjjdebnbaaihaaGreat
open Go.RowKit Mm Tk
namespace Vd

theorem refCycle_v (A : Option Addr) (c : Nat) (L : List Tsk) (P B : Int) (z y e : Nat) (hz : cycZ L P B = z) (hy : endZ L P B = y) (he : cycE L P B = e) (n : Nat) (hn : L.length = n) (w : World) (H : TL w A c L) :
    Calls Tryz.prog 21 #[.slice A n c, .agg #[.int .i64 P, .int .i64 B]] w fun x w' => x = .returned (.tuple #[.int .i64 z, .int .i64 y, .int .i64 e]) ∧ Below w.heap.size w w' := by
  subst hz; subst hy; subst he; subst hn
  exact refCycle_any P B A c L w H

theorem askT_small {x : Tsk} (hx : rightT x = true) {H : Nat} (hH : H ≤ 3000) : 0 ≤ askT x H ∧ askT x H ≤ 600000 := by
  have hT := Dm.right_T hx
  unfold askT
  have h1 : 0 ≤ (H : Int) / x.2.2.1 := Int.ediv_nonneg (by omega) (by omega)
  have h2 : (H : Int) / x.2.2.1 ≤ 3000 := Int.le_trans (Int.ediv_le_self _ (by omega)) (by omega)
  refine ⟨Int.mul_nonneg (by omega) h1, ?_⟩
  have h3 : x.1 * ((H : Int) / x.2.2.1) ≤ 200 * 3000 := Int.mul_le_mul (by omega) h2 h1 (by omega)
  omega
theorem askTo_small {L : List Tsk} (h : ∀ j, j < L.length → rightT (at_ L j) = true) {H : Nat} (hH : H ≤ 3000) : ∀ {k : Nat}, k ≤ L.length → 0 ≤ askTo L H k ∧ askTo L H k ≤ k * 600000
  | 0, _ => by rw [askTo]; omega
  | k + 1, hk => by
    have ih := askTo_small h hH (k := k) (by omega)
    have hx : 0 ≤ askT (at_ L k) H ∧ askT (at_ L k) H ≤ 600000 := askT_small (h k (by omega)) hH
    rw [askTo]
    change 0 ≤ askTo L H k + askT (at_ L k) H ∧ askTo L H k + askT (at_ L k) H ≤ _
    omega

set_option maxHeartbeats 1600000 in
theorem refAsked_any (A : Option Addr) (c : Nat) (L : List Tsk) (p b H : Nat) (hL : allB L = true) (h1 : 1 ≤ b) (h2 : b ≤ p) (h3 : p ≤ 200) (hH : H ≤ 3000) (w : World) (HX : TL w A c L) :
    Calls Tryz.prog 74 #[.slice A L.length c, .agg #[.int .i64 p, .int .i64 b], .int .i64 H] w fun x w' => x = .returned (.tuple #[.int .i64 (asked L H), .int .i64 (given p b H : Nat)]) ∧ Below w.heap.size w w' := by
  obtain ⟨t1, t2⟩ := Sp.fc_new w (p : Int) (b : Int)
  have b0 := below_one w (Obj.cells #[.int .i64 p, .int .i64 b] 23)
  have HT := Lib.hid (HX.below b0)
  have hlen := Dm.all_len hL
  have hAL := Dm.all_right hL
  have hS : ∀ k, k ≤ L.length → 0 ≤ askTo L H k ∧ askTo L H k ≤ 4800000 := fun k hk => by
    have := askTo_small hAL hH hk
    omega
  have hG : asked L H = askTo L H L.length := rfl
  have B0 := Lib.hid b0
  have HAL := Lib.hid hAL
  have HS := Lib.hid hS
  have HG := Lib.hid hG
  clear b0 hAL hS hG
  clear HX hL
  obtain ⟨q, hq⟩ : ∃ q, H / p = q := ⟨_, rfl⟩
  have hg : ((given p b H : Nat) : Int) = (b : Int) * (q : Int) := by unfold given; rw [hq]; push_cast; rfl
  have hqs : q ≤ 3000 := by rw [← hq]; exact Nat.le_trans (Nat.div_le_self _ _) hH
  have hq2 : (H : Int) / (p : Int) = (q : Int) := by
    rw [← hq]
    push_cast
    rfl
  have hbq : (b : Int) * (q : Int) ≤ 600000 := by
    have : b * q ≤ 200 * 3000 := Nat.mul_le_mul (by omega) hqs
    have e : (b : Int) * (q : Int) = ((b * q : Nat) : Int) := by push_cast; rfl
    omega
  have hbq0 : 0 ≤ (b : Int) * (q : Int) := Int.mul_nonneg (by omega) (by omega)
  have HG_ := Lib.hid hg
  clear hg
  have HQ2 := Lib.hid hq2
  have HBQ := Lib.hid hbq
  have HBQ0 := Lib.hid hbq0
  clear hq2 hbq hbq0
  go_enter Tryz.func74, Tryz.ntmps74
  go_wp2_with fail
  have y1 := cell_new t1
  generalize w.alloc (Obj.cells #[.int .i64 (p : Int), .int .i64 (b : Int)] 23) = w1 at *
  clear y1
  go_loopw [8, 9] (fun n i wr => ∃ (k : Nat) (z : Int), i = .int .i64 k ∧ n = .int .i64 z ∧ k ≤ L.length ∧ 0 ≤ z ∧ z ≤ 4800000 ∧ Hid (askTo L H k = z) ∧ Hid (Below w1.heap.size w1 wr)) (fun _ i _ => L.length - (intOf i).toNat)
  case atStart => exact ⟨0, 0, rfl, rfl, Nat.zero_le _, by omega, by omega, rfl, Below.refl _ _⟩
  case round =>
    obtain ⟨k, z, rfl, rfl, hk, hz0, hz1, HZ, HB⟩ := hrel
    replace t1 := cell_below HB.out t1
    replace t2 := cell_below HB.out t2
    replace HT := Lib.hid (HT.out.below HB.out)
    by_cases hlt : k < L.length
    · obtain ⟨bb, off, rfl, hc⟩ := task_at HT.out.2.2 (by omega)
      obtain ⟨D, e, x1, x2, x3, x4, _, _, _, _⟩ := hc k hlt
      have hx := Dm.right_T (HAL.out k hlt)
      have hN : askTo L H (k + 1) = z + askT (at_ L k) H := by rw [askTo, HZ.out]
      have hNs := HS.out (k + 1) hlt
      have hA := askT_small (HAL.out k hlt) hH
      clear hc
      generalize at_ L k = x at *
      unfold askT at hN hA
      obtain ⟨T, hT⟩ : ∃ T : Nat, x.2.2.1 = T := ⟨x.2.2.1.toNat, (Int.toNat_of_nonneg (by omega)).symm⟩
      rw [hT] at x3 hN hA
      obtain ⟨r, hr⟩ : ∃ r : Nat, H / T = r := ⟨_, rfl⟩
      have hr2 : (H : Int) / (T : Int) = (r : Int) := by rw [← hr]; push_cast; rfl
      rw [hr2] at hN hA
      have i0 : IntKind.i64.wrap ((H : Int) / (T : Int)) = (r : Int) := by
        rw [hr2]
        exact IntWalk.i64_in _ (by have : r ≤ H := by { rw [← hr]; exact Nat.div_le_self _ _ }
                                   omega)
      have i1 : ¬ (T : Int) = 0 := by omega
      have i2 : ¬ T = 0 := by omega
      have i3 : ((T : Int) == 0) = false := beq_eq_false_iff_ne.2 i1
      have i4 : IntKind.i64.wrap (x.1 * (r : Int)) = x.1 * (r : Int) := IntWalk.i64_in _ (by omega)
      have i5 : IntKind.i64.wrap (z + x.1 * (r : Int)) = z + x.1 * (r : Int) := IntWalk.i64_in _ (by omega)
      rw [hN] at hNs
      have HN := Lib.hid hN
      have HNS := Lib.hid hNs
      clear hN hNs
      clear hA hr hr2 hx hT
      have j1 : (0 : Int) ≤ (k : Int) := by omega
      have j2 : (k : Int) < (L.length : Int) := by omega
      go_wp2_with fail
      replace t1 := cell_bw t1
      replace t2 := cell_bw t2
      replace x1 := cell_bw x1
      replace x2 := cell_bw x2
      replace x3 := cell_bw x3
      replace x4 := cell_bw x4
      refine wp_region_bw (by kernel_rfl) (by kernel_rfl) ?_
      repeat
        (with_reducible refine wpQuiet_step (fun K hK => ?_)
         go_simp
         first
           | (with_reducible refine hK _ ?_
              clear hK K)
           | (rw [if_neg]
              rotate_left
              focus (intro h; cases h; done)
              with_reducible refine hK _ ?_
              clear hK K)
           | (apply Exists.intro
              refine ⟨fun _ => ?_, hK _ ?_⟩
              (fail)
              clear hK K))
      with_reducible refine wpQuiet_nil ?_
      intro wb hw'
      obtain ⟨⟨wb', lb⟩, hw''⟩ := hw'
      subst hw''
      have B2 := Lib.hid (below_step HB.out lb)
      clear lb t1 t2 x1 x2 x3 x4
      go_wp2_with fail
      go_roundw
      case rel => exact ⟨k + 1, z + x.1 * (r : Int), by go_num, rfl, hlt, HNS.out.1, HNS.out.2, HN, B2⟩
      case measure => simp [intOf]; omega
    · have hkl : k = L.length := by omega
      subst hkl
      have i0 : IntKind.i64.wrap ((H : Int) / (p : Int)) = (q : Int) := by rw [HQ2.out]; exact IntWalk.i64_in _ (by omega)
      have i1 : ¬ (p : Int) = 0 := by omega
      have i2 : ¬ p = 0 := by omega
      have i3 : ((p : Int) == 0) = false := beq_eq_false_iff_ne.2 i1
      have i4 : IntKind.i64.wrap ((b : Int) * (q : Int)) = (b : Int) * (q : Int) := IntWalk.i64_in _ (by have := HBQ.out; have := HBQ0.out; omega)
      go_wp2_with fail
      replace t1 := cell_bw t1
      replace t2 := cell_bw t2
      refine wp_region_bw (by kernel_rfl) (by kernel_rfl) ?_
      repeat
        (with_reducible refine wpQuiet_step (fun K hK => ?_)
         go_simp
         first
           | (with_reducible refine hK _ ?_
              clear hK K)
           | (rw [if_neg]
              rotate_left
              focus (intro h; cases h; done)
              with_reducible refine hK _ ?_
              clear hK K)
           | (apply Exists.intro
              refine ⟨fun _ => ?_, hK _ ?_⟩
              (fail)
              clear hK K))
      with_reducible refine wpQuiet_nil ?_
      intro wb hw'
      obtain ⟨⟨wb', lb⟩, hw''⟩ := hw'
      subst hw''
      have B2 := Lib.hid (below_step HB.out lb)
      clear lb t1 t2
      go_wp2_with fail
      go_ret2
      exact ⟨by rw [HG.out, HZ.out, HG_.out]; rfl, below_step B0.out B2.out⟩

theorem refAsked_n (A : Option Addr) (c : Nat) (L : List Tsk) (p b H : Nat) (hL : allB L = true) (h1 : 1 ≤ b) (h2 : b ≤ p) (h3 : p ≤ 200) (hH : H ≤ 3000) (z : Int) (g : Nat) (hz : asked L H = z) (hg : given p b H = g) (n : Nat) (hn : L.length = n) (w : World) (HX : TL w A c L) :
    Calls Tryz.prog 74 #[.slice A n c, .agg #[.int .i64 p, .int .i64 b], .int .i64 H] w fun x w' => x = .returned (.tuple #[.int .i64 z, .int .i64 g]) ∧ Below w.heap.size w w' := by
  subst hz; subst hg; subst hn
  exact refAsked_any A c L p b H hL h1 h2 h3 hH w HX

/-- what is asked fits what is given, where no tick up to the end tells otherwise -/
theorem fits_parts {L : List Tsk} {p b : Nat} (hc : cycOk L (p : Int) (b : Int) = true) (hv : firB L p b (endZ L (p : Int) (b : Int)) = false) : asked L (cycZ L (p : Int) (b : Int)) ≤ given p b (cycZ L (p : Int) (b : Int)) := by
  obtain ⟨h1, _⟩ := cycOk_iff.1 hc
  obtain ⟨h2, h3⟩ := in_iff.1 h1
  have h4 := Sp.right_iff.1 h3
  obtain ⟨z1, z2, _⟩ := cyc_fine hc
  rw [Int.toNat_natCast] at z1 z2
  rw [z2] at hv
  rw [z1]
  have hE := cyc_end (L := L) (P := p) (B := b) h2 (by omega) (by omega)
  refine fits_end h2 (by omega) (by omega) hE fun t ht => ?_
  rcases firstOf L p b (cyc p L + far p L) with ⟨_, _, h⟩ | ⟨h, _⟩
  · exact bad_no.1 (h t ht)
  · rw [h] at hv; cases hv

set_option maxHeartbeats 800000 in
theorem refFits_any (P B : Int) (A : Option Addr) (c : Nat) (L : List Tsk) (hc : cycOk L P B = true) (w : World) (HX : TL w A c L) :
    Calls Tryz.prog 55 #[.slice A L.length c, .agg #[.int .i64 P, .int .i64 B]] w fun x w' => x = .returned (.bool (fitsB L P B)) ∧ Below w.heap.size w w' := by
  obtain ⟨g1, g2⟩ := cycOk_iff.1 hc
  obtain ⟨g3, g4⟩ := in_iff.1 g1
  obtain ⟨p, b, rfl, rfl, h1, h2, h3⟩ := Sp.right_nat g4
  obtain ⟨z1, z2, z3⟩ := cyc_fine hc
  rw [Int.toNat_natCast] at z1 z2 g2
  obtain ⟨H, hH⟩ : ∃ H, cycZ L (p : Int) (b : Int) = H := ⟨_, rfl⟩
  obtain ⟨E, hE⟩ : ∃ E, endZ L (p : Int) (b : Int) = E := ⟨_, rfl⟩
  have hfar := far_two p L
  have hH3 : H ≤ 3000 := by rw [← hH, z1]; omega
  have hE3 : E ≤ 3000 := by rw [← hE, z2]; omega
  obtain ⟨t1, t2⟩ := Sp.fc_new w (p : Int) (b : Int)
  have b0 := below_one w (Obj.cells #[.int .i64 p, .int .i64 b] 23)
  have HT := Lib.hid (HX.below b0)
  have hfp := fits_parts hc
  rw [hH, hE] at hfp
  have hf : fitsB L (p : Int) (b : Int) = !firB L p b E := by
    unfold fitsB
    rw [hc, Int.toNat_natCast, Int.toNat_natCast, hE, Bool.true_and]
  obtain ⟨a, ha⟩ : ∃ a, asked L H = a := ⟨_, rfl⟩
  obtain ⟨g, hg⟩ : ∃ g, given p b H = g := ⟨_, rfl⟩
  obtain ⟨u, hu⟩ : ∃ u, firT L p b E = u := ⟨_, rfl⟩
  obtain ⟨v, hv⟩ : ∃ v, firB L p b E = v := ⟨_, rfl⟩
  have HC := Lib.hid (refCycle_v A c L p b H E 0 hH hE z3 L.length rfl)
  have HA := Lib.hid (refAsked_n A c L p b H g3 h1 h2 h3 hH3 a g ha hg L.length rfl)
  have HF := Lib.hid (refFirst_n A c L p b E g3 h1 h2 h3 hE3 u v hu hv L.length rfl)
  rw [hv, ha, hg] at hfp
  rw [hv] at hf
  have HF_ := Lib.hid hf
  have B0 := Lib.hid b0
  clear b0
  clear HX hf hc g1 g2 g3 g4 hH hE ha hg hu hv z1 z2 z3 hfar hH3 hE3
  cases v with
  | true =>
    clear hfp
    go_enter Tryz.func55, Tryz.ntmps55
    go_wp2_with fail
    refine (HC.out _ HT.out).mono ?_
    rintro e w1 ⟨rfl, b1⟩
    replace t1 := cell_below b1 t1
    replace t2 := cell_below b1 t2
    have B1 := Lib.hid (below_step B0.out b1)
    replace HT := Lib.hid (HT.out.below b1)
    clear b1
    go_wp2_with fail
    refine (HA.out _ HT.out).mono ?_
    rintro e w2 ⟨rfl, b2⟩
    replace t1 := cell_below b2 t1
    replace t2 := cell_below b2 t2
    have B2 := Lib.hid (below_step B1.out b2)
    replace HT := Lib.hid (HT.out.below b2)
    clear b2
    go_wp2_with fail
    refine (HF.out _ HT.out).mono ?_
    rintro e w3 ⟨rfl, b3⟩
    replace t1 := cell_below b3 t1
    replace t2 := cell_below b3 t2
    have B3 := Lib.hid (below_step B2.out b3)
    clear b3
    go_wp2_with fail
    all_goals go_ret
    all_goals exact ⟨by rw [HF_.out]; rfl, B3.out⟩
  | false =>
    have hle := hfp rfl
    clear hfp
    go_enter Tryz.func55, Tryz.ntmps55
    go_wp2_with fail
    refine (HC.out _ HT.out).mono ?_
    rintro e w1 ⟨rfl, b1⟩
    replace t1 := cell_below b1 t1
    replace t2 := cell_below b1 t2
    have B1 := Lib.hid (below_step B0.out b1)
    replace HT := Lib.hid (HT.out.below b1)
    clear b1
    go_wp2_with fail
    refine (HA.out _ HT.out).mono ?_
    rintro e w2 ⟨rfl, b2⟩
    replace t1 := cell_below b2 t1
    replace t2 := cell_below b2 t2
    have B2 := Lib.hid (below_step B1.out b2)
    replace HT := Lib.hid (HT.out.below b2)
    clear b2
    go_wp2_with fail
    refine (HF.out _ HT.out).mono ?_
    rintro e w3 ⟨rfl, b3⟩
    replace t1 := cell_below b3 t1
    replace t2 := cell_below b3 t2
    have B3 := Lib.hid (below_step B2.out b3)
    clear b3
    go_wp2_with fail
    go_ret
    exact ⟨by rw [HF_.out]; rfl, B3.out⟩
theorem refFits_v (A : Option Addr) (c : Nat) (L : List Tsk) (P B : Int) (hc : cycOk L P B = true) (v : Bool) (hv : fitsB L P B = v) (n : Nat) (hn : L.length = n) (w : World) (H : TL w A c L) :
    Calls Tryz.prog 55 #[.slice A n c, .agg #[.int .i64 P, .int .i64 B]] w fun x w' => x = .returned (.bool v) ∧ Below w.heap.size w w' := by
  subst hv; subst hn
  exact refFits_any P B A c L hc w H

end Vd
end Go.Proofs.YtdjjdebnbaaihaaGreat

