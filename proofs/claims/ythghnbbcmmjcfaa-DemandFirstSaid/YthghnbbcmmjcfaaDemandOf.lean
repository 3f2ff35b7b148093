/-
  Layer 7 (demand): Of.
-/
import Derived.Test.YthghnbbcmmjcfaaDemandLegal
namespace Go.Proofs.Ythghnbbcmmjcfaa
open Go.RowKit Mm Tk
namespace Dm

/-- what Of answers -/
def ofZ (L : List Tsk) (R : List (List Int)) (a b : Int) : Int := if legalB L R then dem L R a b else 0
def ofE (L : List Tsk) (R : List (List Int)) : Int := if legalB L R then 0 else 1

set_option maxHeartbeats 1600000 in
theorem of_any (A : Option Addr) (c : Nat) (L : List Tsk) (A2 : Option Addr) (c2 : Nat) (R : List (List Int)) (a b : Int) (w : World) (H : TL w A c L) (H2 : LL w A2 c2 R) :
    Calls Try.prog 15 #[.slice A L.length c, .slice A2 R.length c2, .int .i64 a, .int .i64 b] w fun e w' => e = .returned (.tuple #[.int .i64 (ofZ L R a b), .int .i64 (ofE L R)]) ∧ Below w.heap.size w w' := by
  have hb1 := H.1
  have hb2 := H2.1
  have HT := Lib.hid H
  have HL := Lib.hid H2
  clear H H2
  cases ha : legalB L R with
  | false =>
    have HZ : Hid (ofZ L R a b = 0) := by show _ = _; simp [ofZ, ha]
    have HE : Hid (ofE L R = 1) := by show _ = _; simp [ofE, ha]
    go_enter Try.func15, Try.ntmps15
    go_wp2_with fail
    refine (legal_any A c L A2 c2 R _ HT.out HL.out).mono ?_
    rintro e w1 ⟨rfl, b1⟩
    rw [ha]
    go_wp2_with fail
    go_ret2
    exact ⟨by rw [HZ.out, HE.out]; rfl, b1⟩
  | true =>
    have HZ : Hid (ofZ L R a b = demTo L R a b L.length) := by show _ = _; simp [ofZ, ha, dem, (legal_iff.1 ha).2.1]
    have HE : Hid (ofE L R = 0) := by show _ = _; simp [ofE, ha]
    have HA := Lib.hid ha
    have HN0 := Lib.hid (legal_iff.1 ha).2.1
    have H8 := Lib.hid (all_len (legal_iff.1 ha).1)
    go_enter Try.func15, Try.ntmps15
    go_wp2_with fail
    refine (legal_any A c L A2 c2 R _ HT.out HL.out).mono ?_
    rintro e w1 ⟨rfl, b1⟩
    rw [ha]
    replace HT := Lib.hid (HT.out.below b1)
    replace HL := Lib.hid (HL.out.below b1)
    have B1 := Lib.hid b1
    clear b1
    clear ha
    go_wp2_with fail
    go_loopw [10, 19] (fun n i wr => ∃ (k : Nat) (q : Int), i = .int .i64 k ∧ n = .int .i64 q ∧ k ≤ L.length ∧ Hid (q = demTo L R a b k) ∧ Hid (Below w1.heap.size w1 wr)) (fun _ i _ => L.length - (intOf i).toNat)
    case atStart => exact ⟨0, 0, rfl, rfl, Nat.zero_le _, rfl, Below.refl _ _⟩
    case round =>
      obtain ⟨k, q, rfl, rfl, hk, HQ, HB⟩ := hrel
      by_cases hlt : k < L.length
      · have hn := HN0.out
        obtain ⟨bb, off, rfl, hc⟩ := task_at (HT.out.below HB.out).2.2 (by omega)
        obtain ⟨B, d, x1, x2, x3, x4, _, _, _, _⟩ := hc k hlt
        obtain ⟨bb2, off2, rfl, hc2⟩ := list_at (HL.out.below HB.out).2.2 (by omega)
        obtain ⟨B2, d2, y1, r2⟩ := hc2 k (by omega)
        have hT := task_times (legal_iff.1 HA.out).1 hlt
        have hrl := (HL.out.2.1 k (by omega))
        have hrow := (rowB_iff.1 ((legal_iff.1 HA.out).2.2 k (by omega)))
        have i1 : (0 : Int) ≤ (k : Int) := by omega
        have i2 : (k : Int) < (R.length : Int) := by omega
        have i3 : (k : Int) < (L.length : Int) := by omega
        have hq0 : 0 ≤ q ∧ q ≤ 1600000 := by
          have h1 := demTo_nonneg (R := R) (all_right (legal_iff.1 HA.out).1) a b hk
          have h2 := demTo_le HA.out a b hk
          have h3 := HQ.out
          have h8 := H8.out
          omega
        obtain ⟨m, hm⟩ : ∃ m, cntIn (at_ R k) a b (at_ L k).2.1 = m := ⟨_, rfl⟩
        have hm2 : (m : Int) ≤ 1000 := by
          have := cntIn_len (at_ R k) a b (at_ L k).2.1
          have := hrow.1
          omega
        have HN : Hid (q + (at_ L k).1 * (m : Int) = demTo L R a b (k + 1)) := by show _ = _; rw [demTo, ← HQ.out, hm]
        clear hc hc2
        generalize at_ L k = x at *
        generalize at_ R k = row at *
        have HR2 := Lib.hid hrow.2.1
        have hp0 : 0 ≤ x.1 * (m : Int) := Int.mul_nonneg (by omega) (by omega)
        have hp1 : x.1 * (m : Int) ≤ 200 * 1000 := Int.mul_le_mul (by omega) (by omega) (by omega) (by omega)
        have e1 : IntKind.i64.wrap (x.1 * (m : Int)) = x.1 * (m : Int) := IntWalk.i64_in _ (by omega)
        have e2 : IntKind.i64.wrap (q + x.1 * (m : Int)) = q + x.1 * (m : Int) := IntWalk.i64_in _ (by omega)
        clear hrow
        have HM := Lib.hid hm
        clear hm
        clear hn
        obtain ⟨z1, z2, z3, z4⟩ := box_new wr x.1 x.2.1 x.2.2.1 B x.2.2.2.length d
        have bw1 := below_one wr (Obj.cells #[.int .i64 x.1, .int .i64 x.2.1, .int .i64 x.2.2.1, .slice B x.2.2.2.length d] 32)
        have R2 := Lib.hid (r2.rd.below bw1)
        have B2 := Lib.hid (below_step HB.out bw1)
        have y2 := cell_below bw1 y1
        clear r2
        go_wp2_with fail
        clear x1 x2 x3 x4 y1 bw1
        generalize wr.alloc (Obj.cells #[.int .i64 x.1, .int .i64 x.2.1, .int .i64 x.2.2.1, .slice B x.2.2.2.length d] 32) = w2 at *
        replace y2 := cell_bw y2
        replace z1 := cell_bw z1
        replace z2 := cell_bw z2
        replace z3 := cell_bw z3
        replace z4 := cell_bw z4
        refine wp_region_bw (by kernel_rfl) (by kernel_rfl) ?_
        repeat
          (with_reducible refine wpQuiet_step (fun K hK => ?_)
           go_simp
           first
             | (with_reducible refine hK _ ?_
                clear hK K)
             | (rw [if_neg]
                rotate_left
                focus (intro h; cases h; done)
                with_reducible refine hK _ ?_
                clear hK K)
             | (apply Exists.intro
                refine ⟨fun _ => ?_, hK _ ?_⟩
                (exact Calls.bw (within_any _ _ row x.2.1 a b m HM.out _ (by omega) hrl HR2.out (R2.out.bw _)))
                clear hK K))
        with_reducible refine wpQuiet_nil ?_
        intro wb hw'
        obtain ⟨⟨wb', lb⟩, hw''⟩ := hw'
        subst hw''
        have B3 := Lib.hid (below_step B2.out lb)
        clear lb
        go_wp2_with fail
        go_roundw
        case rel => exact ⟨k + 1, _, by go_num, rfl, hlt, HN, B3⟩
        case measure => simp [intOf]; omega
      · have hkl : k = L.length := by omega
        subst hkl
        have HF : Hid (ofZ L R a b = q) := by show _ = _; rw [HZ.out, HQ.out]
        go_wp2_with fail
        go_ret2
        exact ⟨by rw [HF.out, HE.out]; rfl, below_step B1.out HB.out⟩

end Dm
end Go.Proofs.Ythghnbbcmmjcfaa
