/-
  Layer 7 (demand): Legal.
-/
import Derived.Test.YthghnbbcmmjcfaaDemandCalls
import Derived.Test.YthghnbbcmmjcfaaTaskAll
import Derived.Test.YthghnbbcmmjcfaaTaskList
namespace Go.Proofs.Ythghnbbcmmjcfaa
open Go.RowKit Mm Tk
namespace Dm

theorem legal_none {L : List Tsk} {R : List (List Int)} (h : allB L = false) : legalB L R = false := by simp [legalB, h]
theorem legal_size {L : List Tsk} {R : List (List Int)} (h : ¬ R.length = L.length) : legalB L R = false := by simp [legalB, h]
theorem legal_of {L : List Tsk} {R : List (List Int)} (h1 : allB L = true) (h2 : R.length = L.length) (h3 : ∀ i, i < R.length → rowB (at_ L i).2.2.1 (at_ R i) = true) : legalB L R = true := legal_iff.2 ⟨h1, h2, h3⟩
theorem task_times {L : List Tsk} (h : allB L = true) {k : Nat} (hk : k < L.length) : 1 ≤ (at_ L k).1 ∧ (at_ L k).1 ≤ (at_ L k).2.1 ∧ (at_ L k).2.1 ≤ (at_ L k).2.2.1 ∧ (at_ L k).2.2.1 ≤ 200 := right_T (all_right h k hk)

set_option maxHeartbeats 1600000 in
theorem legal_any (A : Option Addr) (c : Nat) (L : List Tsk) (A2 : Option Addr) (c2 : Nat) (R : List (List Int)) (w : World) (H : TL w A c L) (H2 : LL w A2 c2 R) :
    Calls Try.prog 16 #[.slice A L.length c, .slice A2 R.length c2] w fun e w' => e = .returned (.bool (legalB L R)) ∧ Below w.heap.size w w' := by
  have hb1 := H.1
  have hb2 := H2.1
  have HT := Lib.hid H
  have HL := Lib.hid H2
  clear H H2
  cases ha : allB L with
  | false =>
    have HF := Lib.hid (legal_none (R := R) ha)
    go_enter Try.func16, Try.ntmps16
    go_wp2_with fail
    refine (all_any A c L _ hb1 HT.out.2.1 HT.out.2.2).mono ?_
    rintro e w1 ⟨rfl, b1⟩
    rw [ha]
    go_wp2_with fail
    go_ret
    exact ⟨ret_bool HF.out.symm, b1⟩
  | true =>
    by_cases hn : R.length = L.length
    · have HA := Lib.hid ha
      have hn1 : ((R.length : Int) == (L.length : Int)) = true := by simp [hn]
      have hn2 : ((R.length : Int) != (L.length : Int)) = false := by simp [hn]
      go_enter Try.func16, Try.ntmps16
      go_wp2_with fail
      refine (all_any A c L _ hb1 HT.out.2.1 HT.out.2.2).mono ?_
      rintro e w1 ⟨rfl, b1⟩
      rw [ha]
      replace HT := Lib.hid (HT.out.below b1)
      replace HL := Lib.hid (HL.out.below b1)
      have B1 := Lib.hid b1
      clear b1
      clear ha
      go_wp2_with fail
      go_loopw [19] (fun i wr => ∃ k : Nat, i = .int .i64 k ∧ k ≤ L.length ∧ Hid (∀ j, j < k → rowB (at_ L j).2.2.1 (at_ R j) = true) ∧ Hid (Below w1.heap.size w1 wr)) (fun i _ => L.length - (intOf i).toNat)
      case atStart => exact ⟨0, rfl, Nat.zero_le _, (fun j h => by omega), Below.refl _ _⟩
      case round =>
        obtain ⟨k, rfl, hk, HH, HB⟩ := hrel
        by_cases hlt : k < L.length
        · obtain ⟨b, off, rfl, hc⟩ := task_at (HT.out.below HB.out).2.2 (by omega)
          obtain ⟨B, d, x1, x2, x3, x4, _, _, _, _⟩ := hc k hlt
          obtain ⟨bb, off2, rfl, hc2⟩ := list_at (HL.out.below HB.out).2.2 (by omega)
          obtain ⟨B2, d2, y1, r2⟩ := hc2 k (by omega)
          have hT := task_times HA.out hlt
          have hrl := (HL.out.2.1 k (by omega))
          have i1 : (0 : Int) ≤ (k : Int) := by omega
          have i2 : (k : Int) < (R.length : Int) := by omega
          have i3 : (k : Int) < (L.length : Int) := by omega
          have HF : Hid (rowB (at_ L k).2.2.1 (at_ R k) = false → legalB L R = false) := fun h => legal_false (by omega) h
          have HN : Hid (rowB (at_ L k).2.2.1 (at_ R k) = true → ∀ j, j < k + 1 → rowB (at_ L j).2.2.1 (at_ R j) = true) := fun h j hj => by
            by_cases e : j = k
            · subst e; exact h
            · exact HH.out j (by omega)
          clear hc hc2
          generalize at_ L k = x at *
          generalize at_ R k = row at *
          obtain ⟨z1, z2, z3, z4⟩ := box_new wr x.1 x.2.1 x.2.2.1 B x.2.2.2.length d
          have bw1 := below_one wr (Obj.cells #[.int .i64 x.1, .int .i64 x.2.1, .int .i64 x.2.2.1, .slice B x.2.2.2.length d] 32)
          have R2 := Lib.hid (r2.rd.below bw1)
          have B2 := Lib.hid (below_step HB.out bw1)
          have y2 := cell_below bw1 y1
          clear r2
          go_wp2_with fail
          clear x1 x2 x3 x4 y1 bw1
          generalize wr.alloc (Obj.cells #[.int .i64 x.1, .int .i64 x.2.1, .int .i64 x.2.2.1, .slice B x.2.2.2.length d] 32) = w2 at *
          replace y2 := cell_bw y2
          replace z1 := cell_bw z1
          replace z2 := cell_bw z2
          replace z3 := cell_bw z3
          replace z4 := cell_bw z4
          refine wp_region_bw (by kernel_rfl) (by kernel_rfl) ?_
          repeat
            (with_reducible refine wpQuiet_step (fun K hK => ?_)
             go_simp
             first
               | (with_reducible refine hK _ ?_
                  clear hK K)
               | (rw [if_neg]
                  rotate_left
                  focus (intro h; cases h; done)
                  with_reducible refine hK _ ?_
                  clear hK K)
               | (apply Exists.intro
                  refine ⟨fun _ => ?_, hK _ ?_⟩
                  (exact Calls.bw (apart_any _ _ row x.2.2.1 _ (by omega) hrl (R2.out.bw _)))
                  clear hK K))
          with_reducible refine wpQuiet_nil ?_
          intro wb hw'
          obtain ⟨⟨wb', lb⟩, hw''⟩ := hw'
          subst hw''
          have B3 := Lib.hid (below_step B2.out lb)
          clear lb
          cases hb : rowB x.2.2.1 row with
          | true =>
            have HC := Lib.hid (HN.out hb)
            go_wp2_with fail
            go_roundw
            case rel => exact ⟨k + 1, by go_num, hlt, HC, B3⟩
            case measure => simp [intOf]; omega
          | false =>
            have HC := Lib.hid (HF.out hb)
            go_wp2_with fail
            go_ret
            exact ⟨ret_bool HC.out.symm, below_step B1.out B3.out⟩
        · have hkl : k = L.length := by omega
          subst hkl
          have HC := Lib.hid (legal_of HA.out hn (fun i hi => HH.out i (by omega)))
          go_wp2_with fail
          go_ret
          exact ⟨ret_bool HC.out.symm, below_step B1.out HB.out⟩
    · have HF := Lib.hid (legal_size (L := L) hn)
      have hn1 : ((R.length : Int) == (L.length : Int)) = false := by simp; omega
      have hn2 : ((R.length : Int) != (L.length : Int)) = true := by simp; omega
      go_enter Try.func16, Try.ntmps16
      go_wp2_with fail
      refine (all_any A c L _ hb1 HT.out.2.1 HT.out.2.2).mono ?_
      rintro e w1 ⟨rfl, b1⟩
      rw [ha]
      go_wp2_with fail
      go_ret
      exact ⟨ret_bool HF.out.symm, b1⟩

end Dm
end Go.Proofs.Ythghnbbcmmjcfaa
