/-
  Merged texts: Law11Refs, Law11Knows.
-/
import Derived.Test.YthfgdkhfblekoaaGface
import Derived.Test.YthfgdkhfblekoaaGlaw10
import Derived.Test.YthfgdkhfblekoaaGtask
import Derived.Test.YthfgdkhfblekoaaGmem
/-
  Layer 11: the document's answer Least; the helper great.
-/
namespace Go.Proofs.Ythfgdkhfblekoaa
open Go.RowKit Mm Tk Vd
namespace Fa

theorem buildFaceR (a b : Int) (w : World) : (Instr.build 26 #[(0, .int .i64 a), (1, .int .i64 b)]).run Try.prog w = .ok (.agg #[.int .i64 a, .int .i64 b]) w := by kernel_rfl
attribute [local go_sem ↓] buildFaceR

/-- more than is looked at -/
def greatP (L : List Tsk) (p : Int) : Bool := greatB L || decide (200 < p ∧ p ≤ 400) || (decide (1 ≤ p ∧ p ≤ 200) && decide (250 < endZ L p 1))
theorem greatP_no {L : List Tsk} {p : Int} (h : greatP L p = false) : greatB L = false := by
  unfold greatP at h
  rw [Bool.or_eq_false_iff, Bool.or_eq_false_iff] at h
  exact h.1.1

set_option maxHeartbeats 1600000 in
theorem greatP_any (A : Option Addr) (c : Nat) (L : List Tsk) (p : Int) (w : World) (hr : Rd w A c L) :
    Calls Try.prog 7 #[.slice A L.length c, .int .i64 p] w fun e w' => e = .returned (.bool (greatP L p)) ∧ Below w.heap.size w w' := by
  cases hg : greatB L with
  | true =>
    have HV : Hid (greatP L p = true) := by show _ = _; unfold greatP; rw [hg]; rfl
    have HR := Lib.hid hr
    have HG := Lib.hid hg
    clear hr hg
    go_enter Try.func7, Try.ntmps7
    go_wp2_with fail
    refine (great_any A c L _ HR.out).mono ?_
    rintro e w1 ⟨rfl, b1⟩
    rw [HG.out]
    have B1 := Lib.hid b1
    clear b1
    go_wp2_with fail
    go_ret
    exact ⟨ret_bool HV.out.symm, B1.out⟩
  | false =>
    obtain ⟨hL, hin⟩ := great_no hg
    have HT : Hid (TL w A c L) := ⟨by omega, fun j hj => by have := hin j hj; omega, hr⟩
    clear hL hin
    by_cases h2 : 200 < p
    · by_cases h3 : p ≤ 400
      · have HV : Hid (greatP L p = true) := by show _ = _; unfold greatP; rw [hg, decide_eq_true (show 200 < p ∧ p ≤ 400 from ⟨h2, h3⟩)]; rfl
        have HR := Lib.hid hr
        have HG := Lib.hid hg
        clear hr hg
        go_enter Try.func7, Try.ntmps7
        go_wp2_with fail
        refine (great_any A c L _ HR.out).mono ?_
        rintro e w1 ⟨rfl, b1⟩
        rw [HG.out]
        have B1 := Lib.hid b1
        clear b1
        go_wp2_with fail
        go_ret
        exact ⟨ret_bool HV.out.symm, B1.out⟩
      · have HV : Hid (greatP L p = false) := by show _ = _; unfold greatP; rw [hg, decide_eq_false (show ¬ (200 < p ∧ p ≤ 400) by omega), decide_eq_false (show ¬ (1 ≤ p ∧ p ≤ 200) by omega)]; rfl
        have HR := Lib.hid hr
        have HG := Lib.hid hg
        clear hr hg
        go_enter Try.func7, Try.ntmps7
        go_wp2_with fail
        refine (great_any A c L _ HR.out).mono ?_
        rintro e w1 ⟨rfl, b1⟩
        rw [HG.out]
        have B1 := Lib.hid b1
        clear b1
        go_wp2_with fail
        go_ret
        exact ⟨ret_bool HV.out.symm, B1.out⟩
    · by_cases h1 : p < 1
      · have HV : Hid (greatP L p = false) := by show _ = _; unfold greatP; rw [hg, decide_eq_false (show ¬ (200 < p ∧ p ≤ 400) by omega), decide_eq_false (show ¬ (1 ≤ p ∧ p ≤ 200) by omega)]; rfl
        have HR := Lib.hid hr
        have HG := Lib.hid hg
        clear hr hg
        go_enter Try.func7, Try.ntmps7
        go_wp2_with fail
        refine (great_any A c L _ HR.out).mono ?_
        rintro e w1 ⟨rfl, b1⟩
        rw [HG.out]
        have B1 := Lib.hid b1
        clear b1
        go_wp2_with fail
        go_ret
        exact ⟨ret_bool HV.out.symm, B1.out⟩
      · obtain ⟨z, hz⟩ : ∃ z, cycZ L p 1 = z := ⟨_, rfl⟩
        obtain ⟨y, hy⟩ : ∃ y, endZ L p 1 = y := ⟨_, rfl⟩
        obtain ⟨e, he⟩ : ∃ e, cycE L p 1 = e := ⟨_, rfl⟩
        have HV : Hid (greatP L p = decide (250 < y)) := by show _ = _; unfold greatP; rw [hg, hy, decide_eq_false (show ¬ (200 < p ∧ p ≤ 400) by omega), decide_eq_true (show 1 ≤ p ∧ p ≤ 200 by omega)]; rfl
        have HC := Lib.hid (refCycle_v A c L p 1 z y e hz hy he L.length rfl)
        have HR := Lib.hid hr
        have HG := Lib.hid hg
        clear hr hg
        clear hz hy he
        go_enter Try.func7, Try.ntmps7
        go_wp2_with fail
        refine (great_any A c L _ HR.out).mono ?_
        rintro e w1 ⟨rfl, b1⟩
        rw [HG.out]
        have B1 := Lib.hid b1
        clear b1
        go_wp2_with fail
        refine (HC.out _ (HT.out.below B1.out)).mono ?_
        rintro e w2 ⟨rfl, b2⟩
        have B2 := Lib.hid (below_step B1.out b2)
        clear b2
        go_wp2_with fail
        go_ret
        refine ⟨ret_bool ?_, B2.out⟩
        rw [HV.out, decide_eq_decide]
        omega

theorem refLeast_math {L : List Tsk} {p b : Nat} (hb : b ≤ p + 1) (h1 : 1 ≤ b) (h : ∀ c : Nat, 1 ≤ c → c < b → fitsB L p c = false) (hy : b ≤ p → fitsB L p b = true) : LeastOf L p b := ⟨h1, hb, hy, h⟩

set_option maxRecDepth 20000 in
set_option maxHeartbeats 3200000 in
theorem refLeast_any (P : Int) (A : Option Addr) (c : Nat) (L : List Tsk) (w : World) (H : TL w A c L) :
    Calls Try.prog 10 #[.slice A L.length c, .int .i64 P] w fun e w' => e = .returned (.tuple #[.int .i64 (lstB L P : Nat), .int .i64 (lstE L P : Nat)]) ∧ Below w.heap.size w w' := by
  have HT := Lib.hid H
  clear H
  have hbad : okP L P = false → lstE L P = 1 ∧ lstB L P = 0 := fun h => lst_err (cyc_none (by rw [in_one]; exact h)).2.2 (by omega)
  cases ha : allB L with
  | false =>
    obtain ⟨z1, z2⟩ := hbad (by unfold okP; rw [ha]; rfl)
    rw [z1, z2]
    clear z1 z2 hbad
    have HA := Lib.hid ha
    clear ha
    go_enter Try.func10, Try.ntmps10
    go_wp2_with fail
    refine (refAll_v A c L _ HA.out L.length rfl _ HT.out).mono ?_
    rintro e w1 ⟨rfl, b1⟩
    have B1 := Lib.hid b1
    replace HT := Lib.hid (HT.out.below b1)
    clear b1
    go_wp2_with fail
    go_ret2
    exact ⟨rfl, B1.out⟩
  | true =>
    by_cases h1 : P < 1
    · obtain ⟨z1, z2⟩ := hbad (by unfold okP; rw [ha, Bool.true_and]; exact decide_eq_false (by omega))
      rw [z1, z2]
      clear z1 z2 hbad
      have HA := Lib.hid ha
      clear ha
      go_enter Try.func10, Try.ntmps10
      go_wp2_with fail
      refine (refAll_v A c L _ HA.out L.length rfl _ HT.out).mono ?_
      rintro e w1 ⟨rfl, b1⟩
      have B1 := Lib.hid b1
      replace HT := Lib.hid (HT.out.below b1)
      clear b1
      go_wp2_with fail
      go_ret2
      exact ⟨rfl, B1.out⟩
    · by_cases h2 : 200 < P
      · obtain ⟨z1, z2⟩ := hbad (by unfold okP; rw [ha, Bool.true_and]; exact decide_eq_false (by omega))
        rw [z1, z2]
        clear z1 z2 hbad
        have HA := Lib.hid ha
        clear ha
        go_enter Try.func10, Try.ntmps10
        go_wp2_with fail
        refine (refAll_v A c L _ HA.out L.length rfl _ HT.out).mono ?_
        rintro e w1 ⟨rfl, b1⟩
        have B1 := Lib.hid b1
        replace HT := Lib.hid (HT.out.below b1)
        clear b1
        go_wp2_with fail
        go_ret2
        exact ⟨rfl, B1.out⟩
      · clear hbad
        obtain ⟨p, rfl⟩ : ∃ p : Nat, P = p := ⟨P.toNat, by omega⟩
        obtain ⟨z, hz⟩ : ∃ z, cycZ L p 1 = z := ⟨_, rfl⟩
        obtain ⟨y, hy⟩ : ∃ y, endZ L p 1 = y := ⟨_, rfl⟩
        obtain ⟨e, he⟩ : ∃ e, cycE L p 1 = e := ⟨_, rfl⟩
        have HC := Lib.hid (refCycle_v A c L p 1 z y e hz hy he L.length rfl)
        have HA := Lib.hid ha
        clear ha
        clear hz hy
        by_cases h0 : e = 0
        · subst h0
          have HK : Hid (∀ b : Nat, 1 ≤ b → b ≤ p → cycOk L p b = true) := fun b hb hbp => by rw [cycOk_any (c := 1) ⟨by omega, by omega⟩ ⟨by omega, by omega⟩]; exact cycE_zero.1 he
          have HE := Lib.hid he
          clear he
          go_enter Try.func10, Try.ntmps10
          go_wp2_with fail
          refine (refAll_v A c L _ HA.out L.length rfl _ HT.out).mono ?_
          rintro e w1 ⟨rfl, b1⟩
          have B1 := Lib.hid b1
          replace HT := Lib.hid (HT.out.below b1)
          clear b1
          go_wp2_with fail
          refine (HC.out _ HT.out).mono ?_
          rintro e w2 ⟨rfl, b2⟩
          have B2 := Lib.hid (below_step B1.out b2)
          replace HT := Lib.hid (HT.out.below b2)
          clear b2
          go_wp2_with fail
          go_loopw [9] (fun bv wr => ∃ b : Nat, bv = .int .i64 b ∧ 1 ≤ b ∧ b ≤ p + 1 ∧ Hid (∀ c : Nat, 1 ≤ c → c < b → fitsB L p c = false) ∧ Hid (Below w2.heap.size w2 wr)) (fun bv _ => p + 1 - (intOf bv).toNat)
          case atStart => exact ⟨1, rfl, Nat.le_refl _, by omega, fun c h1 h2 => by omega, Below.refl _ _⟩
          case round =>
            obtain ⟨b, rfl, hb1, hb2, HN, HB⟩ := hrel
            by_cases hlt : (b : Int) ≤ (p : Int)
            · have HT2 := Lib.hid (HT.out.below HB.out)
              cases hv : fitsB L p b with
              | true =>
                obtain ⟨z1, z2⟩ := lst_some HE.out (b := b) ⟨hb1, by omega, fun _ => hv, HN.out⟩ (by omega)
                have HF := Lib.hid (refFits_v A c L p b (HK.out b hb1 (by omega)) true hv L.length rfl)
                have Z1 := Lib.hid z1
                have Z2 := Lib.hid z2
                clear z1 z2
                clear hv
                go_wp2_with fail
                refine (HF.out _ HT2.out).mono ?_
                rintro x w3 ⟨rfl, b3⟩
                have B3 := Lib.hid (below_step B2.out (below_step HB.out b3))
                clear b3
                go_wp2_with fail
                go_ret2
                exact ⟨by rw [Z1.out, Z2.out]; rfl, B3.out⟩
              | false =>
                have HF := Lib.hid (refFits_v A c L p b (HK.out b hb1 (by omega)) false hv L.length rfl)
                have HN2 : Hid (∀ c : Nat, 1 ≤ c → c < b + 1 → fitsB L p c = false) := fun c h1 h2 => by
                  by_cases e : c = b
                  · subst e; exact hv
                  · exact HN.out c h1 (by omega)
                clear hv
                go_wp2_with fail
                refine (HF.out _ HT2.out).mono ?_
                rintro x w3 ⟨rfl, b3⟩
                have B3 := Lib.hid (below_step HB.out b3)
                clear b3
                go_wp2_with fail
                go_roundw
                case rel => exact ⟨b + 1, by go_num, by omega, by omega, HN2, B3⟩
                case measure => simp [intOf]; omega
            · have hbp : b = p + 1 := by omega
              subst hbp
              obtain ⟨z1, z2⟩ := lst_none HE.out (b := p + 1) ⟨hb1, Nat.le_refl _, fun h => by omega, HN.out⟩ (by omega)
              have B3 := Lib.hid (below_step B2.out HB.out)
              have Z1 := Lib.hid z1
              have Z2 := Lib.hid z2
              clear z1 z2
              go_wp2_with fail
              go_ret2
              exact ⟨by rw [Z1.out, Z2.out]; rfl, B3.out⟩
        · obtain ⟨z1, z2⟩ := lst_err he h0
          rw [z1, z2]
          have h0' : ¬ (e : Int) = 0 := by omega
          clear z1 z2 he
          go_enter Try.func10, Try.ntmps10
          go_wp2_with fail
          refine (refAll_v A c L _ HA.out L.length rfl _ HT.out).mono ?_
          rintro e w1 ⟨rfl, b1⟩
          have B1 := Lib.hid b1
          replace HT := Lib.hid (HT.out.below b1)
          clear b1
          go_wp2_with fail
          refine (HC.out _ HT.out).mono ?_
          rintro e w2 ⟨rfl, b2⟩
          have B2 := Lib.hid (below_step B1.out b2)
          clear b2
          go_wp2_with fail
          go_ret2
          exact ⟨rfl, B2.out⟩
theorem refLeast_v (A : Option Addr) (c : Nat) (L : List Tsk) (P y z : Int) (hy : ((lstB L P : Nat) : Int) = y) (hz : ((lstE L P : Nat) : Int) = z) (n : Nat) (hn : L.length = n) (w : World) (H : TL w A c L) :
    Calls Try.prog 10 #[.slice A n c, .int .i64 P] w fun e w' => e = .returned (.tuple #[.int .i64 y, .int .i64 z]) ∧ Below w.heap.size w w' := by
  subst hy; subst hz; subst hn
  exact refLeast_any P A c L w H

end Fa
end Go.Proofs.Ythfgdkhfblekoaa

/-
  Layer 11: Least under other names; the helper knows: the document's examples.
-/
namespace Go.Proofs.Ythfgdkhfblekoaa
open Go.RowKit Mm Tk Vd
namespace Fa

theorem least_v (A : Option Addr) (c : Nat) (L : List Tsk) (P x y z : Int) (hx : lstP L P = x) (hy : ((lstB L P : Nat) : Int) = y) (hz : ((lstE L P : Nat) : Int) = z) (n : Nat) (hn : L.length = n) (w : World) (H : TL w A c L) :
    Calls Try.prog 9 #[.slice A n c, .int .i64 P] w fun e w' => e = .returned (.tuple #[.agg #[.int .i64 x, .int .i64 y], .int .i64 z]) ∧ Below w.heap.size w w' := by
  subst hx; subst hy; subst hz; subst hn
  exact least_any P A c L w H

theorem eqFace (a b c d : Int) (w : World) : (binOp .eql 26 (.agg #[.int .i64 a, .int .i64 b]) (.agg #[.int .i64 c, .int .i64 d])).run Try.prog w = .ok (.bool (decide (a = c) && decide (b = d))) w := by
  have h := run_eql_ints (P := Try.prog) (t := 26) 2 Try.underlying3 (by kernel_rfl) (by kernel_rfl) (by kernel_rfl) w [a, b] [c, d] rfl rfl
  rw [show (decide (a = c) && decide (b = d)) = decide ([a, b] = [c, d]) from by simp]
  exact h
theorem buildTask3 (C D T : Int) (w : World) : (Instr.build 38 #[(0, .int .i64 C), (1, .int .i64 D), (2, .int .i64 T)]).run Try.prog w = .ok (.agg #[.int .i64 C, .int .i64 D, .int .i64 T, .slice none 0 0]) w := by kernel_rfl
attribute [local go_sem ↓] buildTask3 buildFaceP buildFace0 eqFace

def kL : List Tsk := [(1, 4, 4, [])]
theorem kL_tl (w : World) : TL (w.alloc (.cells #[.int .i64 1, .int .i64 4, .int .i64 4, .slice none 0 0] 38)) (some ⟨w.heap.size, 0, none⟩) 1 kL :=
  ⟨by decide, fun j hj => by
    have : j = 0 := by simpa [kL] using hj
    subst this
    decide, rd_lit w kL 1 rfl _ _ (by decide) (rows_task (1, 4, 4, []) rfl (fit_small rfl) (fit_small rfl) (fit_small rfl) (rd_nil (fun _ => rfl) (by unfold maxLen; omega)) rows_none)⟩
def kM : List Tsk := [(4, 4, 4, []), (1, 4, 4, [])]
theorem kM_tl (w : World) : TL (w.alloc (.cells #[.int .i64 4, .int .i64 4, .int .i64 4, .slice none 0 0, .int .i64 1, .int .i64 4, .int .i64 4, .slice none 0 0] 38)) (some ⟨w.heap.size, 0, none⟩) 2 kM :=
  ⟨by decide, fun j hj => by
    have : j = 0 ∨ j = 1 := by simp [kM] at hj; omega
    rcases this with rfl | rfl <;> decide, rd_lit w kM 2 rfl _ _ (by decide) (rows_task (4, 4, 4, []) rfl (fit_small rfl) (fit_small rfl) (fit_small rfl) (rd_nil (fun _ => rfl) (by unfold maxLen; omega))
      (rows_task (1, 4, 4, []) rfl (fit_small rfl) (fit_small rfl) (fit_small rfl) (rd_nil (fun _ => rfl) (by unfold maxLen; omega)) rows_none))⟩
theorem kP2 : lstP kL 2 = 2 := by decide +kernel
theorem kB2 : ((lstB kL 2 : Nat) : Int) = 1 := by decide +kernel
theorem kE2 : ((lstE kL 2 : Nat) : Int) = 0 := by decide +kernel
theorem kP4 : lstP kL 4 = 4 := by decide +kernel
theorem kB4 : ((lstB kL 4 : Nat) : Int) = 3 := by decide +kernel
theorem kE4 : ((lstE kL 4 : Nat) : Int) = 0 := by decide +kernel
theorem mP2 : lstP kM 2 = 0 := by decide +kernel
theorem mB2 : ((lstB kM 2 : Nat) : Int) = 0 := by decide +kernel
theorem mE2 : ((lstE kM 2 : Nat) : Int) = 7 := by decide +kernel

set_option maxRecDepth 20000 in
set_option maxHeartbeats 3200000 in
theorem knows11_any (w : World) :
    Calls Try.prog 8 #[] w fun e w' => e = .returned (.bool true) ∧ Below w.heap.size w w' := by
  have HT := Lib.hid (kL_tl w)
  have B0 := Lib.hid (below_one w (.cells #[.int .i64 1, .int .i64 4, .int .i64 4, .slice none 0 0] 38))
  go_enter Try.func8, Try.ntmps8
  go_wp2_with fail
  generalize w.alloc (.cells #[.int .i64 1, .int .i64 4, .int .i64 4, .slice none 0 0] 38) = w0 at *
  generalize (some ⟨w.heap.size, 0, none⟩ : Option Addr) = A at *
  refine (least_v A 1 kL 2 2 1 0 kP2 kB2 kE2 1 rfl _ HT.out).mono ?_
  rintro e w1 ⟨rfl, b1⟩
  have bz := below_one w1 (Obj.cells #[.int .i64 2, .int .i64 1] 26)
  have x1 : (w1.alloc (Obj.cells #[.int .i64 2, .int .i64 1] 26)).cell? ⟨w1.heap.size, 0, none⟩ = some (.int .i64 2) := by simp
  have y1 : (w1.alloc (Obj.cells #[.int .i64 2, .int .i64 1] 26)).cell? ⟨w1.heap.size, 1, none⟩ = some (.int .i64 1) := by simp
  have B1 := Lib.hid (below_step (below_step B0.out b1) bz)
  have D1 := Lib.hid (below_step b1 bz)
  clear b1 bz
  replace HT := Lib.hid (HT.out.below D1.out)
  go_wp2_with fail
  generalize w1.alloc (Obj.cells #[.int .i64 2, .int .i64 1] 26) = v1 at *
  refine (least_v A 1 kL 4 4 3 0 kP4 kB4 kE4 1 rfl _ HT.out).mono ?_
  rintro e w2 ⟨rfl, b2⟩
  have bz := below_one w2 (Obj.cells #[.int .i64 4, .int .i64 3] 26)
  have x2 : (w2.alloc (Obj.cells #[.int .i64 4, .int .i64 3] 26)).cell? ⟨w2.heap.size, 0, none⟩ = some (.int .i64 4) := by simp
  have y2 : (w2.alloc (Obj.cells #[.int .i64 4, .int .i64 3] 26)).cell? ⟨w2.heap.size, 1, none⟩ = some (.int .i64 3) := by simp
  have B2 := Lib.hid (below_step (below_step B1.out b2) bz)
  have D2 := Lib.hid (below_step b2 bz)
  clear b2 bz
  replace x1 := (cell_below D2.out) x1
  replace y1 := (cell_below D2.out) y1
  go_wp2_with fail
  have hs : (w2.alloc (Obj.cells #[.int .i64 4, .int .i64 3] 26)).heap.size = w2.heap.size + 1 := World.size_alloc _ _
  generalize w2.alloc (Obj.cells #[.int .i64 4, .int .i64 3] 26) = v2 at *
  have hm := kM_tl v2
  rw [hs] at hm
  have HM := Lib.hid hm
  clear hm
  clear hs
  have bm := below_one v2 (Obj.cells #[.int .i64 4, .int .i64 4, .int .i64 4, .slice none 0 0, .int .i64 1, .int .i64 4, .int .i64 4, .slice none 0 0] 38)
  replace x1 := (cell_below bm) x1
  replace y1 := (cell_below bm) y1
  replace x2 := (cell_below bm) x2
  replace y2 := (cell_below bm) y2
  replace B2 := Lib.hid (below_step B2.out bm)
  clear bm
  generalize v2.alloc (Obj.cells #[.int .i64 4, .int .i64 4, .int .i64 4, .slice none 0 0, .int .i64 1, .int .i64 4, .int .i64 4, .slice none 0 0] 38) = u2 at *
  refine (least_v _ 2 kM 2 0 0 7 mP2 mB2 mE2 2 rfl _ HM.out).mono ?_
  rintro e w3 ⟨rfl, b3⟩
  have bz := below_one w3 (Obj.cells #[.int .i64 0, .int .i64 0] 26)
  have x3 : (w3.alloc (Obj.cells #[.int .i64 0, .int .i64 0] 26)).cell? ⟨w3.heap.size, 0, none⟩ = some (.int .i64 0) := by simp
  have y3 : (w3.alloc (Obj.cells #[.int .i64 0, .int .i64 0] 26)).cell? ⟨w3.heap.size, 1, none⟩ = some (.int .i64 0) := by simp
  have B3 := Lib.hid (below_step (below_step B2.out b3) bz)
  have D3 := Lib.hid (below_step b3 bz)
  clear b3 bz
  replace x1 := (cell_below D3.out) x1
  replace y1 := (cell_below D3.out) y1
  replace x2 := (cell_below D3.out) x2
  replace y2 := (cell_below D3.out) y2
  go_wp2_with fail
  go_ret
  exact ⟨rfl, B3.out⟩

end Fa
end Go.Proofs.Ythfgdkhfblekoaa

