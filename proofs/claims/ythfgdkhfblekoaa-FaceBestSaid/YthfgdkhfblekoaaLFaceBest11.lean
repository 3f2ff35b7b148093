/-
  For all tasks and every number the statement FaceBest of layer 11 returns true (of the least interfaces of all periods up to one the best is the one that gives least, and of these of the greatest period; or there is none), and its arguments read as before. No condition.
-/
import Derived.Test.YthfgdkhfblekoaaGlaw05
import Derived.Test.YthfgdkhfblekoaaGlaw11
import Derived.Test.YthfgdkhfblekoaaGface
import Derived.Test.YthfgdkhfblekoaaGmem
namespace Go.Proofs.Ythfgdkhfblekoaa.faceBest
open Go.ChangeShapes Go.WideShapes Go.ChangeAt Go.RowKit
open Mm Tk Vd Fa
attribute [local go_sem ↓] buildFaceP buildFace0 eqFace

set_option maxRecDepth 20000 in
set_option maxHeartbeats 3200000 in
theorem walk_bad (A : Option Addr) (c : Nat) (L : List Tsk) (n : Int) (w : World) (hr : Rd w A c L) (hn : ¬ (allB L = true ∧ 1 ≤ n ∧ n ≤ 24)) (hg : greatB L = false) (HT : Hid (TL w A c L)) :
    Calls Try.prog 5 #[.slice A L.length c, .int .i64 n] w fun e w' => e = .returned (.bool true) ∧ Below w.heap.size w w' := by
  have HC : Hid (∀ W, TL W A c L → Calls Try.prog 13 #[.slice A L.length c, .int .i64 n] W fun e w' => e = .returned (.tuple #[.agg #[.int .i64 0, .int .i64 0], .int .i64 1]) ∧ Below W.heap.size W w') := fun W H => best_bad n A c L hn W H
  have HR := Lib.hid hr
  have HG := Lib.hid hg
  clear hr hg
  cases ha : allB L with
  | false =>
    have HA := Lib.hid ha
    clear ha
    clear hn
    go_enter Try.func5, Try.ntmps5
    go_wp2_with fail
    refine (great_any A c L _ HR.out).mono ?_
    rintro e' w1 ⟨rfl, b1⟩
    rw [HG.out]
    have B1 := Lib.hid b1
    clear b1
    go_wp2_with fail
    refine (HC.out _ (HT.out.below B1.out)).mono ?_
    rintro e' w2 ⟨rfl, b2⟩
    have bz := below_one w2 (Obj.cells #[.int .i64 0, .int .i64 0] 26)
    have u0 : (w2.alloc (Obj.cells #[.int .i64 0, .int .i64 0] 26)).cell? ⟨w2.heap.size, 0, none⟩ = some (.int .i64 0) := by simp
    have u1 : (w2.alloc (Obj.cells #[.int .i64 0, .int .i64 0] 26)).cell? ⟨w2.heap.size, 1, none⟩ = some (.int .i64 0) := by simp
    have B2 := Lib.hid (below_step (below_step B1.out b2) bz)
    have HT2 := Lib.hid (HT.out.below B2.out)
    clear b2 bz
    go_wp2_with fail
    refine (refAll_v A c L _ HA.out L.length rfl _ HT2.out).mono ?_
    rintro e w3 ⟨rfl, b3⟩
    replace u0 := cell_below b3 u0
    replace u1 := cell_below b3 u1
    have B3 := Lib.hid (below_step B2.out b3)
    clear b3
    go_wp2_with fail
    refine (knows11_any _).mono ?_
    rintro e w4 ⟨rfl, b4⟩
    have B4 := Lib.hid (below_step B3.out b4)
    clear b4
    go_wp2_with fail
    go_ret
    exact ⟨rfl, B4.out⟩
  | true =>
    by_cases h1 : n < 1
    · skip
      have HA := Lib.hid ha
      clear ha
      clear hn
      go_enter Try.func5, Try.ntmps5
      go_wp2_with fail
      refine (great_any A c L _ HR.out).mono ?_
      rintro e' w1 ⟨rfl, b1⟩
      rw [HG.out]
      have B1 := Lib.hid b1
      clear b1
      go_wp2_with fail
      refine (HC.out _ (HT.out.below B1.out)).mono ?_
      rintro e' w2 ⟨rfl, b2⟩
      have bz := below_one w2 (Obj.cells #[.int .i64 0, .int .i64 0] 26)
      have u0 : (w2.alloc (Obj.cells #[.int .i64 0, .int .i64 0] 26)).cell? ⟨w2.heap.size, 0, none⟩ = some (.int .i64 0) := by simp
      have u1 : (w2.alloc (Obj.cells #[.int .i64 0, .int .i64 0] 26)).cell? ⟨w2.heap.size, 1, none⟩ = some (.int .i64 0) := by simp
      have B2 := Lib.hid (below_step (below_step B1.out b2) bz)
      have HT2 := Lib.hid (HT.out.below B2.out)
      clear b2 bz
      go_wp2_with fail
      refine (refAll_v A c L _ HA.out L.length rfl _ HT2.out).mono ?_
      rintro e w3 ⟨rfl, b3⟩
      replace u0 := cell_below b3 u0
      replace u1 := cell_below b3 u1
      have B3 := Lib.hid (below_step B2.out b3)
      clear b3
      go_wp2_with fail
      refine (knows11_any _).mono ?_
      rintro e w4 ⟨rfl, b4⟩
      have B4 := Lib.hid (below_step B3.out b4)
      clear b4
      go_wp2_with fail
      go_ret
      exact ⟨rfl, B4.out⟩
    · have h2 : 24 < n := by
        rcases Int.lt_or_le 24 n with h | h
        · exact h
        · exact absurd ⟨ha, by omega, h⟩ hn
      have HA := Lib.hid ha
      clear ha
      clear hn
      go_enter Try.func5, Try.ntmps5
      go_wp2_with fail
      refine (great_any A c L _ HR.out).mono ?_
      rintro e' w1 ⟨rfl, b1⟩
      rw [HG.out]
      have B1 := Lib.hid b1
      clear b1
      go_wp2_with fail
      refine (HC.out _ (HT.out.below B1.out)).mono ?_
      rintro e' w2 ⟨rfl, b2⟩
      have bz := below_one w2 (Obj.cells #[.int .i64 0, .int .i64 0] 26)
      have u0 : (w2.alloc (Obj.cells #[.int .i64 0, .int .i64 0] 26)).cell? ⟨w2.heap.size, 0, none⟩ = some (.int .i64 0) := by simp
      have u1 : (w2.alloc (Obj.cells #[.int .i64 0, .int .i64 0] 26)).cell? ⟨w2.heap.size, 1, none⟩ = some (.int .i64 0) := by simp
      have B2 := Lib.hid (below_step (below_step B1.out b2) bz)
      have HT2 := Lib.hid (HT.out.below B2.out)
      clear b2 bz
      go_wp2_with fail
      refine (refAll_v A c L _ HA.out L.length rfl _ HT2.out).mono ?_
      rintro e w3 ⟨rfl, b3⟩
      replace u0 := cell_below b3 u0
      replace u1 := cell_below b3 u1
      have B3 := Lib.hid (below_step B2.out b3)
      clear b3
      go_wp2_with fail
      refine (knows11_any _).mono ?_
      rintro e w4 ⟨rfl, b4⟩
      have B4 := Lib.hid (below_step B3.out b4)
      clear b4
      go_wp2_with fail
      go_ret
      exact ⟨rfl, B4.out⟩

set_option maxRecDepth 20000 in
set_option maxHeartbeats 4000000 in
theorem walk_ok (A : Option Addr) (c : Nat) (L : List Tsk) (n : Nat) (w : World) (hr : Rd w A c L) (ha : allB L = true) (hn1 : 1 ≤ n) (hn2 : n ≤ 24) (hg : greatB L = false) (HT : Hid (TL w A c L)) :
    Calls Try.prog 5 #[.slice A L.length c, .int .i64 n] w fun e w' => e = .returned (.bool true) ∧ Below w.heap.size w w' := by
  have HC : Hid (∀ W, TL W A c L → Calls Try.prog 13 #[.slice A L.length c, .int .i64 n] W (BestV L n W)) := fun W H => best_ok n A c L ha hn1 hn2 W H
  have HR := Lib.hid hr
  have HG := Lib.hid hg
  have HA := Lib.hid ha
  clear hr hg ha
  go_enter Try.func5, Try.ntmps5
  go_wp2_with fail
  refine (great_any A c L _ HR.out).mono ?_
  rintro e' w1 ⟨rfl, b1⟩
  rw [HG.out]
  have B1 := Lib.hid b1
  clear b1
  go_wp2_with fail
  refine (HC.out _ (HT.out.below B1.out)).mono ?_
  rintro e' w2 ⟨P, B, rfl, hbo, b2⟩
  have HBO := Lib.hid hbo
  clear hbo
  by_cases hP0 : P = 0
  · have hB0 : B = 0 := by
      rcases HBO.out with ⟨_, h, _⟩ | ⟨h, _⟩
      · exact h
      · omega
    subst hP0; subst hB0
    have HNO : Hid (∀ p : Nat, 1 ≤ p → p ≤ n → lstE L p ≠ 0) := fun p h1 h2 => by
      rcases HBO.out with ⟨_, _, h⟩ | ⟨h, _⟩
      · exact h p ⟨h1, by omega⟩
      · omega
    rw [if_pos rfl, show ((0 : Nat) : Int) = 0 from rfl]
    have bz := below_one w2 (Obj.cells #[.int .i64 0, .int .i64 0] 26)
    have u0 : (w2.alloc (Obj.cells #[.int .i64 0, .int .i64 0] 26)).cell? ⟨w2.heap.size, 0, none⟩ = some (.int .i64 0) := by simp
    have u1 : (w2.alloc (Obj.cells #[.int .i64 0, .int .i64 0] 26)).cell? ⟨w2.heap.size, 1, none⟩ = some (.int .i64 0) := by simp
    have B2 := Lib.hid (below_step (below_step B1.out b2) bz)
    have HT2 := Lib.hid (HT.out.below B2.out)
    clear b2 bz
    clear HBO
    go_wp2_with fail
    generalize w2.alloc (Obj.cells #[.int .i64 0, .int .i64 0] 26) = v2 at *
    refine (refAll_v A c L true HA.out L.length rfl _ HT2.out).mono ?_
    rintro e w3 ⟨rfl, b3⟩
    replace u0 := cell_below b3 u0
    replace u1 := cell_below b3 u1
    have B3 := Lib.hid (below_step B2.out b3)
    clear b3
    go_wp2_with fail
    go_loopw [7] (fun pv wr => ∃ p : Nat, pv = .int .i64 p ∧ 1 ≤ p ∧ p ≤ n + 1 ∧ Hid (Below w3.heap.size w3 wr)) (fun pv _ => n + 1 - (intOf pv).toNat)
    case atStart => exact ⟨1, rfl, Nat.le_refl _, by omega, Below.refl _ _⟩
    case round =>
      obtain ⟨p, rfl, hp1, hp2, HB⟩ := hrel
      have B4 := Lib.hid (below_step B3.out HB.out)
      have HT4 := Lib.hid (HT.out.below B4.out)
      by_cases hlt : (p : Int) ≤ (n : Int)
      · obtain ⟨e, he⟩ : ∃ e, lstE L p = e := ⟨_, rfl⟩
        have h0 := HNO.out p hp1 (by omega)
        rw [he] at h0
        have h0' : ¬ (e : Int) = 0 := by omega
        have HL := Lib.hid (least_v A c L p (lstP L p) (lstB L p) e rfl rfl (by rw [he]) L.length rfl)
        generalize lstP L p = x1 at *
        generalize lstB L p = x2 at *
        clear he h0 u0 u1
        go_wp2_with fail
        refine (HL.out _ HT4.out).mono ?_
        rintro e' w5 ⟨rfl, b5⟩
        have B6 := Lib.hid (below_step (below_step HB.out b5) (below_one w5 (Obj.cells #[.int .i64 x1, .int .i64 (x2 : Int)] 26)))
        clear b5
        go_wp2_with fail
        go_roundw
        case rel => exact ⟨p + 1, by go_num, by omega, by omega, B6⟩
        case measure => simp [intOf]; omega
      · skip
        replace u0 := (cell_below HB.out) u0
        replace u1 := (cell_below HB.out) u1
        go_wp2_with fail
        refine (knows11_any _).mono ?_
        rintro e w5 ⟨rfl, b5⟩
        have B5 := Lib.hid (below_step B4.out b5)
        clear b5
        go_wp2_with fail
        go_ret
        exact ⟨rfl, B5.out⟩
  · obtain ⟨hb1, hb2, hb3, hb4, hb5⟩ : 1 ≤ P ∧ P ≤ n ∧ lstE L P = 0 ∧ lstB L P = B ∧ ∀ p : Nat, 1 ≤ p → p ≤ n → lstE L p = 0 → ¬ Better (lstB L p) p B P := by
      rcases HBO.out with ⟨h, _⟩ | ⟨h1, h2, h3, h4, h5⟩
      · exact absurd h hP0
      · exact ⟨h1, by omega, h3, h4, fun p q1 q2 q3 => h5 p ⟨q1, by omega⟩ q3⟩
    have hBs : B ≤ 200 := by have := lst_pos hb3; omega
    have HNO := Lib.hid hb5
    have HZ := Lib.hid (least_v A c L P P B 0 (by unfold lstP; rw [hb3, if_pos rfl]) (by rw [hb4]) (by rw [hb3]; rfl) L.length rfl)
    rw [if_neg hP0]
    have bz := below_one w2 (Obj.cells #[.int .i64 (P : Int), .int .i64 (B : Int)] 26)
    have u0 : (w2.alloc (Obj.cells #[.int .i64 (P : Int), .int .i64 (B : Int)] 26)).cell? ⟨w2.heap.size, 0, none⟩ = some (.int .i64 (P : Int)) := by simp
    have u1 : (w2.alloc (Obj.cells #[.int .i64 (P : Int), .int .i64 (B : Int)] 26)).cell? ⟨w2.heap.size, 1, none⟩ = some (.int .i64 (B : Int)) := by simp
    have B2 := Lib.hid (below_step (below_step B1.out b2) bz)
    have HT2 := Lib.hid (HT.out.below B2.out)
    clear b2 bz
    clear HBO hb3 hb4 hb5
    go_wp2_with fail
    generalize w2.alloc (Obj.cells #[.int .i64 (P : Int), .int .i64 (B : Int)] 26) = v2 at *
    refine (refAll_v A c L true HA.out L.length rfl _ HT2.out).mono ?_
    rintro e w3 ⟨rfl, b3⟩
    replace u0 := cell_below b3 u0
    replace u1 := cell_below b3 u1
    have B3 := Lib.hid (below_step B2.out b3)
    clear b3
    go_wp2_with fail
    go_loopw [7] (fun pv wr => ∃ p : Nat, pv = .int .i64 p ∧ 1 ≤ p ∧ p ≤ n + 1 ∧ Hid (Below w3.heap.size w3 wr)) (fun pv _ => n + 1 - (intOf pv).toNat)
    case atStart => exact ⟨1, rfl, Nat.le_refl _, by omega, Below.refl _ _⟩
    case round =>
      obtain ⟨p, rfl, hp1, hp2, HB⟩ := hrel
      have B4 := Lib.hid (below_step B3.out HB.out)
      have HT4 := Lib.hid (HT.out.below B4.out)
      replace u0 := (cell_below HB.out) u0
      replace u1 := (cell_below HB.out) u1
      by_cases hlt : (p : Int) ≤ (n : Int)
      · obtain ⟨e, he⟩ : ∃ e, lstE L p = e := ⟨_, rfl⟩
        by_cases h0 : e = 0
        · subst h0
          obtain ⟨b, hb⟩ : ∃ b, lstB L p = b := ⟨_, rfl⟩
          have hpos := lst_pos he
          have hnb := HNO.out p hp1 (by omega) he
          rw [hb] at hpos hnb
          have hbs : b ≤ 200 := by omega
          have HL := Lib.hid (least_v A c L p p b 0 (by unfold lstP; rw [he, if_pos rfl]) (by rw [hb]) (by rw [he]; rfl) L.length rfl)
          have i1 := small_mul (a := b) (b := P) hbs (by omega)
          have i2 := small_mul (a := B) (b := p) hBs (by omega)
          unfold Better at hnb
          have j1 : ¬ ((b * P : Nat) : Int) < ((B * p : Nat) : Int) := fun h => hnb (.inl (Int.ofNat_lt.1 h))
          have j2 : ((b * P : Nat) : Int) = ((B * p : Nat) : Int) → ¬ (P : Int) < (p : Int) := fun h h' => hnb (.inr ⟨Int.ofNat_inj.1 h, Int.ofNat_lt.1 h'⟩)
          clear hnb he hb hpos
          go_wp2_with fail
          refine (HL.out _ HT4.out).mono ?_
          rintro e' w5 ⟨rfl, b5⟩
          have bz := below_one w5 (Obj.cells #[.int .i64 (p : Int), .int .i64 (b : Int)] 26)
          have x0 : (w5.alloc (Obj.cells #[.int .i64 (p : Int), .int .i64 (b : Int)] 26)).cell? ⟨w5.heap.size, 0, none⟩ = some (.int .i64 (p : Int)) := by simp
          have x1 : (w5.alloc (Obj.cells #[.int .i64 (p : Int), .int .i64 (b : Int)] 26)).cell? ⟨w5.heap.size, 1, none⟩ = some (.int .i64 (b : Int)) := by simp
          replace u0 := (cell_below (below_step b5 bz)) u0
          replace u1 := (cell_below (below_step b5 bz)) u1
          have B6 := Lib.hid (below_step (below_step HB.out b5) bz)
          clear b5 bz
          by_cases hm : ((b * P : Nat) : Int) = ((B * p : Nat) : Int)
          · have j3 := j2 hm
            rw [hm] at i1 j1
            clear j2 hm
            go_wp2_with fail
            go_roundw
            case rel => exact ⟨p + 1, by go_num, by omega, by omega, B6⟩
            case measure => simp [intOf]; omega
          · clear j2
            have j3 : (((b * P : Nat) : Int) == ((B * p : Nat) : Int)) = false := beq_eq_false_iff_ne.2 hm
            go_wp2_with fail
            go_roundw
            case rel => exact ⟨p + 1, by go_num, by omega, by omega, B6⟩
            case measure => simp [intOf]; omega
        · have h0' : ¬ (e : Int) = 0 := by omega
          have HL := Lib.hid (least_v A c L p (lstP L p) (lstB L p) e rfl rfl (by rw [he]) L.length rfl)
          generalize lstP L p = x1 at *
          generalize lstB L p = x2 at *
          clear he h0 u0 u1
          go_wp2_with fail
          refine (HL.out _ HT4.out).mono ?_
          rintro e' w5 ⟨rfl, b5⟩
          have B6 := Lib.hid (below_step (below_step HB.out b5) (below_one w5 (Obj.cells #[.int .i64 x1, .int .i64 (x2 : Int)] 26)))
          clear b5
          go_wp2_with fail
          go_roundw
          case rel => exact ⟨p + 1, by go_num, by omega, by omega, B6⟩
          case measure => simp [intOf]; omega
      · have hP1 : (1 : Int) ≤ (P : Int) := by omega
        have hP2 : (P : Int) ≤ (n : Int) := by omega
        go_wp2_with fail
        refine (HZ.out _ HT4.out).mono ?_
        rintro e' w5 ⟨rfl, b5⟩
        have bz := below_one w5 (Obj.cells #[.int .i64 (P : Int), .int .i64 (B : Int)] 26)
        have x0 : (w5.alloc (Obj.cells #[.int .i64 (P : Int), .int .i64 (B : Int)] 26)).cell? ⟨w5.heap.size, 0, none⟩ = some (.int .i64 (P : Int)) := by simp
        have x1 : (w5.alloc (Obj.cells #[.int .i64 (P : Int), .int .i64 (B : Int)] 26)).cell? ⟨w5.heap.size, 1, none⟩ = some (.int .i64 (B : Int)) := by simp
        replace u0 := (cell_below (below_step b5 bz)) u0
        replace u1 := (cell_below (below_step b5 bz)) u1
        have B5 := Lib.hid (below_step (below_step B4.out b5) bz)
        clear b5 bz
        go_wp2_with fail
        refine (knows11_any _).mono ?_
        rintro e w6 ⟨rfl, b6⟩
        have B6 := Lib.hid (below_step B5.out b6)
        clear b6
        go_wp2_with fail
        go_ret
        exact ⟨rfl, B6.out⟩

theorem walk (A : Option Addr) (c : Nat) (L : List Tsk) (n : Int) (w : World) (hr : Rd w A c L) (_ : Fit n) :
    Calls Try.prog 5 #[.slice A L.length c, .int .i64 n] w fun e w' => e = .returned (.bool true) ∧ Below w.heap.size w w' := by
  cases hg : greatB L with
  | true =>
    have HR := Lib.hid hr
    have HG := Lib.hid hg
    clear hr hg
    go_enter Try.func5, Try.ntmps5
    go_wp2_with fail
    refine (great_any A c L _ HR.out).mono ?_
    rintro e' w1 ⟨rfl, b1⟩
    rw [HG.out]
    have B1 := Lib.hid b1
    clear b1
    go_wp2_with fail
    refine (knows11_any _).mono ?_
    rintro e w2 ⟨rfl, b2⟩
    have B2 := Lib.hid (below_step B1.out b2)
    clear b2
    go_wp2_with fail
    go_ret
    exact ⟨rfl, B2.out⟩
  | false =>
    obtain ⟨hL, hin⟩ := great_no hg
    have HT : Hid (TL w A c L) := ⟨by omega, fun j hj => by have := hin j hj; omega, hr⟩
    by_cases hn : allB L = true ∧ 1 ≤ n ∧ n ≤ 24
    · obtain ⟨m, rfl⟩ : ∃ m : Nat, n = m := ⟨n.toNat, by omega⟩
      exact walk_ok A c L m w hr hn.1 (by omega) (by omega) hg HT
    · exact walk_bad A c L n w hr hn hg HT

set_option maxRecDepth 100000 in
theorem lifted (os : Os) (started : os.Started) (H : Type) (enc : TypeId × Value → H) :
    ReturnsInHanded {} Try.checked os 5 .any (Rows.faceBestSpec.pre6 enc Try.prog Try.f5 Rows.faceBestRow.domain false) (Rows.faceBestSpec.post enc Try.prog Try.f5 false true false false) := by
  refine returnsInHanded_of_change (C := Try.checked) own started (by kernel_rfl) Try.func5
    (ChangeSpec.witness6 (enc := enc) (C := Try.checked) false ⟨#[], #[.slice none 0 0, .int .i64 0], []⟩ 8 (by kernel_rfl) (by kernel_rfl) (by kernel_rfl) (by kernel_rfl)) ?_
  intro W base args ds gs before hval0 hW hcnd _
  have hval : ∀ (j : Nat) t v, Try.f5.params[j]? = some t → args[j]? = some v → Value.okWide Try.prog W .any base t v := hval0
  have hW' := hW
  obtain ⟨p, q, hA0, hV, rfl, hfz, hnd⟩ := hW
  have hA : DataW.TrodAll enc Try.prog W 0 (fun _ => true) true Try.f5.params.toList args.toList ds p := hA0
  rw [Try.params5] at hA hval
  obtain ⟨v0, v1, d0, d1, p0, p1, rfl, rfl, rfl, h0, h1⟩ := trodAll_two hA
  obtain ⟨rfl, rfl⟩ := trodVars_none hV
  obtain ⟨A0, c0, l0, rfl, hr0⟩ := Mm.open_list (α := Tk.Tsk) Try.underlying22 Tk.opTasks (hval 0 22 v0 rfl rfl) h0
  obtain ⟨n1, rfl, f1⟩ := Mm.open_num' Try.underlying3 (hval 1 3 v1 rfl rfl) h1
  clear hA0 hval0
  refine (walk A0 c0 l0 n1 W hr0 f1).mono fun e W' ⟨he, bel⟩ => ?_
  subst he
  have hlt0 : ∀ x ∈ p0, x.block < W.heap.size := fun x hx => hW'.lt x (by simp [hx])
  have hlt1 : ∀ x ∈ p1, x.block < W.heap.size := fun x hx => hW'.lt x (by simp [hx])
  exact ⟨_, rfl, _, _, _, [], _, [], hW', trodAll_mk1 (shut_bool Try.underlying4 _), trodAll_mk2 (Below.trod laidOut (by kernel_rfl) (of_decide_eq_true (by kernel_rfl)) h0 bel hlt0) (Below.trod laidOut (by kernel_rfl) (of_decide_eq_true (by kernel_rfl)) h1 bel hlt1), rfl, bel.frame _, fun h => by cases h⟩

/-- The statement. -/
theorem proved : Rows.FaceBestSaid :=
  OpenClaim.holds_of_wide 5 Try.f5 rfl rfl rfl rfl rfl rfl rfl ⟨rfl, rfl, rfl, rfl, rfl⟩ rfl rfl rfl rfl rfl (by kernel_rfl) Try.func5 (by kernel_rfl)
    (of_decide_eq_true (by kernel_rfl)) (by unfold Func.isWrapper; first | (rw [if_pos (by decide +kernel)]; kernel_rfl) | (rw [if_neg (by decide +kernel)]; exact ⟨rfl, rfl⟩))
    (fun os started H enc _ => lifted os started H enc)
#print axioms proved

end Go.Proofs.Ythfgdkhfblekoaa.faceBest
