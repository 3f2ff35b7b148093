/-
  For any ticks and any table the statement TableBack of layer 13 returns true (the ticks of the table of ticks are they; the table of a table's ticks is it; or the error is told), and its arguments read as before. No condition.
-/
import Derived.Test.YtpodahnmdakjjaaGlaw13
import Derived.Test.YtpodahnmdakjjaaGlaw05
namespace Go.Proofs.Ytpodahnmdakjjaa.tableBack
open Go.ChangeShapes Go.WideShapes Go.ChangeAt Go.RowKit
open Mm Tb

/-- as far as the first k ticks were looked at, these are ticks of a table -/
def okTo (l : List Int) : Nat → Bool
  | 0 => decide (1 ≤ l.length ∧ l.length ≤ 240)
  | k + 1 => okTo l k && decide (-1 ≤ at_ l k ∧ at_ l k ≤ 3)
theorem okTo_iff {l : List Int} : ∀ {k}, okTo l k = true ↔ (1 ≤ l.length ∧ l.length ≤ 240) ∧ ∀ j, j < k → -1 ≤ at_ l j ∧ at_ l j ≤ 3
  | 0 => by
    rw [okTo, decide_eq_true_iff]
    exact ⟨fun h => ⟨h, fun j hj => by omega⟩, fun h => h.1⟩
  | k + 1 => by
    rw [okTo, Bool.and_eq_true, decide_eq_true_iff, okTo_iff (k := k)]
    constructor
    · rintro ⟨⟨h1, h2⟩, h3⟩
      refine ⟨h1, fun j hj => ?_⟩
      by_cases e : j = k
      · subst e; exact h3
      · exact h2 j (by omega)
    · rintro ⟨h1, h2⟩
      exact ⟨⟨h1, fun j hj => h2 j (by omega)⟩, h2 k (by omega)⟩
theorem okTo_end {l : List Int} : okTo l l.length = true ↔ ofOk l := by
  rw [okTo_iff]
  exact ⟨fun h => ⟨h.1.1, h.1.2, h.2⟩, fun h => ⟨⟨h.1, h.2.1⟩, h.2.2⟩⟩
theorem okTo_no {l : List Int} (h : ¬ ofOk l) : okTo l l.length = false := by
  cases e : okTo l l.length with
  | false => rfl
  | true => exact absurd (okTo_end.1 e) h

set_option maxRecDepth 20000 in
set_option maxHeartbeats 6400000 in
theorem walk (A : Option Addr) (c : Nat) (l : List Int) (B : Option Addr) (d : Nat) (f : Int) (W : List Win) (w : World) (hr0 : Rd w A c l) (fa : Fit f) (hr : Rd w B d W) :
    Calls Try.prog 4 #[.slice A l.length c, .agg #[.int .i64 f, .slice B W.length d]] w fun e w' => e = .returned (.bool true) ∧ Below w.heap.size w w' := by
  have hmax := hr0.max
  have hle := hr0.le
  unfold maxLen at hmax
  have bz := below_one w (Obj.cells #[.int .i64 f, .slice B W.length d] 24)
  have x1 := (tx_new w f B W.length d).f
  have x2 := (tx_new w f B W.length d).l
  have B0 := Lib.hid bz
  have HRR := Lib.hid (hr.below bz)
  have HR0 := Lib.hid (hr0.below bz)
  clear bz hr hr0
  by_cases hlen : 300 < l.length
  · have i1 : (300 : Int) < (l.length : Int) := by omega
    go_enter Try.func4, Try.ntmps4
    go_wp2_with fail
    refine (knows13_any _).mono ?_
    rintro e w1 ⟨rfl, b1⟩
    have B1 := Lib.hid (below_step B0.out b1)
    clear b1
    go_wp2_with fail
    go_ret
    exact ⟨rfl, B1.out⟩
  · have i1 : ¬ (300 : Int) < (l.length : Int) := by omega
    by_cases hlen2 : 100 < W.length
    · have i2 : (100 : Int) < (W.length : Int) := by omega
      go_enter Try.func4, Try.ntmps4
      go_wp2_with fail
      refine (knows13_any _).mono ?_
      rintro e w1 ⟨rfl, b1⟩
      have B1 := Lib.hid (below_step B0.out b1)
      clear b1
      go_wp2_with fail
      go_ret
      exact ⟨rfl, B1.out⟩
    · have i2 : ¬ (100 : Int) < (W.length : Int) := by omega
      have HT : Hid (WL _ B d W) := ⟨by omega, HRR.out⟩
      have HL : Hid (IL _ A c l) := ⟨by omega, HR0.out⟩
      clear HRR HR0 hle hmax
      by_cases i3 : (0 : Int) < (l.length : Int)
      · by_cases i4 : (l.length : Int) ≤ 240
        · by_cases ho : ofOk l
          · have HO := Lib.hid ho
            clear ho
            obtain ⟨kl, hkl⟩ : ∃ kl, l.length = kl := ⟨_, rfl⟩
            rw [hkl] at i1 i3 i4 hlen ⊢
            cases hb : rightB f W with
            | false =>
              have HC5 := Lib.hid (ticks_to f B d W [] 0 1 (ticks_wrong hb).1 rfl (ticks_wrong hb).2 W.length rfl)
              clear hb
              go_enter Try.func4, Try.ntmps4
              go_wp2_with fail
              generalize w.alloc (Obj.cells #[.int .i64 f, .slice B W.length d] 24) = w0 at *
              refine (of_good A c l kl hkl HO.out _ HL.out).mono ?_
              rintro e w1 ⟨V, m, hm, hr1, ht1, D, dp, rfl, _, hv1, b1⟩
              have bz := below_one w1 (Obj.cells #[.int .i64 kl, .slice D m dp] 24)
              have y1 := (tx_new w1 kl D m dp).f
              have y2 := (tx_new w1 kl D m dp).l
              replace HL := Lib.hid ((HL.out.below b1).below bz)
              replace HT := Lib.hid ((HT.out.below b1).below bz)
              have HV1 := Lib.hid (hv1.below bz)
              have HM := Lib.hid hm
              have HC3 := Lib.hid (ticks_to kl D dp V l kl 0 ((ticks_right hr1).1.trans ht1) hkl (ticks_right hr1).2 m hm)
              have HC4 := Lib.hid (right_to kl D dp V true hr1 m hm)
              replace x1 := (cell_below b1) x1
              replace x2 := (cell_below b1) x2
              replace x1 := (cell_below bz) x1
              replace x2 := (cell_below bz) x2
              have B1 := Lib.hid (below_step (below_step B0.out b1) bz)
              clear b1 bz hv1 hm hr1 ht1
              go_wp2_with fail
              generalize w1.alloc (Obj.cells #[.int .i64 kl, .slice D m dp] 24) = wq at *
              have X1 := Lib.hid x1
              have X2 := Lib.hid x2
              have Y1 := Lib.hid y1
              have Y2 := Lib.hid y2
              clear x1 x2 y1 y2
              subst hkl
              have HV0 : Hid (okTo l 0 = true) := (by show _ = _; rw [okTo_iff]; exact ⟨⟨HO.out.1, HO.out.2.1⟩, fun j hj => by omega⟩)
              go_loopw [7, 8] (fun o i wr => ∃ (k : Nat) (v : Bool), i = .int .i64 k ∧ o = .bool v ∧ k ≤ l.length ∧ Hid (okTo l k = v) ∧ Hid (Below wq.heap.size wq wr)) (fun _ i _ => l.length - (intOf i).toNat)
              case atStart => exact ⟨0, true, rfl, rfl, Nat.zero_le _, HV0.out, Below.refl _ _⟩
              case round =>
                obtain ⟨k, v, rfl, rfl, hk, HV, HB⟩ := hrel
                by_cases hlt : k < l.length
                · have hs : okTo l (k + 1) = (okTo l k && decide (-1 ≤ at_ l k ∧ at_ l k ≤ 3)) := rfl
                  rw [HV.out] at hs
                  obtain ⟨b, off, rfl, hc⟩ := (HL.out.2.below HB.out).int (by omega)
                  obtain ⟨z1, _⟩ := hc k hlt
                  clear hc
                  have i5 : (0 : Int) ≤ (k : Int) := by omega
                  have i6 : (k : Int) < (l.length : Int) := by omega
                  generalize at_ l k = x at *
                  cases v with
                  | false =>
                    have HS : Hid (okTo l (k + 1) = false) := by show _ = _; rw [hs]; simp [Bool.false_and]
                    clear hs
                    go_wp2_with fail
                    go_roundw
                    case rel => exact ⟨k + 1, false, by go_num, rfl, hlt, HS.out, HB.out⟩
                    case measure => (simp [intOf] <;> omega)
                  | true =>
                    by_cases e1 : -1 ≤ x
                    · by_cases e2 : x ≤ 3
                      · have HS : Hid (okTo l (k + 1) = true) := by show _ = _; rw [hs]; simp [e1, e2]
                        clear hs
                        go_wp2_with fail
                        go_roundw
                        case rel => exact ⟨k + 1, true, by go_num, rfl, hlt, HS.out, HB.out⟩
                        case measure => (simp [intOf] <;> omega)
                      · skip
                        have HS : Hid (okTo l (k + 1) = false) := by show _ = _; rw [hs]; simp [e2]
                        clear hs
                        go_wp2_with fail
                        go_roundw
                        case rel => exact ⟨k + 1, false, by go_num, rfl, hlt, HS.out, HB.out⟩
                        case measure => (simp [intOf] <;> omega)
                    · skip
                      have HS : Hid (okTo l (k + 1) = false) := by show _ = _; rw [hs]; simp [e1]
                      clear hs
                      go_wp2_with fail
                      go_roundw
                      case rel => exact ⟨k + 1, false, by go_num, rfl, hlt, HS.out, HB.out⟩
                      case measure => (simp [intOf] <;> omega)
                · obtain rfl : k = l.length := by omega
                  clear hlt HV0
                  have hv : v = true := by rw [← HV.out]; exact okTo_end.2 HO.out
                  subst hv
                  have x1 := cell_below HB.out X1.out
                  have x2 := cell_below HB.out X2.out
                  have y1 := cell_below HB.out Y1.out
                  have y2 := cell_below HB.out Y2.out
                  replace HL := Lib.hid (HL.out.below HB.out)
                  replace HT := Lib.hid (HT.out.below HB.out)
                  replace HV1 := Lib.hid (HV1.out.below HB.out)
                  have B2 := Lib.hid (below_step B1.out HB.out)
                  clear HV HB
                  go_wp2_with fail
                  refine (HC3.out _ HV1.out).mono ?_
                  rintro e w3 ⟨E, ep, rfl, hr3, b3⟩
                  have HR3 := Lib.hid hr3
                  replace HL := Lib.hid (HL.out.below b3)
                  replace HT := Lib.hid (HT.out.below b3)
                  replace HV1 := Lib.hid (HV1.out.below b3)
                  replace x1 := (cell_below b3) x1
                  replace x2 := (cell_below b3) x2
                  replace y1 := (cell_below b3) y1
                  replace y2 := (cell_below b3) y2
                  have B3 := Lib.hid (below_step B2.out b3)
                  clear b3 hr3
                  go_wp2_with fail
                  refine (Bk.sameInts_one E A ep c l l.length rfl _ (by omega) HR3.out HL.out.2).mono ?_
                  rintro e w4 ⟨rfl, b4⟩
                  replace x1 := cell_below b4 x1
                  replace x2 := cell_below b4 x2
                  replace y1 := cell_below b4 y1
                  replace y2 := cell_below b4 y2
                  have B4 := Lib.hid (below_step B3.out b4)
                  replace HT := Lib.hid (HT.out.below b4)
                  replace HV1 := Lib.hid (HV1.out.below b4)
                  clear b4
                  go_wp2_with fail
                  refine (HC4.out _ HV1.out).mono ?_
                  rintro e w5 ⟨rfl, b5⟩
                  replace x1 := cell_below b5 x1
                  replace x2 := cell_below b5 x2
                  have B5 := Lib.hid (below_step B4.out b5)
                  replace HT := Lib.hid (HT.out.below b5)
                  clear b5
                  go_wp2_with fail
                  refine (HC5.out _ HT.out).mono ?_
                  rintro e w6 ⟨G, gp, rfl, _, b6⟩
                  have B6 := Lib.hid (below_step B5.out b6)
                  clear b6
                  go_wp2_with fail
                  refine (knows13_any _).mono ?_
                  rintro e w7 ⟨rfl, b7⟩
                  have B7 := Lib.hid (below_step B6.out b7)
                  clear b7
                  go_wp2_with fail
                  go_ret
                  exact ⟨rfl, B7.out⟩
            | true =>
              obtain ⟨hf, hfine⟩ := right_iff.1 hb
              obtain ⟨fr, rfl⟩ : ∃ fr : Nat, f = fr := ⟨f.toNat, by omega⟩
              have hf2 : fr ≤ 240 := by omega
              have HC5 := Lib.hid (ticks_to fr B d W (tkL fr W) fr 0 (ticks_right hb).1 (tkL_length _ _) (ticks_right hb).2 W.length rfl)
              have HC6 := Lib.hid (fun A c w H => of_told A c (tkL fr W) W fr W.length (tkL_length _ _) rfl (tkL_ok hb) hb rfl w H)
              clear hb hf hfine
              go_enter Try.func4, Try.ntmps4
              go_wp2_with fail
              generalize w.alloc (Obj.cells #[.int .i64 fr, .slice B W.length d] 24) = w0 at *
              refine (of_good A c l kl hkl HO.out _ HL.out).mono ?_
              rintro e w1 ⟨V, m, hm, hr1, ht1, D, dp, rfl, _, hv1, b1⟩
              have bz := below_one w1 (Obj.cells #[.int .i64 kl, .slice D m dp] 24)
              have y1 := (tx_new w1 kl D m dp).f
              have y2 := (tx_new w1 kl D m dp).l
              replace HL := Lib.hid ((HL.out.below b1).below bz)
              replace HT := Lib.hid ((HT.out.below b1).below bz)
              have HV1 := Lib.hid (hv1.below bz)
              have HM := Lib.hid hm
              have HC3 := Lib.hid (ticks_to kl D dp V l kl 0 ((ticks_right hr1).1.trans ht1) hkl (ticks_right hr1).2 m hm)
              have HC4 := Lib.hid (right_to kl D dp V true hr1 m hm)
              replace x1 := (cell_below b1) x1
              replace x2 := (cell_below b1) x2
              replace x1 := (cell_below bz) x1
              replace x2 := (cell_below bz) x2
              have B1 := Lib.hid (below_step (below_step B0.out b1) bz)
              clear b1 bz hv1 hm hr1 ht1
              go_wp2_with fail
              generalize w1.alloc (Obj.cells #[.int .i64 kl, .slice D m dp] 24) = wq at *
              have X1 := Lib.hid x1
              have X2 := Lib.hid x2
              have Y1 := Lib.hid y1
              have Y2 := Lib.hid y2
              clear x1 x2 y1 y2
              subst hkl
              have HV0 : Hid (okTo l 0 = true) := (by show _ = _; rw [okTo_iff]; exact ⟨⟨HO.out.1, HO.out.2.1⟩, fun j hj => by omega⟩)
              go_loopw [7, 8] (fun o i wr => ∃ (k : Nat) (v : Bool), i = .int .i64 k ∧ o = .bool v ∧ k ≤ l.length ∧ Hid (okTo l k = v) ∧ Hid (Below wq.heap.size wq wr)) (fun _ i _ => l.length - (intOf i).toNat)
              case atStart => exact ⟨0, true, rfl, rfl, Nat.zero_le _, HV0.out, Below.refl _ _⟩
              case round =>
                obtain ⟨k, v, rfl, rfl, hk, HV, HB⟩ := hrel
                by_cases hlt : k < l.length
                · have hs : okTo l (k + 1) = (okTo l k && decide (-1 ≤ at_ l k ∧ at_ l k ≤ 3)) := rfl
                  rw [HV.out] at hs
                  obtain ⟨b, off, rfl, hc⟩ := (HL.out.2.below HB.out).int (by omega)
                  obtain ⟨z1, _⟩ := hc k hlt
                  clear hc
                  have i5 : (0 : Int) ≤ (k : Int) := by omega
                  have i6 : (k : Int) < (l.length : Int) := by omega
                  generalize at_ l k = x at *
                  cases v with
                  | false =>
                    have HS : Hid (okTo l (k + 1) = false) := by show _ = _; rw [hs]; simp [Bool.false_and]
                    clear hs
                    go_wp2_with fail
                    go_roundw
                    case rel => exact ⟨k + 1, false, by go_num, rfl, hlt, HS.out, HB.out⟩
                    case measure => (simp [intOf] <;> omega)
                  | true =>
                    by_cases e1 : -1 ≤ x
                    · by_cases e2 : x ≤ 3
                      · have HS : Hid (okTo l (k + 1) = true) := by show _ = _; rw [hs]; simp [e1, e2]
                        clear hs
                        go_wp2_with fail
                        go_roundw
                        case rel => exact ⟨k + 1, true, by go_num, rfl, hlt, HS.out, HB.out⟩
                        case measure => (simp [intOf] <;> omega)
                      · skip
                        have HS : Hid (okTo l (k + 1) = false) := by show _ = _; rw [hs]; simp [e2]
                        clear hs
                        go_wp2_with fail
                        go_roundw
                        case rel => exact ⟨k + 1, false, by go_num, rfl, hlt, HS.out, HB.out⟩
                        case measure => (simp [intOf] <;> omega)
                    · skip
                      have HS : Hid (okTo l (k + 1) = false) := by show _ = _; rw [hs]; simp [e1]
                      clear hs
                      go_wp2_with fail
                      go_roundw
                      case rel => exact ⟨k + 1, false, by go_num, rfl, hlt, HS.out, HB.out⟩
                      case measure => (simp [intOf] <;> omega)
                · obtain rfl : k = l.length := by omega
                  clear hlt HV0
                  have hv : v = true := by rw [← HV.out]; exact okTo_end.2 HO.out
                  subst hv
                  have x1 := cell_below HB.out X1.out
                  have x2 := cell_below HB.out X2.out
                  have y1 := cell_below HB.out Y1.out
                  have y2 := cell_below HB.out Y2.out
                  replace HL := Lib.hid (HL.out.below HB.out)
                  replace HT := Lib.hid (HT.out.below HB.out)
                  replace HV1 := Lib.hid (HV1.out.below HB.out)
                  have B2 := Lib.hid (below_step B1.out HB.out)
                  clear HV HB
                  go_wp2_with fail
                  refine (HC3.out _ HV1.out).mono ?_
                  rintro e w3 ⟨E, ep, rfl, hr3, b3⟩
                  have HR3 := Lib.hid hr3
                  replace HL := Lib.hid (HL.out.below b3)
                  replace HT := Lib.hid (HT.out.below b3)
                  replace HV1 := Lib.hid (HV1.out.below b3)
                  replace x1 := (cell_below b3) x1
                  replace x2 := (cell_below b3) x2
                  replace y1 := (cell_below b3) y1
                  replace y2 := (cell_below b3) y2
                  have B3 := Lib.hid (below_step B2.out b3)
                  clear b3 hr3
                  go_wp2_with fail
                  refine (Bk.sameInts_one E A ep c l l.length rfl _ (by omega) HR3.out HL.out.2).mono ?_
                  rintro e w4 ⟨rfl, b4⟩
                  replace x1 := cell_below b4 x1
                  replace x2 := cell_below b4 x2
                  replace y1 := cell_below b4 y1
                  replace y2 := cell_below b4 y2
                  have B4 := Lib.hid (below_step B3.out b4)
                  replace HT := Lib.hid (HT.out.below b4)
                  replace HV1 := Lib.hid (HV1.out.below b4)
                  clear b4
                  go_wp2_with fail
                  refine (HC4.out _ HV1.out).mono ?_
                  rintro e w5 ⟨rfl, b5⟩
                  replace x1 := cell_below b5 x1
                  replace x2 := cell_below b5 x2
                  have B5 := Lib.hid (below_step B4.out b5)
                  replace HT := Lib.hid (HT.out.below b5)
                  clear b5
                  go_wp2_with fail
                  refine (HC5.out _ HT.out).mono ?_
                  rintro e w6 ⟨G, gp, rfl, hr6, b6⟩
                  have HR6 : Hid (IL w6 G gp (tkL fr W)) := tkL_il hf2 hr6
                  replace HT := Lib.hid (HT.out.below b6)
                  replace x1 := (cell_below b6) x1
                  replace x2 := (cell_below b6) x2
                  have B6 := Lib.hid (below_step B5.out b6)
                  clear b6 hr6
                  go_wp2_with fail
                  refine (HC6.out _ _ _ HR6.out).mono ?_
                  rintro e w7 ⟨S, sp, rfl, _, hs7, b7⟩
                  have bz := below_one w7 (Obj.cells #[.int .i64 fr, .slice S W.length sp] 24)
                  have u1 := (tx_new w7 fr S W.length sp).f
                  have u2 := (tx_new w7 fr S W.length sp).l
                  have HS7 := Lib.hid (hs7.below bz)
                  replace HT := Lib.hid ((HT.out.below b7).below bz)
                  replace x1 := (cell_below b7) x1
                  replace x2 := (cell_below b7) x2
                  replace x1 := (cell_below bz) x1
                  replace x2 := (cell_below bz) x2
                  have B7 := Lib.hid (below_step (below_step B6.out b7) bz)
                  clear b7 bz hs7
                  go_wp2_with fail
                  generalize w7.alloc (Obj.cells #[.int .i64 fr, .slice S W.length sp] 24) = v7 at *
                  refine (same_one fr S B sp d W W.length rfl _ HS7.out HT.out).mono ?_
                  rintro e w8 ⟨rfl, b8⟩
                  have B8 := Lib.hid (below_step B7.out b8)
                  clear b8
                  go_wp2_with fail
                  refine (knows13_any _).mono ?_
                  rintro e w9 ⟨rfl, b9⟩
                  have B9 := Lib.hid (below_step B8.out b9)
                  clear b9
                  go_wp2_with fail
                  go_ret
                  exact ⟨rfl, B9.out⟩
          · have HO := Lib.hid ho
            clear ho
            go_enter Try.func4, Try.ntmps4
            go_wp2_with fail
            generalize w.alloc (Obj.cells #[.int .i64 f, .slice B W.length d] 24) = w0 at *
            refine (of_bad A c l l.length rfl HO.out _ HL.out).mono ?_
            rintro e w1 ⟨rfl, b1⟩
            have bz := below_one w1 (Obj.cells #[.int .i64 0, .slice none 0 0] 24)
            have y1 := (tx_new w1 0 none 0 0).f
            have y2 := (tx_new w1 0 none 0 0).l
            replace HL := Lib.hid ((HL.out.below b1).below bz)
            have B1 := Lib.hid (below_step (below_step B0.out b1) bz)
            clear b1 bz x1 x2 HT
            go_wp2_with fail
            generalize w1.alloc (Obj.cells #[.int .i64 0, .slice none 0 0] 24) = wq at *
            have Y1 := Lib.hid y1
            have Y2 := Lib.hid y2
            clear y1 y2
            have HV0 : Hid (okTo l 0 = true) := (by show _ = _; rw [okTo_iff]; exact ⟨⟨by omega, by omega⟩, fun j hj => by omega⟩)
            go_loopw [7, 8] (fun o i wr => ∃ (k : Nat) (v : Bool), i = .int .i64 k ∧ o = .bool v ∧ k ≤ l.length ∧ Hid (okTo l k = v) ∧ Hid (Below wq.heap.size wq wr)) (fun _ i _ => l.length - (intOf i).toNat)
            case atStart => exact ⟨0, true, rfl, rfl, Nat.zero_le _, HV0.out, Below.refl _ _⟩
            case round =>
              obtain ⟨k, v, rfl, rfl, hk, HV, HB⟩ := hrel
              by_cases hlt : k < l.length
              · have hs : okTo l (k + 1) = (okTo l k && decide (-1 ≤ at_ l k ∧ at_ l k ≤ 3)) := rfl
                rw [HV.out] at hs
                obtain ⟨b, off, rfl, hc⟩ := (HL.out.2.below HB.out).int (by omega)
                obtain ⟨z1, _⟩ := hc k hlt
                clear hc
                have i5 : (0 : Int) ≤ (k : Int) := by omega
                have i6 : (k : Int) < (l.length : Int) := by omega
                generalize at_ l k = x at *
                cases v with
                | false =>
                  have HS : Hid (okTo l (k + 1) = false) := by show _ = _; rw [hs]; simp [Bool.false_and]
                  clear hs
                  go_wp2_with fail
                  go_roundw
                  case rel => exact ⟨k + 1, false, by go_num, rfl, hlt, HS.out, HB.out⟩
                  case measure => (simp [intOf] <;> omega)
                | true =>
                  by_cases e1 : -1 ≤ x
                  · by_cases e2 : x ≤ 3
                    · have HS : Hid (okTo l (k + 1) = true) := by show _ = _; rw [hs]; simp [e1, e2]
                      clear hs
                      go_wp2_with fail
                      go_roundw
                      case rel => exact ⟨k + 1, true, by go_num, rfl, hlt, HS.out, HB.out⟩
                      case measure => (simp [intOf] <;> omega)
                    · skip
                      have HS : Hid (okTo l (k + 1) = false) := by show _ = _; rw [hs]; simp [e2]
                      clear hs
                      go_wp2_with fail
                      go_roundw
                      case rel => exact ⟨k + 1, false, by go_num, rfl, hlt, HS.out, HB.out⟩
                      case measure => (simp [intOf] <;> omega)
                  · skip
                    have HS : Hid (okTo l (k + 1) = false) := by show _ = _; rw [hs]; simp [e1]
                    clear hs
                    go_wp2_with fail
                    go_roundw
                    case rel => exact ⟨k + 1, false, by go_num, rfl, hlt, HS.out, HB.out⟩
                    case measure => (simp [intOf] <;> omega)
              · obtain rfl : k = l.length := by omega
                clear hlt HV0
                have hv : v = false := by rw [← HV.out]; exact okTo_no HO.out
                subst hv
                have y1 := cell_below HB.out Y1.out
                have y2 := cell_below HB.out Y2.out
                have B2 := Lib.hid (below_step B1.out HB.out)
                clear HV
                go_wp2_with fail
                refine (same_none _).mono ?_
                rintro e w3 ⟨rfl, b3⟩
                have B3 := Lib.hid (below_step B2.out b3)
                clear b3
                go_wp2_with fail
                refine (knows13_any _).mono ?_
                rintro e w4 ⟨rfl, b4⟩
                have B4 := Lib.hid (below_step B3.out b4)
                clear b4
                go_wp2_with fail
                go_ret
                exact ⟨rfl, B4.out⟩
        · have HO : Hid (¬ ofOk l) := fun h => by have := h.2.1; omega
          have d4 : decide ((l.length : Int) ≤ 240) = false := decide_eq_false i4
          go_enter Try.func4, Try.ntmps4
          go_wp2_with fail
          generalize w.alloc (Obj.cells #[.int .i64 f, .slice B W.length d] 24) = w0 at *
          refine (of_bad A c l l.length rfl HO.out _ HL.out).mono ?_
          rintro e w1 ⟨rfl, b1⟩
          have bz := below_one w1 (Obj.cells #[.int .i64 0, .slice none 0 0] 24)
          have y1 := (tx_new w1 0 none 0 0).f
          have y2 := (tx_new w1 0 none 0 0).l
          replace HL := Lib.hid ((HL.out.below b1).below bz)
          have B1 := Lib.hid (below_step (below_step B0.out b1) bz)
          clear b1 bz x1 x2 HT
          go_wp2_with fail
          generalize w1.alloc (Obj.cells #[.int .i64 0, .slice none 0 0] 24) = wq at *
          have Y1 := Lib.hid y1
          have Y2 := Lib.hid y2
          clear y1 y2
          have HV0 : Hid (okTo l 0 = false) := (by show _ = _; unfold okTo; exact decide_eq_false (fun h => by omega))
          go_loopw [7, 8] (fun o i wr => ∃ (k : Nat) (v : Bool), i = .int .i64 k ∧ o = .bool v ∧ k ≤ l.length ∧ Hid (okTo l k = v) ∧ Hid (Below wq.heap.size wq wr)) (fun _ i _ => l.length - (intOf i).toNat)
          case atStart => exact ⟨0, false, rfl, rfl, Nat.zero_le _, HV0.out, Below.refl _ _⟩
          case round =>
            obtain ⟨k, v, rfl, rfl, hk, HV, HB⟩ := hrel
            by_cases hlt : k < l.length
            · have hs : okTo l (k + 1) = (okTo l k && decide (-1 ≤ at_ l k ∧ at_ l k ≤ 3)) := rfl
              rw [HV.out] at hs
              obtain ⟨b, off, rfl, hc⟩ := (HL.out.2.below HB.out).int (by omega)
              obtain ⟨z1, _⟩ := hc k hlt
              clear hc
              have i5 : (0 : Int) ≤ (k : Int) := by omega
              have i6 : (k : Int) < (l.length : Int) := by omega
              generalize at_ l k = x at *
              cases v with
              | false =>
                have HS : Hid (okTo l (k + 1) = false) := by show _ = _; rw [hs]; simp [Bool.false_and]
                clear hs
                go_wp2_with fail
                go_roundw
                case rel => exact ⟨k + 1, false, by go_num, rfl, hlt, HS.out, HB.out⟩
                case measure => (simp [intOf] <;> omega)
              | true =>
                by_cases e1 : -1 ≤ x
                · by_cases e2 : x ≤ 3
                  · have HS : Hid (okTo l (k + 1) = true) := by show _ = _; rw [hs]; simp [e1, e2]
                    clear hs
                    go_wp2_with fail
                    go_roundw
                    case rel => exact ⟨k + 1, true, by go_num, rfl, hlt, HS.out, HB.out⟩
                    case measure => (simp [intOf] <;> omega)
                  · skip
                    have HS : Hid (okTo l (k + 1) = false) := by show _ = _; rw [hs]; simp [e2]
                    clear hs
                    go_wp2_with fail
                    go_roundw
                    case rel => exact ⟨k + 1, false, by go_num, rfl, hlt, HS.out, HB.out⟩
                    case measure => (simp [intOf] <;> omega)
                · skip
                  have HS : Hid (okTo l (k + 1) = false) := by show _ = _; rw [hs]; simp [e1]
                  clear hs
                  go_wp2_with fail
                  go_roundw
                  case rel => exact ⟨k + 1, false, by go_num, rfl, hlt, HS.out, HB.out⟩
                  case measure => (simp [intOf] <;> omega)
            · obtain rfl : k = l.length := by omega
              clear hlt HV0
              have hv : v = false := by rw [← HV.out]; exact okTo_no HO.out
              subst hv
              have y1 := cell_below HB.out Y1.out
              have y2 := cell_below HB.out Y2.out
              have B2 := Lib.hid (below_step B1.out HB.out)
              clear HV
              go_wp2_with fail
              refine (same_none _).mono ?_
              rintro e w3 ⟨rfl, b3⟩
              have B3 := Lib.hid (below_step B2.out b3)
              clear b3
              go_wp2_with fail
              refine (knows13_any _).mono ?_
              rintro e w4 ⟨rfl, b4⟩
              have B4 := Lib.hid (below_step B3.out b4)
              clear b4
              go_wp2_with fail
              go_ret
              exact ⟨rfl, B4.out⟩
      · have HO : Hid (¬ ofOk l) := fun h => by have := h.1; omega
        go_enter Try.func4, Try.ntmps4
        go_wp2_with fail
        generalize w.alloc (Obj.cells #[.int .i64 f, .slice B W.length d] 24) = w0 at *
        refine (of_bad A c l l.length rfl HO.out _ HL.out).mono ?_
        rintro e w1 ⟨rfl, b1⟩
        have bz := below_one w1 (Obj.cells #[.int .i64 0, .slice none 0 0] 24)
        have y1 := (tx_new w1 0 none 0 0).f
        have y2 := (tx_new w1 0 none 0 0).l
        replace HL := Lib.hid ((HL.out.below b1).below bz)
        have B1 := Lib.hid (below_step (below_step B0.out b1) bz)
        clear b1 bz x1 x2 HT
        go_wp2_with fail
        generalize w1.alloc (Obj.cells #[.int .i64 0, .slice none 0 0] 24) = wq at *
        have Y1 := Lib.hid y1
        have Y2 := Lib.hid y2
        clear y1 y2
        have HV0 : Hid (okTo l 0 = false) := (by show _ = _; unfold okTo; exact decide_eq_false (fun h => by omega))
        go_loopw [7, 8] (fun o i wr => ∃ (k : Nat) (v : Bool), i = .int .i64 k ∧ o = .bool v ∧ k ≤ l.length ∧ Hid (okTo l k = v) ∧ Hid (Below wq.heap.size wq wr)) (fun _ i _ => l.length - (intOf i).toNat)
        case atStart => exact ⟨0, false, rfl, rfl, Nat.zero_le _, HV0.out, Below.refl _ _⟩
        case round =>
          obtain ⟨k, v, rfl, rfl, hk, HV, HB⟩ := hrel
          by_cases hlt : k < l.length
          · have hs : okTo l (k + 1) = (okTo l k && decide (-1 ≤ at_ l k ∧ at_ l k ≤ 3)) := rfl
            rw [HV.out] at hs
            obtain ⟨b, off, rfl, hc⟩ := (HL.out.2.below HB.out).int (by omega)
            obtain ⟨z1, _⟩ := hc k hlt
            clear hc
            have i5 : (0 : Int) ≤ (k : Int) := by omega
            have i6 : (k : Int) < (l.length : Int) := by omega
            generalize at_ l k = x at *
            cases v with
            | false =>
              have HS : Hid (okTo l (k + 1) = false) := by show _ = _; rw [hs]; simp [Bool.false_and]
              clear hs
              go_wp2_with fail
              go_roundw
              case rel => exact ⟨k + 1, false, by go_num, rfl, hlt, HS.out, HB.out⟩
              case measure => (simp [intOf] <;> omega)
            | true =>
              by_cases e1 : -1 ≤ x
              · by_cases e2 : x ≤ 3
                · have HS : Hid (okTo l (k + 1) = true) := by show _ = _; rw [hs]; simp [e1, e2]
                  clear hs
                  go_wp2_with fail
                  go_roundw
                  case rel => exact ⟨k + 1, true, by go_num, rfl, hlt, HS.out, HB.out⟩
                  case measure => (simp [intOf] <;> omega)
                · skip
                  have HS : Hid (okTo l (k + 1) = false) := by show _ = _; rw [hs]; simp [e2]
                  clear hs
                  go_wp2_with fail
                  go_roundw
                  case rel => exact ⟨k + 1, false, by go_num, rfl, hlt, HS.out, HB.out⟩
                  case measure => (simp [intOf] <;> omega)
              · skip
                have HS : Hid (okTo l (k + 1) = false) := by show _ = _; rw [hs]; simp [e1]
                clear hs
                go_wp2_with fail
                go_roundw
                case rel => exact ⟨k + 1, false, by go_num, rfl, hlt, HS.out, HB.out⟩
                case measure => (simp [intOf] <;> omega)
          · obtain rfl : k = l.length := by omega
            clear hlt HV0
            have hv : v = false := by rw [← HV.out]; exact okTo_no HO.out
            subst hv
            have y1 := cell_below HB.out Y1.out
            have y2 := cell_below HB.out Y2.out
            have B2 := Lib.hid (below_step B1.out HB.out)
            clear HV
            go_wp2_with fail
            refine (same_none _).mono ?_
            rintro e w3 ⟨rfl, b3⟩
            have B3 := Lib.hid (below_step B2.out b3)
            clear b3
            go_wp2_with fail
            refine (knows13_any _).mono ?_
            rintro e w4 ⟨rfl, b4⟩
            have B4 := Lib.hid (below_step B3.out b4)
            clear b4
            go_wp2_with fail
            go_ret
            exact ⟨rfl, B4.out⟩

set_option maxRecDepth 100000 in
theorem lifted (os : Os) (started : os.Started) (H : Type) (enc : TypeId × Value → H) :
    ReturnsInHanded {} Try.checked os 4 .any (Rows.tableBackSpec.pre6 enc Try.prog Try.f4 Rows.tableBackRow.domain false) (Rows.tableBackSpec.post enc Try.prog Try.f4 false true false false) := by
  refine returnsInHanded_of_change (C := Try.checked) own started (by kernel_rfl) Try.func4
    (ChangeSpec.witness6 (enc := enc) (C := Try.checked) false ⟨#[], #[.slice none 0 0, .agg #[.int .i64 0, .slice none 0 0]], []⟩ 8 (by kernel_rfl) (by kernel_rfl) (by kernel_rfl) (by kernel_rfl)) ?_
  intro W base args ds gs before hval0 hW hcnd _
  have hval : ∀ (j : Nat) t v, Try.f4.params[j]? = some t → args[j]? = some v → Value.okWide Try.prog W .any base t v := hval0
  have hW' := hW
  obtain ⟨p, q, hA0, hV, rfl, hfz, hnd⟩ := hW
  have hA : DataW.TrodAll enc Try.prog W 0 (fun _ => true) true Try.f4.params.toList args.toList ds p := hA0
  rw [Try.params4] at hA hval
  obtain ⟨v0, v1, d0, d1, p0, p1, rfl, rfl, rfl, h0, h1⟩ := trodAll_two hA
  obtain ⟨rfl, rfl⟩ := trodVars_none hV
  obtain ⟨A0, c0, l0, rfl, hr0⟩ := Mm.open_list (α := Int) Try.underlying26 Mm.opInts (hval 0 26 v0 rfl rfl) h0
  obtain ⟨A1, c1, f1, W1, rfl, fa1, hr1⟩ := Tb.open_table (hval 1 24 v1 rfl rfl) h1
  clear hA0 hval0
  refine (walk A0 c0 l0 A1 c1 f1 W1 W hr0 fa1 hr1).mono fun e W' ⟨he, bel⟩ => ?_
  subst he
  have hlt0 : ∀ x ∈ p0, x.block < W.heap.size := fun x hx => hW'.lt x (by simp [hx])
  have hlt1 : ∀ x ∈ p1, x.block < W.heap.size := fun x hx => hW'.lt x (by simp [hx])
  exact ⟨_, rfl, _, _, _, [], _, [], hW', trodAll_mk1 (shut_bool Try.underlying4 _), trodAll_mk2 (Below.trod laidOut (by kernel_rfl) (of_decide_eq_true (by kernel_rfl)) h0 bel hlt0) (Below.trod laidOut (by kernel_rfl) (of_decide_eq_true (by kernel_rfl)) h1 bel hlt1), rfl, bel.frame _, fun h => by cases h⟩

/-- The statement. -/
theorem proved : Rows.TableBackSaid :=
  OpenClaim.holds_of_wide 4 Try.f4 rfl rfl rfl rfl rfl rfl rfl ⟨rfl, rfl, rfl, rfl, rfl⟩ rfl rfl rfl rfl rfl (by kernel_rfl) Try.func4 (by kernel_rfl)
    (of_decide_eq_true (by kernel_rfl)) (by unfold Func.isWrapper; first | (rw [if_pos (by decide +kernel)]; kernel_rfl) | (rw [if_neg (by decide +kernel)]; exact ⟨rfl, rfl⟩))
    (fun os started H enc _ => lifted os started H enc)
#print axioms proved

end Go.Proofs.Ytpodahnmdakjjaa.tableBack
