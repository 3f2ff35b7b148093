/-
  For any table and any tick the statement TableRights of layer 13 returns true (which tables are right, and whose their ticks are, is what the document says, or the error is told), and its arguments read as before. No condition.
-/
import Derived.Test.YtpodahnmdakjjaaGlaw13
import Derived.Test.YtpodahnmdakjjaaGlaw05
namespace Go.Proofs.Ytpodahnmdakjjaa.tableRights
open Go.ChangeShapes Go.WideShapes Go.ChangeAt Go.RowKit
open Mm Tb

theorem atV_bad {f : Int} {W : List Win} {t : Int} (h : t < 0 ∨ rightB f W = false) : atV f W t = -1 := by
  unfold atV
  rw [if_neg]
  rintro ⟨h1, h2⟩
  rcases h with h | h
  · omega
  · rw [h] at h2; cases h2
theorem refRight_to (f : Int) (A : Option Addr) (c : Nat) (W : List Win) (b : Bool) (hb : rightB f W = b) (w : World) (H : WL w A c W) :
    Calls Try.prog 10 #[.int .i64 f, .slice A W.length c] w fun e w' => e = .returned (.bool b) ∧ Below w.heap.size w w' := by
  subst hb
  exact refRight_any f A c W w H

set_option maxRecDepth 20000 in
set_option maxHeartbeats 3200000 in
theorem walk (A : Option Addr) (c : Nat) (f : Int) (W : List Win) (t : Int) (w : World) (fa : Fit f) (hr : Rd w A c W) (ft : Fit t) :
    Calls Try.prog 3 #[.agg #[.int .i64 f, .slice A W.length c], .int .i64 t] w fun e w' => e = .returned (.bool true) ∧ Below w.heap.size w w' := by
  have bz := below_one w (Obj.cells #[.int .i64 f, .slice A W.length c] 24)
  have x1 := (tx_new w f A W.length c).f
  have x2 := (tx_new w f A W.length c).l
  have B0 := Lib.hid bz
  have HRR := Lib.hid (hr.below bz)
  clear bz hr
  by_cases hlen : 100 < W.length
  · have i1 : (100 : Int) < (W.length : Int) := by omega
    go_enter Try.func3, Try.ntmps3
    go_wp2_with fail
    refine (knows13_any _).mono ?_
    rintro e w1 ⟨rfl, b1⟩
    have B1 := Lib.hid (below_step B0.out b1)
    clear b1
    go_wp2_with fail
    go_ret
    exact ⟨rfl, B1.out⟩
  · have i1 : ¬ (100 : Int) < (W.length : Int) := by omega
    have HT : Hid (WL _ A c W) := ⟨by omega, HRR.out⟩
    clear HRR
    cases hb : rightB f W with
    | false =>
      have HC1 := Lib.hid (ticks_to f A c W [] 0 1 (ticks_wrong hb).1 rfl (ticks_wrong hb).2 W.length rfl)
      have HC2 := Lib.hid (refRight_to f A c W false hb)
      have HC3 := Lib.hid (right_to f A c W false hb W.length rfl)
      have HC4 := Lib.hid (at_to f A c W t (-1) (atV_bad (.inr hb)) W.length rfl)
      clear hb
      go_enter Try.func3, Try.ntmps3
      go_wp2_with fail
      generalize w.alloc (Obj.cells #[.int .i64 f, .slice A W.length c] 24) = w0 at *
      refine (HC1.out _ HT.out).mono ?_
      rintro e w1 ⟨B, cp, rfl, _, b1⟩
      replace HT := Lib.hid (HT.out.below b1)
      replace x1 := (cell_below b1) x1
      replace x2 := (cell_below b1) x2
      have B1 := Lib.hid (below_step B0.out b1)
      clear b1
      go_wp2_with fail
      refine (HC2.out _ HT.out).mono ?_
      rintro e w2 ⟨rfl, b2⟩
      replace x1 := cell_below b2 x1
      replace x2 := cell_below b2 x2
      have B2 := Lib.hid (below_step B1.out b2)
      replace HT := Lib.hid (HT.out.below b2)
      clear b2
      go_wp2_with fail
      refine (HC3.out _ HT.out).mono ?_
      rintro e w3 ⟨rfl, b3⟩
      replace x1 := cell_below b3 x1
      replace x2 := cell_below b3 x2
      have B3 := Lib.hid (below_step B2.out b3)
      replace HT := Lib.hid (HT.out.below b3)
      clear b3
      go_wp2_with fail
      refine (HC4.out _ HT.out).mono ?_
      rintro e w4 ⟨rfl, b4⟩
      replace x1 := cell_below b4 x1
      replace x2 := cell_below b4 x2
      have B4 := Lib.hid (below_step B3.out b4)
      replace HT := Lib.hid (HT.out.below b4)
      clear b4
      go_wp2_with fail
      refine (knows13_any _).mono ?_
      rintro e w5 ⟨rfl, b5⟩
      have B5 := Lib.hid (below_step B4.out b5)
      clear b5
      go_wp2_with fail
      go_ret
      exact ⟨rfl, B5.out⟩
    | true =>
      obtain ⟨hf, hfine⟩ := right_iff.1 hb
      obtain ⟨fr, rfl⟩ : ∃ fr : Nat, f = fr := ⟨f.toNat, by omega⟩
      have hf1 : 1 ≤ fr := by omega
      have hf2 : fr ≤ 240 := by omega
      have HF := Lib.hid hfine
      have HC1 := Lib.hid (ticks_to fr A c W (tkL fr W) fr 0 (ticks_right hb).1 (tkL_length _ _) (ticks_right hb).2 W.length rfl)
      have HC2 := Lib.hid (refRight_to fr A c W true hb)
      have HC3 := Lib.hid (right_to fr A c W true hb W.length rfl)
      have HLL : Hid ((tkL fr W).length = fr) := tkL_length _ _
      obtain ⟨x, hx⟩ : ∃ x, atV fr W t = x := ⟨_, rfl⟩
      have HC4 := Lib.hid (at_to fr A c W t x hx W.length rfl)
      by_cases ht : t < 0
      · have hx1 : x = -1 := by rw [← hx]; exact atV_bad (.inl ht)
        subst hx1
        have i2 : ¬ (0 : Int) ≤ t := by omega
        clear hf hfine hb hx
        go_enter Try.func3, Try.ntmps3
        go_wp2_with fail
        generalize w.alloc (Obj.cells #[.int .i64 fr, .slice A W.length c] 24) = w0 at *
        refine (HC1.out _ HT.out).mono ?_
        rintro e w1 ⟨B, cp, rfl, hr1, b1⟩
        have HR := Lib.hid hr1
        replace HT := Lib.hid (HT.out.below b1)
        replace x1 := (cell_below b1) x1
        replace x2 := (cell_below b1) x2
        have B1 := Lib.hid (below_step B0.out b1)
        clear b1 hr1
        go_wp2_with fail
        refine (HC2.out _ HT.out).mono ?_
        rintro e w2 ⟨rfl, b2⟩
        replace x1 := cell_below b2 x1
        replace x2 := cell_below b2 x2
        have B2 := Lib.hid (below_step B1.out b2)
        replace HT := Lib.hid (HT.out.below b2)
        replace HR := Lib.hid (HR.out.below b2)
        clear b2
        go_wp2_with fail
        refine (HC3.out _ HT.out).mono ?_
        rintro e w3 ⟨rfl, b3⟩
        replace x1 := cell_below b3 x1
        replace x2 := cell_below b3 x2
        have B3 := Lib.hid (below_step B2.out b3)
        replace HT := Lib.hid (HT.out.below b3)
        replace HR := Lib.hid (HR.out.below b3)
        clear b3
        go_wp2_with fail
        refine (refTicks_any fr A c W W.length rfl _ hf1 hf2 HF.out HT.out).mono ?_
        rintro e w4 ⟨D, dp, rfl, hd, b4⟩
        have HD := Lib.hid hd
        have B4 := Lib.hid (below_step B3.out b4)
        replace HT := Lib.hid (HT.out.below b4)
        replace HR := Lib.hid (HR.out.below b4)
        replace x1 := (cell_below b4) x1
        replace x2 := (cell_below b4) x2
        clear b4 hd
        go_wp2_with fail
        refine (Bk.sameInts_one B D cp dp (tkL fr W) fr HLL.out _ (by omega) HR.out HD.out).mono ?_
        rintro e w5 ⟨rfl, b5⟩
        replace x1 := cell_below b5 x1
        replace x2 := cell_below b5 x2
        have B5 := Lib.hid (below_step B4.out b5)
        replace HT := Lib.hid (HT.out.below b5)
        clear b5
        go_wp2_with fail
        refine (HC4.out _ HT.out).mono ?_
        rintro e w6 ⟨rfl, b6⟩
        have B6 := Lib.hid (below_step B5.out b6)
        clear b6
        go_wp2_with fail
        refine (knows13_any _).mono ?_
        rintro e w7 ⟨rfl, b7⟩
        have B7 := Lib.hid (below_step B6.out b7)
        clear b7
        go_wp2_with fail
        go_ret
        exact ⟨rfl, B7.out⟩
      · obtain ⟨n, rfl⟩ : ∃ n : Nat, t = n := ⟨t.toNat, by omega⟩
        obtain ⟨q, hq⟩ : ∃ q, n % fr = q := ⟨_, rfl⟩
        have hx1 : x = tk W q := by rw [← hx]; exact atV_of hb hq
        have HC5 := Lib.hid (fun w => refAt_any fr n q A c W w hf1 hf2 hq hfine)
        rw [← hx1] at HC5
        have i2 : (0 : Int) ≤ (n : Int) := by omega
        clear hf hfine hb hx hq hx1 ht
        go_enter Try.func3, Try.ntmps3
        go_wp2_with fail
        generalize w.alloc (Obj.cells #[.int .i64 fr, .slice A W.length c] 24) = w0 at *
        refine (HC1.out _ HT.out).mono ?_
        rintro e w1 ⟨B, cp, rfl, hr1, b1⟩
        have HR := Lib.hid hr1
        replace HT := Lib.hid (HT.out.below b1)
        replace x1 := (cell_below b1) x1
        replace x2 := (cell_below b1) x2
        have B1 := Lib.hid (below_step B0.out b1)
        clear b1 hr1
        go_wp2_with fail
        refine (HC2.out _ HT.out).mono ?_
        rintro e w2 ⟨rfl, b2⟩
        replace x1 := cell_below b2 x1
        replace x2 := cell_below b2 x2
        have B2 := Lib.hid (below_step B1.out b2)
        replace HT := Lib.hid (HT.out.below b2)
        replace HR := Lib.hid (HR.out.below b2)
        clear b2
        go_wp2_with fail
        refine (HC3.out _ HT.out).mono ?_
        rintro e w3 ⟨rfl, b3⟩
        replace x1 := cell_below b3 x1
        replace x2 := cell_below b3 x2
        have B3 := Lib.hid (below_step B2.out b3)
        replace HT := Lib.hid (HT.out.below b3)
        replace HR := Lib.hid (HR.out.below b3)
        clear b3
        go_wp2_with fail
        refine (HC5.out _ HT.out).mono ?_
        rintro e w4 ⟨rfl, b4⟩
        replace x1 := cell_below b4 x1
        replace x2 := cell_below b4 x2
        have B4 := Lib.hid (below_step B3.out b4)
        replace HT := Lib.hid (HT.out.below b4)
        replace HR := Lib.hid (HR.out.below b4)
        clear b4
        go_wp2_with fail
        refine (refTicks_any fr A c W W.length rfl _ hf1 hf2 HF.out HT.out).mono ?_
        rintro e w5 ⟨D, dp, rfl, hd, b5⟩
        have HD := Lib.hid hd
        have B5 := Lib.hid (below_step B4.out b5)
        replace HT := Lib.hid (HT.out.below b5)
        replace HR := Lib.hid (HR.out.below b5)
        replace x1 := (cell_below b5) x1
        replace x2 := (cell_below b5) x2
        clear b5 hd
        go_wp2_with fail
        refine (Bk.sameInts_one B D cp dp (tkL fr W) fr HLL.out _ (by omega) HR.out HD.out).mono ?_
        rintro e w6 ⟨rfl, b6⟩
        replace x1 := cell_below b6 x1
        replace x2 := cell_below b6 x2
        have B6 := Lib.hid (below_step B5.out b6)
        replace HT := Lib.hid (HT.out.below b6)
        clear b6
        go_wp2_with fail
        refine (HC4.out _ HT.out).mono ?_
        rintro e w7 ⟨rfl, b7⟩
        have B7 := Lib.hid (below_step B6.out b7)
        clear b7
        go_wp2_with fail
        refine (knows13_any _).mono ?_
        rintro e w8 ⟨rfl, b8⟩
        have B8 := Lib.hid (below_step B7.out b8)
        clear b8
        go_wp2_with fail
        go_ret
        exact ⟨rfl, B8.out⟩

set_option maxRecDepth 100000 in
theorem lifted (os : Os) (started : os.Started) (H : Type) (enc : TypeId × Value → H) :
    ReturnsInHanded {} Try.checked os 3 .any (Rows.tableRightsSpec.pre6 enc Try.prog Try.f3 Rows.tableRightsRow.domain false) (Rows.tableRightsSpec.post enc Try.prog Try.f3 false true false false) := by
  refine returnsInHanded_of_change (C := Try.checked) own started (by kernel_rfl) Try.func3
    (ChangeSpec.witness6 (enc := enc) (C := Try.checked) false ⟨#[], #[.agg #[.int .i64 0, .slice none 0 0], .int .i64 0], []⟩ 8 (by kernel_rfl) (by kernel_rfl) (by kernel_rfl) (by kernel_rfl)) ?_
  intro W base args ds gs before hval0 hW hcnd _
  have hval : ∀ (j : Nat) t v, Try.f3.params[j]? = some t → args[j]? = some v → Value.okWide Try.prog W .any base t v := hval0
  have hW' := hW
  obtain ⟨p, q, hA0, hV, rfl, hfz, hnd⟩ := hW
  have hA : DataW.TrodAll enc Try.prog W 0 (fun _ => true) true Try.f3.params.toList args.toList ds p := hA0
  rw [Try.params3] at hA hval
  obtain ⟨v0, v1, d0, d1, p0, p1, rfl, rfl, rfl, h0, h1⟩ := trodAll_two hA
  obtain ⟨rfl, rfl⟩ := trodVars_none hV
  obtain ⟨A0, c0, f0, W0, rfl, fa0, hr0⟩ := Tb.open_table (hval 0 24 v0 rfl rfl) h0
  obtain ⟨n1, rfl, f1⟩ := Mm.open_num' Try.underlying3 (hval 1 3 v1 rfl rfl) h1
  clear hA0 hval0
  refine (walk A0 c0 f0 W0 n1 W fa0 hr0 f1).mono fun e W' ⟨he, bel⟩ => ?_
  subst he
  have hlt0 : ∀ x ∈ p0, x.block < W.heap.size := fun x hx => hW'.lt x (by simp [hx])
  have hlt1 : ∀ x ∈ p1, x.block < W.heap.size := fun x hx => hW'.lt x (by simp [hx])
  exact ⟨_, rfl, _, _, _, [], _, [], hW', trodAll_mk1 (shut_bool Try.underlying4 _), trodAll_mk2 (Below.trod laidOut (by kernel_rfl) (of_decide_eq_true (by kernel_rfl)) h0 bel hlt0) (Below.trod laidOut (by kernel_rfl) (of_decide_eq_true (by kernel_rfl)) h1 bel hlt1), rfl, bel.frame _, fun h => by cases h⟩

/-- The statement. -/
theorem proved : Rows.TableRightsSaid :=
  OpenClaim.holds_of_wide 3 Try.f3 rfl rfl rfl rfl rfl rfl rfl ⟨rfl, rfl, rfl, rfl, rfl⟩ rfl rfl rfl rfl rfl (by kernel_rfl) Try.func3 (by kernel_rfl)
    (of_decide_eq_true (by kernel_rfl)) (by unfold Func.isWrapper; first | (rw [if_pos (by decide +kernel)]; kernel_rfl) | (rw [if_neg (by decide +kernel)]; exact ⟨rfl, rfl⟩))
    (fun os started H enc _ => lifted os started H enc)
#print axioms proved

end Go.Proofs.Ytpodahnmdakjjaa.tableRights
