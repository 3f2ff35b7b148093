/-
  For any table, any part and any number the statement TableLeast of layer 13 returns true (the least supply of a part, wherever ticks begin, is what the document says, or the error is told), and its arguments read as before. No condition.
-/
import Derived.Test.YtpodahnmdakjjaaGlaw13
namespace Go.Proofs.Ytpodahnmdakjjaa.tableLeast
open Go.ChangeShapes Go.WideShapes Go.ChangeAt Go.RowKit
open Mm Tb

theorem refRight_to (f : Int) (A : Option Addr) (c : Nat) (W : List Win) (b : Bool) (hb : rightB f W = b) (w : World) (H : WL w A c W) :
    Calls Try.prog 10 #[.int .i64 f, .slice A W.length c] w fun e w' => e = .returned (.bool b) ∧ Below w.heap.size w w' := by
  subst hb
  exact refRight_any f A c W w H

set_option maxRecDepth 20000 in
set_option maxHeartbeats 3200000 in
theorem walk (A : Option Addr) (c : Nat) (f : Int) (W : List Win) (p n : Int) (w : World) (fa : Fit f) (hr : Rd w A c W) (_fp : Fit p) (fn : Fit n) :
    Calls Try.prog 5 #[.agg #[.int .i64 f, .slice A W.length c], .int .i64 p, .int .i64 n] w fun e w' => e = .returned (.bool true) ∧ Below w.heap.size w w' := by
  have bz := below_one w (Obj.cells #[.int .i64 f, .slice A W.length c] 24)
  have x1 := (tx_new w f A W.length c).f
  have x2 := (tx_new w f A W.length c).l
  have B0 := Lib.hid bz
  have HRR := Lib.hid (hr.below bz)
  clear bz hr
  by_cases hlen : 100 < W.length
  · have i1 : (100 : Int) < (W.length : Int) := by omega
    go_enter Try.func5, Try.ntmps5
    go_wp2_with fail
    refine (knows13_any _).mono ?_
    rintro e w1 ⟨rfl, b1⟩
    have B1 := Lib.hid (below_step B0.out b1)
    clear b1
    go_wp2_with fail
    go_ret
    exact ⟨rfl, B1.out⟩
  · have i1 : ¬ (100 : Int) < (W.length : Int) := by omega
    by_cases hn3 : 300 < n ∧ n ≤ 2000
    · obtain ⟨i2, i3⟩ := hn3
      go_enter Try.func5, Try.ntmps5
      go_wp2_with fail
      refine (knows13_any _).mono ?_
      rintro e w1 ⟨rfl, b1⟩
      have B1 := Lib.hid (below_step B0.out b1)
      clear b1
      go_wp2_with fail
      go_ret
      exact ⟨rfl, B1.out⟩
    · have HT : Hid (WL _ A c W) := ⟨by omega, HRR.out⟩
      clear HRR
      cases hb : rightB f W with
      | false =>
        have hl : ¬ lstOk f W n := fun h => by have := h.1; rw [hb] at this; cases this
        have HC2 := Lib.hid (refRight_to f A c W false hb)
        clear hb
        by_cases i2 : 300 < n
        · have i3 : ¬ n ≤ 2000 := by omega
          clear hn3
          have HC1 := Lib.hid (least_to f A c W p n 0 1 (by rw [(lst_bad hl).1]; rfl) (by rw [(lst_bad (part := p) hl).2]; rfl) W.length rfl)
          clear hl
          go_enter Try.func5, Try.ntmps5
          go_wp2_with fail
          generalize w.alloc (Obj.cells #[.int .i64 f, .slice A W.length c] 24) = w0 at *
          refine (HC1.out _ HT.out).mono ?_
          rintro e w1 ⟨rfl, b1⟩
          replace x1 := cell_below b1 x1
          replace x2 := cell_below b1 x2
          have B1 := Lib.hid (below_step B0.out b1)
          replace HT := Lib.hid (HT.out.below b1)
          clear b1
          go_wp2_with fail
          refine (HC2.out _ HT.out).mono ?_
          rintro e w2 ⟨rfl, b2⟩
          replace x1 := cell_below b2 x1
          replace x2 := cell_below b2 x2
          have B2 := Lib.hid (below_step B1.out b2)
          replace HT := Lib.hid (HT.out.below b2)
          clear b2
          go_wp2_with fail
          refine (knows13_any _).mono ?_
          rintro e w3 ⟨rfl, b3⟩
          have B3 := Lib.hid (below_step B2.out b3)
          clear b3
          go_wp2_with fail
          go_ret
          exact ⟨rfl, B3.out⟩
        · clear hn3
          have HC1 := Lib.hid (least_to f A c W p n 0 1 (by rw [(lst_bad hl).1]; rfl) (by rw [(lst_bad (part := p) hl).2]; rfl) W.length rfl)
          clear hl
          go_enter Try.func5, Try.ntmps5
          go_wp2_with fail
          generalize w.alloc (Obj.cells #[.int .i64 f, .slice A W.length c] 24) = w0 at *
          refine (HC1.out _ HT.out).mono ?_
          rintro e w1 ⟨rfl, b1⟩
          replace x1 := cell_below b1 x1
          replace x2 := cell_below b1 x2
          have B1 := Lib.hid (below_step B0.out b1)
          replace HT := Lib.hid (HT.out.below b1)
          clear b1
          go_wp2_with fail
          refine (HC2.out _ HT.out).mono ?_
          rintro e w2 ⟨rfl, b2⟩
          replace x1 := cell_below b2 x1
          replace x2 := cell_below b2 x2
          have B2 := Lib.hid (below_step B1.out b2)
          replace HT := Lib.hid (HT.out.below b2)
          clear b2
          go_wp2_with fail
          refine (knows13_any _).mono ?_
          rintro e w3 ⟨rfl, b3⟩
          have B3 := Lib.hid (below_step B2.out b3)
          clear b3
          go_wp2_with fail
          go_ret
          exact ⟨rfl, B3.out⟩
      | true =>
        have HC2 := Lib.hid (refRight_to f A c W true hb)
        by_cases i2 : 300 < n
        · have i3 : ¬ n ≤ 2000 := by omega
          have i4 : 2000 < n := by omega
          have i5 : ¬ n < 0 := by omega
          have hl : ¬ lstOk f W n := fun h => by have := h.2; omega
          clear hn3 hb
          have HC1 := Lib.hid (least_to f A c W p n 0 1 (by rw [(lst_bad hl).1]; rfl) (by rw [(lst_bad (part := p) hl).2]; rfl) W.length rfl)
          clear hl
          go_enter Try.func5, Try.ntmps5
          go_wp2_with fail
          generalize w.alloc (Obj.cells #[.int .i64 f, .slice A W.length c] 24) = w0 at *
          refine (HC1.out _ HT.out).mono ?_
          rintro e w1 ⟨rfl, b1⟩
          replace x1 := cell_below b1 x1
          replace x2 := cell_below b1 x2
          have B1 := Lib.hid (below_step B0.out b1)
          replace HT := Lib.hid (HT.out.below b1)
          clear b1
          go_wp2_with fail
          refine (HC2.out _ HT.out).mono ?_
          rintro e w2 ⟨rfl, b2⟩
          replace x1 := cell_below b2 x1
          replace x2 := cell_below b2 x2
          have B2 := Lib.hid (below_step B1.out b2)
          replace HT := Lib.hid (HT.out.below b2)
          clear b2
          go_wp2_with fail
          refine (knows13_any _).mono ?_
          rintro e w3 ⟨rfl, b3⟩
          have B3 := Lib.hid (below_step B2.out b3)
          clear b3
          go_wp2_with fail
          go_ret
          exact ⟨rfl, B3.out⟩
        · by_cases i5 : n < 0
          · have hl : ¬ lstOk f W n := fun h => by have := h.2; omega
            clear hn3 hb
            have HC1 := Lib.hid (least_to f A c W p n 0 1 (by rw [(lst_bad hl).1]; rfl) (by rw [(lst_bad (part := p) hl).2]; rfl) W.length rfl)
            clear hl
            go_enter Try.func5, Try.ntmps5
            go_wp2_with fail
            generalize w.alloc (Obj.cells #[.int .i64 f, .slice A W.length c] 24) = w0 at *
            refine (HC1.out _ HT.out).mono ?_
            rintro e w1 ⟨rfl, b1⟩
            replace x1 := cell_below b1 x1
            replace x2 := cell_below b1 x2
            have B1 := Lib.hid (below_step B0.out b1)
            replace HT := Lib.hid (HT.out.below b1)
            clear b1
            go_wp2_with fail
            refine (HC2.out _ HT.out).mono ?_
            rintro e w2 ⟨rfl, b2⟩
            replace x1 := cell_below b2 x1
            replace x2 := cell_below b2 x2
            have B2 := Lib.hid (below_step B1.out b2)
            replace HT := Lib.hid (HT.out.below b2)
            clear b2
            go_wp2_with fail
            refine (knows13_any _).mono ?_
            rintro e w3 ⟨rfl, b3⟩
            have B3 := Lib.hid (below_step B2.out b3)
            clear b3
            go_wp2_with fail
            go_ret
            exact ⟨rfl, B3.out⟩
          · have i4 : ¬ 2000 < n := by omega
            obtain ⟨hf, hfine⟩ := right_iff.1 hb
            obtain ⟨fr, rfl⟩ : ∃ fr : Nat, f = fr := ⟨f.toNat, by omega⟩
            obtain ⟨m, rfl⟩ : ∃ m : Nat, n = m := ⟨n.toNat, by omega⟩
            have hf1 : 1 ≤ fr := by omega
            have hf2 : fr ≤ 240 := by omega
            have HM : Hid (m ≤ 2000) := by show _ ≤ _; omega
            have HF := Lib.hid hfine
            obtain ⟨v, hv⟩ : ∃ v, leastN (fun j => tk W (j : Int)) fr p m fr = v := ⟨_, rfl⟩
            have hk := lst_ok (part := p) (show lstOk fr W m from ⟨hb, by omega, by omega⟩)
            have HV := Lib.hid hv
            have HC1 := Lib.hid (least_to fr A c W p m v 0 (by rw [hk.1, hv]) (by rw [hk.2]; rfl) W.length rfl)
            have HLL : Hid ((tkL fr W).length = fr) := tkL_length _ _
            have HAT : Hid (∀ j, j < fr → at_ (tkL fr W) j = tk W (j : Int)) := fun j hj => tkL_at hj
            clear hn3 hb hf hfine hk hv
            go_enter Try.func5, Try.ntmps5
            go_wp2_with fail
            generalize w.alloc (Obj.cells #[.int .i64 fr, .slice A W.length c] 24) = w0 at *
            refine (HC1.out _ HT.out).mono ?_
            rintro e w1 ⟨rfl, b1⟩
            replace x1 := cell_below b1 x1
            replace x2 := cell_below b1 x2
            have B1 := Lib.hid (below_step B0.out b1)
            replace HT := Lib.hid (HT.out.below b1)
            clear b1
            go_wp2_with fail
            refine (HC2.out _ HT.out).mono ?_
            rintro e w2 ⟨rfl, b2⟩
            replace x1 := cell_below b2 x1
            replace x2 := cell_below b2 x2
            have B2 := Lib.hid (below_step B1.out b2)
            replace HT := Lib.hid (HT.out.below b2)
            clear b2
            go_wp2_with fail
            refine (refTicks_any fr A c W W.length rfl _ hf1 hf2 HF.out HT.out).mono ?_
            rintro e w3 ⟨D, dp, rfl, hd, b3⟩
            have HD := Lib.hid hd
            have B3 := Lib.hid (below_step B2.out b3)
            clear b3 hd
            go_wp2_with fail
            refine (refLeast_any _ D dp (tkL fr W) fr m p v HV.out _ HLL.out hf1 hf2 HM.out HAT.out HD.out).mono ?_
            rintro e w4 ⟨rfl, b4⟩
            have B4 := Lib.hid (below_step B3.out b4)
            clear b4
            go_wp2_with fail
            refine (knows13_any _).mono ?_
            rintro e w5 ⟨rfl, b5⟩
            have B5 := Lib.hid (below_step B4.out b5)
            clear b5
            go_wp2_with fail
            go_ret
            exact ⟨rfl, B5.out⟩

set_option maxRecDepth 100000 in
theorem lifted (os : Os) (started : os.Started) (H : Type) (enc : TypeId × Value → H) :
    ReturnsInHanded {} Try.checked os 5 .any (Rows.tableLeastSpec.pre6 enc Try.prog Try.f5 Rows.tableLeastRow.domain false) (Rows.tableLeastSpec.post enc Try.prog Try.f5 false true false false) := by
  refine returnsInHanded_of_change (C := Try.checked) own started (by kernel_rfl) Try.func5
    (ChangeSpec.witness6 (enc := enc) (C := Try.checked) false ⟨#[], #[.agg #[.int .i64 0, .slice none 0 0], .int .i64 0, .int .i64 0], []⟩ 8 (by kernel_rfl) (by kernel_rfl) (by kernel_rfl) (by kernel_rfl)) ?_
  intro W base args ds gs before hval0 hW hcnd _
  have hval : ∀ (j : Nat) t v, Try.f5.params[j]? = some t → args[j]? = some v → Value.okWide Try.prog W .any base t v := hval0
  have hW' := hW
  obtain ⟨p, q, hA0, hV, rfl, hfz, hnd⟩ := hW
  have hA : DataW.TrodAll enc Try.prog W 0 (fun _ => true) true Try.f5.params.toList args.toList ds p := hA0
  rw [Try.params5] at hA hval
  obtain ⟨v0, v1, v2, d0, d1, d2, p0, p1, p2, rfl, rfl, rfl, h0, h1, h2⟩ := trodAll_three hA
  obtain ⟨rfl, rfl⟩ := trodVars_none hV
  obtain ⟨A0, c0, f0, W0, rfl, fa0, hr0⟩ := Tb.open_table (hval 0 24 v0 rfl rfl) h0
  obtain ⟨n1, rfl, f1⟩ := Mm.open_num' Try.underlying3 (hval 1 3 v1 rfl rfl) h1
  obtain ⟨n2, rfl, f2⟩ := Mm.open_num' Try.underlying3 (hval 2 3 v2 rfl rfl) h2
  clear hA0 hval0
  refine (walk A0 c0 f0 W0 n1 n2 W fa0 hr0 f1 f2).mono fun e W' ⟨he, bel⟩ => ?_
  subst he
  have hlt0 : ∀ x ∈ p0, x.block < W.heap.size := fun x hx => hW'.lt x (by simp [hx])
  have hlt1 : ∀ x ∈ p1, x.block < W.heap.size := fun x hx => hW'.lt x (by simp [hx])
  have hlt2 : ∀ x ∈ p2, x.block < W.heap.size := fun x hx => hW'.lt x (by simp [hx])
  exact ⟨_, rfl, _, _, _, [], _, [], hW', trodAll_mk1 (shut_bool Try.underlying4 _), trodAll_mk3 (Below.trod laidOut (by kernel_rfl) (of_decide_eq_true (by kernel_rfl)) h0 bel hlt0) (Below.trod laidOut (by kernel_rfl) (of_decide_eq_true (by kernel_rfl)) h1 bel hlt1) (Below.trod laidOut (by kernel_rfl) (of_decide_eq_true (by kernel_rfl)) h2 bel hlt2), rfl, bel.frame _, fun h => by cases h⟩

/-- The statement. -/
theorem proved : Rows.TableLeastSaid :=
  OpenClaim.holds_of_wide 5 Try.f5 rfl rfl rfl rfl rfl rfl rfl ⟨rfl, rfl, rfl, rfl, rfl⟩ rfl rfl rfl rfl rfl (by kernel_rfl) Try.func5 (by kernel_rfl)
    (of_decide_eq_true (by kernel_rfl)) (by unfold Func.isWrapper; first | (rw [if_pos (by decide +kernel)]; kernel_rfl) | (rw [if_neg (by decide +kernel)]; exact ⟨rfl, rfl⟩))
    (fun os started H enc _ => lifted os started H enc)
#print axioms proved

end Go.Proofs.Ytpodahnmdakjjaa.tableLeast
