/-
  For any list of interfaces the statement SynthFrames of layer 12 returns true (the frame, and the share, of interfaces is what the document says, or the error is told), and its argument reads as before. No condition.
-/
import Derived.Test.YtmfbmbbndiafiaaGlaw12
import Derived.Test.YtmfbmbbndiafiaaGsynth
namespace Go.Proofs.Ytmfbmbbndiafiaa.synthFrames
open Go.ChangeShapes Go.WideShapes Go.ChangeAt Go.RowKit
open Mm Sp Sy

set_option maxRecDepth 20000 in
set_option maxHeartbeats 3200000 in
theorem walk (A : Option Addr) (c : Nat) (F : List Fce) (w : World) (hr : Rd w A c F) :
    Calls Try.prog 3 #[.slice A F.length c] w fun e w' => e = .returned (.bool true) ∧ Below w.heap.size w w' := by
  have hm := hr.max
  have hle := hr.le
  by_cases hlen : F.length ≤ 20
  · have HT : Hid (CL w A c F) := ⟨by omega, hr⟩
    clear hr
    unfold maxLen at hm
    by_cases h0 : frmE F = 0
    · obtain ⟨ho, h1⟩ := frmE_zero.1 h0
      have h2 := (frm_fine ho h1).2
      have h3 : shrZ F = shr F := by unfold shrZ; rw [if_pos h0]
      obtain ⟨fr, hfr⟩ : ∃ fr, frm F = fr := ⟨_, rfl⟩
      obtain ⟨s, hs⟩ : ∃ s, shr F = s := ⟨_, rfl⟩
      have HS := Lib.hid hs
      have HR := Lib.hid hfr
      have HO := Lib.hid ho
      have HC1 := Lib.hid (frame_v A c F fr 0 (by rw [h2, hfr]) (by rw [h0]; rfl) F.length rfl)
      have HC2 := Lib.hid (share_v A c F s fr 0 (by rw [h3, hs]) (by rw [h2, hfr]) (by rw [h0]; rfl) F.length rfl)
      have HC3 := Lib.hid (refFrame_v A c F fr 0 (by rw [h2, hfr]) (by rw [h0]; rfl) F.length rfl)
      have hfr2 : fr ≤ 240 := by omega
      clear h0 ho h1 h2 h3 hs hfr
      go_enter Try.func3, Try.ntmps3
      go_wp2_with fail
      refine (HC1.out _ HT.out).mono ?_
      rintro e w1 ⟨rfl, b1⟩
      have B1 := Lib.hid b1
      replace HT := Lib.hid (HT.out.below b1)
      clear b1
      go_wp2_with fail
      refine (HC2.out _ HT.out).mono ?_
      rintro e w2 ⟨rfl, b2⟩
      have B2 := Lib.hid (below_step B1.out b2)
      replace HT := Lib.hid (HT.out.below b2)
      clear b2
      go_wp2_with fail
      refine (HC3.out _ HT.out).mono ?_
      rintro e w3 ⟨rfl, b3⟩
      have B3 := Lib.hid (below_step B2.out b3)
      replace HT := Lib.hid (HT.out.below b3)
      clear b3
      go_wp2_with fail
      go_loopw [10, 11] (fun m i wr => ∃ k q : Nat, i = .int .i64 k ∧ m = .int .i64 q ∧ k ≤ F.length ∧ q ≤ 960 ∧ Hid (shrTo F k = q) ∧ Hid (Below w3.heap.size w3 wr)) (fun _ i _ => F.length - (intOf i).toNat)
      case atStart => exact ⟨0, 0, rfl, rfl, Nat.zero_le _, by omega, rfl, Below.refl _ _⟩
      case round =>
        obtain ⟨k, q, rfl, rfl, hk, hq, HQ, HB⟩ := hrel
        by_cases hlt : k < F.length
        · obtain ⟨b, off, rfl, hc⟩ := face_at (HT.out.below HB.out).2 (by omega)
          obtain ⟨x1, x2, _, _⟩ := hc k hlt
          obtain ⟨e1, e2, h1, h2, h3⟩ := okF_at HO.out hlt
          obtain ⟨d, hd⟩ : ∃ d, frm F / Pn F k = d := ⟨_, rfl⟩
          obtain ⟨m, hm⟩ : ∃ m, Bn F k * d = m := ⟨_, rfl⟩
          have hn : shrTo F (k + 1) = q + m := by rw [shrTo_succ, HQ.out, hd, hm]
          have hm2 : q + m ≤ 960 := by rw [← hn]; exact shrTo_small HO.out (by rw [HR.out]; exact hfr2) hlt
          have hdm : d ≤ fr := by rw [← hd, HR.out]; exact Nat.div_le_self _ _
          rw [e1] at x1
          rw [e2] at x2
          rw [HR.out] at hd
          have HN := Lib.hid hn
          clear hc e1 e2 hn
          generalize Pn F k = p at *
          generalize Bn F k = bb at *
          have q1 : (fr : Int) / (p : Int) = (d : Int) := by rw [← hd]; push_cast; rfl
          have q2 : IntKind.i64.wrap (d : Int) = (d : Int) := IntWalk.i64_in _ (by omega)
          have q3 : IntKind.i64.wrap ((bb : Int) * (d : Int)) = (m : Int) := by
            rw [show (bb : Int) * (d : Int) = (m : Int) from by rw [← hm]; push_cast; rfl]
            exact IntWalk.i64_in _ (by omega)
          have q4 : IntKind.i64.wrap ((q : Int) + (m : Int)) = (q : Int) + (m : Int) := IntWalk.i64_in _ (by omega)
          have q5 : IntKind.i64.wrap ((fr : Int).tdiv (p : Int)) = (d : Int) := by rw [IntWalk.i64_quo _ _ ⟨by omega, by omega, by omega⟩, q1]
          have i1 : ¬ (p : Int) = 0 := by omega
          have i2 : ¬ p = 0 := by omega
          have i3 : decide ((p : Int) = 0) = false := decide_eq_false i1
          have i4 : ((p : Int) == 0) = false := by simpa using i2
          have i5 : (0 : Int) ≤ (k : Int) := by omega
          have i6 : (k : Int) < (F.length : Int) := by omega
          have i7 : decide ((0 : Int) ≤ (k : Int) ∧ (k : Int) < (F.length : Int)) = true := decide_eq_true ⟨i5, i6⟩
          have HM := Lib.hid hm
          have HD := Lib.hid hd
          clear hm hd
          go_wp2_with fail
          replace x1 := cell_bw x1
          replace x2 := cell_bw x2
          refine wp_region_bw (by kernel_rfl) (by kernel_rfl) ?_
          repeat
            (with_reducible refine wpQuiet_step (fun K hK => ?_)
             go_simp
             first
               | (with_reducible refine hK _ ?_
                  clear hK K)
               | (rw [if_neg]
                  rotate_left
                  focus (intro h; cases h; done)
                  with_reducible refine hK _ ?_
                  clear hK K)
               | (apply Exists.intro
                  refine ⟨fun _ => ?_, hK _ ?_⟩
                  (fail)
                  clear hK K))
          with_reducible refine wpQuiet_nil ?_
          intro wb hw'
          obtain ⟨⟨wb', lb⟩, hw''⟩ := hw'
          subst hw''
          have B4 := Lib.hid (below_step HB.out lb)
          clear lb
          go_wp2_with fail
          go_roundw
          case rel => exact ⟨k + 1, q + m, by go_num, by go_num, hlt, hm2, HN, B4⟩
          case measure => (simp [intOf] <;> omega)
        · have hkl : k = F.length := by omega
          subst hkl
          have hqs : q = s := by rw [← HQ.out, shrTo_end, HS.out]
          subst hqs
          have j1 : ((fr : Int) == (fr : Int)) = true := by simp
          have j2 : ((q : Int) == (q : Int)) = true := by simp
          have B4 := Lib.hid (below_step B3.out HB.out)
          go_wp2_with fail
          refine (knows12_any _).mono ?_
          rintro e w5 ⟨rfl, b5⟩
          have B5 := Lib.hid (below_step B4.out b5)
          clear b5
          go_wp2_with fail
          go_ret
          exact ⟨rfl, B5.out⟩
    · have hz : frmZ F = 0 := by unfold frmZ; rw [if_neg h0]
      have hs : shrZ F = 0 := by unfold shrZ; rw [if_neg h0]
      rcases frmE_cases F with e | e | e
      · exact absurd e h0
      · have HC1 := Lib.hid (frame_v A c F 0 1 (by rw [hz]; rfl) (by rw [e]; rfl) F.length rfl)
        have HC2 := Lib.hid (share_v A c F 0 0 1 (by rw [hs]; rfl) (by rw [hz]; rfl) (by rw [e]; rfl) F.length rfl)
        have HC3 := Lib.hid (refFrame_v A c F 0 1 (by rw [hz]; rfl) (by rw [e]; rfl) F.length rfl)
        clear h0 hz hs e
        go_enter Try.func3, Try.ntmps3
        go_wp2_with fail
        refine (HC1.out _ HT.out).mono ?_
        rintro e w1 ⟨rfl, b1⟩
        have B1 := Lib.hid b1
        replace HT := Lib.hid (HT.out.below b1)
        clear b1
        go_wp2_with fail
        refine (HC2.out _ HT.out).mono ?_
        rintro e w2 ⟨rfl, b2⟩
        have B2 := Lib.hid (below_step B1.out b2)
        replace HT := Lib.hid (HT.out.below b2)
        clear b2
        go_wp2_with fail
        refine (HC3.out _ HT.out).mono ?_
        rintro e w3 ⟨rfl, b3⟩
        have B3 := Lib.hid (below_step B2.out b3)
        replace HT := Lib.hid (HT.out.below b3)
        clear b3
        go_wp2_with fail
        refine (knows12_any _).mono ?_
        rintro e w4 ⟨rfl, b4⟩
        have B4 := Lib.hid (below_step B3.out b4)
        clear b4
        go_wp2_with fail
        go_ret
        exact ⟨rfl, B4.out⟩
      · have HC1 := Lib.hid (frame_v A c F 0 5 (by rw [hz]; rfl) (by rw [e]; rfl) F.length rfl)
        have HC2 := Lib.hid (share_v A c F 0 0 5 (by rw [hs]; rfl) (by rw [hz]; rfl) (by rw [e]; rfl) F.length rfl)
        have HC3 := Lib.hid (refFrame_v A c F 0 5 (by rw [hz]; rfl) (by rw [e]; rfl) F.length rfl)
        clear h0 hz hs e
        go_enter Try.func3, Try.ntmps3
        go_wp2_with fail
        refine (HC1.out _ HT.out).mono ?_
        rintro e w1 ⟨rfl, b1⟩
        have B1 := Lib.hid b1
        replace HT := Lib.hid (HT.out.below b1)
        clear b1
        go_wp2_with fail
        refine (HC2.out _ HT.out).mono ?_
        rintro e w2 ⟨rfl, b2⟩
        have B2 := Lib.hid (below_step B1.out b2)
        replace HT := Lib.hid (HT.out.below b2)
        clear b2
        go_wp2_with fail
        refine (HC3.out _ HT.out).mono ?_
        rintro e w3 ⟨rfl, b3⟩
        have B3 := Lib.hid (below_step B2.out b3)
        replace HT := Lib.hid (HT.out.below b3)
        clear b3
        go_wp2_with fail
        refine (knows12_any _).mono ?_
        rintro e w4 ⟨rfl, b4⟩
        have B4 := Lib.hid (below_step B3.out b4)
        clear b4
        go_wp2_with fail
        go_ret
        exact ⟨rfl, B4.out⟩
  · clear hr
    unfold maxLen at hm
    go_enter Try.func3, Try.ntmps3
    go_wp2_with fail
    refine (knows12_any _).mono ?_
    rintro e w1 ⟨rfl, b1⟩
    have B1 := Lib.hid b1
    clear b1
    go_wp2_with fail
    go_ret
    exact ⟨rfl, B1.out⟩

set_option maxRecDepth 100000 in
theorem lifted (os : Os) (started : os.Started) (H : Type) (enc : TypeId × Value → H) :
    ReturnsInHanded {} Try.checked os 3 .any (Rows.synthFramesSpec.pre6 enc Try.prog Try.f3 Rows.synthFramesRow.domain false) (Rows.synthFramesSpec.post enc Try.prog Try.f3 false true false false) := by
  refine returnsInHanded_of_change (C := Try.checked) own started (by kernel_rfl) Try.func3
    (ChangeSpec.witness6 (enc := enc) (C := Try.checked) false ⟨#[], #[.slice none 0 0], []⟩ 8 (by kernel_rfl) (by kernel_rfl) (by kernel_rfl) (by kernel_rfl)) ?_
  intro W base args ds gs before hval0 hW hcnd _
  have hval : ∀ (j : Nat) t v, Try.f3.params[j]? = some t → args[j]? = some v → Value.okWide Try.prog W .any base t v := hval0
  have hW' := hW
  obtain ⟨p, q, hA0, hV, rfl, hfz, hnd⟩ := hW
  have hA : DataW.TrodAll enc Try.prog W 0 (fun _ => true) true Try.f3.params.toList args.toList ds p := hA0
  rw [Try.params3] at hA hval
  obtain ⟨v0, d0, rfl, rfl, h0⟩ := trodAll_one hA
  obtain ⟨rfl, rfl⟩ := trodVars_none hV
  obtain ⟨A0, c0, l0, rfl, hr0⟩ := Mm.open_list (α := Int × Int) Try.underlying22 Sy.opFaces (hval 0 22 v0 rfl rfl) h0
  clear hA0 hval0
  refine (walk A0 c0 l0 W hr0).mono fun e W' ⟨he, bel⟩ => ?_
  subst he
  have hlt0 : ∀ x ∈ p, x.block < W.heap.size := fun x hx => hW'.lt x (by simpa using hx)
  exact ⟨_, rfl, _, _, _, [], _, [], hW', trodAll_mk1 (shut_bool Try.underlying4 _), trodAll_mk1 (Below.trod laidOut (by kernel_rfl) (of_decide_eq_true (by kernel_rfl)) h0 bel hlt0), rfl, bel.frame _, fun h => by cases h⟩

/-- The statement. -/
theorem proved : Rows.SynthFramesSaid :=
  OpenClaim.holds_of_wide 3 Try.f3 rfl rfl rfl rfl rfl rfl rfl ⟨rfl, rfl, rfl, rfl, rfl⟩ rfl rfl rfl rfl rfl (by kernel_rfl) Try.func3 (by kernel_rfl)
    (of_decide_eq_true (by kernel_rfl)) (by unfold Func.isWrapper; first | (rw [if_pos (by decide +kernel)]; kernel_rfl) | (rw [if_neg (by decide +kernel)]; exact ⟨rfl, rfl⟩))
    (fun os started H enc _ => lifted os started H enc)
#print axioms proved

end Go.Proofs.Ytmfbmbbndiafiaa.synthFrames
