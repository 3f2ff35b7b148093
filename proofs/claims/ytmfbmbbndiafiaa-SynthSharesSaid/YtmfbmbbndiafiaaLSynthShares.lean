/-
  For any list of interfaces the statement SynthShares of layer 12 returns true (laying succeeds just if the share is not above the frame; and as many ticks are given as are wanted), and its argument reads as before. No condition.
-/
import Derived.Test.YtmfbmbbndiafiaaGlaw12
import Derived.Test.YtmfbmbbndiafiaaGsynth
namespace Go.Proofs.Ytmfbmbbndiafiaa.synthShares
open Go.ChangeShapes Go.WideShapes Go.ChangeAt Go.RowKit
open Mm Sp Sy

set_option maxRecDepth 20000 in
set_option maxHeartbeats 3200000 in
theorem walk (A : Option Addr) (c : Nat) (F : List Fce) (w : World) (hr : Rd w A c F) :
    Calls Try.prog 5 #[.slice A F.length c] w fun e w' => e = .returned (.bool true) ∧ Below w.heap.size w w' := by
  have hm := hr.max
  have hle := hr.le
  by_cases hlen : F.length ≤ 20
  · have HT : Hid (CL w A c F) := ⟨by omega, hr⟩
    clear hr
    unfold maxLen at hm
    by_cases h0 : frmE F = 0
    · obtain ⟨ho, h1⟩ := frmE_zero.1 h0
      have h2 := (frm_fine ho h1).2
      have h3 : shrZ F = shr F := by unfold shrZ; rw [if_pos h0]
      have hsm := shr_small h0
      obtain ⟨fr, hfr⟩ : ∃ fr, frm F = fr := ⟨_, rfl⟩
      obtain ⟨s, hs⟩ : ∃ s, shr F = s := ⟨_, rfl⟩
      have HC2 := Lib.hid (share_v A c F s fr 0 (by rw [h3, hs]) (by rw [h2, hfr]) (by rw [h0]; rfl) F.length rfl)
      have hE : layE F = if fr < s then 7 else 0 := by unfold layE; rw [if_pos h0, hfr, hs]
      rw [hs] at hsm
      have hfr2 : fr ≤ 240 := by omega
      by_cases hlt : fr < s
      · rw [if_pos hlt] at hE
        have HC1 := Lib.hid (lay_to A c F [] 0 7 (lay_bad (by omega)) rfl (by rw [hE]; rfl) F.length rfl)
        have i1 : (fr : Int) < (s : Int) := by omega
        clear h0 ho h1 h2 h3 hs hfr hE
        go_enter Try.func5, Try.ntmps5
        go_wp2_with fail
        refine (HC1.out _ HT.out).mono ?_
        rintro x w1 ⟨B, cp, rfl, hr1, b1⟩
        replace HT := Lib.hid (HT.out.below b1)
        have B1 := Lib.hid b1
        have HR1 := Lib.hid hr1
        clear hr1 b1
        go_wp2_with fail
        refine (HC2.out _ HT.out).mono ?_
        rintro e w2 ⟨rfl, b2⟩
        have B2 := Lib.hid (below_step B1.out b2)
        replace HR1 := Lib.hid (HR1.out.below b2)
        clear b2
        go_wp2_with fail
        refine (knows12_any _).mono ?_
        rintro e w3 ⟨rfl, b3⟩
        have B3 := Lib.hid (below_step B2.out b3)
        clear b3
        go_wp2_with fail
        go_ret
        exact ⟨rfl, B3.out⟩
      · rw [if_neg hlt] at hE
        have hl : (layL F).length = fr := by rw [(lay_fine hE).2.2, lay_length, hfr]
        have HAT : Hid (∀ j, j < fr → at_ (layL F) j = gF F j) := fun j hj => by rw [(lay_fine hE).2.2]; exact lay_at (by omega)
        have HAN : Hid (any (gF F) fr = s) := by show _ = _; rw [← hfr, lay_any hE, hs]
        have HC1 := Lib.hid (lay_to A c F (layL F) fr 0 rfl hl (by rw [hE]; rfl) F.length rfl)
        have HLL := Lib.hid hl
        have i1 : ¬ (fr : Int) < (s : Int) := by omega
        have i2 : (fr : Int) == (fr : Int) := by simp
        clear h0 ho h1 h2 h3 hs hfr hE hl
        go_enter Try.func5, Try.ntmps5
        go_wp2_with fail
        refine (HC1.out _ HT.out).mono ?_
        rintro x w1 ⟨B, cp, rfl, hr1, b1⟩
        replace HT := Lib.hid (HT.out.below b1)
        have B1 := Lib.hid b1
        have HR1 := Lib.hid hr1
        clear hr1 b1
        go_wp2_with fail
        refine (HC2.out _ HT.out).mono ?_
        rintro e w2 ⟨rfl, b2⟩
        have B2 := Lib.hid (below_step B1.out b2)
        replace HR1 := Lib.hid (HR1.out.below b2)
        clear b2
        go_wp2_with fail
        go_loopw [8, 9] (fun m i wr => ∃ k q : Nat, i = .int .i64 k ∧ m = .int .i64 q ∧ k ≤ fr ∧ q ≤ k ∧ Hid (any (gF F) k = q) ∧ Hid (Below w2.heap.size w2 wr)) (fun _ i _ => fr - (intOf i).toNat)
        case atStart => exact ⟨0, 0, rfl, rfl, Nat.zero_le _, Nat.le_refl _, rfl, Below.refl _ _⟩
        case round =>
          obtain ⟨k, q, rfl, rfl, hk, hq, HQ, HB⟩ := hrel
          by_cases hkl : k < fr
          · obtain ⟨b, off, rfl, hc⟩ := (HR1.out.below HB.out).int (by rw [HLL.out]; omega)
            have x1 := (hc k (by rw [HLL.out]; exact hkl)).1
            rw [HAT.out k hkl] at x1
            have HS : Hid (any (gF F) (k + 1) = q + if 0 ≤ gF F k then 1 else 0) := by show _ = _; rw [any, HQ.out]
            clear hc
            generalize gF F k = x at *
            have i5 : (0 : Int) ≤ (k : Int) := by omega
            by_cases hx : 0 ≤ x
            · have HN : Hid (any (gF F) (k + 1) = q + 1) := by show _ = _; rw [HS.out, if_pos hx]
              go_wp2_with fail
              go_roundw
              case rel => exact ⟨k + 1, q + 1, by go_num, by go_num, hkl, by omega, HN, HB⟩
              case measure => (simp [intOf] <;> omega)
            · have HN : Hid (any (gF F) (k + 1) = q) := by show _ = _; rw [HS.out, if_neg hx]; rfl
              go_wp2_with fail
              go_roundw
              case rel => exact ⟨k + 1, q, by go_num, rfl, hkl, by omega, HN, HB⟩
              case measure => (simp [intOf] <;> omega)
          · have hkf : k = fr := by omega
            subst hkf
            have hqs : q = s := by rw [← HQ.out, HAN.out]
            subst hqs
            have j1 : ((k : Int) == (k : Int)) = true := by simp
            have j2 : ((q : Int) == (q : Int)) = true := by simp
            have B4 := Lib.hid (below_step B2.out HB.out)
            go_wp2_with fail
            refine (knows12_any _).mono ?_
            rintro e w5 ⟨rfl, b5⟩
            have B5 := Lib.hid (below_step B4.out b5)
            clear b5
            go_wp2_with fail
            go_ret
            exact ⟨rfl, B5.out⟩
    · have hz : frmZ F = 0 := by unfold frmZ; rw [if_neg h0]
      have hs : shrZ F = 0 := by unfold shrZ; rw [if_neg h0]
      have hl := lay_frame h0
      rcases frmE_cases F with e | e | e
      · exact absurd e h0
      · have HC1 := Lib.hid (lay_to A c F [] 0 1 hl.2 rfl (by rw [hl.1, e]; rfl) F.length rfl)
        have HC2 := Lib.hid (share_v A c F 0 0 1 (by rw [hs]; rfl) (by rw [hz]; rfl) (by rw [e]; rfl) F.length rfl)
        clear h0 hz hs e hl
        go_enter Try.func5, Try.ntmps5
        go_wp2_with fail
        refine (HC1.out _ HT.out).mono ?_
        rintro x w1 ⟨B, cp, rfl, hr1, b1⟩
        replace HT := Lib.hid (HT.out.below b1)
        have B1 := Lib.hid b1
        have HR1 := Lib.hid hr1
        clear hr1 b1
        go_wp2_with fail
        refine (HC2.out _ HT.out).mono ?_
        rintro e w2 ⟨rfl, b2⟩
        have B2 := Lib.hid (below_step B1.out b2)
        replace HR1 := Lib.hid (HR1.out.below b2)
        clear b2
        go_wp2_with fail
        refine (knows12_any _).mono ?_
        rintro e w3 ⟨rfl, b3⟩
        have B3 := Lib.hid (below_step B2.out b3)
        clear b3
        go_wp2_with fail
        go_ret
        exact ⟨rfl, B3.out⟩
      · have HC1 := Lib.hid (lay_to A c F [] 0 5 hl.2 rfl (by rw [hl.1, e]; rfl) F.length rfl)
        have HC2 := Lib.hid (share_v A c F 0 0 5 (by rw [hs]; rfl) (by rw [hz]; rfl) (by rw [e]; rfl) F.length rfl)
        clear h0 hz hs e hl
        go_enter Try.func5, Try.ntmps5
        go_wp2_with fail
        refine (HC1.out _ HT.out).mono ?_
        rintro x w1 ⟨B, cp, rfl, hr1, b1⟩
        replace HT := Lib.hid (HT.out.below b1)
        have B1 := Lib.hid b1
        have HR1 := Lib.hid hr1
        clear hr1 b1
        go_wp2_with fail
        refine (HC2.out _ HT.out).mono ?_
        rintro e w2 ⟨rfl, b2⟩
        have B2 := Lib.hid (below_step B1.out b2)
        replace HR1 := Lib.hid (HR1.out.below b2)
        clear b2
        go_wp2_with fail
        refine (knows12_any _).mono ?_
        rintro e w3 ⟨rfl, b3⟩
        have B3 := Lib.hid (below_step B2.out b3)
        clear b3
        go_wp2_with fail
        go_ret
        exact ⟨rfl, B3.out⟩
  · clear hr
    unfold maxLen at hm
    go_enter Try.func5, Try.ntmps5
    go_wp2_with fail
    refine (knows12_any _).mono ?_
    rintro e w1 ⟨rfl, b1⟩
    have B1 := Lib.hid b1
    clear b1
    go_wp2_with fail
    go_ret
    exact ⟨rfl, B1.out⟩

set_option maxRecDepth 100000 in
theorem lifted (os : Os) (started : os.Started) (H : Type) (enc : TypeId × Value → H) :
    ReturnsInHanded {} Try.checked os 5 .any (Rows.synthSharesSpec.pre6 enc Try.prog Try.f5 Rows.synthSharesRow.domain false) (Rows.synthSharesSpec.post enc Try.prog Try.f5 false true false false) := by
  refine returnsInHanded_of_change (C := Try.checked) own started (by kernel_rfl) Try.func5
    (ChangeSpec.witness6 (enc := enc) (C := Try.checked) false ⟨#[], #[.slice none 0 0], []⟩ 8 (by kernel_rfl) (by kernel_rfl) (by kernel_rfl) (by kernel_rfl)) ?_
  intro W base args ds gs before hval0 hW hcnd _
  have hval : ∀ (j : Nat) t v, Try.f5.params[j]? = some t → args[j]? = some v → Value.okWide Try.prog W .any base t v := hval0
  have hW' := hW
  obtain ⟨p, q, hA0, hV, rfl, hfz, hnd⟩ := hW
  have hA : DataW.TrodAll enc Try.prog W 0 (fun _ => true) true Try.f5.params.toList args.toList ds p := hA0
  rw [Try.params5] at hA hval
  obtain ⟨v0, d0, rfl, rfl, h0⟩ := trodAll_one hA
  obtain ⟨rfl, rfl⟩ := trodVars_none hV
  obtain ⟨A0, c0, l0, rfl, hr0⟩ := Mm.open_list (α := Int × Int) Try.underlying22 Sy.opFaces (hval 0 22 v0 rfl rfl) h0
  clear hA0 hval0
  refine (walk A0 c0 l0 W hr0).mono fun e W' ⟨he, bel⟩ => ?_
  subst he
  have hlt0 : ∀ x ∈ p, x.block < W.heap.size := fun x hx => hW'.lt x (by simpa using hx)
  exact ⟨_, rfl, _, _, _, [], _, [], hW', trodAll_mk1 (shut_bool Try.underlying4 _), trodAll_mk1 (Below.trod laidOut (by kernel_rfl) (of_decide_eq_true (by kernel_rfl)) h0 bel hlt0), rfl, bel.frame _, fun h => by cases h⟩

/-- The statement. -/
theorem proved : Rows.SynthSharesSaid :=
  OpenClaim.holds_of_wide 5 Try.f5 rfl rfl rfl rfl rfl rfl rfl ⟨rfl, rfl, rfl, rfl, rfl⟩ rfl rfl rfl rfl rfl (by kernel_rfl) Try.func5 (by kernel_rfl)
    (of_decide_eq_true (by kernel_rfl)) (by unfold Func.isWrapper; first | (rw [if_pos (by decide +kernel)]; kernel_rfl) | (rw [if_neg (by decide +kernel)]; exact ⟨rfl, rfl⟩))
    (fun os started H enc _ => lifted os started H enc)
#print axioms proved

end Go.Proofs.Ytmfbmbbndiafiaa.synthShares
