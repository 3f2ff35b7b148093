/-
  For any list of interfaces the statement SynthLays of layer 12 returns true (whom each tick is given to is what the document says, or the error is told), and its argument reads as before. No condition.
-/
import Derived.Test.YtmfbmbbndiafiaaGlaw12
namespace Go.Proofs.Ytmfbmbbndiafiaa.synthLays
open Go.ChangeShapes Go.WideShapes Go.ChangeAt Go.RowKit
open Mm Sp Sy

set_option maxHeartbeats 1600000 in
theorem walk (A : Option Addr) (c : Nat) (F : List Fce) (w : World) (hr : Rd w A c F) :
    Calls Try.prog 4 #[.slice A F.length c] w fun e w' => e = .returned (.bool true) ∧ Below w.heap.size w w' := by
  have hm := hr.max
  have hle := hr.le
  by_cases hlen : F.length ≤ 20
  · have HT : Hid (CL w A c F) := ⟨by omega, hr⟩
    have hl := layL_len F
    obtain ⟨L, hL⟩ : ∃ L, layL F = L := ⟨_, rfl⟩
    obtain ⟨m, hm2⟩ : ∃ m, L.length = m := ⟨_, rfl⟩
    obtain ⟨e, he⟩ : ∃ e : Int, ((layE F : Nat) : Int) = e := ⟨_, rfl⟩
    rw [hL, hm2] at hl
    have i1 : (e == e) = true := by simp
    have i2 : decide (e = e) = true := by simp
    have HL := Lib.hid hL
    have HM2 := Lib.hid hm2
    have HE := Lib.hid he
    have HR := Lib.hid hr
    clear hL hm2 he hr
    unfold maxLen at hm
    go_enter Try.func4, Try.ntmps4
    go_wp2_with fail
    refine (lay_to A c F L m e HL.out HM2.out HE.out F.length rfl _ HT.out).mono ?_
    rintro x w1 ⟨B1, cp1, rfl, h1, b1⟩
    have HR1 := Lib.hid h1
    have HB1 := Lib.hid b1
    replace HT := Lib.hid (HT.out.below b1)
    clear h1 b1
    go_wp2_with fail
    refine ((refLay_v A c F F.length rfl _ HT.out).mono fun _ _ h => h.to HL.out HM2.out HE.out).mono ?_
    rintro x w2 ⟨B2, cp2, rfl, h2, b2⟩
    replace HR1 := Lib.hid (HR1.out.below b2)
    have HR2 := Lib.hid h2
    have HB2 := Lib.hid (below_step HB1.out b2)
    clear h2 b2
    go_wp2_with fail
    refine (Bk.sameInts_one _ _ _ _ L m HM2.out _ (by omega) HR1.out HR2.out).mono ?_
    rintro x w3 ⟨rfl, b3⟩
    have HB3 := Lib.hid (below_step HB2.out b3)
    clear b3
    go_wp2_with fail
    refine (knows12_any _).mono ?_
    rintro x w4 ⟨rfl, b4⟩
    have HB4 := Lib.hid (below_step HB3.out b4)
    clear b4
    go_wp2_with fail
    go_ret
    exact ⟨rfl, HB4.out⟩
  · clear hr
    unfold maxLen at hm
    go_enter Try.func4, Try.ntmps4
    go_wp2_with fail
    refine (knows12_any _).mono ?_
    rintro e w1 ⟨rfl, b1⟩
    have B1 := Lib.hid b1
    clear b1
    go_wp2_with fail
    go_ret
    exact ⟨rfl, B1.out⟩

set_option maxRecDepth 100000 in
theorem lifted (os : Os) (started : os.Started) (H : Type) (enc : TypeId × Value → H) :
    ReturnsInHanded {} Try.checked os 4 .any (Rows.synthLaysSpec.pre6 enc Try.prog Try.f4 Rows.synthLaysRow.domain false) (Rows.synthLaysSpec.post enc Try.prog Try.f4 false true false false) := by
  refine returnsInHanded_of_change (C := Try.checked) own started (by kernel_rfl) Try.func4
    (ChangeSpec.witness6 (enc := enc) (C := Try.checked) false ⟨#[], #[.slice none 0 0], []⟩ 8 (by kernel_rfl) (by kernel_rfl) (by kernel_rfl) (by kernel_rfl)) ?_
  intro W base args ds gs before hval0 hW hcnd _
  have hval : ∀ (j : Nat) t v, Try.f4.params[j]? = some t → args[j]? = some v → Value.okWide Try.prog W .any base t v := hval0
  have hW' := hW
  obtain ⟨p, q, hA0, hV, rfl, hfz, hnd⟩ := hW
  have hA : DataW.TrodAll enc Try.prog W 0 (fun _ => true) true Try.f4.params.toList args.toList ds p := hA0
  rw [Try.params4] at hA hval
  obtain ⟨v0, d0, rfl, rfl, h0⟩ := trodAll_one hA
  obtain ⟨rfl, rfl⟩ := trodVars_none hV
  obtain ⟨A0, c0, l0, rfl, hr0⟩ := Mm.open_list (α := Int × Int) Try.underlying22 Sy.opFaces (hval 0 22 v0 rfl rfl) h0
  clear hA0 hval0
  refine (walk A0 c0 l0 W hr0).mono fun e W' ⟨he, bel⟩ => ?_
  subst he
  have hlt0 : ∀ x ∈ p, x.block < W.heap.size := fun x hx => hW'.lt x (by simpa using hx)
  exact ⟨_, rfl, _, _, _, [], _, [], hW', trodAll_mk1 (shut_bool Try.underlying4 _), trodAll_mk1 (Below.trod laidOut (by kernel_rfl) (of_decide_eq_true (by kernel_rfl)) h0 bel hlt0), rfl, bel.frame _, fun h => by cases h⟩

/-- The statement. -/
theorem proved : Rows.SynthLaysSaid :=
  OpenClaim.holds_of_wide 4 Try.f4 rfl rfl rfl rfl rfl rfl rfl ⟨rfl, rfl, rfl, rfl, rfl⟩ rfl rfl rfl rfl rfl (by kernel_rfl) Try.func4 (by kernel_rfl)
    (of_decide_eq_true (by kernel_rfl)) (by unfold Func.isWrapper; first | (rw [if_pos (by decide +kernel)]; kernel_rfl) | (rw [if_neg (by decide +kernel)]; exact ⟨rfl, rfl⟩))
    (fun os started H enc _ => lifted os started H enc)
#print axioms proved

end Go.Proofs.Ytmfbmbbndiafiaa.synthLays
