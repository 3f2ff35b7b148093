/-
  For all tasks and jobs the statement JobHolds of layer 14 returns true (what jobs hold is what the document says), and its arguments read as before. No condition.
-/
import Derived.Test.YtdibiidpknckfaaGlaw14
import Derived.Test.YtdibiidpknckfaaGlaw05
namespace Go.Proofs.Ytdibiidpknckfaa.jobHolds
open Go.ChangeShapes Go.WideShapes Go.ChangeAt Go.RowKit
open Mm Tk Pm

set_option maxRecDepth 20000 in
set_option maxHeartbeats 3200000 in
theorem walk (A : Option Addr) (c : Nat) (L : List Tsk) (B : Option Addr) (d : Nat) (l : List Jb) (w : World) (hr : Rd w A c L) (hs : Rd w B d l) :
    Calls Try.prog 3 #[.slice A L.length c, .slice B l.length d] w fun e w' => e = .returned (.bool true) ∧ Below w.heap.size w w' := by
  have HG := Lib.hid (greatJ_any A B c d L l w hr)
  have HR := Lib.hid hr
  have HS := Lib.hid hs
  clear hr hs
  cases hg : greatJ L l with
  | true =>
    rw [hg] at HG
    clear hg
    go_enter Try.func3, Try.ntmps3
    go_wp2_with fail
    refine (HG.out).mono ?_
    rintro e w1 ⟨rfl, b1⟩
    have B1 := Lib.hid b1
    clear b1
    go_wp2_with fail
    refine (knows14_any _).mono ?_
    rintro e w2 ⟨rfl, b2⟩
    have B2 := Lib.hid (below_step B1.out b2)
    clear b2
    go_wp2_with fail
    go_ret
    exact ⟨rfl, B2.out⟩
  | false =>
    rw [hg] at HG
    obtain ⟨hL, hin, hl⟩ := greatJ_no hg
    have HT : Hid (TL w A c L) := ⟨by omega, fun j hj => by have := hin j hj; omega, HR.out⟩
    have hbig : l.length ≤ 1000000 := by omega
    clear hg hin HR
    cases ha : allJ L l with
    | false =>
      have HP : Hid (heldP L l = []) := heldP_none ha
      have HA := Lib.hid (fun w1 HT HS => refAllJobs_any A B c d L l w1 HT hbig HS)
      rw [ha] at HA
      clear ha
      go_enter Try.func3, Try.ntmps3
      go_wp2_with fail
      refine (HG.out).mono ?_
      rintro e w1 ⟨rfl, b1⟩
      have B1 := Lib.hid b1
      replace HT := Lib.hid (HT.out.below b1)
      replace HS := Lib.hid (HS.out.below b1)
      clear b1
      go_wp2_with fail
      refine (heldJobs_any A B c d L l w1 HT.out hbig HS.out).mono ?_
      rintro e w2 ⟨A2, c2, rfl, k1, k2⟩
      rw [HP.out]
      replace HT := Lib.hid (HT.out.below k2)
      replace HS := Lib.hid (HS.out.below k2)
      have B2 := Lib.hid (below_step B1.out k2)
      clear k1 k2
      go_wp2_with fail
      refine (HA.out _ HT.out HS.out).mono ?_
      rintro e w3 ⟨rfl, b3⟩
      have B3 := Lib.hid (below_step B2.out b3)
      clear b3
      go_wp2_with fail
      refine (knows14_any _).mono ?_
      rintro e w4 ⟨rfl, b4⟩
      have B4 := Lib.hid (below_step B3.out b4)
      clear b4
      go_wp2_with fail
      go_ret
      exact ⟨rfl, B4.out⟩
    | true =>
      have HP : Hid (heldP L l = heldAll L l) := heldP_all ha
      have HA := Lib.hid (fun w1 HT HS => refAllJobs_any A B c d L l w1 HT hbig HS)
      have HH := Lib.hid (fun w1 HT HS => refHeldJobs_any A B c d L l w1 HT HS ha)
      obtain ⟨hal, h32, -, hrj⟩ := allJ_iff.1 ha
      have hlen := heldAll_length hal hrj
      rw [ha] at HA
      clear ha hal hrj
      obtain ⟨h, hh⟩ : ∃ h, heldAll L l = h := ⟨_, rfl⟩
      rw [hh] at HP hlen HH
      obtain ⟨m, hm⟩ : ∃ m, h.length = m := ⟨_, rfl⟩
      have HM := Lib.hid hm
      rw [hm] at hlen
      have hm1 : m ≤ 1000000 := by omega
      clear hh hm
      go_enter Try.func3, Try.ntmps3
      go_wp2_with fail
      refine (HG.out).mono ?_
      rintro e w1 ⟨rfl, b1⟩
      have B1 := Lib.hid b1
      replace HT := Lib.hid (HT.out.below b1)
      replace HS := Lib.hid (HS.out.below b1)
      clear b1
      go_wp2_with fail
      refine (heldJobs_any A B c d L l w1 HT.out hbig HS.out).mono ?_
      rintro e w2 ⟨A2, c2, rfl, k1, k2⟩
      rw [HP.out, HM.out]
      rw [HP.out] at k1
      replace HT := Lib.hid (HT.out.below k2)
      replace HS := Lib.hid (HS.out.below k2)
      have B2 := Lib.hid (below_step B1.out k2)
      have R2 := Lib.hid (Ow.rd k1)
      clear k1 k2
      go_wp2_with fail
      refine (HA.out _ HT.out HS.out).mono ?_
      rintro e w3 ⟨rfl, b3⟩
      have B3 := Lib.hid (below_step B2.out b3)
      replace HT := Lib.hid (HT.out.below b3)
      replace HS := Lib.hid (HS.out.below b3)
      replace R2 := Lib.hid (R2.out.below b3)
      clear b3
      go_wp2_with fail
      refine (HH.out _ HT.out HS.out).mono ?_
      rintro e w4 ⟨A4, c4, rfl, k1, k2⟩
      rw [HM.out]
      replace R2 := Lib.hid (R2.out.below k2)
      have R4 := Lib.hid (Ow.rd k1)
      have B4 := Lib.hid (below_step B3.out k2)
      clear k1 k2
      go_wp2_with fail
      refine (Bk.sameInts_one A2 A4 c2 c4 h m HM.out _ hm1 R2.out R4.out).mono ?_
      rintro e w5 ⟨rfl, b5⟩
      have B5 := Lib.hid (below_step B4.out b5)
      clear b5
      go_wp2_with fail
      refine (knows14_any _).mono ?_
      rintro e w6 ⟨rfl, b6⟩
      have B6 := Lib.hid (below_step B5.out b6)
      clear b6
      go_wp2_with fail
      go_ret
      exact ⟨rfl, B6.out⟩

set_option maxRecDepth 100000 in
theorem lifted (os : Os) (started : os.Started) (H : Type) (enc : TypeId × Value → H) :
    ReturnsInHanded {} Try.checked os 3 .any (Rows.jobHoldsSpec.pre6 enc Try.prog Try.f3 Rows.jobHoldsRow.domain false) (Rows.jobHoldsSpec.post enc Try.prog Try.f3 false true false false) := by
  refine returnsInHanded_of_change (C := Try.checked) own started (by kernel_rfl) Try.func3
    (ChangeSpec.witness6 (enc := enc) (C := Try.checked) false ⟨#[], #[.slice none 0 0, .slice none 0 0], []⟩ 8 (by kernel_rfl) (by kernel_rfl) (by kernel_rfl) (by kernel_rfl)) ?_
  intro W base args ds gs before hval0 hW hcnd _
  have hval : ∀ (j : Nat) t v, Try.f3.params[j]? = some t → args[j]? = some v → Value.okWide Try.prog W .any base t v := hval0
  have hW' := hW
  obtain ⟨p, q, hA0, hV, rfl, hfz, hnd⟩ := hW
  have hA : DataW.TrodAll enc Try.prog W 0 (fun _ => true) true Try.f3.params.toList args.toList ds p := hA0
  rw [Try.params3] at hA hval
  obtain ⟨v0, v1, d0, d1, p0, p1, rfl, rfl, rfl, h0, h1⟩ := trodAll_two hA
  obtain ⟨rfl, rfl⟩ := trodVars_none hV
  obtain ⟨A0, c0, l0, rfl, hr0⟩ := Mm.open_list (α := Tk.Tsk) Try.underlying22 Tk.opTasks (hval 0 22 v0 rfl rfl) h0
  obtain ⟨A1, c1, l1, rfl, hr1⟩ := Mm.open_list (α := Pm.Jb) Try.underlying23 Pm.opJobs (hval 1 23 v1 rfl rfl) h1
  clear hA0 hval0
  refine (walk A0 c0 l0 A1 c1 l1 W hr0 hr1).mono fun e W' ⟨he, bel⟩ => ?_
  subst he
  have hlt0 : ∀ x ∈ p0, x.block < W.heap.size := fun x hx => hW'.lt x (by simp [hx])
  have hlt1 : ∀ x ∈ p1, x.block < W.heap.size := fun x hx => hW'.lt x (by simp [hx])
  exact ⟨_, rfl, _, _, _, [], _, [], hW', trodAll_mk1 (shut_bool Try.underlying4 _), trodAll_mk2 (Below.trod laidOut (by kernel_rfl) (of_decide_eq_true (by kernel_rfl)) h0 bel hlt0) (Below.trod laidOut (by kernel_rfl) (of_decide_eq_true (by kernel_rfl)) h1 bel hlt1), rfl, bel.frame _, fun h => by cases h⟩

/-- The statement. -/
theorem proved : Rows.JobHoldsSaid :=
  OpenClaim.holds_of_wide 3 Try.f3 rfl rfl rfl rfl rfl rfl rfl ⟨rfl, rfl, rfl, rfl, rfl⟩ rfl rfl rfl rfl rfl (by kernel_rfl) Try.func3 (by kernel_rfl)
    (of_decide_eq_true (by kernel_rfl)) (by unfold Func.isWrapper; first | (rw [if_pos (by decide +kernel)]; kernel_rfl) | (rw [if_neg (by decide +kernel)]; exact ⟨rfl, rfl⟩))
    (fun os started H enc _ => lifted os started H enc)
#print axioms proved


end Go.Proofs.Ytdibiidpknckfaa.jobHolds
