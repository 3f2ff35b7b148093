/-
  For all tasks and any number the statement BlockTells of layer 8 returns true (the blocking, and where it may change, is what the document says, or the error is told), and its arguments read as before. No condition.
-/
import Derived.Test.YtnkgfkmdfplneaaLaw05Args
import Derived.Test.YtnkgfkmdfplneaaLaw08Knows
namespace Go.Proofs.Ytnkgfkmdfplneaa.blockTells
open Go.ChangeShapes Go.WideShapes Go.ChangeAt Go.RowKit
open Mm Tk Bk

set_option maxHeartbeats 1600000 in
theorem walk (A : Option Addr) (c : Nat) (L : List Tsk) (t : Int) (w : World) (hr : Rd w A c L) (ft : Fit t) :
    Calls Try.prog 3 #[.slice A L.length c, .int .i64 t] w fun e w' => e = .returned (.bool true) ∧ Below w.heap.size w w' := by
  have HR := Lib.hid hr
  have FT := Lib.hid ft
  clear hr ft
  cases hg : greatB L with
  | true =>
    go_enter Try.func3, Try.ntmps3
    go_wp2_with fail
    refine (great_any A c L _ HR.out).mono ?_
    rintro e w1 ⟨rfl, b1⟩
    rw [hg]
    have B1 := Lib.hid b1
    clear b1
    go_wp2_with fail
    refine (knows8_any _).mono ?_
    rintro e w2 ⟨rfl, b2⟩
    have B2 := Lib.hid (below_step B1.out b2)
    clear b2
    go_wp2_with fail
    go_ret
    exact ⟨rfl, B2.out⟩
  | false =>
    obtain ⟨hL, hin⟩ := great_no hg
    have HT : Hid (TL w A c L) := ⟨by omega, fun j hj => by have := hin j hj; omega, HR.out⟩
    have HGR := Lib.hid hg
    clear hg hin
    have HL := Lib.hid hL
    clear hL
    cases hv : allB L with
    | false =>
      obtain ⟨z1, z2, z3⟩ := of_bad hv t
      have HV := Lib.hid hv
      have Z1 := Lib.hid z1
      have Z2 := Lib.hid z2
      have Z3 := Lib.hid z3
      clear hv z1 z2 z3
      go_enter Try.func3, Try.ntmps3
      go_wp2_with fail
      refine (great_any A c L _ HR.out).mono ?_
      rintro e w1 ⟨rfl, b1⟩
      rw [HGR.out]
      replace HT := Lib.hid (HT.out.below b1)
      have B1 := Lib.hid b1
      clear b1
      go_wp2_with fail
      refine (of_v A c L t 0 1 Z1.out Z2.out _ rfl _ HT.out).mono ?_
      rintro e w2 ⟨rfl, b2⟩
      have B2 := Lib.hid (below_step B1.out b2)
      replace HT := Lib.hid (HT.out.below b2)
      clear b2
      go_wp2_with fail
      refine (steps_v A c L [] 1 Z3.out Z2.out _ rfl 0 rfl _ HT.out).mono ?_
      rintro e w3 ⟨A3, c3, rfl, _, b3⟩
      have B3 := Lib.hid (below_step B2.out b3)
      replace HT := Lib.hid (HT.out.below b3)
      clear b3
      go_wp2_with fail
      refine (refAll_v A c L false HV.out _ rfl _ HT.out).mono ?_
      rintro e w4 ⟨rfl, b4⟩
      have B4 := Lib.hid (below_step B3.out b4)
      replace HT := Lib.hid (HT.out.below b4)
      clear b4
      go_wp2_with fail
      refine (knows8_any _).mono ?_
      rintro e w5 ⟨rfl, b5⟩
      have B5 := Lib.hid (below_step B4.out b5)
      clear b5
      go_wp2_with fail
      go_ret
      exact ⟨rfl, B5.out⟩
    | true =>
      obtain ⟨z1, z2, z3⟩ := of_good hv t
      have hsl : (steps L).length ≤ 1000000 := by
        have h1 := len_steps L
        omega
      obtain ⟨v, hvv⟩ : ∃ v, ((blk L t : Nat) : Int) = v := ⟨_, rfl⟩
      obtain ⟨s, hss⟩ : ∃ s, steps L = s := ⟨_, rfl⟩
      obtain ⟨m, hm⟩ : ∃ m, s.length = m := ⟨_, rfl⟩
      rw [hvv] at z1
      rw [hss] at z3 hsl
      rw [hm] at hsl
      have HV := Lib.hid hv
      have Z1 := Lib.hid z1
      have Z2 := Lib.hid z2
      have Z3 := Lib.hid z3
      have HVV := Lib.hid hvv
      have HSS := Lib.hid hss
      have HM := Lib.hid hm
      have HSL := Lib.hid hsl
      clear hv z1 z2 z3 hvv hss hm hsl
      go_enter Try.func3, Try.ntmps3
      go_wp2_with fail
      refine (great_any A c L _ HR.out).mono ?_
      rintro e w1 ⟨rfl, b1⟩
      rw [HGR.out]
      replace HT := Lib.hid (HT.out.below b1)
      have B1 := Lib.hid b1
      clear b1
      go_wp2_with fail
      refine (of_v A c L t v 0 Z1.out Z2.out _ rfl _ HT.out).mono ?_
      rintro e w2 ⟨rfl, b2⟩
      have B2 := Lib.hid (below_step B1.out b2)
      replace HT := Lib.hid (HT.out.below b2)
      clear b2
      go_wp2_with fail
      refine (steps_v A c L s 0 Z3.out Z2.out _ rfl m HM.out _ HT.out).mono ?_
      rintro e w3 ⟨A3, c3, rfl, r3, b3⟩
      have R3 := Lib.hid r3
      have B3 := Lib.hid (below_step B2.out b3)
      replace HT := Lib.hid (HT.out.below b3)
      clear b3 r3
      go_wp2_with fail
      refine (refAll_v A c L true HV.out _ rfl _ HT.out).mono ?_
      rintro e w4 ⟨rfl, b4⟩
      have B4 := Lib.hid (below_step B3.out b4)
      replace HT := Lib.hid (HT.out.below b4)
      replace R3 := Lib.hid (R3.out.below b4)
      clear b4
      go_wp2_with fail
      refine (refOf_v A c L t v HVV.out _ rfl _ HT.out).mono ?_
      rintro e w5 ⟨rfl, b5⟩
      have B5 := Lib.hid (below_step B4.out b5)
      replace HT := Lib.hid (HT.out.below b5)
      replace R3 := Lib.hid (R3.out.below b5)
      clear b5
      go_wp2_with fail
      refine (refSteps_v A c L s HV.out HSS.out _ rfl m HM.out _ HT.out).mono ?_
      rintro e w6 ⟨A6, c6, rfl, r6, b6⟩
      have R6 := Lib.hid r6
      have B6 := Lib.hid (below_step B5.out b6)
      replace R3 := Lib.hid (R3.out.below b6)
      clear b6 r6
      go_wp2_with fail
      refine (sameInts_one A3 A6 c3 c6 s m HM.out _ HSL.out R3.out R6.out).mono ?_
      rintro e w7 ⟨rfl, b7⟩
      have B7 := Lib.hid (below_step B6.out b7)
      clear b7
      go_wp2_with fail
      refine (knows8_any _).mono ?_
      rintro e w8 ⟨rfl, b8⟩
      have B8 := Lib.hid (below_step B7.out b8)
      clear b8
      go_wp2_with fail
      go_ret
      exact ⟨rfl, B8.out⟩

set_option maxRecDepth 100000 in
theorem lifted (os : Os) (started : os.Started) (H : Type) (enc : TypeId × Value → H) :
    ReturnsInHanded {} Try.checked os 3 .any (Rows.blockTellsSpec.pre6 enc Try.prog Try.f3 Rows.blockTellsRow.domain false) (Rows.blockTellsSpec.post enc Try.prog Try.f3 false true false false) := by
  refine returnsInHanded_of_change (C := Try.checked) own started (by kernel_rfl) Try.func3
    (ChangeSpec.witness6 (enc := enc) (C := Try.checked) false ⟨#[], #[.slice none 0 0, .int .i64 0], []⟩ 8 (by kernel_rfl) (by kernel_rfl) (by kernel_rfl) (by kernel_rfl)) ?_
  intro W base args ds gs before hval0 hW hcnd _
  have hval : ∀ (j : Nat) t v, Try.f3.params[j]? = some t → args[j]? = some v → Value.okWide Try.prog W .any base t v := hval0
  have hW' := hW
  obtain ⟨p, q, hA0, hV, rfl, hfz, hnd⟩ := hW
  have hA : DataW.TrodAll enc Try.prog W 0 (fun _ => true) true Try.f3.params.toList args.toList ds p := hA0
  rw [Try.params3] at hA hval
  obtain ⟨v0, v1, d0, d1, p0, p1, rfl, rfl, rfl, h0, h1⟩ := trodAll_two hA
  obtain ⟨rfl, rfl⟩ := trodVars_none hV
  obtain ⟨A0, c0, l0, rfl, hr0⟩ := Mm.open_list (α := Tk.Tsk) Try.underlying22 Tk.opTasks (hval 0 22 v0 rfl rfl) h0
  obtain ⟨n1, rfl, f1⟩ := Mm.open_num' Try.underlying3 (hval 1 3 v1 rfl rfl) h1
  clear hA0 hval0
  refine (walk A0 c0 l0 n1 W hr0 f1).mono fun e W' ⟨he, bel⟩ => ?_
  subst he
  have hlt0 : ∀ x ∈ p0, x.block < W.heap.size := fun x hx => hW'.lt x (by simp [hx])
  have hlt1 : ∀ x ∈ p1, x.block < W.heap.size := fun x hx => hW'.lt x (by simp [hx])
  exact ⟨_, rfl, _, _, _, [], _, [], hW', trodAll_mk1 (shut_bool Try.underlying4 _), trodAll_mk2 (Below.trod laidOut (by kernel_rfl) (of_decide_eq_true (by kernel_rfl)) h0 bel hlt0) (Below.trod laidOut (by kernel_rfl) (of_decide_eq_true (by kernel_rfl)) h1 bel hlt1), rfl, bel.frame _, fun h => by cases h⟩

/-- The statement. -/
theorem proved : Rows.BlockTellsSaid :=
  OpenClaim.holds_of_wide 3 Try.f3 rfl rfl rfl rfl rfl rfl rfl ⟨rfl, rfl, rfl, rfl, rfl⟩ rfl rfl rfl rfl rfl (by kernel_rfl) Try.func3 (by kernel_rfl)
    (of_decide_eq_true (by kernel_rfl)) (by unfold Func.isWrapper; first | (rw [if_pos (by decide +kernel)]; kernel_rfl) | (rw [if_neg (by decide +kernel)]; exact ⟨rfl, rfl⟩))
    (fun os started H enc _ => lifted os started H enc)
#print axioms proved

end Go.Proofs.Ytnkgfkmdfplneaa.blockTells
