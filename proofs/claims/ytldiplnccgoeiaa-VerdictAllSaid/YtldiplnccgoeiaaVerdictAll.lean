/-
  For all tasks, any interface and every number the statement VerdictAll of layer 10 returns true (tasks that fit do so for each tick, however many), and its arguments read as before. No condition.
-/
import Derived.Test.YtldiplnccgoeiaaLaw05Args
import Derived.Test.YtldiplnccgoeiaaLaw09Args
import Derived.Test.YtldiplnccgoeiaaLaw10Refs
import Derived.Test.YtldiplnccgoeiaaLaw10Knows
import Derived.Test.YtldiplnccgoeiaaSupplyBound
namespace Go.Proofs.Ytldiplnccgoeiaa.verdictAll
open Go.ChangeShapes Go.WideShapes Go.ChangeAt Go.RowKit
open Mm Tk Vd

theorem bz {p b k : Nat} (h4 : 1 ≤ b) (h5 : b ≤ p) (h6 : p ≤ 200) (hk : k ≤ 4611686018427387903) (z : Nat) (hz : Sp.sbf p b k = z) : ((Sp.bndZ p b k : Nat) : Int) = z ∧ ((Sp.bndE p b k : Nat) : Int) = 0 := by
  have h : Sp.okB p b k = true := Sp.ok_iff.2 ⟨Sp.right_iff.2 ⟨by omega, by omega, by omega⟩, by omega, by omega⟩
  unfold Sp.bndZ Sp.bndE
  rw [h]
  simp only [if_true, Int.toNat_natCast, hz]
  exact ⟨trivial, rfl⟩
set_option maxHeartbeats 3200000 in
theorem walk (A : Option Addr) (c : Nat) (L : List Tsk) (P B : Int) (t : Int) (w : World) (hr : Rd w A c L) (_ : Fit P) (_ : Fit B) (_ : Fit t) :
    Calls Try.prog 6 #[.slice A L.length c, .agg #[.int .i64 P, .int .i64 B], .int .i64 t] w fun e w' => e = .returned (.bool true) ∧ Below w.heap.size w w' := by
  obtain ⟨t1, t2⟩ := Sp.fc_new w P B
  have b0 := below_one w (Obj.cells #[.int .i64 P, .int .i64 B] 31)
  replace hr := hr.below b0
  have HR := Lib.hid hr
  have B0 := Lib.hid b0
  clear hr b0
  cases hg : greatB L with
  | true =>
    have HG := Lib.hid hg
    clear hg
    go_enter Try.func6, Try.ntmps6
    go_wp2_with fail
    refine (great_any A c L _ HR.out).mono ?_
    rintro e w1 ⟨rfl, b1⟩
    rw [HG.out]
    have B1 := Lib.hid (below_step B0.out b1)
    clear b1
    go_wp2_with fail
    refine (knows10_any _).mono ?_
    rintro e w2 ⟨rfl, b2⟩
    have B2 := Lib.hid (below_step B1.out b2)
    clear b2
    go_wp2_with fail
    go_ret
    exact ⟨rfl, B2.out⟩
  | false =>
    obtain ⟨hL, hin⟩ := great_no hg
    have HT : Hid (TL _ A c L) := ⟨by omega, fun j hj => by have := hin j hj; omega, HR.out⟩
    have HG := Lib.hid hg
    have HL := Lib.hid hL
    have HIN := Lib.hid hin
    clear hg hL hin
    by_cases h0 : t < 0
    · skip
      go_enter Try.func6, Try.ntmps6
      go_wp2_with fail
      refine (great_any A c L _ HR.out).mono ?_
      rintro e' w1 ⟨rfl, b1⟩
      rw [HG.out]
      replace t1 := (cell_below b1) t1
      replace t2 := (cell_below b1) t2
      replace HT := Lib.hid (HT.out.below b1)
      have B1 := Lib.hid (below_step B0.out b1)
      clear b1
      go_wp2_with fail
      refine (knows10_any _).mono ?_
      rintro e w2 ⟨rfl, b2⟩
      have B2 := Lib.hid (below_step B1.out b2)
      clear b2
      go_wp2_with fail
      go_ret
      exact ⟨rfl, B2.out⟩
    · by_cases h5 : 1099511627776 < t
      · skip
        go_enter Try.func6, Try.ntmps6
        go_wp2_with fail
        refine (great_any A c L _ HR.out).mono ?_
        rintro e' w1 ⟨rfl, b1⟩
        rw [HG.out]
        replace t1 := (cell_below b1) t1
        replace t2 := (cell_below b1) t2
        replace HT := Lib.hid (HT.out.below b1)
        have B1 := Lib.hid (below_step B0.out b1)
        clear b1
        go_wp2_with fail
        refine (knows10_any _).mono ?_
        rintro e w2 ⟨rfl, b2⟩
        have B2 := Lib.hid (below_step B1.out b2)
        clear b2
        go_wp2_with fail
        go_ret
        exact ⟨rfl, B2.out⟩
      · obtain ⟨k, rfl⟩ : ∃ k : Nat, t = k := ⟨t.toNat, by omega⟩
        cases hf : fitsB L P B with
        | false =>
          obtain ⟨e, he⟩ : ∃ e, cycE L P B = e := ⟨_, rfl⟩
          have hee := cycE_cases L P B
          rw [he] at hee
          have HF := Lib.hid (fits_v A c L P B false e hf he L.length rfl)
          clear hf he
          rcases hee with rfl | rfl | rfl
          · skip
            go_enter Try.func6, Try.ntmps6
            go_wp2_with fail
            refine (great_any A c L _ HR.out).mono ?_
            rintro e' w1 ⟨rfl, b1⟩
            rw [HG.out]
            replace t1 := (cell_below b1) t1
            replace t2 := (cell_below b1) t2
            replace HT := Lib.hid (HT.out.below b1)
            have B1 := Lib.hid (below_step B0.out b1)
            clear b1
            go_wp2_with fail
            refine (HF.out _ HT.out).mono ?_
            rintro e w2 ⟨rfl, b2⟩
            replace t1 := cell_below b2 t1
            replace t2 := cell_below b2 t2
            have B2 := Lib.hid (below_step B1.out b2)
            replace HT := Lib.hid (HT.out.below b2)
            clear b2
            go_wp2_with fail
            refine (knows10_any _).mono ?_
            rintro e w3 ⟨rfl, b3⟩
            have B3 := Lib.hid (below_step B2.out b3)
            clear b3
            go_wp2_with fail
            go_ret
            exact ⟨rfl, B3.out⟩
          · skip
            go_enter Try.func6, Try.ntmps6
            go_wp2_with fail
            refine (great_any A c L _ HR.out).mono ?_
            rintro e' w1 ⟨rfl, b1⟩
            rw [HG.out]
            replace t1 := (cell_below b1) t1
            replace t2 := (cell_below b1) t2
            replace HT := Lib.hid (HT.out.below b1)
            have B1 := Lib.hid (below_step B0.out b1)
            clear b1
            go_wp2_with fail
            refine (HF.out _ HT.out).mono ?_
            rintro e w2 ⟨rfl, b2⟩
            replace t1 := cell_below b2 t1
            replace t2 := cell_below b2 t2
            have B2 := Lib.hid (below_step B1.out b2)
            replace HT := Lib.hid (HT.out.below b2)
            clear b2
            go_wp2_with fail
            refine (knows10_any _).mono ?_
            rintro e w3 ⟨rfl, b3⟩
            have B3 := Lib.hid (below_step B2.out b3)
            clear b3
            go_wp2_with fail
            go_ret
            exact ⟨rfl, B3.out⟩
          · skip
            go_enter Try.func6, Try.ntmps6
            go_wp2_with fail
            refine (great_any A c L _ HR.out).mono ?_
            rintro e' w1 ⟨rfl, b1⟩
            rw [HG.out]
            replace t1 := (cell_below b1) t1
            replace t2 := (cell_below b1) t2
            replace HT := Lib.hid (HT.out.below b1)
            have B1 := Lib.hid (below_step B0.out b1)
            clear b1
            go_wp2_with fail
            refine (HF.out _ HT.out).mono ?_
            rintro e w2 ⟨rfl, b2⟩
            replace t1 := cell_below b2 t1
            replace t2 := cell_below b2 t2
            have B2 := Lib.hid (below_step B1.out b2)
            replace HT := Lib.hid (HT.out.below b2)
            clear b2
            go_wp2_with fail
            refine (knows10_any _).mono ?_
            rintro e w3 ⟨rfl, b3⟩
            have B3 := Lib.hid (below_step B2.out b3)
            clear b3
            go_wp2_with fail
            go_ret
            exact ⟨rfl, B3.out⟩
        | true =>
          have hc : cycOk L P B = true := by
            unfold fitsB at hf
            rw [Bool.and_eq_true] at hf
            exact hf.1
          obtain ⟨g1, g2⟩ := cycOk_iff.1 hc
          obtain ⟨g3, g4⟩ := in_iff.1 g1
          obtain ⟨p, b, rfl, rfl, h1, h2, h3⟩ := Sp.right_nat g4
          obtain ⟨_, _, z3⟩ := cyc_fine hc
          have hfit := (fits_true hc).1 hf k
          rw [Int.toNat_natCast, Int.toNat_natCast] at hfit
          obtain ⟨s, hs⟩ : ∃ s, Sp.sbf p b k = s := ⟨_, rfl⟩
          obtain ⟨y1, y2⟩ := bz (k := k) h1 h2 h3 (by omega) s hs
          obtain ⟨z1, z2⟩ := need_of g3 (t := k) (by omega)
          obtain ⟨z, hz⟩ : ∃ z, need L k = z := ⟨_, rfl⟩
          rw [hz] at z1 hfit
          rw [hs] at hfit
          have HF := Lib.hid (fits_v A c L p b true 0 hf z3 L.length rfl)
          have HN := Lib.hid (need_v A c L k z 0 z1 z2 L.length rfl)
          have HS := Lib.hid (Sp.bound_v p b k s 0 y1 y2)
          clear hc g1 g2 g3 g4 z3 hf hs y1 y2 z1 z2 hz
          go_enter Try.func6, Try.ntmps6
          go_wp2_with fail
          refine (great_any A c L _ HR.out).mono ?_
          rintro e' w1 ⟨rfl, b1⟩
          rw [HG.out]
          replace t1 := (cell_below b1) t1
          replace t2 := (cell_below b1) t2
          replace HT := Lib.hid (HT.out.below b1)
          have B1 := Lib.hid (below_step B0.out b1)
          clear b1
          go_wp2_with fail
          refine (HF.out _ HT.out).mono ?_
          rintro e w2 ⟨rfl, b2⟩
          replace t1 := cell_below b2 t1
          replace t2 := cell_below b2 t2
          have B2 := Lib.hid (below_step B1.out b2)
          replace HT := Lib.hid (HT.out.below b2)
          clear b2
          go_wp2_with fail
          refine (HN.out _ HT.out).mono ?_
          rintro e w3 ⟨rfl, b3⟩
          replace t1 := cell_below b3 t1
          replace t2 := cell_below b3 t2
          have B3 := Lib.hid (below_step B2.out b3)
          replace HT := Lib.hid (HT.out.below b3)
          clear b3
          go_wp2_with fail
          refine (HS.out _).mono ?_
          rintro e w4 ⟨rfl, b4⟩
          replace t1 := cell_below b4 t1
          replace t2 := cell_below b4 t2
          have B4 := Lib.hid (below_step B3.out b4)
          replace HT := Lib.hid (HT.out.below b4)
          clear b4
          go_wp2_with fail
          refine (knows10_any _).mono ?_
          rintro e w5 ⟨rfl, b5⟩
          have B5 := Lib.hid (below_step B4.out b5)
          clear b5
          go_wp2_with fail
          go_ret
          exact ⟨rfl, B5.out⟩

set_option maxRecDepth 100000 in
theorem lifted (os : Os) (started : os.Started) (H : Type) (enc : TypeId × Value → H) :
    ReturnsInHanded {} Try.checked os 6 .any (Rows.verdictAllSpec.pre6 enc Try.prog Try.f6 Rows.verdictAllRow.domain false) (Rows.verdictAllSpec.post enc Try.prog Try.f6 false true false false) := by
  refine returnsInHanded_of_change (C := Try.checked) own started (by kernel_rfl) Try.func6
    (ChangeSpec.witness6 (enc := enc) (C := Try.checked) false ⟨#[], #[.slice none 0 0, .agg #[.int .i64 0, .int .i64 0], .int .i64 0], []⟩ 8 (by kernel_rfl) (by kernel_rfl) (by kernel_rfl) (by kernel_rfl)) ?_
  intro W base args ds gs before hval0 hW hcnd _
  have hval : ∀ (j : Nat) t v, Try.f6.params[j]? = some t → args[j]? = some v → Value.okWide Try.prog W .any base t v := hval0
  have hW' := hW
  obtain ⟨p, q, hA0, hV, rfl, hfz, hnd⟩ := hW
  have hA : DataW.TrodAll enc Try.prog W 0 (fun _ => true) true Try.f6.params.toList args.toList ds p := hA0
  rw [Try.params6] at hA hval
  obtain ⟨v0, v1, v2, d0, d1, d2, p0, p1, p2, rfl, rfl, rfl, h0, h1, h2⟩ := trodAll_three hA
  obtain ⟨rfl, rfl⟩ := trodVars_none hV
  obtain ⟨A0, c0, l0, rfl, hr0⟩ := Mm.open_list (α := Tk.Tsk) Try.underlying22 Tk.opTasks (hval 0 22 v0 rfl rfl) h0
  obtain ⟨P1, B1, rfl, fp1, fb1⟩ := Sp.open_face (hval 1 31 v1 rfl rfl) h1
  obtain ⟨n2, rfl, f2⟩ := Mm.open_num' Try.underlying3 (hval 2 3 v2 rfl rfl) h2
  clear hA0 hval0
  refine (walk A0 c0 l0 P1 B1 n2 W hr0 fp1 fb1 f2).mono fun e W' ⟨he, bel⟩ => ?_
  subst he
  have hlt0 : ∀ x ∈ p0, x.block < W.heap.size := fun x hx => hW'.lt x (by simp [hx])
  have hlt1 : ∀ x ∈ p1, x.block < W.heap.size := fun x hx => hW'.lt x (by simp [hx])
  have hlt2 : ∀ x ∈ p2, x.block < W.heap.size := fun x hx => hW'.lt x (by simp [hx])
  exact ⟨_, rfl, _, _, _, [], _, [], hW', trodAll_mk1 (shut_bool Try.underlying4 _), trodAll_mk3 (Below.trod laidOut (by kernel_rfl) (of_decide_eq_true (by kernel_rfl)) h0 bel hlt0) (Below.trod laidOut (by kernel_rfl) (of_decide_eq_true (by kernel_rfl)) h1 bel hlt1) (Below.trod laidOut (by kernel_rfl) (of_decide_eq_true (by kernel_rfl)) h2 bel hlt2), rfl, bel.frame _, fun h => by cases h⟩

/-- The statement. -/
theorem proved : Rows.VerdictAllSaid :=
  OpenClaim.holds_of_wide 6 Try.f6 rfl rfl rfl rfl rfl rfl rfl ⟨rfl, rfl, rfl, rfl, rfl⟩ rfl rfl rfl rfl rfl (by kernel_rfl) Try.func6 (by kernel_rfl)
    (of_decide_eq_true (by kernel_rfl)) (by unfold Func.isWrapper; first | (rw [if_pos (by decide +kernel)]; kernel_rfl) | (rw [if_neg (by decide +kernel)]; exact ⟨rfl, rfl⟩))
    (fun os started H enc _ => lifted os started H enc)
#print axioms proved

end Go.Proofs.Ytldiplnccgoeiaa.verdictAll
