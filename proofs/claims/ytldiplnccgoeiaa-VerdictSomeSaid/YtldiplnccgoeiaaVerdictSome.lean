/-
  For all tasks and any interface the statement VerdictSome of layer 10 returns true (where tasks don't fit, there is a tick for which they don't), and its arguments read as before. No condition.
-/
import Derived.Test.YtldiplnccgoeiaaLaw05Args
import Derived.Test.YtldiplnccgoeiaaLaw09Args
import Derived.Test.YtldiplnccgoeiaaLaw10Refs
import Derived.Test.YtldiplnccgoeiaaLaw10Knows
import Derived.Test.YtldiplnccgoeiaaSupplyBound
namespace Go.Proofs.Ytldiplnccgoeiaa.verdictSome
open Go.ChangeShapes Go.WideShapes Go.ChangeAt Go.RowKit
open Mm Tk Vd

theorem bz {p b k : Nat} (h4 : 1 ≤ b) (h5 : b ≤ p) (h6 : p ≤ 200) (hk : k ≤ 4611686018427387903) (z : Nat) (hz : Sp.sbf p b k = z) : ((Sp.bndZ p b k : Nat) : Int) = z ∧ ((Sp.bndE p b k : Nat) : Int) = 0 := by
  have h : Sp.okB p b k = true := Sp.ok_iff.2 ⟨Sp.right_iff.2 ⟨by omega, by omega, by omega⟩, by omega, by omega⟩
  unfold Sp.bndZ Sp.bndE
  rw [h]
  simp only [if_true, Int.toNat_natCast, hz]
  exact ⟨trivial, rfl⟩
theorem dz {L : List Tsk} {t : Nat} (h : allB L = true) (ht : t ≤ 3000) : Dm.bndZ L t = Dm.bnd L t ∧ Dm.bndE L t = 0 := by
  have h1 := Dm.bnd_small h (t := (t : Int)) (m := 3000) (by omega) (by omega)
  obtain ⟨z1, z2⟩ := Dm.bnd_good h (t := (t : Int)) (by omega) (by omega)
  obtain ⟨s1, s2⟩ := Dm.sum_small (v := Dm.bnd L t) (by omega)
  rw [z1, z2, s1, s2]
  exact ⟨rfl, rfl⟩
set_option maxHeartbeats 3200000 in
theorem walk (A : Option Addr) (c : Nat) (L : List Tsk) (P B : Int) (w : World) (hr : Rd w A c L) (_ : Fit P) (_ : Fit B) :
    Calls Try.prog 7 #[.slice A L.length c, .agg #[.int .i64 P, .int .i64 B]] w fun e w' => e = .returned (.bool true) ∧ Below w.heap.size w w' := by
  obtain ⟨t1, t2⟩ := Sp.fc_new w P B
  have b0 := below_one w (Obj.cells #[.int .i64 P, .int .i64 B] 31)
  replace hr := hr.below b0
  have HR := Lib.hid hr
  have B0 := Lib.hid b0
  clear hr b0
  cases hg : greatB L with
  | true =>
    have HG := Lib.hid hg
    clear hg
    go_enter Try.func7, Try.ntmps7
    go_wp2_with fail
    refine (great_any A c L _ HR.out).mono ?_
    rintro e w1 ⟨rfl, b1⟩
    rw [HG.out]
    have B1 := Lib.hid (below_step B0.out b1)
    clear b1
    go_wp2_with fail
    refine (knows10_any _).mono ?_
    rintro e w2 ⟨rfl, b2⟩
    have B2 := Lib.hid (below_step B1.out b2)
    clear b2
    go_wp2_with fail
    go_ret
    exact ⟨rfl, B2.out⟩
  | false =>
    obtain ⟨hL, hin⟩ := great_no hg
    have HT : Hid (TL _ A c L) := ⟨by omega, fun j hj => by have := hin j hj; omega, HR.out⟩
    have HG := Lib.hid hg
    have HL := Lib.hid hL
    have HIN := Lib.hid hin
    clear hg hL hin
    cases hc : cycOk L P B with
    | false =>
      have hf : fitsB L P B = false := by unfold fitsB; rw [hc]; rfl
      obtain ⟨e, he⟩ : ∃ e, cycE L P B = e := ⟨_, rfl⟩
      have hee := cycE_cases L P B
      rw [he] at hee
      have he0 : ¬ e = 0 := fun h => by rw [cycE_zero.1 (he.trans h)] at hc; cases hc
      have HF := Lib.hid (fits_v A c L P B false e hf he L.length rfl)
      clear hf he hc
      rcases hee with rfl | rfl | rfl
      · exact absurd rfl he0
      · skip
        go_enter Try.func7, Try.ntmps7
        go_wp2_with fail
        refine (great_any A c L _ HR.out).mono ?_
        rintro e' w1 ⟨rfl, b1⟩
        rw [HG.out]
        replace t1 := (cell_below b1) t1
        replace t2 := (cell_below b1) t2
        replace HT := Lib.hid (HT.out.below b1)
        have B1 := Lib.hid (below_step B0.out b1)
        clear b1
        go_wp2_with fail
        refine (HF.out _ HT.out).mono ?_
        rintro e w2 ⟨rfl, b2⟩
        replace t1 := cell_below b2 t1
        replace t2 := cell_below b2 t2
        have B2 := Lib.hid (below_step B1.out b2)
        replace HT := Lib.hid (HT.out.below b2)
        clear b2
        go_wp2_with fail
        refine (knows10_any _).mono ?_
        rintro e w3 ⟨rfl, b3⟩
        have B3 := Lib.hid (below_step B2.out b3)
        clear b3
        go_wp2_with fail
        go_ret
        exact ⟨rfl, B3.out⟩
      · skip
        go_enter Try.func7, Try.ntmps7
        go_wp2_with fail
        refine (great_any A c L _ HR.out).mono ?_
        rintro e' w1 ⟨rfl, b1⟩
        rw [HG.out]
        replace t1 := (cell_below b1) t1
        replace t2 := (cell_below b1) t2
        replace HT := Lib.hid (HT.out.below b1)
        have B1 := Lib.hid (below_step B0.out b1)
        clear b1
        go_wp2_with fail
        refine (HF.out _ HT.out).mono ?_
        rintro e w2 ⟨rfl, b2⟩
        replace t1 := cell_below b2 t1
        replace t2 := cell_below b2 t2
        have B2 := Lib.hid (below_step B1.out b2)
        replace HT := Lib.hid (HT.out.below b2)
        clear b2
        go_wp2_with fail
        refine (knows10_any _).mono ?_
        rintro e w3 ⟨rfl, b3⟩
        have B3 := Lib.hid (below_step B2.out b3)
        clear b3
        go_wp2_with fail
        go_ret
        exact ⟨rfl, B3.out⟩
    | true =>
      obtain ⟨g1, g2⟩ := cycOk_iff.1 hc
      obtain ⟨g3, g4⟩ := in_iff.1 g1
      obtain ⟨p, b, rfl, rfl, h1, h2, h3⟩ := Sp.right_nat g4
      obtain ⟨q1, q2, z3⟩ := cyc_fine hc
      rw [Int.toNat_natCast] at g2 q2
      cases hf : fitsB L (p : Int) (b : Int) with
      | true =>
        have HF := Lib.hid (fits_v A c L p b true 0 hf z3 L.length rfl)
        clear hf hc g1 g2 g3 g4 q1 q2 z3
        go_enter Try.func7, Try.ntmps7
        go_wp2_with fail
        refine (great_any A c L _ HR.out).mono ?_
        rintro e' w1 ⟨rfl, b1⟩
        rw [HG.out]
        replace t1 := (cell_below b1) t1
        replace t2 := (cell_below b1) t2
        replace HT := Lib.hid (HT.out.below b1)
        have B1 := Lib.hid (below_step B0.out b1)
        clear b1
        go_wp2_with fail
        refine (HF.out _ HT.out).mono ?_
        rintro e w2 ⟨rfl, b2⟩
        replace t1 := cell_below b2 t1
        replace t2 := cell_below b2 t2
        have B2 := Lib.hid (below_step B1.out b2)
        replace HT := Lib.hid (HT.out.below b2)
        clear b2
        go_wp2_with fail
        refine (knows10_any _).mono ?_
        rintro e w3 ⟨rfl, b3⟩
        have B3 := Lib.hid (below_step B2.out b3)
        clear b3
        go_wp2_with fail
        go_ret
        exact ⟨rfl, B3.out⟩
      | false =>
        obtain ⟨z, hz⟩ : ∃ z, cycZ L (p : Int) (b : Int) = z := ⟨_, rfl⟩
        obtain ⟨y, hy⟩ : ∃ y, endZ L (p : Int) (b : Int) = y := ⟨_, rfl⟩
        have hv : firB L p b y = true := by
          unfold fitsB at hf
          rw [hc, Bool.true_and, hy, Int.toNat_natCast, Int.toNat_natCast] at hf
          cases h : firB L p b y with
          | true => rfl
          | false => rw [h] at hf; cases hf
        obtain ⟨u, hu⟩ : ∃ u, firT L p b y = u := ⟨_, rfl⟩
        have ht : firstT L (p : Int) (b : Int) = u := by unfold firstT; rw [if_pos hc, hy, Int.toNat_natCast, Int.toNat_natCast, hu]
        have hb : firstB L (p : Int) (b : Int) = true := by unfold firstB; rw [hc, hy, Int.toNat_natCast, Int.toNat_natCast, hv]; rfl
        have hF := firstOf L p b y
        rw [hu, hv] at hF
        obtain ⟨hu1, hu2⟩ : u ≤ y ∧ badB L p b u = true := by
          rcases hF with ⟨h, _⟩ | ⟨_, h, h', _⟩
          · cases h
          · exact ⟨h, h'⟩
        have hu3 : u ≤ 3000 := by omega
        obtain ⟨s, hs⟩ : ∃ s, Sp.sbf p b u = s := ⟨_, rfl⟩
        obtain ⟨m, hm⟩ : ∃ m, need L u = m := ⟨_, rfl⟩
        obtain ⟨d, hd⟩ : ∃ d, Dm.bnd L (u : Int) = d := ⟨_, rfl⟩
        have hbad := bad_iff.1 hu2
        have hdm : d ≤ m := by rw [← hm, ← hd]; unfold need; omega
        rw [hs, hm] at hbad
        obtain ⟨y1, y2⟩ := bz (k := u) h1 h2 h3 (by omega) s hs
        obtain ⟨x1, x2⟩ := need_of g3 (t := u) (by omega)
        obtain ⟨d1, d2⟩ := dz g3 hu3
        rw [hd] at d1
        rw [hm] at x1
        have HF := Lib.hid (fits_v A c L p b false 0 hf z3 L.length rfl)
        have HC := Lib.hid (refCycle_v A c L p b z y 0 hz hy z3 L.length rfl)
        have HO := Lib.hid (first_v A c L p b u true 0 ht hb z3 L.length rfl)
        have HD := Lib.hid (dbound_v A c L u d 0 d1 d2 L.length rfl)
        have HN := Lib.hid (need_v A c L u m 0 x1 x2 L.length rfl)
        have HS := Lib.hid (Sp.bound_v p b u s 0 y1 y2)
        clear hc g1 g2 g3 g4 q1 q2 z3 hf hz hy hv hu ht hb hF hu1 hu2 hu3 hs hm hd y1 y2 x1 x2 d1 d2
        go_enter Try.func7, Try.ntmps7
        go_wp2_with fail
        refine (great_any A c L _ HR.out).mono ?_
        rintro e' w1 ⟨rfl, b1⟩
        rw [HG.out]
        replace t1 := (cell_below b1) t1
        replace t2 := (cell_below b1) t2
        replace HT := Lib.hid (HT.out.below b1)
        have B1 := Lib.hid (below_step B0.out b1)
        clear b1
        go_wp2_with fail
        refine (HF.out _ HT.out).mono ?_
        rintro e w2 ⟨rfl, b2⟩
        replace t1 := cell_below b2 t1
        replace t2 := cell_below b2 t2
        have B2 := Lib.hid (below_step B1.out b2)
        replace HT := Lib.hid (HT.out.below b2)
        clear b2
        go_wp2_with fail
        refine (HC.out _ HT.out).mono ?_
        rintro e w3 ⟨rfl, b3⟩
        replace t1 := cell_below b3 t1
        replace t2 := cell_below b3 t2
        have B3 := Lib.hid (below_step B2.out b3)
        replace HT := Lib.hid (HT.out.below b3)
        clear b3
        go_wp2_with fail
        refine (HO.out _ HT.out).mono ?_
        rintro e w4 ⟨rfl, b4⟩
        replace t1 := cell_below b4 t1
        replace t2 := cell_below b4 t2
        have B4 := Lib.hid (below_step B3.out b4)
        replace HT := Lib.hid (HT.out.below b4)
        clear b4
        go_wp2_with fail
        refine (HD.out _ HT.out).mono ?_
        rintro e w5 ⟨rfl, b5⟩
        replace t1 := cell_below b5 t1
        replace t2 := cell_below b5 t2
        have B5 := Lib.hid (below_step B4.out b5)
        replace HT := Lib.hid (HT.out.below b5)
        clear b5
        go_wp2_with fail
        refine (HN.out _ HT.out).mono ?_
        rintro e w6 ⟨rfl, b6⟩
        replace t1 := cell_below b6 t1
        replace t2 := cell_below b6 t2
        have B6 := Lib.hid (below_step B5.out b6)
        replace HT := Lib.hid (HT.out.below b6)
        clear b6
        go_wp2_with fail
        refine (HS.out _).mono ?_
        rintro e w7 ⟨rfl, b7⟩
        replace t1 := cell_below b7 t1
        replace t2 := cell_below b7 t2
        have B7 := Lib.hid (below_step B6.out b7)
        replace HT := Lib.hid (HT.out.below b7)
        clear b7
        go_wp2_with fail
        refine (knows10_any _).mono ?_
        rintro e w8 ⟨rfl, b8⟩
        have B8 := Lib.hid (below_step B7.out b8)
        clear b8
        go_wp2_with fail
        go_ret
        exact ⟨rfl, B8.out⟩

set_option maxRecDepth 100000 in
theorem lifted (os : Os) (started : os.Started) (H : Type) (enc : TypeId × Value → H) :
    ReturnsInHanded {} Try.checked os 7 .any (Rows.verdictSomeSpec.pre6 enc Try.prog Try.f7 Rows.verdictSomeRow.domain false) (Rows.verdictSomeSpec.post enc Try.prog Try.f7 false true false false) := by
  refine returnsInHanded_of_change (C := Try.checked) own started (by kernel_rfl) Try.func7
    (ChangeSpec.witness6 (enc := enc) (C := Try.checked) false ⟨#[], #[.slice none 0 0, .agg #[.int .i64 0, .int .i64 0]], []⟩ 8 (by kernel_rfl) (by kernel_rfl) (by kernel_rfl) (by kernel_rfl)) ?_
  intro W base args ds gs before hval0 hW hcnd _
  have hval : ∀ (j : Nat) t v, Try.f7.params[j]? = some t → args[j]? = some v → Value.okWide Try.prog W .any base t v := hval0
  have hW' := hW
  obtain ⟨p, q, hA0, hV, rfl, hfz, hnd⟩ := hW
  have hA : DataW.TrodAll enc Try.prog W 0 (fun _ => true) true Try.f7.params.toList args.toList ds p := hA0
  rw [Try.params7] at hA hval
  obtain ⟨v0, v1, d0, d1, p0, p1, rfl, rfl, rfl, h0, h1⟩ := trodAll_two hA
  obtain ⟨rfl, rfl⟩ := trodVars_none hV
  obtain ⟨A0, c0, l0, rfl, hr0⟩ := Mm.open_list (α := Tk.Tsk) Try.underlying22 Tk.opTasks (hval 0 22 v0 rfl rfl) h0
  obtain ⟨P1, B1, rfl, fp1, fb1⟩ := Sp.open_face (hval 1 31 v1 rfl rfl) h1
  clear hA0 hval0
  refine (walk A0 c0 l0 P1 B1 W hr0 fp1 fb1).mono fun e W' ⟨he, bel⟩ => ?_
  subst he
  have hlt0 : ∀ x ∈ p0, x.block < W.heap.size := fun x hx => hW'.lt x (by simp [hx])
  have hlt1 : ∀ x ∈ p1, x.block < W.heap.size := fun x hx => hW'.lt x (by simp [hx])
  exact ⟨_, rfl, _, _, _, [], _, [], hW', trodAll_mk1 (shut_bool Try.underlying4 _), trodAll_mk2 (Below.trod laidOut (by kernel_rfl) (of_decide_eq_true (by kernel_rfl)) h0 bel hlt0) (Below.trod laidOut (by kernel_rfl) (of_decide_eq_true (by kernel_rfl)) h1 bel hlt1), rfl, bel.frame _, fun h => by cases h⟩

/-- The statement. -/
theorem proved : Rows.VerdictSomeSaid :=
  OpenClaim.holds_of_wide 7 Try.f7 rfl rfl rfl rfl rfl rfl rfl ⟨rfl, rfl, rfl, rfl, rfl⟩ rfl rfl rfl rfl rfl (by kernel_rfl) Try.func7 (by kernel_rfl)
    (of_decide_eq_true (by kernel_rfl)) (by unfold Func.isWrapper; first | (rw [if_pos (by decide +kernel)]; kernel_rfl) | (rw [if_neg (by decide +kernel)]; exact ⟨rfl, rfl⟩))
    (fun os started H enc _ => lifted os started H enc)
#print axioms proved

end Go.Proofs.Ytldiplnccgoeiaa.verdictSome
