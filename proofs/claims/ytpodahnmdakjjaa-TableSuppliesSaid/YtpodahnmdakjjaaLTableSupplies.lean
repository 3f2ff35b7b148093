/-
  For any list of interfaces, any of them and any number the statement TableSupplies of layer 13 returns true (in a table that was made each part has, in any ticks one behind the other, not less than the bound of its interface), and its arguments read as before. No condition.
-/
import Derived.Test.YtpodahnmdakjjaaGlaw13
import Derived.Test.YtpodahnmdakjjaaGtable
import Derived.Test.YtpodahnmdakjjaaGlaw12
import Derived.Test.YtpodahnmdakjjaaGlaw05
import Derived.Test.YtpodahnmdakjjaaGlaw09
namespace Go.Proofs.Ytpodahnmdakjjaa.tableSupplies
open Go.ChangeShapes Go.WideShapes Go.ChangeAt Go.RowKit
open Mm Sp Sy Tb

/-- nowhere less than the bound -/
theorem least_bound {F : List Fce} (h : layE F = 0) {k : Nat} (hk : k < F.length) {W : List Win} (ht : tkL (frm F) W = layL F) (n : Nat) : sbf (Pn F k) (Bn F k) n ≤ leastN (fun j => tk W (j : Int)) (frm F) (k : Int) n (frm F) := by
  obtain ⟨h1, _, h3⟩ := lay_fine h
  obtain ⟨ho, _⟩ := frmE_zero.1 h1
  have hfp := frm_pos ho
  obtain ⟨_, _, h4, h5, h6⟩ := okF_at ho hk
  have e : ∀ t, t < frm F → (fun j : Nat => tk W (j : Int)) t = gF F t := fun t hlt => by
    show tk W (t : Int) = _
    rw [← tkL_at hlt, ht, h3]
    exact lay_at hlt
  rw [leastN_same (by omega) e]
  refine leastN_ge (sbf_le h4 h5 n) fun a _ => ?_
  have hm : mineP (gF F) (frm F) (k : Int) = mine (gF F) (frm F) k := by
    funext t
    unfold mineP mine
    have e0 : (0 : Int) ≤ (k : Int) := by omega
    rw [decide_eq_decide]
    exact ⟨fun h => h.1, fun h => ⟨h, e0⟩⟩
  have := lay_least h hk a n
  unfold hasN
  rw [hm]
  omega
theorem refLay_to (A : Option Addr) (c : Nat) (F : List Fce) (L : List Int) (m : Nat) (e : Int) (hL : layL F = L) (hm : L.length = m) (he : ((layE F : Nat) : Int) = e) (n : Nat) (hn : F.length = n) (w : World) (H : CL w A c F) :
    Calls Try.prog 21 #[.slice A n c] w (LayTo w L m e) :=
  (refLay_v A c F n hn w H).mono fun _ _ h => h.to hL hm he

set_option maxRecDepth 20000 in
set_option maxHeartbeats 6400000 in
theorem walk (A : Option Addr) (c : Nat) (F : List Fce) (i : Nat) (n : Int) (w : World) (hr : Rd w A c F) (hi : i < 256) (fn : Fit n) :
    Calls Try.prog 6 #[.slice A F.length c, .int .u8 i, .int .i64 n] w fun e w' => e = .returned (.bool true) ∧ Below w.heap.size w w' := by
  have hm := hr.max
  have hle := hr.le
  unfold maxLen at hm
  by_cases hlen : 20 < F.length
  · have i1 : (20 : Int) < (F.length : Int) := by omega
    clear hr
    go_enter Try.func6, Try.ntmps6
    go_wp2_with fail
    refine (knows13_any _).mono ?_
    rintro e w1 ⟨rfl, b1⟩
    have B1 := Lib.hid b1
    clear b1
    go_wp2_with fail
    go_ret
    exact ⟨rfl, B1.out⟩
  · have i1 : ¬ (20 : Int) < (F.length : Int) := by omega
    by_cases hn1 : n < 0
    · clear hr
      go_enter Try.func6, Try.ntmps6
      go_wp2_with fail
      refine (knows13_any _).mono ?_
      rintro e w1 ⟨rfl, b1⟩
      have B1 := Lib.hid b1
      clear b1
      go_wp2_with fail
      go_ret
      exact ⟨rfl, B1.out⟩
    · by_cases hn2 : 2000 < n
      · clear hr
        go_enter Try.func6, Try.ntmps6
        go_wp2_with fail
        refine (knows13_any _).mono ?_
        rintro e w1 ⟨rfl, b1⟩
        have B1 := Lib.hid b1
        clear b1
        go_wp2_with fail
        go_ret
        exact ⟨rfl, B1.out⟩
      · have HT : Hid (CL w A c F) := ⟨by omega, hr⟩
        clear hr hm hle
        rcases layE_cases F with e | e | e | e
        · obtain ⟨fr, hl⟩ : ∃ fr, (layL F).length = fr := ⟨_, rfl⟩
          have HC1 := Lib.hid (make_good A c F e fr hl)
          have HC2 := Lib.hid (refLay_to A c F (layL F) fr 0 rfl hl (by rw [e]; rfl) F.length rfl)
          by_cases hz : F.length = 0
          · have i2 : ((F.length : Int) == 0) = true := by simp [hz]
            have i3 : (F.length : Int) = 0 := by omega
            clear hz e hl
            go_enter Try.func6, Try.ntmps6
            go_wp2_with fail
            refine (HC1.out _ HT.out).mono ?_
            rintro x w1 ⟨W, m, hm, hr1, ht1, D, dp, rfl, _, hv1, b1⟩
            have bz := below_one w1 (Obj.cells #[.int .i64 fr, .slice D m dp] 24)
            have y1 := (tx_new w1 fr D m dp).f
            have y2 := (tx_new w1 fr D m dp).l
            have HX := Lib.hid (hv1.below bz)
            replace HT := Lib.hid ((HT.out.below b1).below bz)
            have B1 := Lib.hid (below_step b1 bz)
            clear b1 bz hv1
            go_wp2_with fail
            generalize w1.alloc (Obj.cells #[.int .i64 fr, .slice D m dp] 24) = v1 at *
            refine (HC2.out _ HT.out).mono ?_
            rintro x w2 ⟨E, ep, rfl, hr2, b2⟩
            have HE := Lib.hid hr2
            replace HX := Lib.hid (HX.out.below b2)
            replace HT := Lib.hid (HT.out.below b2)
            replace y1 := (cell_below b2) y1
            replace y2 := (cell_below b2) y2
            have B2 := Lib.hid (below_step B1.out b2)
            clear b2 hr2
            clear hm hr1 ht1 HE HX HT
            go_wp2_with fail
            refine (knows13_any _).mono ?_
            rintro e w3 ⟨rfl, b3⟩
            have B3 := Lib.hid (below_step B2.out b3)
            clear b3
            go_wp2_with fail
            go_ret
            exact ⟨rfl, B3.out⟩
          · have i2 : ((F.length : Int) == 0) = false := beq_eq_false_iff_ne.2 (by omega)
            have hfr : fr = frm F := by rw [← hl]; exact layL_frame e
            obtain ⟨s, rfl⟩ : ∃ s : Nat, n = s := ⟨n.toNat, by omega⟩
            obtain ⟨k, hk⟩ : ∃ k, i % F.length = k := ⟨_, rfl⟩
            have hkn : k < F.length := by rw [← hk]; exact Nat.mod_lt _ (by omega)
            obtain ⟨ho, hfr240⟩ := frmE_zero.1 (lay_fine e).1
            have hfp := frm_pos ho
            obtain ⟨e1, e2, h4, h5, h6⟩ := okF_at ho hkn
            have HLB : Hid (∀ W, tkL fr W = layL F → sbf (Pn F k) (Bn F k) s ≤ leastN (fun j => tk W (j : Int)) fr (k : Int) s fr) := fun W ht => by
              subst hfr
              exact least_bound e hkn ht s
            have HFC : Hid (∀ W : World, CL W A c F → ∃ b off, A = some ⟨b, off, none⟩ ∧ W.cell? ⟨b, off + k * 2, none⟩ = some (.int .i64 (Pn F k : Nat)) ∧ W.cell? ⟨b, off + k * 2 + 1, none⟩ = some (.int .i64 (Bn F k : Nat))) := fun W hW => by
              obtain ⟨b, off, h, hc⟩ := face_at hW.2 (by omega)
              obtain ⟨x1, x2, _, _⟩ := hc k hkn
              rw [e1] at x1
              rw [e2] at x2
              exact ⟨b, off, h, x1, x2⟩
            have hf1 : 1 ≤ fr := by omega
            have hf2 : fr ≤ 240 := by omega
            have HRB := Lib.hid (refBound_any (Pn F k) (Bn F k) s h4 h5 h6 (by omega))
            have HLL := Lib.hid hl
            clear e ho e1 e2 hl hfr hfr240 hfp h4 h5 h6 hz
            generalize Pn F k = p at *
            generalize Bn F k = bb at *
            generalize sbf p bb s = y at *
            have q1 : (i : Int) % (F.length : Int) = (k : Int) := by rw [← hk]; push_cast; rfl
            have q2 : (i : Int).tmod (F.length : Int) = (k : Int) := by rw [Int.tmod_eq_emod_of_nonneg (by omega), q1]
            have q7 : IntKind.i64.wrap (k : Int) = (k : Int) := IntWalk.i64_in _ (by omega)
            have j1 : ¬ (F.length : Int) = 0 := by omega
            have j4 : (0 : Int) ≤ (k : Int) := by omega
            have j5 : (k : Int) < (F.length : Int) := by omega
            have HK := Lib.hid hk
            clear hk
            go_enter Try.func6, Try.ntmps6
            go_wp2_with fail
            refine (HC1.out _ HT.out).mono ?_
            rintro x w1 ⟨W, m, hm, hr1, ht1, D, dp, rfl, _, hv1, b1⟩
            have bz := below_one w1 (Obj.cells #[.int .i64 fr, .slice D m dp] 24)
            have y1 := (tx_new w1 fr D m dp).f
            have y2 := (tx_new w1 fr D m dp).l
            have HX := Lib.hid (hv1.below bz)
            replace HT := Lib.hid ((HT.out.below b1).below bz)
            have B1 := Lib.hid (below_step b1 bz)
            clear b1 bz hv1
            go_wp2_with fail
            generalize w1.alloc (Obj.cells #[.int .i64 fr, .slice D m dp] 24) = v1 at *
            refine (HC2.out _ HT.out).mono ?_
            rintro x w2 ⟨E, ep, rfl, hr2, b2⟩
            have HE := Lib.hid hr2
            replace HX := Lib.hid (HX.out.below b2)
            replace HT := Lib.hid (HT.out.below b2)
            replace y1 := (cell_below b2) y1
            replace y2 := (cell_below b2) y2
            have B2 := Lib.hid (below_step B1.out b2)
            clear b2 hr2
            have HF := Lib.hid (right_iff.1 hr1).2
            have HTT := Lib.hid ht1
            have HM := Lib.hid hm
            obtain ⟨v, hv⟩ : ∃ v, leastN (fun j => tk W (j : Int)) fr (k : Int) s fr = v := ⟨_, rfl⟩
            have hyv : y ≤ v := by rw [← hv]; exact HLB.out W ht1
            have i6 : (y : Int) ≤ (v : Int) := by omega
            have hko := lst_ok (part := (k : Int)) (show lstOk fr W s from ⟨hr1, by omega, by omega⟩)
            have HC3 := Lib.hid (least_to fr D dp W k s v 0 (by rw [hko.1, hv]) (by rw [hko.2]; rfl) m hm)
            clear hm hr1 ht1 hv hyv hko HC1 HC2
            go_wp2_with fail
            refine (HC3.out _ HX.out).mono ?_
            rintro e w3 ⟨rfl, b3⟩
            replace y1 := cell_below b3 y1
            replace y2 := cell_below b3 y2
            have B3 := Lib.hid (below_step B2.out b3)
            replace HX := Lib.hid (HX.out.below b3)
            replace HT := Lib.hid (HT.out.below b3)
            replace HE := Lib.hid (HE.out.below b3)
            clear b3
            go_wp2_with fail
            refine (refTicks_any fr D dp W m HM.out _ hf1 hf2 HF.out HX.out).mono ?_
            rintro e w4 ⟨G, gp, rfl, hg, b4⟩
            rw [HTT.out] at hg
            have HG := Lib.hid hg
            have B4 := Lib.hid (below_step B3.out b4)
            replace HE := Lib.hid (HE.out.below b4)
            replace HT := Lib.hid (HT.out.below b4)
            clear b4 hg
            go_wp2_with fail
            refine (Bk.sameInts_one G E gp ep (layL F) fr HLL.out _ (by omega) HG.out HE.out).mono ?_
            rintro e w5 ⟨rfl, b5⟩
            have B5 := Lib.hid (below_step B4.out b5)
            replace HT := Lib.hid (HT.out.below b5)
            clear b5
            go_wp2_with fail
            obtain ⟨b, off, hA, x1, x2⟩ := HFC.out _ HT.out
            subst hA
            go_simp
            go_wp2_with fail
            refine (HRB.out _).mono ?_
            rintro e w6 ⟨rfl, b6⟩
            have B6 := Lib.hid (below_step B5.out b6)
            clear b6
            go_wp2_with fail
            refine (knows13_any _).mono ?_
            rintro e w7 ⟨rfl, b7⟩
            have B7 := Lib.hid (below_step B6.out b7)
            clear b7
            go_wp2_with fail
            go_ret
            exact ⟨rfl, B7.out⟩
        · skip
          have HC1 := Lib.hid (make_bad A c F 1 (by rw [e]; decide) (by rw [e]; rfl))
          have HC2 := Lib.hid (refLay_to A c F [] 0 1 (lay_bad (by omega)) rfl (by rw [e]; rfl) F.length rfl)
          clear e
          go_enter Try.func6, Try.ntmps6
          go_wp2_with fail
          refine (HC1.out _ HT.out).mono ?_
          rintro x w1 ⟨rfl, b1⟩
          have bz := below_one w1 (Obj.cells #[.int .i64 0, .slice none 0 0] 24)
          have y1 := (tx_new w1 0 none 0 0).f
          have y2 := (tx_new w1 0 none 0 0).l
          replace HT := Lib.hid ((HT.out.below b1).below bz)
          have B1 := Lib.hid (below_step b1 bz)
          clear b1 bz
          go_wp2_with fail
          generalize w1.alloc (Obj.cells #[.int .i64 0, .slice none 0 0] 24) = v1 at *
          refine (HC2.out _ HT.out).mono ?_
          rintro x w2 ⟨D, dp, rfl, _, b2⟩
          replace y1 := (cell_below b2) y1
          replace y2 := (cell_below b2) y2
          have B2 := Lib.hid (below_step B1.out b2)
          clear b2
          go_wp2_with fail
          refine (same_none _).mono ?_
          rintro e w3 ⟨rfl, b3⟩
          have B3 := Lib.hid (below_step B2.out b3)
          clear b3
          go_wp2_with fail
          refine (knows13_any _).mono ?_
          rintro e w4 ⟨rfl, b4⟩
          have B4 := Lib.hid (below_step B3.out b4)
          clear b4
          go_wp2_with fail
          go_ret
          exact ⟨rfl, B4.out⟩
        · skip
          have HC1 := Lib.hid (make_bad A c F 5 (by rw [e]; decide) (by rw [e]; rfl))
          have HC2 := Lib.hid (refLay_to A c F [] 0 5 (lay_bad (by omega)) rfl (by rw [e]; rfl) F.length rfl)
          clear e
          go_enter Try.func6, Try.ntmps6
          go_wp2_with fail
          refine (HC1.out _ HT.out).mono ?_
          rintro x w1 ⟨rfl, b1⟩
          have bz := below_one w1 (Obj.cells #[.int .i64 0, .slice none 0 0] 24)
          have y1 := (tx_new w1 0 none 0 0).f
          have y2 := (tx_new w1 0 none 0 0).l
          replace HT := Lib.hid ((HT.out.below b1).below bz)
          have B1 := Lib.hid (below_step b1 bz)
          clear b1 bz
          go_wp2_with fail
          generalize w1.alloc (Obj.cells #[.int .i64 0, .slice none 0 0] 24) = v1 at *
          refine (HC2.out _ HT.out).mono ?_
          rintro x w2 ⟨D, dp, rfl, _, b2⟩
          replace y1 := (cell_below b2) y1
          replace y2 := (cell_below b2) y2
          have B2 := Lib.hid (below_step B1.out b2)
          clear b2
          go_wp2_with fail
          refine (same_none _).mono ?_
          rintro e w3 ⟨rfl, b3⟩
          have B3 := Lib.hid (below_step B2.out b3)
          clear b3
          go_wp2_with fail
          refine (knows13_any _).mono ?_
          rintro e w4 ⟨rfl, b4⟩
          have B4 := Lib.hid (below_step B3.out b4)
          clear b4
          go_wp2_with fail
          go_ret
          exact ⟨rfl, B4.out⟩
        · skip
          have HC1 := Lib.hid (make_bad A c F 7 (by rw [e]; decide) (by rw [e]; rfl))
          have HC2 := Lib.hid (refLay_to A c F [] 0 7 (lay_bad (by omega)) rfl (by rw [e]; rfl) F.length rfl)
          clear e
          go_enter Try.func6, Try.ntmps6
          go_wp2_with fail
          refine (HC1.out _ HT.out).mono ?_
          rintro x w1 ⟨rfl, b1⟩
          have bz := below_one w1 (Obj.cells #[.int .i64 0, .slice none 0 0] 24)
          have y1 := (tx_new w1 0 none 0 0).f
          have y2 := (tx_new w1 0 none 0 0).l
          replace HT := Lib.hid ((HT.out.below b1).below bz)
          have B1 := Lib.hid (below_step b1 bz)
          clear b1 bz
          go_wp2_with fail
          generalize w1.alloc (Obj.cells #[.int .i64 0, .slice none 0 0] 24) = v1 at *
          refine (HC2.out _ HT.out).mono ?_
          rintro x w2 ⟨D, dp, rfl, _, b2⟩
          replace y1 := (cell_below b2) y1
          replace y2 := (cell_below b2) y2
          have B2 := Lib.hid (below_step B1.out b2)
          clear b2
          go_wp2_with fail
          refine (same_none _).mono ?_
          rintro e w3 ⟨rfl, b3⟩
          have B3 := Lib.hid (below_step B2.out b3)
          clear b3
          go_wp2_with fail
          refine (knows13_any _).mono ?_
          rintro e w4 ⟨rfl, b4⟩
          have B4 := Lib.hid (below_step B3.out b4)
          clear b4
          go_wp2_with fail
          go_ret
          exact ⟨rfl, B4.out⟩

set_option maxRecDepth 100000 in
theorem lifted (os : Os) (started : os.Started) (H : Type) (enc : TypeId × Value → H) :
    ReturnsInHanded {} Try.checked os 6 .any (Rows.tableSuppliesSpec.pre6 enc Try.prog Try.f6 Rows.tableSuppliesRow.domain false) (Rows.tableSuppliesSpec.post enc Try.prog Try.f6 false true false false) := by
  refine returnsInHanded_of_change (C := Try.checked) own started (by kernel_rfl) Try.func6
    (ChangeSpec.witness6 (enc := enc) (C := Try.checked) false ⟨#[], #[.slice none 0 0, .int .u8 0, .int .i64 0], []⟩ 8 (by kernel_rfl) (by kernel_rfl) (by kernel_rfl) (by kernel_rfl)) ?_
  intro W base args ds gs before hval0 hW hcnd _
  have hval : ∀ (j : Nat) t v, Try.f6.params[j]? = some t → args[j]? = some v → Value.okWide Try.prog W .any base t v := hval0
  have hW' := hW
  obtain ⟨p, q, hA0, hV, rfl, hfz, hnd⟩ := hW
  have hA : DataW.TrodAll enc Try.prog W 0 (fun _ => true) true Try.f6.params.toList args.toList ds p := hA0
  rw [Try.params6] at hA hval
  obtain ⟨v0, v1, v2, d0, d1, d2, p0, p1, p2, rfl, rfl, rfl, h0, h1, h2⟩ := trodAll_three hA
  obtain ⟨rfl, rfl⟩ := trodVars_none hV
  obtain ⟨A0, c0, l0, rfl, hr0⟩ := Mm.open_list (α := Int × Int) Try.underlying45 Sy.opFaces (hval 0 45 v0 rfl rfl) h0
  obtain ⟨n1, rfl, f1⟩ := Mm.open_u8' Try.underlying5 (hval 1 5 v1 rfl rfl) h1
  obtain ⟨n2, rfl, f2⟩ := Mm.open_num' Try.underlying3 (hval 2 3 v2 rfl rfl) h2
  clear hA0 hval0
  refine (walk A0 c0 l0 n1 n2 W hr0 f1 f2).mono fun e W' ⟨he, bel⟩ => ?_
  subst he
  have hlt0 : ∀ x ∈ p0, x.block < W.heap.size := fun x hx => hW'.lt x (by simp [hx])
  have hlt1 : ∀ x ∈ p1, x.block < W.heap.size := fun x hx => hW'.lt x (by simp [hx])
  have hlt2 : ∀ x ∈ p2, x.block < W.heap.size := fun x hx => hW'.lt x (by simp [hx])
  exact ⟨_, rfl, _, _, _, [], _, [], hW', trodAll_mk1 (shut_bool Try.underlying4 _), trodAll_mk3 (Below.trod laidOut (by kernel_rfl) (of_decide_eq_true (by kernel_rfl)) h0 bel hlt0) (Below.trod laidOut (by kernel_rfl) (of_decide_eq_true (by kernel_rfl)) h1 bel hlt1) (Below.trod laidOut (by kernel_rfl) (of_decide_eq_true (by kernel_rfl)) h2 bel hlt2), rfl, bel.frame _, fun h => by cases h⟩

/-- The statement. -/
theorem proved : Rows.TableSuppliesSaid :=
  OpenClaim.holds_of_wide 6 Try.f6 rfl rfl rfl rfl rfl rfl rfl ⟨rfl, rfl, rfl, rfl, rfl⟩ rfl rfl rfl rfl rfl (by kernel_rfl) Try.func6 (by kernel_rfl)
    (of_decide_eq_true (by kernel_rfl)) (by unfold Func.isWrapper; first | (rw [if_pos (by decide +kernel)]; kernel_rfl) | (rw [if_neg (by decide +kernel)]; exact ⟨rfl, rfl⟩))
    (fun os started H enc _ => lifted os started H enc)
#print axioms proved

end Go.Proofs.Ytpodahnmdakjjaa.tableSupplies
