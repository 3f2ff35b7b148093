/-
  For any list of interfaces, any of them and any number the statement SynthSupplies of layer 12 returns true (what is given to an interface is a supply pattern of it, however often the frame is repeated; so it has nowhere less than its bound), and its arguments read as before. No condition.
-/
import Derived.Test.YtmfbmbbndiafiaaGlaw12
import Derived.Test.YtmfbmbbndiafiaaGsupply
import Derived.Test.YtmfbmbbndiafiaaGlaw09
namespace Go.Proofs.Ytmfbmbbndiafiaa.synthSupplies
open Go.ChangeShapes Go.WideShapes Go.ChangeAt Go.RowKit
open Mm Sp Sy

/-- which ticks are given to k, of the frame repeated -/
def gv (F : List Fce) (k n : Nat) : List Bool := (List.range n).map (mine (gF F) (frm F) k)
theorem gv_length (F : List Fce) (k n : Nat) : (gv F k n).length = n := by simp [gv]
theorem gv_at {F : List Fce} {k n j : Nat} (h : j < n) : at_ (gv F k n) j = mine (gF F) (frm F) k j := by
  rw [at_get (by rw [gv_length]; exact h)]
  simp [gv]
theorem gv_succ (F : List Fce) (k n : Nat) : gv F k (n + 1) = gv F k n ++ [mine (gF F) (frm F) k n] := by simp [gv, List.range_succ]
theorem mine_at {F : List Fce} {k n j : Nat} (h : j < frm F) : mine (gF F) (frm F) k (n * frm F + j) = decide (gF F j = (k : Int)) := by
  unfold mine
  rw [Nat.add_comm, Nat.add_mul_mod_self_right, Nat.mod_eq_of_lt h]
theorem gv_in {F : List Fce} {k n i j : Nat} (hij : i ≤ j) (hj : j ≤ n) : inN (gv F k n) i j = Sp.cnt (mine (gF F) (frm F) k) j - Sp.cnt (mine (gF F) (frm F) k) i := by
  unfold inN
  rw [cnt_congr (p := at_ (gv F k n)) (q := mine (gF F) (frm F) k) fun s hs => gv_at (by omega), cnt_congr (p := at_ (gv F k n)) (q := mine (gF F) (frm F) k) (n := i) fun s hs => gv_at (by omega)]
theorem gv_legal {F : List Fce} {k n : Nat} (h : layE F = 0) (hk : k < F.length) : legalB (Pn F k : Nat) (Bn F k : Nat) (gv F k n) = true := by
  obtain ⟨ho, _⟩ := frmE_zero.1 (lay_fine h).1
  obtain ⟨_, _, h1, h2, h3⟩ := okF_at ho hk
  rw [legal_iff, Int.toNat_natCast, Int.toNat_natCast]
  refine ⟨right_iff.2 (by omega), leg_iff.2 fun j hj => ?_⟩
  have hle := period_le (show 0 < Pn F k by omega) hj
  rw [gv_length] at hle
  rw [gv_in (by omega) hle]
  have := lay_supply h hk j
  rw [Nat.add_mul, Nat.one_mul] at this
  omega
theorem gv_least {F : List Fce} {k n t : Nat} (h : layE F = 0) (hk : k < F.length) (ht : t ≤ n) : Sp.sbf (Pn F k) (Bn F k) t ≤ leastZ (gv F k n) t := by
  rw [leastZ_in (by rw [gv_length]; exact ht)]
  refine leastTo_ge fun j hj => ?_
  rw [gv_length] at hj
  rw [gv_in (by omega) (by omega)]
  have := lay_least h hk j t
  omega

set_option maxRecDepth 20000 in
set_option maxHeartbeats 6400000 in
theorem walk (A : Option Addr) (c : Nat) (F : List Fce) (i : Nat) (t : Int) (w : World) (hr : Rd w A c F) (hi : i < 256) (ft : Fit t) :
    Calls Try.prog 6 #[.slice A F.length c, .int .u8 i, .int .i64 t] w fun e w' => e = .returned (.bool true) ∧ Below w.heap.size w w' := by
  have hm := hr.max
  have hle := hr.le
  unfold maxLen at hm
  by_cases hlen : 20 < F.length
  · have i1 : (20 : Int) < (F.length : Int) := by omega
    clear hr
    go_enter Try.func6, Try.ntmps6
    go_wp2_with fail
    refine (knows12_any _).mono ?_
    rintro e w1 ⟨rfl, b1⟩
    have B1 := Lib.hid b1
    clear b1
    go_wp2_with fail
    go_ret
    exact ⟨rfl, B1.out⟩
  · have i1 : ¬ (20 : Int) < (F.length : Int) := by omega
    by_cases hz : F.length = 0
    · have i2 : ((F.length : Int) == 0) = true := by simp [hz]
      have i3 : (F.length : Int) = 0 := by omega
      have hnil : F = [] := List.eq_nil_of_length_eq_zero hz
      clear hr hz
      go_enter Try.func6, Try.ntmps6
      go_wp2_with fail
      refine (knows12_any _).mono ?_
      rintro e w1 ⟨rfl, b1⟩
      have B1 := Lib.hid b1
      clear b1
      go_wp2_with fail
      go_ret
      exact ⟨rfl, B1.out⟩
    · have i2 : ((F.length : Int) == 0) = false := beq_eq_false_iff_ne.2 (by omega)
      have HT : Hid (CL w A c F) := ⟨by omega, hr⟩
      clear hr
      rcases layE_cases F with e | e | e | e
      · obtain ⟨h1, _, h3⟩ := lay_fine e
        obtain ⟨ho, hfr240⟩ := frmE_zero.1 h1
        obtain ⟨k, hk⟩ : ∃ k, i % F.length = k := ⟨_, rfl⟩
        have hkn : k < F.length := by rw [← hk]; exact Nat.mod_lt _ (by omega)
        obtain ⟨e1, e2, h4, h5, h6⟩ := okF_at ho hkn
        have hl : (layL F).length = frm F := by rw [h3, lay_length]
        have HAT : Hid (∀ j, j < frm F → at_ (layL F) j = gF F j) := fun j hj => by rw [h3]; exact lay_at hj
        have hfp := frm_pos ho
        have HC1 := Lib.hid (lay_to A c F (layL F) (frm F) 0 rfl hl (by rw [e]; rfl) F.length rfl)
        have HFC : Hid (∀ W : World, CL W A c F → ∃ b off, A = some ⟨b, off, none⟩ ∧ W.cell? ⟨b, off + k * 2, none⟩ = some (.int .i64 (Pn F k : Nat)) ∧ W.cell? ⟨b, off + k * 2 + 1, none⟩ = some (.int .i64 (Bn F k : Nat))) := fun W hW => by
          obtain ⟨b, off, h, hc⟩ := face_at hW.2 (by omega)
          obtain ⟨x1, x2, _, _⟩ := hc k hkn
          rw [e1] at x1
          rw [e2] at x2
          exact ⟨b, off, h, x1, x2⟩
        have HMN : Hid (∀ n j, j < frm F → gv F k (n * frm F + (j + 1)) = gv F k (n * frm F + j) ++ [decide (gF F j = (k : Int))]) := fun n j hj => by rw [← Nat.add_assoc, gv_succ, mine_at hj]
        have HLG : Hid (∀ n, legalB (Pn F k : Nat) (Bn F k : Nat) (gv F k n) = true) := fun n => gv_legal e hkn
        have HLS : Hid (∀ n s : Nat, s ≤ n → Sp.sbf (Pn F k) (Bn F k) s ≤ leastZ (gv F k n) s) := fun n s hs => gv_least e hkn hs
        have HLL := Lib.hid hl
        clear e h1 h3 ho e1 e2 hl
        generalize frm F = fr at *
        generalize Pn F k = p at *
        generalize Bn F k = bb at *
        have q1 : (i : Int) % (F.length : Int) = (k : Int) := by rw [← hk]; push_cast; rfl
        have q2 : (i : Int).tmod (F.length : Int) = (k : Int) := by rw [Int.tmod_eq_emod_of_nonneg (by omega), q1]
        have q7 : IntKind.i64.wrap (k : Int) = (k : Int) := IntWalk.i64_in _ (by omega)
        have j1 : ¬ (F.length : Int) = 0 := by omega
        have j4 : (0 : Int) ≤ (k : Int) := by omega
        have j5 : (k : Int) < (F.length : Int) := by omega
        have HK := Lib.hid hk
        clear hk
        go_enter Try.func6, Try.ntmps6
        go_wp2_with fail
        refine (HC1.out _ HT.out).mono ?_
        rintro x w1 ⟨B, cp, rfl, hr1, b1⟩
        replace HT := Lib.hid (HT.out.below b1)
        have B1 := Lib.hid b1
        have HR1 := Lib.hid hr1
        obtain ⟨b, off, hA, x1, x2⟩ := HFC.out _ HT.out
        subst hA
        clear hr1 b1 HFC
        go_wp2_with fail
        go_loopw [10, 11] (fun g i wr => ∃ (n m cq : Nat) (D : Option Addr), i = .int .i64 n ∧ g = .slice D m cq ∧ n ≤ 3 ∧ n * fr = m ∧ Hid ((gv F k m).length = m) ∧ Hid (Ow wr w1.heap.size 4 D cq (gv F k m)) ∧ Hid (Below w1.heap.size w1 wr)) (fun _ i _ => 3 - (intOf i).toNat)
        case atStart => exact ⟨0, 0, 0, none, rfl, rfl, by omega, Nat.zero_mul _, rfl, ow_none _ _ _, Below.refl _ _⟩
        case round =>
          obtain ⟨n, m, cq, D, rfl, rfl, hn, hnm, HGL, HOW, HB⟩ := hrel
          by_cases hlt : n < 3
          · have hmb : m ≤ 480 := by rw [← hnm]; exact Nat.le_trans (Nat.mul_le_mul (show n ≤ 2 by omega) hfr240) (by omega)
            have HNM := Lib.hid hnm
            have hn3 : (n : Int) < 3 := by omega
            clear hnm
            go_wp2_with fail
            generalize wr = wo at *
            go_loopw [10, 12] (fun g i wr => ∃ (j q cq : Nat) (D : Option Addr), i = .int .i64 j ∧ g = .slice D q cq ∧ j ≤ fr ∧ q = m + j ∧ Hid ((gv F k q).length = q) ∧ Hid (Ow wr w1.heap.size 4 D cq (gv F k q)) ∧ Hid (Below w1.heap.size w1 wr)) (fun _ i _ => fr - (intOf i).toNat)
            case atStart => exact ⟨0, m, cq, D, rfl, rfl, Nat.zero_le _, rfl, HGL.out, HOW.out, HB.out⟩
            case round =>
              obtain ⟨j, q, cq2, D2, rfl, rfl, hj, hq, HGL2, HOW2, HB2⟩ := hrel
              by_cases hjl : j < fr
              · obtain ⟨b2, off2, rfl, hc⟩ := (HR1.out.below HB2.out).int (by rw [HLL.out]; omega)
                have y1 := (hc j (by rw [HLL.out]; omega)).1
                rw [HAT.out j hjl] at y1
                have HS : Hid (gv F k (q + 1) = gv F k q ++ [decide (gF F j = (k : Int))]) := by
                  show _ = _
                  have := HMN.out n j hjl
                  rw [HNM.out, ← Nat.add_assoc, ← hq] at this
                  exact this
                clear hc
                generalize gF F j = x at *
                have l2 : (0 : Int) ≤ (j : Int) := by omega
                have l3 : (j : Int) < (fr : Int) := by omega
                have hq2 : q ≤ 1000 := by omega
                have HQ := Lib.hid hq
                have bA := below_one wr (Obj.cells #[.bool (decide (x = (k : Int)))] 4)
                have HDA : Hid (Rd (wr.alloc (Obj.cells #[.bool (decide (x = (k : Int)))] 4)) (some ⟨wr.heap.size, 0, none⟩) 1 [decide (x = (k : Int))]) := rd_literal wr _ 1 rfl _ _ (by decide) (rows_bool_ _ rows_nil_)
                have HRA := Lib.hid (HOW2.out.alloc (Obj.cells #[.bool (decide (x = (k : Int)))] 4))
                have BA := Lib.hid (below_step HB2.out bA)
                have HN2 : Hid ((gv F k (q + 1)).length = q + 1) := gv_length _ _ _
                have hbe : (x == (k : Int)) = decide (x = (k : Int)) := rfl
                generalize decide (x = (k : Int)) = v at *
                clear bA hq
                go_wp2_with (at_builtin
                             refine list_app_n slF rfl _ _ rfl (base := w1.heap.size) (l := gv F k q) (r := [v]) (n := q) (m := 1) HGL2.out rfl rfl rfl HRA.out HDA.out (by omega) (by have := BA.out.size; exact this) ?_
                             intro A3 c3 w3 k1 k2 k3
                             have O3 := Lib.hid k1
                             have B3 := Lib.hid (BA.out.trans k2)
                             clear k1 k2 k3)
                rw [← HS.out] at O3
                go_roundw
                case rel => exact ⟨j + 1, q + 1, c3, A3, by go_num, rfl, hjl, by have := HQ.out; omega, HN2, O3, B3⟩
                case measure => (simp [intOf] <;> omega)
              · have hjf : j = fr := by omega
                have hq3 : (n + 1) * fr = q := by rw [Nat.add_mul, Nat.one_mul, HNM.out]; omega
                go_wp2_with fail
                go_roundw
                case rel => exact ⟨n + 1, q, cq2, D2, by go_num, rfl, hlt, hq3, HGL2, HOW2, HB2⟩
                case measure => (simp [intOf] <;> omega)
          · have hmb : m ≤ 720 := by rw [← hnm]; exact Nat.le_trans (Nat.mul_le_mul hn hfr240) (by omega)
            have hn3 : ¬ (n : Int) < 3 := by omega
            replace HT := Lib.hid (HT.out.below HB.out)
            have HFL : Hid (FL wr D cq (gv F k m)) := ⟨by rw [HGL.out]; omega, HOW.out.rd⟩
            replace x1 := (cell_below HB.out) x1
            replace x2 := (cell_below HB.out) x2
            have B2 := Lib.hid (below_step B1.out HB.out)
            clear hnm HOW HB
            by_cases ht1 : t < 1
            · skip
              go_wp2_with fail
              refine (refLegal_v p bb D cq (gv F k m) true (HLG.out m) m HGL.out _ HFL.out).mono ?_
              rintro e w3 ⟨rfl, b3⟩
              replace x1 := cell_below b3 x1
              replace x2 := cell_below b3 x2
              have B3 := Lib.hid (below_step B2.out b3)
              replace HFL := Lib.hid (HFL.out.below b3)
              clear b3
              go_wp2_with fail
              refine (legal_v p bb D cq (gv F k m) true (HLG.out m) m HGL.out _ HFL.out).mono ?_
              rintro e w4 ⟨rfl, b4⟩
              replace x1 := cell_below b4 x1
              replace x2 := cell_below b4 x2
              have B4 := Lib.hid (below_step B3.out b4)
              replace HFL := Lib.hid (HFL.out.below b4)
              clear b4
              go_wp2_with fail
              refine (knows12_any _).mono ?_
              rintro e w5 ⟨rfl, b5⟩
              have B5 := Lib.hid (below_step B4.out b5)
              clear b5
              go_wp2_with fail
              go_ret
              exact ⟨rfl, B5.out⟩
            · by_cases ht2 : (m : Int) < t
              · skip
                go_wp2_with fail
                refine (refLegal_v p bb D cq (gv F k m) true (HLG.out m) m HGL.out _ HFL.out).mono ?_
                rintro e w3 ⟨rfl, b3⟩
                replace x1 := cell_below b3 x1
                replace x2 := cell_below b3 x2
                have B3 := Lib.hid (below_step B2.out b3)
                replace HFL := Lib.hid (HFL.out.below b3)
                clear b3
                go_wp2_with fail
                refine (legal_v p bb D cq (gv F k m) true (HLG.out m) m HGL.out _ HFL.out).mono ?_
                rintro e w4 ⟨rfl, b4⟩
                replace x1 := cell_below b4 x1
                replace x2 := cell_below b4 x2
                have B4 := Lib.hid (below_step B3.out b4)
                replace HFL := Lib.hid (HFL.out.below b4)
                clear b4
                go_wp2_with fail
                refine (knows12_any _).mono ?_
                rintro e w5 ⟨rfl, b5⟩
                have B5 := Lib.hid (below_step B4.out b5)
                clear b5
                go_wp2_with fail
                go_ret
                exact ⟨rfl, B5.out⟩
              · obtain ⟨s, rfl⟩ : ∃ s : Nat, t = s := ⟨t.toNat, by omega⟩
                have hb := HLS.out m s (by omega)
                obtain ⟨z, hz⟩ : ∃ z, leastZ (gv F k m) s = z := ⟨_, rfl⟩
                have HRB := Lib.hid (refBound_any p bb s h4 h5 h6 (by omega))
                generalize sbf p bb s = y at *
                rw [hz] at hb
                have HZ : Hid (((leastZ (gv F k m) s : Nat) : Int) = (z : Int)) := by show _ = _; rw [hz]
                have l1 : (y : Int) ≤ (z : Int) := by omega
                have l2 : decide ((y : Int) ≤ (z : Int)) = true := decide_eq_true l1
                have j6 : decide ((0 : Int) ≤ (k : Int) ∧ (k : Int) < (F.length : Int)) = true := decide_eq_true ⟨j4, j5⟩
                clear hz hb
                go_wp2_with fail
                refine (refLegal_v p bb D cq (gv F k m) true (HLG.out m) m HGL.out _ HFL.out).mono ?_
                rintro e w3 ⟨rfl, b3⟩
                replace x1 := cell_below b3 x1
                replace x2 := cell_below b3 x2
                have B3 := Lib.hid (below_step B2.out b3)
                replace HFL := Lib.hid (HFL.out.below b3)
                clear b3
                go_wp2_with fail
                refine (legal_v p bb D cq (gv F k m) true (HLG.out m) m HGL.out _ HFL.out).mono ?_
                rintro e w4 ⟨rfl, b4⟩
                replace x1 := cell_below b4 x1
                replace x2 := cell_below b4 x2
                have B4 := Lib.hid (below_step B3.out b4)
                replace HFL := Lib.hid (HFL.out.below b4)
                clear b4
                go_wp2_with fail
                replace x1 := cell_bw x1
                replace x2 := cell_bw x2
                refine wp_region_bw (by kernel_rfl) (by kernel_rfl) ?_
                repeat
                  (with_reducible refine wpQuiet_step (fun K hK => ?_)
                   go_simp
                   first
                     | (with_reducible refine hK _ ?_
                        clear hK K)
                     | (rw [if_neg]
                        rotate_left
                        focus (intro h; cases h; done)
                        with_reducible refine hK _ ?_
                        clear hK K)
                     | (apply Exists.intro
                        refine ⟨fun _ => ?_, hK _ ?_⟩
                        (first | exact Calls.bw (least_v D cq (gv F k m) s z HZ.out m HGL.out _ (HFL.out.bw _)) | exact Calls.bw (HRB.out _) | exact Calls.bw (knows12_any _))
                        clear hK K))
                with_reducible refine wpQuiet_nil ?_
                intro wb hw'
                obtain ⟨⟨wb', lb⟩, hw''⟩ := hw'
                subst hw''
                have B5 := Lib.hid (below_step B4.out lb)
                clear lb
                go_wp2_with fail
                go_ret
                exact ⟨rfl, B5.out⟩
      · skip
        have HC1 := Lib.hid (lay_to A c F [] 0 1 (lay_bad (by omega)) rfl (by rw [e]; rfl) F.length rfl)
        clear e
        go_enter Try.func6, Try.ntmps6
        go_wp2_with fail
        refine (HC1.out _ HT.out).mono ?_
        rintro x w1 ⟨B, cp, rfl, hr1, b1⟩
        have B1 := Lib.hid b1
        clear hr1 b1
        go_wp2_with fail
        refine (knows12_any _).mono ?_
        rintro e w2 ⟨rfl, b2⟩
        have B2 := Lib.hid (below_step B1.out b2)
        clear b2
        go_wp2_with fail
        go_ret
        exact ⟨rfl, B2.out⟩
      · skip
        have HC1 := Lib.hid (lay_to A c F [] 0 5 (lay_bad (by omega)) rfl (by rw [e]; rfl) F.length rfl)
        clear e
        go_enter Try.func6, Try.ntmps6
        go_wp2_with fail
        refine (HC1.out _ HT.out).mono ?_
        rintro x w1 ⟨B, cp, rfl, hr1, b1⟩
        have B1 := Lib.hid b1
        clear hr1 b1
        go_wp2_with fail
        refine (knows12_any _).mono ?_
        rintro e w2 ⟨rfl, b2⟩
        have B2 := Lib.hid (below_step B1.out b2)
        clear b2
        go_wp2_with fail
        go_ret
        exact ⟨rfl, B2.out⟩
      · skip
        have HC1 := Lib.hid (lay_to A c F [] 0 7 (lay_bad (by omega)) rfl (by rw [e]; rfl) F.length rfl)
        clear e
        go_enter Try.func6, Try.ntmps6
        go_wp2_with fail
        refine (HC1.out _ HT.out).mono ?_
        rintro x w1 ⟨B, cp, rfl, hr1, b1⟩
        have B1 := Lib.hid b1
        clear hr1 b1
        go_wp2_with fail
        refine (knows12_any _).mono ?_
        rintro e w2 ⟨rfl, b2⟩
        have B2 := Lib.hid (below_step B1.out b2)
        clear b2
        go_wp2_with fail
        go_ret
        exact ⟨rfl, B2.out⟩

set_option maxRecDepth 100000 in
theorem lifted (os : Os) (started : os.Started) (H : Type) (enc : TypeId × Value → H) :
    ReturnsInHanded {} Try.checked os 6 .any (Rows.synthSuppliesSpec.pre6 enc Try.prog Try.f6 Rows.synthSuppliesRow.domain false) (Rows.synthSuppliesSpec.post enc Try.prog Try.f6 false true false false) := by
  refine returnsInHanded_of_change (C := Try.checked) own started (by kernel_rfl) Try.func6
    (ChangeSpec.witness6 (enc := enc) (C := Try.checked) false ⟨#[], #[.slice none 0 0, .int .u8 0, .int .i64 0], []⟩ 8 (by kernel_rfl) (by kernel_rfl) (by kernel_rfl) (by kernel_rfl)) ?_
  intro W base args ds gs before hval0 hW hcnd _
  have hval : ∀ (j : Nat) t v, Try.f6.params[j]? = some t → args[j]? = some v → Value.okWide Try.prog W .any base t v := hval0
  have hW' := hW
  obtain ⟨p, q, hA0, hV, rfl, hfz, hnd⟩ := hW
  have hA : DataW.TrodAll enc Try.prog W 0 (fun _ => true) true Try.f6.params.toList args.toList ds p := hA0
  rw [Try.params6] at hA hval
  obtain ⟨v0, v1, v2, d0, d1, d2, p0, p1, p2, rfl, rfl, rfl, h0, h1, h2⟩ := trodAll_three hA
  obtain ⟨rfl, rfl⟩ := trodVars_none hV
  obtain ⟨A0, c0, l0, rfl, hr0⟩ := Mm.open_list (α := Int × Int) Try.underlying22 Sy.opFaces (hval 0 22 v0 rfl rfl) h0
  obtain ⟨n1, rfl, f1⟩ := Mm.open_u8' Try.underlying5 (hval 1 5 v1 rfl rfl) h1
  obtain ⟨n2, rfl, f2⟩ := Mm.open_num' Try.underlying3 (hval 2 3 v2 rfl rfl) h2
  clear hA0 hval0
  refine (walk A0 c0 l0 n1 n2 W hr0 f1 f2).mono fun e W' ⟨he, bel⟩ => ?_
  subst he
  have hlt0 : ∀ x ∈ p0, x.block < W.heap.size := fun x hx => hW'.lt x (by simp [hx])
  have hlt1 : ∀ x ∈ p1, x.block < W.heap.size := fun x hx => hW'.lt x (by simp [hx])
  have hlt2 : ∀ x ∈ p2, x.block < W.heap.size := fun x hx => hW'.lt x (by simp [hx])
  exact ⟨_, rfl, _, _, _, [], _, [], hW', trodAll_mk1 (shut_bool Try.underlying4 _), trodAll_mk3 (Below.trod laidOut (by kernel_rfl) (of_decide_eq_true (by kernel_rfl)) h0 bel hlt0) (Below.trod laidOut (by kernel_rfl) (of_decide_eq_true (by kernel_rfl)) h1 bel hlt1) (Below.trod laidOut (by kernel_rfl) (of_decide_eq_true (by kernel_rfl)) h2 bel hlt2), rfl, bel.frame _, fun h => by cases h⟩

/-- The statement. -/
theorem proved : Rows.SynthSuppliesSaid :=
  OpenClaim.holds_of_wide 6 Try.f6 rfl rfl rfl rfl rfl rfl rfl ⟨rfl, rfl, rfl, rfl, rfl⟩ rfl rfl rfl rfl rfl (by kernel_rfl) Try.func6 (by kernel_rfl)
    (of_decide_eq_true (by kernel_rfl)) (by unfold Func.isWrapper; first | (rw [if_pos (by decide +kernel)]; kernel_rfl) | (rw [if_neg (by decide +kernel)]; exact ⟨rfl, rfl⟩))
    (fun os started H enc _ => lifted os started H enc)
#print axioms proved

end Go.Proofs.Ytmfbmbbndiafiaa.synthSupplies
