/-
  For any list of interfaces, any of them and any period the statement SynthPeriods of layer 12 returns true (in each period each interface has just its budget), and its arguments read as before. No condition.
-/
import Derived.Test.YtmfbmbbndiafiaaGlaw12
namespace Go.Proofs.Ytmfbmbbndiafiaa.synthPeriods
open Go.ChangeShapes Go.WideShapes Go.ChangeAt Go.RowKit
open Mm Sp Sy

/-- where the period begins -/
theorem from_at {P fr v : Nat} (hf : 0 < fr) (hd : P ∣ fr) : ∃ q, (v * P) % fr = q * P ∧ (q + 1) * P ≤ fr := by
  obtain ⟨m, rfl⟩ := hd
  have hm : 0 < m := by
    rcases Nat.eq_zero_or_pos m with e | e
    · subst e; omega
    · exact e
  refine ⟨v % m, ?_, ?_⟩
  · rw [Nat.mul_comm v P, Nat.mul_mod_mul_left, Nat.mul_comm]
  · rw [Nat.mul_comm P m]
    exact Nat.mul_le_mul_right _ (Nat.mod_lt v hm)
set_option maxRecDepth 20000 in
set_option maxHeartbeats 3200000 in
theorem walk (A : Option Addr) (c : Nat) (F : List Fce) (i v : Nat) (w : World) (hr : Rd w A c F) (hi : i < 256) (hv : v < 256) :
    Calls Try.prog 7 #[.slice A F.length c, .int .u8 i, .int .u8 v] w fun e w' => e = .returned (.bool true) ∧ Below w.heap.size w w' := by
  have hm := hr.max
  have hle := hr.le
  unfold maxLen at hm
  by_cases hlen : 20 < F.length
  · have i1 : (20 : Int) < (F.length : Int) := by omega
    clear hr
    go_enter Try.func7, Try.ntmps7
    go_wp2_with fail
    refine (knows12_any _).mono ?_
    rintro e w1 ⟨rfl, b1⟩
    have B1 := Lib.hid b1
    clear b1
    go_wp2_with fail
    go_ret
    exact ⟨rfl, B1.out⟩
  · have i1 : ¬ (20 : Int) < (F.length : Int) := by omega
    by_cases hz : F.length = 0
    · have i2 : ((F.length : Int) == 0) = true := by simp [hz]
      have i3 : (F.length : Int) = 0 := by omega
      have hnil : F = [] := List.eq_nil_of_length_eq_zero hz
      clear hr hz
      go_enter Try.func7, Try.ntmps7
      go_wp2_with fail
      refine (knows12_any _).mono ?_
      rintro e w1 ⟨rfl, b1⟩
      have B1 := Lib.hid b1
      clear b1
      go_wp2_with fail
      go_ret
      exact ⟨rfl, B1.out⟩
    · have i2 : ((F.length : Int) == 0) = false := beq_eq_false_iff_ne.2 (by omega)
      have HT : Hid (CL w A c F) := ⟨by omega, hr⟩
      clear hr
      rcases layE_cases F with e | e | e | e
      · obtain ⟨h1, _, h3⟩ := lay_fine e
        obtain ⟨ho, hfr240⟩ := frmE_zero.1 h1
        obtain ⟨k, hk⟩ : ∃ k, i % F.length = k := ⟨_, rfl⟩
        have hkn : k < F.length := by rw [← hk]; exact Nat.mod_lt _ (by omega)
        obtain ⟨e1, e2, h4, h5, h6⟩ := okF_at ho hkn
        obtain ⟨q, hq1, hq2⟩ := from_at (v := v) (frm_pos ho) (frm_dvd k hkn)
        have hper := lay_period e hkn hq2
        have hl : (layL F).length = frm F := by rw [h3, lay_length]
        have HAT : Hid (∀ j, j < frm F → at_ (layL F) j = gF F j) := fun j hj => by rw [h3]; exact lay_at hj
        have hfp := frm_pos ho
        rw [Nat.add_mul, Nat.one_mul] at hq2 hper
        have HC1 := Lib.hid (lay_to A c F (layL F) (frm F) 0 rfl hl (by rw [e]; rfl) F.length rfl)
        have HFC : Hid (∀ W : World, CL W A c F → ∃ b off, A = some ⟨b, off, none⟩ ∧ W.cell? ⟨b, off + k * 2, none⟩ = some (.int .i64 (Pn F k : Nat)) ∧ W.cell? ⟨b, off + k * 2 + 1, none⟩ = some (.int .i64 (Bn F k : Nat))) := fun W hW => by
          obtain ⟨b, off, h, hc⟩ := face_at hW.2 (by omega)
          obtain ⟨x1, x2, _, _⟩ := hc k hkn
          rw [e1] at x1
          rw [e2] at x2
          exact ⟨b, off, h, x1, x2⟩
        have HLL := Lib.hid hl
        clear e h1 h3 ho e1 e2 hl
        generalize frm F = fr at *
        generalize Pn F k = p at *
        generalize Bn F k = bb at *
        obtain ⟨a, ha⟩ : ∃ a, q * p = a := ⟨_, rfl⟩
        rw [ha] at hq1 hq2 hper
        obtain ⟨u, hu⟩ : ∃ u, v * p = u := ⟨_, rfl⟩
        have hub : u ≤ 60000 := by rw [← hu]; exact Nat.le_trans (Nat.mul_le_mul (show v ≤ 256 by omega) h6) (by omega)
        rw [hu] at hq1
        have q1 : (i : Int) % (F.length : Int) = (k : Int) := by rw [← hk]; push_cast; rfl
        have q2 : (i : Int).tmod (F.length : Int) = (k : Int) := by rw [Int.tmod_eq_emod_of_nonneg (by omega), q1]
        have q3 : IntKind.i64.wrap ((v : Int) * (p : Int)) = (u : Int) := by
          rw [show (v : Int) * (p : Int) = (u : Int) from by rw [← hu]; push_cast; rfl]
          exact IntWalk.i64_in _ (by omega)
        have q4 : (u : Int) % (fr : Int) = (a : Int) := by rw [← hq1]; push_cast; rfl
        have q5 : (u : Int).tmod (fr : Int) = (a : Int) := by rw [Int.tmod_eq_emod_of_nonneg (by omega), q4]
        have q6 : IntKind.i64.wrap ((a : Int) + (p : Int)) = (a : Int) + (p : Int) := IntWalk.i64_in _ (by omega)
        have q7 : IntKind.i64.wrap (k : Int) = (k : Int) := IntWalk.i64_in _ (by omega)
        have q8 : IntKind.i64.wrap (a : Int) = (a : Int) := IntWalk.i64_in _ (by omega)
        have j1 : ¬ (F.length : Int) = 0 := by omega
        have j2 : ¬ (fr : Int) = 0 := by omega
        have j3 : ((fr : Int) == 0) = false := beq_eq_false_iff_ne.2 j2
        have j4 : (0 : Int) ≤ (k : Int) := by omega
        have j5 : (k : Int) < (F.length : Int) := by omega
        have HP := Lib.hid hper
        have HZ : Hid (cnt (gF F) k a a = 0) := cnt_none (Nat.le_refl _)
        have HK := Lib.hid hk
        have HA := Lib.hid ha
        have HU := Lib.hid hu
        have HQ1 := Lib.hid hq1
        have HPER := Lib.hid hper
        clear hk ha hu hq1 hper
        go_enter Try.func7, Try.ntmps7
        go_wp2_with fail
        refine (HC1.out _ HT.out).mono ?_
        rintro x w1 ⟨B, cp, rfl, hr1, b1⟩
        replace HT := Lib.hid (HT.out.below b1)
        have B1 := Lib.hid b1
        have HR1 := Lib.hid hr1
        obtain ⟨b, off, hA, x1, x2⟩ := HFC.out _ HT.out
        subst hA
        clear hr1 b1 HFC
        go_wp2_with fail
        go_loopw [11, 12] (fun m i wr => ∃ t z : Nat, i = .int .i64 t ∧ m = .int .i64 z ∧ a ≤ t ∧ t ≤ a + p ∧ z ≤ t ∧ Hid (cnt (gF F) k a t = z) ∧ Hid (Below w1.heap.size w1 wr)) (fun _ i _ => a + p - (intOf i).toNat)
        case atStart => exact ⟨a, 0, rfl, rfl, Nat.le_refl _, by omega, Nat.zero_le _, HZ.out, Below.refl _ _⟩
        case round =>
          obtain ⟨t, z, rfl, rfl, hat, ht, hzt, HQ, HB⟩ := hrel
          replace x1 := (cell_below HB.out) x1
          replace x2 := (cell_below HB.out) x2
          by_cases hlt : t < a + p
          · obtain ⟨b2, off2, rfl, hc⟩ := (HR1.out.below HB.out).int (by rw [HLL.out]; omega)
            have y1 := (hc t (by rw [HLL.out]; omega)).1
            rw [HAT.out t (by omega)] at y1
            have hs := cnt_succ (g := gF F) (j := k) hat
            rw [HQ.out] at hs
            have HS := Lib.hid hs
            clear hc hs
            generalize gF F t = x at *
            have l1 : (t : Int) < (a : Int) + (p : Int) := by omega
            have l2 : (0 : Int) ≤ (t : Int) := by omega
            have l3 : (t : Int) < (fr : Int) := by omega
            by_cases h : x = (k : Int)
            · have HN : Hid (cnt (gF F) k a (t + 1) = z + 1) := by show _ = _; rw [HS.out, if_pos h]
              have hbe : (x == (k : Int)) = true := by simp [h]
              go_wp2_with fail
              go_roundw
              case rel => exact ⟨t + 1, z + 1, by go_num, by go_num, by omega, by omega, by omega, HN, HB⟩
              case measure => (simp [intOf] <;> omega)
            · have HN : Hid (cnt (gF F) k a (t + 1) = z) := by show _ = _; rw [HS.out, if_neg h]; rfl
              have hbe : (x == (k : Int)) = false := beq_eq_false_iff_ne.2 h
              go_wp2_with fail
              go_roundw
              case rel => exact ⟨t + 1, z, by go_num, rfl, by omega, by omega, by omega, HN, HB⟩
              case measure => (simp [intOf] <;> omega)
          · have hta : t = a + p := by omega
            have hzb : z = bb := by rw [← HQ.out, hta, HP.out]
            subst hzb
            have l1 : ¬ (t : Int) < (a : Int) + (p : Int) := by omega
            have j6 : ((z : Int) == (z : Int)) = true := by simp
            have B4 := Lib.hid (below_step B1.out HB.out)
            clear hta
            go_wp2_with fail
            refine (knows12_any _).mono ?_
            rintro e w5 ⟨rfl, b5⟩
            have B5 := Lib.hid (below_step B4.out b5)
            clear b5
            go_wp2_with fail
            go_ret
            exact ⟨rfl, B5.out⟩
      · skip
        have HC1 := Lib.hid (lay_to A c F [] 0 1 (lay_bad (by omega)) rfl (by rw [e]; rfl) F.length rfl)
        clear e
        go_enter Try.func7, Try.ntmps7
        go_wp2_with fail
        refine (HC1.out _ HT.out).mono ?_
        rintro x w1 ⟨B, cp, rfl, hr1, b1⟩
        replace HT := Lib.hid (HT.out.below b1)
        have B1 := Lib.hid b1
        have HR1 := Lib.hid hr1
        clear hr1 b1
        go_wp2_with fail
        refine (knows12_any _).mono ?_
        rintro e w2 ⟨rfl, b2⟩
        have B2 := Lib.hid (below_step B1.out b2)
        clear b2
        go_wp2_with fail
        go_ret
        exact ⟨rfl, B2.out⟩
      · skip
        have HC1 := Lib.hid (lay_to A c F [] 0 5 (lay_bad (by omega)) rfl (by rw [e]; rfl) F.length rfl)
        clear e
        go_enter Try.func7, Try.ntmps7
        go_wp2_with fail
        refine (HC1.out _ HT.out).mono ?_
        rintro x w1 ⟨B, cp, rfl, hr1, b1⟩
        replace HT := Lib.hid (HT.out.below b1)
        have B1 := Lib.hid b1
        have HR1 := Lib.hid hr1
        clear hr1 b1
        go_wp2_with fail
        refine (knows12_any _).mono ?_
        rintro e w2 ⟨rfl, b2⟩
        have B2 := Lib.hid (below_step B1.out b2)
        clear b2
        go_wp2_with fail
        go_ret
        exact ⟨rfl, B2.out⟩
      · skip
        have HC1 := Lib.hid (lay_to A c F [] 0 7 (lay_bad (by omega)) rfl (by rw [e]; rfl) F.length rfl)
        clear e
        go_enter Try.func7, Try.ntmps7
        go_wp2_with fail
        refine (HC1.out _ HT.out).mono ?_
        rintro x w1 ⟨B, cp, rfl, hr1, b1⟩
        replace HT := Lib.hid (HT.out.below b1)
        have B1 := Lib.hid b1
        have HR1 := Lib.hid hr1
        clear hr1 b1
        go_wp2_with fail
        refine (knows12_any _).mono ?_
        rintro e w2 ⟨rfl, b2⟩
        have B2 := Lib.hid (below_step B1.out b2)
        clear b2
        go_wp2_with fail
        go_ret
        exact ⟨rfl, B2.out⟩

set_option maxRecDepth 100000 in
theorem lifted (os : Os) (started : os.Started) (H : Type) (enc : TypeId × Value → H) :
    ReturnsInHanded {} Try.checked os 7 .any (Rows.synthPeriodsSpec.pre6 enc Try.prog Try.f7 Rows.synthPeriodsRow.domain false) (Rows.synthPeriodsSpec.post enc Try.prog Try.f7 false true false false) := by
  refine returnsInHanded_of_change (C := Try.checked) own started (by kernel_rfl) Try.func7
    (ChangeSpec.witness6 (enc := enc) (C := Try.checked) false ⟨#[], #[.slice none 0 0, .int .u8 0, .int .u8 0], []⟩ 8 (by kernel_rfl) (by kernel_rfl) (by kernel_rfl) (by kernel_rfl)) ?_
  intro W base args ds gs before hval0 hW hcnd _
  have hval : ∀ (j : Nat) t v, Try.f7.params[j]? = some t → args[j]? = some v → Value.okWide Try.prog W .any base t v := hval0
  have hW' := hW
  obtain ⟨p, q, hA0, hV, rfl, hfz, hnd⟩ := hW
  have hA : DataW.TrodAll enc Try.prog W 0 (fun _ => true) true Try.f7.params.toList args.toList ds p := hA0
  rw [Try.params7] at hA hval
  obtain ⟨v0, v1, v2, d0, d1, d2, p0, p1, p2, rfl, rfl, rfl, h0, h1, h2⟩ := trodAll_three hA
  obtain ⟨rfl, rfl⟩ := trodVars_none hV
  obtain ⟨A0, c0, l0, rfl, hr0⟩ := Mm.open_list (α := Int × Int) Try.underlying22 Sy.opFaces (hval 0 22 v0 rfl rfl) h0
  obtain ⟨n1, rfl, f1⟩ := Mm.open_u8' Try.underlying5 (hval 1 5 v1 rfl rfl) h1
  obtain ⟨n2, rfl, f2⟩ := Mm.open_u8' Try.underlying5 (hval 2 5 v2 rfl rfl) h2
  clear hA0 hval0
  refine (walk A0 c0 l0 n1 n2 W hr0 f1 f2).mono fun e W' ⟨he, bel⟩ => ?_
  subst he
  have hlt0 : ∀ x ∈ p0, x.block < W.heap.size := fun x hx => hW'.lt x (by simp [hx])
  have hlt1 : ∀ x ∈ p1, x.block < W.heap.size := fun x hx => hW'.lt x (by simp [hx])
  have hlt2 : ∀ x ∈ p2, x.block < W.heap.size := fun x hx => hW'.lt x (by simp [hx])
  exact ⟨_, rfl, _, _, _, [], _, [], hW', trodAll_mk1 (shut_bool Try.underlying4 _), trodAll_mk3 (Below.trod laidOut (by kernel_rfl) (of_decide_eq_true (by kernel_rfl)) h0 bel hlt0) (Below.trod laidOut (by kernel_rfl) (of_decide_eq_true (by kernel_rfl)) h1 bel hlt1) (Below.trod laidOut (by kernel_rfl) (of_decide_eq_true (by kernel_rfl)) h2 bel hlt2), rfl, bel.frame _, fun h => by cases h⟩

/-- The statement. -/
theorem proved : Rows.SynthPeriodsSaid :=
  OpenClaim.holds_of_wide 7 Try.f7 rfl rfl rfl rfl rfl rfl rfl ⟨rfl, rfl, rfl, rfl, rfl⟩ rfl rfl rfl rfl rfl (by kernel_rfl) Try.func7 (by kernel_rfl)
    (of_decide_eq_true (by kernel_rfl)) (by unfold Func.isWrapper; first | (rw [if_pos (by decide +kernel)]; kernel_rfl) | (rw [if_neg (by decide +kernel)]; exact ⟨rfl, rfl⟩))
    (fun os started H enc _ => lifted os started H enc)
#print axioms proved

end Go.Proofs.Ytmfbmbbndiafiaa.synthPeriods
