/-
  Merged texts: Law12Args, Law12Refs, Law12Lay.
-/
import Derived.Test.YtpodahnmdakjjaaGlaw09
import Derived.Test.YtpodahnmdakjjaaGsynth
/-
  Layer 12: the arguments of the statements, opened: a list of interfaces.
-/
namespace Go.Proofs.Ytpodahnmdakjjaa
open Go.ChangeShapes Go.WideShapes Go.ChangeAt Go.RowKit Go.Deep Go.Joins Mm
namespace Sy

theorem opFaces : Opens Try.prog 45 (List (Int × Int)) := opens_slice Try.underlying45 (by kernel_rfl) Sp.opFace
theorem layL_len (F : List Fce) : (layL F).length ≤ 240 := by
  rcases Nat.eq_zero_or_pos (layE F) with e | e
  · have h := lay_fine e
    rw [h.2.2, lay_length]
    exact (frmE_zero.1 h.1).2
  · rw [lay_bad (by omega)]
    exact Nat.zero_le _
theorem layE_cases (F : List Fce) : layE F = 0 ∨ layE F = 1 ∨ layE F = 5 ∨ layE F = 7 := by
  unfold layE
  rcases frmE_cases F with e | e | e <;> rw [e] <;> simp
  omega

end Sy
end Go.Proofs.Ytpodahnmdakjjaa

/-
  Layer 12: the references Frame, Had, Wants.
-/
namespace Go.Proofs.Ytpodahnmdakjjaa
open Go.RowKit Mm Sp
namespace Sy

set_option maxRecDepth 20000 in
set_option maxHeartbeats 3200000 in
theorem refFrame_any (A : Option Addr) (c : Nat) (F : List Fce) (w : World) (H : CL w A c F) :
    Calls Try.prog 34 #[.slice A F.length c] w fun e w' => e = .returned (frmT F) ∧ Below w.heap.size w w' := by
  have hb := H.1
  have HT := Lib.hid H
  clear H
  by_cases hl : F.length ≤ 4
  · have hi : ¬ (4 : Int) < (F.length : Int) := by omega
    go_enter Try.func34, Try.ntmps34
    go_wp2_with fail
    go_loopw [4] (fun i wr => ∃ k : Nat, i = .int .i64 k ∧ k ≤ F.length ∧ Hid (∀ j, j < k → rightB (at_ F j).1 (at_ F j).2 = true) ∧ Hid (Below w.heap.size w wr)) (fun i _ => F.length - (intOf i).toNat)
    case atStart => exact ⟨0, rfl, Nat.zero_le _, (fun j h => by omega), Below.refl _ _⟩
    case round =>
      obtain ⟨k, rfl, hk, HH, HB⟩ := hrel
      by_cases hlt : k < F.length
      · obtain ⟨b, off, rfl, hc⟩ := face_at (HT.out.below HB.out).2 (by omega)
        obtain ⟨x1, x2, _, _⟩ := hc k hlt
        have HV : Hid (rightB (at_ F k).1 (at_ F k).2 = false → frmT F = .tuple #[.int .i64 0, .int .i64 1]) := fun h => by
          have ho := okF_bad hlt h
          unfold frmT
          rw [(frm_bad ho).1, (frm_bad ho).2]
          rfl
        have HY : Hid (rightB (at_ F k).1 (at_ F k).2 = true → ∀ j, j < k + 1 → rightB (at_ F j).1 (at_ F j).2 = true) := fun h j hj => by
          by_cases e : j = k
          · subst e; exact h
          · exact HH.out j (by omega)
        have HL := Lib.hid hl
        clear hc hl
        generalize at_ F k = x at *
        cases hv : rightB x.1 x.2 with
        | true =>
          have HN := Lib.hid (HY.out hv)
          have HV2 := Lib.hid hv
          clear hv
          go_wp2_with fail
          refine (refRight_v x.1 x.2 true HV2.out _).mono ?_
          rintro e w2 ⟨rfl, b2⟩
          have B2 := Lib.hid b2
          clear b2
          go_wp2_with fail
          go_roundw
          case rel => exact ⟨k + 1, by go_num, hlt, HN, below_step HB.out B2.out⟩
          case measure => simp [intOf]; omega
        | false =>
          have HN := Lib.hid (HV.out hv)
          have HV2 := Lib.hid hv
          clear hv
          go_wp2_with fail
          refine (refRight_v x.1 x.2 false HV2.out _).mono ?_
          rintro e w2 ⟨rfl, b2⟩
          have B2 := Lib.hid b2
          clear b2
          go_wp2_with fail
          go_ret2
          exact ⟨by rw [HN.out]; rfl, below_step HB.out B2.out⟩
      · have hkl : k = F.length := by omega
        have ho : okF F = true := okF_iff.2 ⟨hl, by rw [← hkl]; exact HH.out⟩
        have HO := Lib.hid ho
        have HP := Lib.hid (frm_pos ho)
        have HT2 := Lib.hid (HT.out.below HB.out)
        clear ho HH HT
        go_wp2_with fail
        clear hkl
        generalize wr = wo at *
        go_loopw [5] (fun i wr => ∃ n : Nat, i = .int .i64 n ∧ 1 ≤ n ∧ n ≤ 241 ∧ Hid (n ≤ frm F) ∧ Hid (Below wo.heap.size wo wr)) (fun i _ => 241 - (intOf i).toNat)
        case atStart => exact ⟨1, rfl, Nat.le_refl _, by omega, HP.out, Below.refl _ _⟩
        case round =>
          obtain ⟨n, rfl, hn1, hn2, HN, HB2⟩ := hrel
          by_cases hlt : n ≤ 240
          · have i1 : (n : Int) ≤ 240 := by omega
            generalize wr = wi at *
            go_wp2_with fail
            go_loopw [6, 7] (fun a i wr => ∃ (q : Nat) (bv : Bool), i = .int .i64 q ∧ a = .bool bv ∧ q ≤ F.length ∧ Hid (dvF F n q = bv) ∧ Hid (Below wi.heap.size wi wr)) (fun _ i _ => F.length - (intOf i).toNat)
            case atStart => exact ⟨0, true, rfl, rfl, Nat.zero_le _, rfl, Below.refl _ _⟩
            case round =>
              obtain ⟨q, bv, rfl, rfl, hq, HV, HB3⟩ := hrel
              by_cases hql : q < F.length
              · obtain ⟨b, off, rfl, hc⟩ := face_at ((HT2.out.below HB2.out).below HB3.out).2 (by omega)
                obtain ⟨x1, _, _, _⟩ := hc q hql
                obtain ⟨e1, _, h1, h2, h3⟩ := okF_at HO.out hql
                rw [e1] at x1
                have HS : Hid (dvF F n (q + 1) = (bv && decide (n % Pn F q = 0))) := by show _ = _; rw [dvF, HV.out]
                clear hc e1
                generalize Pn F q = p at *
                generalize Bn F q = bb at *
                cases bv with
                | false =>
                  have HS2 : Hid (dvF F n (q + 1) = false) := HS.out
                  go_wp2_with fail
                  go_roundw
                  case rel => exact ⟨q + 1, false, by go_num, rfl, hql, HS2, HB3⟩
                  case measure => simp [intOf]; omega
                | true =>
                  obtain ⟨r, hr⟩ : ∃ r, n % p = r := ⟨_, rfl⟩
                  have q1 : (n : Int) % (p : Int) = (r : Int) := by rw [← hr]; push_cast; rfl
                  have q2 : (n : Int).tmod (p : Int) = (r : Int) := by rw [Int.tmod_eq_emod_of_nonneg (by omega), q1]
                  have hrp : r < p := by rw [← hr]; exact Nat.mod_lt _ (by omega)
                  have q3 : IntKind.i64.wrap (r : Int) = (r : Int) := IntWalk.i64_in _ (by omega)
                  have j1 : ¬ (p : Int) = 0 := by omega
                  have j2 : ¬ p = 0 := by omega
                  rw [hr] at HS
                  have HR := Lib.hid hr
                  clear hr
                  by_cases h0 : r = 0
                  · have HS2 : Hid (dvF F n (q + 1) = true) := by show _ = _; rw [HS.out, decide_eq_true h0]; rfl
                    have hbe : ((r : Int) == 0) = true := by simp [h0]
                    have HZ := Lib.hid h0
                    clear h0
                    go_wp2_with fail
                    go_roundw
                    case rel => exact ⟨q + 1, true, by go_num, by first | rfl | rw [hbe], hql, HS2, HB3⟩
                    case measure => simp [intOf]; omega
                  · have HS2 : Hid (dvF F n (q + 1) = false) := by show _ = _; rw [HS.out, decide_eq_false h0]; rfl
                    have hbe : ((r : Int) == 0) = false := beq_eq_false_iff_ne.2 (by omega)
                    have HZ := Lib.hid h0
                    clear h0
                    go_wp2_with fail
                    go_roundw
                    case rel => exact ⟨q + 1, false, by go_num, by first | rfl | rw [hbe], hql, HS2, HB3⟩
                    case measure => simp [intOf]; omega
              · have hqe : q = F.length := by omega
                subst hqe
                cases bv with
                | true =>
                  have HE := Lib.hid (dvF_frm hn1 HN.out HV.out)
                  have HF : Hid (frmT F = .tuple #[.int .i64 (n : Int), .int .i64 0]) := by
                    show _ = _
                    unfold frmT
                    have h := frm_fine HO.out (by rw [← HE.out]; exact hlt)
                    rw [h.1, h.2, ← HE.out]
                    rfl
                  go_wp2_with fail
                  go_ret2
                  exact ⟨by rw [HF.out]; rfl, below_step HB.out (below_step HB2.out HB3.out)⟩
                | false =>
                  have HE : Hid (n + 1 ≤ frm F) := dvF_not HN.out HV.out
                  go_wp2_with fail
                  go_roundw
                  case rel => exact ⟨n + 1, by go_num, by omega, by omega, HE, below_step HB2.out HB3.out⟩
                  case measure => simp [intOf]; omega
          · have hn3 : n = 241 := by omega
            subst hn3
            have HF : Hid (frmT F = .tuple #[.int .i64 0, .int .i64 5]) := by
              show _ = _
              unfold frmT
              have h := frm_large HO.out (by have := HN.out; omega)
              rw [h.1, h.2]
              rfl
            go_wp2_with fail
            go_ret2
            exact ⟨by rw [HF.out]; rfl, below_step HB.out HB2.out⟩
  · have hi : (4 : Int) < (F.length : Int) := by omega
    have HF : Hid (frmT F = .tuple #[.int .i64 0, .int .i64 1]) := by
      show _ = _
      have ho := okF_long hl
      unfold frmT
      rw [(frm_bad ho).1, (frm_bad ho).2]
      rfl
    go_enter Try.func34, Try.ntmps34
    go_wp2_with fail
    go_ret2
    exact ⟨by rw [HF.out]; rfl, Below.refl _ _⟩
theorem refFrame_v (A : Option Addr) (c : Nat) (F : List Fce) (z e : Int) (hz : ((frmZ F : Nat) : Int) = z) (he : ((frmE F : Nat) : Int) = e) (n : Nat) (hn : F.length = n) (w : World) (H : CL w A c F) :
    Calls Try.prog 34 #[.slice A n c] w fun x w' => x = .returned (.tuple #[.int .i64 z, .int .i64 e]) ∧ Below w.heap.size w w' := by
  subst hz; subst he; subst hn
  exact refFrame_any A c F w H

set_option maxHeartbeats 1600000 in
theorem had_any (A : Option Addr) (c : Nat) (g : List Int) (j a : Nat) (w : World) (ha : a ≤ g.length) (H : IL w A c g) :
    Calls Try.prog 36 #[.slice A g.length c, .int .i64 j, .int .i64 a] w fun e w' => e = .returned (.int .i64 (cnt (at_ g) j a g.length : Nat)) ∧ Below w.heap.size w w' := by
  have hb := H.1
  have HT := Lib.hid H
  clear H
  have HZ : Hid (cnt (at_ g) j a a = 0) := cnt_none (Nat.le_refl _)
  go_enter Try.func36, Try.ntmps36
  go_wp2_with fail
  go_loopw [7, 8] (fun n i wr => ∃ k q : Nat, i = .int .i64 k ∧ n = .int .i64 q ∧ a ≤ k ∧ k ≤ g.length ∧ q ≤ k ∧ Hid (cnt (at_ g) j a k = q) ∧ Hid (Below w.heap.size w wr)) (fun _ i _ => g.length - (intOf i).toNat)
  case atStart => exact ⟨a, 0, rfl, rfl, Nat.le_refl _, ha, Nat.zero_le _, HZ.out, Below.refl _ _⟩
  case round =>
    obtain ⟨k, q, rfl, rfl, hak, hk, hq, HQ, HB⟩ := hrel
    by_cases hlt : k < g.length
    · obtain ⟨b, off, rfl, hc⟩ := (HT.out.below HB.out).2.int (by omega)
      have x1 := (hc k hlt).1
      have hs := cnt_succ (g := at_ g) (j := j) hak
      rw [HQ.out] at hs
      have HS := Lib.hid hs
      clear hc hs
      generalize at_ g k = x at *
      have i1 : (0 : Int) ≤ (k : Int) := by omega
      by_cases h : x = (j : Int)
      · have HN : Hid (cnt (at_ g) j a (k + 1) = q + 1) := by show _ = _; rw [HS.out, if_pos h]
        have hbe : (x == (j : Int)) = true := by simp [h]
        go_wp2_with fail
        go_roundw
        case rel => exact ⟨k + 1, q + 1, by go_num, by go_num, by omega, hlt, by omega, HN, HB⟩
        case measure => simp [intOf]; omega
      · have HN : Hid (cnt (at_ g) j a (k + 1) = q) := by show _ = _; rw [HS.out, if_neg h]; rfl
        have hbe : (x == (j : Int)) = false := beq_eq_false_iff_ne.2 h
        go_wp2_with fail
        go_roundw
        case rel => exact ⟨k + 1, q, by go_num, rfl, by omega, hlt, by omega, HN, HB⟩
        case measure => simp [intOf]; omega
    · have hkl : k = g.length := by omega
      subst hkl
      go_wp2_with fail
      go_ret
      exact ⟨by rw [HQ.out]; rfl, HB.out⟩
theorem had_v (A : Option Addr) (c : Nat) (g : List Int) (j a : Nat) (y z : Int) (n : Nat) (hn : g.length = n) (hy : (a : Int) = y) (hz : ((cnt (at_ g) j a n : Nat) : Int) = z) (w : World) (ha : a ≤ n) (H : IL w A c g) :
    Calls Try.prog 36 #[.slice A n c, .int .i64 j, .int .i64 y] w fun e w' => e = .returned (.int .i64 z) ∧ Below w.heap.size w w' := by
  subst hn; subst hy; subst hz
  exact had_any A c g j a w ha H

set_option maxRecDepth 20000 in
set_option maxHeartbeats 1600000 in
theorem wants_any (A : Option Addr) (c : Nat) (F : List Fce) (B : Option Addr) (d : Nat) (g : List Int) (i t : Nat) (z : Int) (w : World) (ho : okF F = true) (hi : i < F.length) (ht : t ≤ 1000) (hg : g.length = t) (hz : (Bn F i : Int) - (had (at_ g) (Pn F) i t : Nat) = z) (H : CL w A c F) (HG : IL w B d g) :
    Calls Try.prog 35 #[.slice A F.length c, .slice B t d, .int .i64 i, .int .i64 t] w fun e w' => e = .returned (.int .i64 z) ∧ Below w.heap.size w w' := by
  have hn := (okF_iff.1 ho).1
  obtain ⟨b, off, rfl, hc⟩ := face_at H.2 (by omega)
  obtain ⟨x1, x2, _, _⟩ := hc i hi
  obtain ⟨e1, e2, h1, h2, h3⟩ := okF_at ho hi
  rw [e1] at x1
  rw [e2] at x2
  unfold had at hz
  obtain ⟨a, ha⟩ : ∃ a, t / Pn F i * Pn F i = a := ⟨_, rfl⟩
  obtain ⟨q, hq⟩ : ∃ q, t / Pn F i = q := ⟨_, rfl⟩
  have hat : a ≤ t := by rw [← ha]; exact Nat.div_mul_le_self _ _
  have hqt : q ≤ t := by rw [← hq]; exact Nat.div_le_self _ _
  rw [ha] at hz
  rw [hq] at ha
  obtain ⟨h, hh⟩ : ∃ h, cnt (at_ g) i a t = h := ⟨_, rfl⟩
  have hht : h ≤ t := by
    have := cnt_len (g := at_ g) (j := i) (a := a) (b := t)
    omega
  rw [hh] at hz
  have HHH : Hid (((cnt (at_ g) i a t : Nat) : Int) = (h : Int)) := by show _ = _; rw [hh]
  have HI := Lib.hid HG
  have HGL := Lib.hid hg
  clear hc e1 e2 H HG hg
  generalize Pn F i = p at *
  generalize Bn F i = bb at *
  have q1 : (t : Int) / (p : Int) = (q : Int) := by rw [← hq]; push_cast; rfl
  have q2 : IntKind.i64.wrap (q : Int) = (q : Int) := IntWalk.i64_in _ (by omega)
  have q5 : IntKind.i64.wrap ((t : Int).tdiv (p : Int)) = (q : Int) := by rw [IntWalk.i64_quo _ _ ⟨by omega, by omega, by omega⟩, q1]
  have q3 : IntKind.i64.wrap ((q : Int) * (p : Int)) = (a : Int) := by
    rw [show (q : Int) * (p : Int) = (a : Int) from by rw [← ha]; push_cast; rfl]
    exact IntWalk.i64_in _ (by omega)
  have q4 : IntKind.i64.wrap ((bb : Int) - (h : Int)) = z := by rw [IntWalk.i64_in _ (by omega)]; exact hz
  have j1 : ¬ (p : Int) = 0 := by omega
  have j2 : ¬ p = 0 := by omega
  have j3 : decide ((p : Int) = 0) = false := decide_eq_false j1
  have j4 : ((p : Int) == 0) = false := by simpa using j2
  have i5 : (0 : Int) ≤ (i : Int) := by omega
  have i6 : (i : Int) < (F.length : Int) := by omega
  have i7 : decide ((0 : Int) ≤ (i : Int) ∧ (i : Int) < (F.length : Int)) = true := decide_eq_true ⟨i5, i6⟩
  have HZ := Lib.hid hz
  have HQ := Lib.hid hq
  have HA := Lib.hid ha
  have HH := Lib.hid hh
  clear hz hq ha hh
  go_enter Try.func35, Try.ntmps35
  go_wp2_with fail
  replace x1 := cell_bw x1
  replace x2 := cell_bw x2
  refine wp_region_bw (by kernel_rfl) (by kernel_rfl) ?_
  repeat
    (with_reducible refine wpQuiet_step (fun K hK => ?_)
     go_simp
     first
       | (with_reducible refine hK _ ?_
          clear hK K)
       | (rw [if_neg]
          rotate_left
          focus (intro h; cases h; done)
          with_reducible refine hK _ ?_
          clear hK K)
       | (apply Exists.intro
          refine ⟨fun _ => ?_, hK _ ?_⟩
          (exact Calls.bw (had_v B d g i a _ (h : Int) t HGL.out rfl HHH.out _ hat (HI.out.bw _)))
          clear hK K))
  with_reducible refine wpQuiet_nil ?_
  intro wb hw'
  obtain ⟨⟨wb', lb⟩, hw''⟩ := hw'
  subst hw''
  have B1 := Lib.hid lb
  clear lb
  go_wp2_with fail
  go_ret
  exact ⟨rfl, B1.out⟩

end Sy
end Go.Proofs.Ytpodahnmdakjjaa

/-
  Layer 12: the reference Lay.
-/
namespace Go.Proofs.Ytpodahnmdakjjaa
open Go.RowKit Mm Sp
namespace Sy

abbrev lyF (F : List Fce) (t : Nat) : List Int := lay F.length (Pn F) (Bn F) t
/-- looked for among the k greatest numbers, as far as laid -/
abbrev pkF (F : List Fce) (t k : Nat) : Int := pickTo F.length (Pn F) (Bn F) (at_ (lyF F t)) t k
theorem pkF_bounds {F : List Fce} {t k : Nat} (hk : k ≤ F.length) : -1 ≤ pkF F t k ∧ pkF F t k < F.length := by
  rcases pickTo_pick (n := F.length) (P := Pn F) (B := Bn F) (h := at_ (lyF F t)) (t := t) hk with ⟨h, _⟩ | ⟨j, h, hj, _⟩
  · show -1 ≤ pickTo _ _ _ _ _ _ ∧ pickTo _ _ _ _ _ _ < _
    omega
  · show -1 ≤ pickTo _ _ _ _ _ _ ∧ pickTo _ _ _ _ _ _ < _
    omega
theorem pkF_succ {F : List Fce} {t m : Nat} (hm : m < F.length) : pkF F t (F.length - m) =
    if wants (Pn F) (Bn F) (at_ (lyF F t)) t m ∧ (pkF F t (F.length - (m + 1)) < 0 ∨ dl (Pn F) m t ≤ dl (Pn F) (pkF F t (F.length - (m + 1))).toNat t) then (m : Int) else pkF F t (F.length - (m + 1)) := by
  obtain ⟨k, hk⟩ : ∃ k, k = F.length - (m + 1) := ⟨_, rfl⟩
  rw [← hk, show F.length - m = k + 1 from by omega]
  unfold pkF
  rw [pickTo, show F.length - 1 - k = m from by omega]
theorem ly_succ (F : List Fce) (t : Nat) : lyF F (t + 1) = lyF F t ++ [pkF F t F.length] := rfl
theorem had_ly {F : List Fce} {i t : Nat} : had (at_ (lyF F t)) (Pn F) i t = had (gF F) (Pn F) i t := had_same fun _ hs => lay_at hs
theorem cnt_ly {F : List Fce} {i a t : Nat} : cnt (at_ (lyF F t)) i a t = cnt (gF F) i a t := cnt_same fun _ hs => lay_at hs
theorem ly_fit {F : List Fce} (hn : F.length ≤ 4) (t : Nat) : ∀ x ∈ lyF F t, Fit x := fun x hx => by
  obtain ⟨s, hs, rfl⟩ := mem_at hx
  rw [lay_length] at hs
  have h1 := gF_bounds F s
  have e : at_ (lyF F t) s = gF F s := lay_at hs
  rw [e]
  exact ⟨by omega, by omega⟩
/-- none of the first k is late at d -/
def Nolate (F : List Fce) (d k : Nat) : Prop := ∀ j, j < k → ¬ (Pn F j ∣ d ∧ Pn F j ≤ d ∧ cnt (gF F) j (d - Pn F j) d < Bn F j)
theorem nolate_end {F : List Fce} {d : Nat} (h : Nolate F d F.length) : lateF F d = false := by
  cases e : lateF F d with
  | false => rfl
  | true =>
    obtain ⟨j, hj, h'⟩ := lateAt_iff.1 e
    exact absurd h' (h j hj)
theorem late_zero {F : List Fce} (ho : okF F = true) : lateF F 0 = false := nolate_end fun j hj h => by have := okF_at ho hj; omega
theorem layOf_list {w w' : World} {F : List Fce} {fr cp : Nat} {B : Option Addr} (h : layE F = 0) (hf : frm F = fr) (hr : Rd w' B cp (lyF F fr)) (b : Below w.heap.size w w') : LayOf w F (.returned (.tuple #[.slice B fr cp, .int .i64 0])) w' := by
  have hl : layL F = lyF F fr := by rw [(lay_fine h).2.2, hf]
  exact ⟨B, cp, by rw [hl, h, lay_length]; rfl, by rw [hl]; exact hr, b⟩

set_option maxRecDepth 20000 in
set_option maxHeartbeats 6400000 in
theorem refLay_any (A : Option Addr) (c : Nat) (F : List Fce) (w : World) (H : CL w A c F) :
    Calls Try.prog 21 #[.slice A F.length c] w (LayOf w F) := by
  have hb := H.1
  have HT := Lib.hid H
  clear H
  by_cases h0 : frmE F = 0
  · obtain ⟨ho, h1⟩ := frmE_zero.1 h0
    have h2 := (frm_fine ho h1).2
    obtain ⟨fr, hfr⟩ : ∃ fr, frm F = fr := ⟨_, rfl⟩
    have HR := Lib.hid hfr
    have HE := Lib.hid h0
    have HC := Lib.hid (refFrame_v A c F fr 0 (by rw [h2, hfr]) (by rw [h0]; rfl) F.length rfl)
    have hn := (okF_iff.1 ho).1
    have hfr2 : fr ≤ 240 := by omega
    have HO := Lib.hid ho
    have HL0 : Hid (∀ d, d ≤ 0 → lateF F d = false) := fun d h => by rw [show d = 0 from by omega]; exact late_zero ho
    clear h0 h2 hfr h1 ho
    go_enter Try.func21, Try.ntmps21
    go_wp2_with fail
    refine (HC.out _ HT.out).mono ?_
    rintro e w1 ⟨rfl, b1⟩
    have B1 := Lib.hid b1
    replace HT := Lib.hid (HT.out.below b1)
    clear b1
    go_wp2_with fail
    go_loopw [6, 7] (fun g i wr => ∃ (t cp : Nat) (B : Option Addr), i = .int .i64 t ∧ g = .slice B t cp ∧ t ≤ fr ∧ Hid (Ow wr w1.heap.size 3 B cp (lyF F t)) ∧ Hid (∀ d, d ≤ t → lateF F d = false) ∧ Hid (Below w1.heap.size w1 wr)) (fun _ i _ => fr - (intOf i).toNat)
    case atStart => exact ⟨0, 0, none, rfl, rfl, Nat.zero_le _, ow_none _ _ _, HL0.out, Below.refl _ _⟩
    case round =>
      obtain ⟨t, cp, B, rfl, rfl, ht, HOW, HD, HB⟩ := hrel
      have HLY : Hid ((lyF F t).length = t) := lay_length _ _ _ _
      by_cases hlt : t < fr
      · have HT2 := Lib.hid (HT.out.below HB.out)
        generalize wr = wo at *
        have e0 : IntKind.i64.wrap ((F.length : Int) - 1) = (F.length : Int) - 1 := IntWalk.i64_in _ (by omega)
        have HPK0 : Hid (pkF F t (F.length - F.length) = -1) := by show _ = _; rw [Nat.sub_self]; rfl
        go_wp2_with fail
        go_loopw [8, 9] (fun who i wr => ∃ (m : Nat) (y x : Int), i = .int .i64 y ∧ who = .int .i64 x ∧ y = (m : Int) - 1 ∧ m ≤ F.length ∧ -1 ≤ x ∧ x < F.length ∧ Hid (pkF F t (F.length - m) = x) ∧ Hid (Below wo.heap.size wo wr)) (fun _ i _ => (intOf i + 1).toNat)
        case atStart => exact ⟨F.length, _, -1, rfl, rfl, rfl, Nat.le_refl _, by omega, by omega, HPK0.out, Below.refl _ _⟩
        case round =>
          obtain ⟨m, y, x, rfl, rfl, hy, hm, hx1, hx2, HX, HB3⟩ := hrel
          cases m with
          | zero =>
            have hy' : y = -1 := by omega
            subst hy'
            clear hy
            have HN := Lib.hid (ly_succ F t)
            have HX2 : Hid (pkF F t F.length = x) := HX.out
            have bA := below_one wr (Obj.cells #[.int .i64 x] 3)
            have HDA := Lib.hid (rd_new1 wr 3 x ⟨by omega, by omega⟩)
            have HRA := Lib.hid ((HOW.out.below HB3.out (Nat.le_refl _)).alloc (Obj.cells #[.int .i64 x] 3))
            have BA := Lib.hid (below_step HB3.out bA)
            have HT4 := Lib.hid (below_step HB.out BA.out)
            rw [HX2.out] at HN
            clear bA
            go_wp2_with (at_builtin
                         refine list_app_n slI rfl _ _ rfl (base := w1.heap.size) (l := lyF F t) (r := [x]) (n := t) (m := 1) HLY.out rfl rfl rfl HRA.out HDA.out (by omega) (by have := HT4.out.size; exact this) ?_
                         intro A3 c3 w3 k1 k2 k3
                         have O3 := Lib.hid k1
                         have B3 := Lib.hid (HT4.out.trans k2)
                         clear k1 k2 k3)
            rw [← HN.out] at O3
            have HL3 : Hid ((lyF F (t + 1)).length = t + 1) := lay_length _ _ _ _
            have HNO : Hid (Nolate F (t + 1) 0) := fun j hj => by omega
            have HT5 := Lib.hid (HT.out.below B3.out)
            clear HX HX2 HDA HRA BA HT4 HN HPK0 HB3 HT2
            generalize wr = wq at *
            go_loopw [10] (fun i wr => ∃ q : Nat, i = .int .i64 q ∧ q ≤ F.length ∧ Hid (Nolate F (t + 1) q) ∧ Hid (Below w3.heap.size w3 wr)) (fun i _ => F.length - (intOf i).toNat)
            case atStart => exact ⟨0, rfl, Nat.zero_le _, HNO.out, Below.refl _ _⟩
            case round =>
              obtain ⟨q, rfl, hq, HNL, HB5⟩ := hrel
              clear HNO
              by_cases hql : q < F.length
              · have HT6 := Lib.hid (HT5.out.below HB5.out)
                have HG6 : Hid (IL wr A3 c3 (lyF F (t + 1))) := ⟨by rw [HL3.out]; omega, (O3.out.below HB5.out (Nat.le_refl _)).rd⟩
                obtain ⟨b, off, rfl, hc⟩ := face_at HT6.out.2 (by omega)
                obtain ⟨x1, x2, _, _⟩ := hc q hql
                obtain ⟨e1, e2, h1, h2, h3⟩ := okF_at HO.out hql
                rw [e1] at x1
                rw [e2] at x2
                have HNS : Hid (¬ (Pn F q ∣ t + 1 ∧ Pn F q ≤ t + 1 ∧ cnt (gF F) q (t + 1 - Pn F q) (t + 1) < Bn F q) → Nolate F (t + 1) (q + 1)) := fun h j hj => by
                  by_cases e : j = q
                  · subst e; exact h
                  · exact HNL.out j (by omega)
                have HLT : Hid (Pn F q ∣ t + 1 → cnt (gF F) q (t + 1 - Pn F q) (t + 1) < Bn F q → lateF F (t + 1) = true) := fun h h' => lateAt_iff.2 ⟨q, hql, h, Nat.le_of_dvd (by omega) h, h'⟩
                rw [← cnt_ly] at HNS HLT
                obtain ⟨r, hr⟩ : ∃ r, (t + 1) % Pn F q = r := ⟨_, rfl⟩
                have HRR := Lib.hid hr
                clear hc e1 e2
                generalize Pn F q = p at *
                generalize Bn F q = bb at *
                have hrp : r < p := by rw [← hr]; exact Nat.mod_lt _ (by omega)
                have q1 : ((t : Int) + 1) % (p : Int) = (r : Int) := by rw [← hr]; push_cast; rfl
                have q2 : ((t : Int) + 1).tmod (p : Int) = (r : Int) := by rw [Int.tmod_eq_emod_of_nonneg (by omega), q1]
                have q3 : IntKind.i64.wrap (r : Int) = (r : Int) := IntWalk.i64_in _ (by omega)
                have q4 : IntKind.i64.wrap ((t : Int) + 1) = (t : Int) + 1 := IntWalk.i64_in _ (by omega)
                have j1 : ¬ (p : Int) = 0 := by omega
                have j2 : ¬ p = 0 := by omega
                have j3 : decide ((p : Int) = 0) = false := decide_eq_false j1
                have j4 : ((p : Int) == 0) = false := by simpa using j2
                have i1 : (0 : Int) ≤ (q : Int) := by omega
                have i2 : (q : Int) < (F.length : Int) := by omega
                have i3 : decide ((0 : Int) ≤ (q : Int) ∧ (q : Int) < (F.length : Int)) = true := decide_eq_true ⟨i1, i2⟩
                clear hr
                by_cases h0 : r = 0
                · have hd : p ∣ t + 1 := Nat.dvd_of_mod_eq_zero (HRR.out.trans h0)
                  have hpt : p ≤ t + 1 := Nat.le_of_dvd (by omega) hd
                  obtain ⟨a, ha⟩ : ∃ a, t + 1 - p = a := ⟨_, rfl⟩
                  have q5 : IntKind.i64.wrap ((t : Int) + 1 - (p : Int)) = (a : Int) := by rw [IntWalk.i64_in _ (by omega)]; omega
                  rw [ha] at HNS HLT
                  obtain ⟨h, hh⟩ : ∃ h, cnt (at_ (lyF F (t + 1))) q a (t + 1) = h := ⟨_, rfl⟩
                  have HHH : Hid (((cnt (at_ (lyF F (t + 1))) q a (t + 1) : Nat) : Int) = (h : Int)) := by show _ = _; rw [hh]
                  rw [hh] at HNS HLT
                  have hbe : ((r : Int) == 0) = true := by simp [h0]
                  have hba : a ≤ t + 1 := by omega
                  subst h0
                  have HDV := Lib.hid hd
                  clear hd ha hh q3
                  have q1' : ((t : Int) + 1) % (p : Int) = 0 := q1
                  have q2' : ((t : Int) + 1).tmod (p : Int) = 0 := q2
                  clear q1 q2
                  by_cases hlb : h < bb
                  · have HF := Lib.hid (HLT.out HDV.out hlb)
                    have k1 : (h : Int) < (bb : Int) := by omega
                    go_wp2_with fail
                    replace x1 := cell_bw x1
                    replace x2 := cell_bw x2
                    refine wp_region_bw (by kernel_rfl) (by kernel_rfl) ?_
                    repeat
                      (with_reducible refine wpQuiet_step (fun K hK => ?_)
                       go_simp
                       first
                         | (with_reducible refine hK _ ?_
                            clear hK K)
                         | (rw [if_neg]
                            rotate_left
                            focus (intro h; cases h; done)
                            with_reducible refine hK _ ?_
                            clear hK K)
                         | (apply Exists.intro
                            refine ⟨fun _ => ?_, hK _ ?_⟩
                            (exact Calls.bw (had_v A3 c3 (lyF F (t + 1)) q a _ (h : Int) (t + 1) HL3.out rfl HHH.out _ hba (HG6.out.bw _)))
                            clear hK K))
                    with_reducible refine wpQuiet_nil ?_
                    intro wb hw'
                    obtain ⟨⟨wb', lb⟩, hw''⟩ := hw'
                    subst hw''
                    have B6 := Lib.hid (below_step HB5.out lb)
                    clear lb
                    have h7 := lay_seven HE.out (d := t + 1) (by rw [HR.out]; omega) HF.out
                    have HF2 := Lib.hid (layOf_bad h7.1 h7.2 (below_step (below_step B1.out B3.out) B6.out))
                    clear h7
                    go_wp2_with fail
                    go_ret2
                    exact HF2.out
                  · have HN2 := Lib.hid (HNS.out fun h => hlb h.2.2)
                    have k1 : ¬ (h : Int) < (bb : Int) := by omega
                    go_wp2_with fail
                    replace x1 := cell_bw x1
                    replace x2 := cell_bw x2
                    refine wp_region_bw (by kernel_rfl) (by kernel_rfl) ?_
                    repeat
                      (with_reducible refine wpQuiet_step (fun K hK => ?_)
                       go_simp
                       first
                         | (with_reducible refine hK _ ?_
                            clear hK K)
                         | (rw [if_neg]
                            rotate_left
                            focus (intro h; cases h; done)
                            with_reducible refine hK _ ?_
                            clear hK K)
                         | (apply Exists.intro
                            refine ⟨fun _ => ?_, hK _ ?_⟩
                            (exact Calls.bw (had_v A3 c3 (lyF F (t + 1)) q a _ (h : Int) (t + 1) HL3.out rfl HHH.out _ hba (HG6.out.bw _)))
                            clear hK K))
                    with_reducible refine wpQuiet_nil ?_
                    intro wb hw'
                    obtain ⟨⟨wb', lb⟩, hw''⟩ := hw'
                    subst hw''
                    have B6 := Lib.hid (below_step HB5.out lb)
                    clear lb
                    go_wp2_with fail
                    go_roundw
                    case rel => exact ⟨q + 1, by go_num, hql, HN2, B6⟩
                    case measure => (simp [intOf] <;> omega)
                · have HN2 := Lib.hid (HNS.out fun h => h0 (HRR.out.symm.trans (Nat.mod_eq_zero_of_dvd h.1)))
                  have hbe : ((r : Int) == 0) = false := beq_eq_false_iff_ne.2 (by omega)
                  have i9 : ¬ (r : Int) = 0 := by omega
                  go_wp2_with fail
                  replace x1 := cell_bw x1
                  replace x2 := cell_bw x2
                  refine wp_region_bw (by kernel_rfl) (by kernel_rfl) ?_
                  repeat
                    (with_reducible refine wpQuiet_step (fun K hK => ?_)
                     go_simp
                     first
                       | (with_reducible refine hK _ ?_
                          clear hK K)
                       | (rw [if_neg]
                          rotate_left
                          focus (intro h; cases h; done)
                          with_reducible refine hK _ ?_
                          clear hK K)
                       | (apply Exists.intro
                          refine ⟨fun _ => ?_, hK _ ?_⟩
                          (fail)
                          clear hK K))
                  with_reducible refine wpQuiet_nil ?_
                  intro wb hw'
                  obtain ⟨⟨wb', lb⟩, hw''⟩ := hw'
                  subst hw''
                  have B6 := Lib.hid (below_step HB5.out lb)
                  clear lb
                  go_wp2_with fail
                  go_roundw
                  case rel => exact ⟨q + 1, by go_num, hql, HN2, B6⟩
                  case measure => (simp [intOf] <;> omega)
              · have hqe : q = F.length := by omega
                subst hqe
                have HD2 : Hid (∀ d, d ≤ t + 1 → lateF F d = false) := fun d hd => by
                  by_cases e : d = t + 1
                  · subst e; exact nolate_end HNL.out
                  · exact HD.out d (by omega)
                have HO2 := Lib.hid (O3.out.below HB5.out (Nat.le_refl _))
                have HB6 := Lib.hid (B3.out.trans (HB5.out.mono B3.out.size))
                go_wp2_with fail
                go_roundw
                case rel => exact ⟨t + 1, c3, A3, by go_num, rfl, hlt, HO2, HD2, HB6⟩
                case measure => (simp [intOf] <;> omega)
          | succ m =>
            have hy' : y = (m : Int) := by omega
            subst hy'
            clear hy
            have HT3 := Lib.hid (HT2.out.below HB3.out)
            have HG3 : Hid (IL wr B cp (lyF F t)) := ⟨by rw [HLY.out]; omega, (HOW.out.below HB3.out (Nat.le_refl _)).rd⟩
            have hmn : m < F.length := by omega
            obtain ⟨b, off, rfl, hc⟩ := face_at HT3.out.2 (by omega)
            obtain ⟨x1, _, _, _⟩ := hc m hmn
            obtain ⟨e1, _, h1, h2, h3⟩ := okF_at HO.out hmn
            rw [e1] at x1
            have hs := pkF_succ (F := F) (t := t) hmn
            rw [HX.out] at hs
            obtain ⟨z, hz⟩ : ∃ z, (Bn F m : Int) - (had (at_ (lyF F t)) (Pn F) m t : Nat) = z := ⟨_, rfl⟩
            have hw : wants (Pn F) (Bn F) (at_ (lyF F t)) t m ↔ 0 < z := by unfold wants; omega
            simp only [hw] at hs
            have HZZ := Lib.hid hz
            have HC2 := Lib.hid hc
            have e9 : IntKind.i64.wrap ((m : Int) - 1) = (m : Int) - 1 := IntWalk.i64_in _ (by omega)
            have i1 : (0 : Int) ≤ (m : Int) := by omega
            have i2 : (m : Int) < (F.length : Int) := by omega
            have i3 : decide ((0 : Int) ≤ (m : Int) ∧ (m : Int) < (F.length : Int)) = true := decide_eq_true ⟨i1, i2⟩
            clear hw hc e1 hz
            by_cases hz0 : 0 < z
            · have hzd : decide (0 < z) = true := decide_eq_true hz0
              by_cases hx0 : x < 0
              · have HN : Hid (pkF F t (F.length - m) = (m : Int)) := by show _ = _; rw [hs, if_pos ⟨hz0, .inl hx0⟩]
                have hxd : decide (x < 0) = true := decide_eq_true hx0
                clear hs
                go_wp2_with fail
                replace x1 := cell_bw x1
                refine wp_region_bw (by kernel_rfl) (by kernel_rfl) ?_
                repeat
                  (with_reducible refine wpQuiet_step (fun K hK => ?_)
                   go_simp
                   first
                     | (with_reducible refine hK _ ?_
                        clear hK K)
                     | (rw [if_neg]
                        rotate_left
                        focus (intro h; cases h; done)
                        with_reducible refine hK _ ?_
                        clear hK K)
                     | (apply Exists.intro
                        refine ⟨fun _ => ?_, hK _ ?_⟩
                        (exact Calls.bw (wants_any (some ⟨b, off, none⟩) c F B cp (lyF F t) m t z _ HO.out hmn (by omega) HLY.out HZZ.out (HT3.out.bw _) (HG3.out.bw _)))
                        clear hK K))
                with_reducible refine wpQuiet_nil ?_
                intro wb hw'
                obtain ⟨⟨wb', lb⟩, hw''⟩ := hw'
                subst hw''
                have B2 := Lib.hid (below_step HB3.out lb)
                clear lb
                go_wp2_with fail
                go_roundw
                case rel => exact ⟨m, _, m, rfl, rfl, rfl, by omega, by omega, by omega, HN, B2⟩
                case measure => (simp [intOf] <;> omega)
              · obtain ⟨j, rfl⟩ : ∃ j : Nat, x = j := ⟨x.toNat, by omega⟩
                have hxd : decide ((j : Int) < 0) = false := decide_eq_false hx0
                have hjn : j < F.length := by omega
                have y1 := (HC2.out j hjn).1
                obtain ⟨e1, _, g1, g2, g3⟩ := okF_at HO.out hjn
                rw [e1] at y1
                rw [Int.toNat_natCast] at hs
                obtain ⟨u, hu⟩ : ∃ u, dl (Pn F) m t = u := ⟨_, rfl⟩
                obtain ⟨v, hv⟩ : ∃ v, dl (Pn F) j t = v := ⟨_, rfl⟩
                rw [hu, hv] at hs
                unfold dl at hu hv
                clear e1
                obtain ⟨a, ha⟩ : ∃ a, t / Pn F m = a := ⟨_, rfl⟩
                obtain ⟨a', ha'⟩ : ∃ a', t / Pn F j = a' := ⟨_, rfl⟩
                have hat : a ≤ t := by rw [← ha]; exact Nat.div_le_self _ _
                have hat' : a' ≤ t := by rw [← ha']; exact Nat.div_le_self _ _
                rw [ha] at hu
                rw [ha'] at hv
                generalize Pn F m = p at *
                generalize Pn F j = p' at *
                have hub : u ≤ 100000 := by rw [← hu]; exact Nat.le_trans (Nat.mul_le_mul (show a + 1 ≤ 300 by omega) (show p ≤ 300 by omega)) (by omega)
                have hvb : v ≤ 100000 := by rw [← hv]; exact Nat.le_trans (Nat.mul_le_mul (show a' + 1 ≤ 300 by omega) (show p' ≤ 300 by omega)) (by omega)
                have q1 : (t : Int) / (p : Int) = (a : Int) := by rw [← ha]; push_cast; rfl
                have q2 : IntKind.i64.wrap (a : Int) = (a : Int) := IntWalk.i64_in _ (by omega)
                have q3 : IntKind.i64.wrap ((t : Int).tdiv (p : Int)) = (a : Int) := by rw [IntWalk.i64_quo _ _ ⟨by omega, by omega, by omega⟩, q1]
                have q4 : IntKind.i64.wrap ((a : Int) + 1) = (a : Int) + 1 := IntWalk.i64_in _ (by omega)
                have q5 : IntKind.i64.wrap (((a : Int) + 1) * (p : Int)) = (u : Int) := by
                  rw [show ((a : Int) + 1) * (p : Int) = (u : Int) from by rw [← hu]; push_cast; rfl]
                  exact IntWalk.i64_in _ (by omega)
                have r1 : (t : Int) / (p' : Int) = (a' : Int) := by rw [← ha']; push_cast; rfl
                have r2 : IntKind.i64.wrap (a' : Int) = (a' : Int) := IntWalk.i64_in _ (by omega)
                have r3 : IntKind.i64.wrap ((t : Int).tdiv (p' : Int)) = (a' : Int) := by rw [IntWalk.i64_quo _ _ ⟨by omega, by omega, by omega⟩, r1]
                have r4 : IntKind.i64.wrap ((a' : Int) + 1) = (a' : Int) + 1 := IntWalk.i64_in _ (by omega)
                have r5 : IntKind.i64.wrap (((a' : Int) + 1) * (p' : Int)) = (v : Int) := by
                  rw [show ((a' : Int) + 1) * (p' : Int) = (v : Int) from by rw [← hv]; push_cast; rfl]
                  exact IntWalk.i64_in _ (by omega)
                have j1 : ¬ (p : Int) = 0 := by omega
                have j2 : ¬ p = 0 := by omega
                have j3 : decide ((p : Int) = 0) = false := decide_eq_false j1
                have j4 : ((p : Int) == 0) = false := by simpa using j2
                have l1 : ¬ (p' : Int) = 0 := by omega
                have l2 : ¬ p' = 0 := by omega
                have l3 : decide ((p' : Int) = 0) = false := decide_eq_false l1
                have l4 : ((p' : Int) == 0) = false := by simpa using l2
                have i4 : (0 : Int) ≤ (j : Int) := by omega
                have i5 : (j : Int) < (F.length : Int) := by omega
                have i6 : decide ((0 : Int) ≤ (j : Int) ∧ (j : Int) < (F.length : Int)) = true := decide_eq_true ⟨i4, i5⟩
                have HA := Lib.hid ha
                have HA' := Lib.hid ha'
                have HU := Lib.hid hu
                have HV := Lib.hid hv
                clear ha ha' hu hv
                by_cases hd : u ≤ v
                · have HN : Hid (pkF F t (F.length - m) = (m : Int)) := by show _ = _; rw [hs, if_pos ⟨hz0, .inr hd⟩]
                  have hdd : decide ((u : Int) ≤ (v : Int)) = true := decide_eq_true (by omega)
                  have hdi : (u : Int) ≤ (v : Int) := by omega
                  clear hs
                  go_wp2_with fail
                  replace y1 := cell_bw y1
                  replace x1 := cell_bw x1
                  refine wp_region_bw (by kernel_rfl) (by kernel_rfl) ?_
                  repeat
                    (with_reducible refine wpQuiet_step (fun K hK => ?_)
                     go_simp
                     first
                       | (with_reducible refine hK _ ?_
                          clear hK K)
                       | (rw [if_neg]
                          rotate_left
                          focus (intro h; cases h; done)
                          with_reducible refine hK _ ?_
                          clear hK K)
                       | (apply Exists.intro
                          refine ⟨fun _ => ?_, hK _ ?_⟩
                          (exact Calls.bw (wants_any (some ⟨b, off, none⟩) c F B cp (lyF F t) m t z _ HO.out hmn (by omega) HLY.out HZZ.out (HT3.out.bw _) (HG3.out.bw _)))
                          clear hK K))
                  with_reducible refine wpQuiet_nil ?_
                  intro wb hw'
                  obtain ⟨⟨wb', lb⟩, hw''⟩ := hw'
                  subst hw''
                  have B2 := Lib.hid (below_step HB3.out lb)
                  clear lb
                  go_wp2_with fail
                  go_roundw
                  case rel => exact ⟨m, _, m, rfl, rfl, rfl, by omega, by omega, by omega, HN, B2⟩
                  case measure => (simp [intOf] <;> omega)
                · have HN : Hid (pkF F t (F.length - m) = (j : Int)) := by show _ = _; rw [hs, if_neg (by rintro ⟨_, h | h⟩; exact hx0 h; exact hd h)]
                  have hdd : decide ((u : Int) ≤ (v : Int)) = false := decide_eq_false (by omega)
                  have hdi : ¬ (u : Int) ≤ (v : Int) := by omega
                  clear hs
                  go_wp2_with fail
                  replace y1 := cell_bw y1
                  replace x1 := cell_bw x1
                  refine wp_region_bw (by kernel_rfl) (by kernel_rfl) ?_
                  repeat
                    (with_reducible refine wpQuiet_step (fun K hK => ?_)
                     go_simp
                     first
                       | (with_reducible refine hK _ ?_
                          clear hK K)
                       | (rw [if_neg]
                          rotate_left
                          focus (intro h; cases h; done)
                          with_reducible refine hK _ ?_
                          clear hK K)
                       | (apply Exists.intro
                          refine ⟨fun _ => ?_, hK _ ?_⟩
                          (exact Calls.bw (wants_any (some ⟨b, off, none⟩) c F B cp (lyF F t) m t z _ HO.out hmn (by omega) HLY.out HZZ.out (HT3.out.bw _) (HG3.out.bw _)))
                          clear hK K))
                  with_reducible refine wpQuiet_nil ?_
                  intro wb hw'
                  obtain ⟨⟨wb', lb⟩, hw''⟩ := hw'
                  subst hw''
                  have B2 := Lib.hid (below_step HB3.out lb)
                  clear lb
                  go_wp2_with fail
                  go_roundw
                  case rel => exact ⟨m, _, j, rfl, rfl, rfl, by omega, by omega, by omega, HN, B2⟩
                  case measure => (simp [intOf] <;> omega)
            · have HN : Hid (pkF F t (F.length - m) = x) := by show _ = _; rw [hs, if_neg (fun h => hz0 h.1)]
              have hzd : decide (0 < z) = false := decide_eq_false hz0
              clear hs
              go_wp2_with fail
              replace x1 := cell_bw x1
              refine wp_region_bw (by kernel_rfl) (by kernel_rfl) ?_
              repeat
                (with_reducible refine wpQuiet_step (fun K hK => ?_)
                 go_simp
                 first
                   | (with_reducible refine hK _ ?_
                      clear hK K)
                   | (rw [if_neg]
                      rotate_left
                      focus (intro h; cases h; done)
                      with_reducible refine hK _ ?_
                      clear hK K)
                   | (apply Exists.intro
                      refine ⟨fun _ => ?_, hK _ ?_⟩
                      (exact Calls.bw (wants_any (some ⟨b, off, none⟩) c F B cp (lyF F t) m t z _ HO.out hmn (by omega) HLY.out HZZ.out (HT3.out.bw _) (HG3.out.bw _)))
                      clear hK K))
              with_reducible refine wpQuiet_nil ?_
              intro wb hw'
              obtain ⟨⟨wb', lb⟩, hw''⟩ := hw'
              subst hw''
              have B2 := Lib.hid (below_step HB3.out lb)
              clear lb
              go_wp2_with fail
              go_roundw
              case rel => exact ⟨m, _, x, rfl, rfl, rfl, by omega, hx1, hx2, HN, B2⟩
              case measure => (simp [intOf] <;> omega)
      · have hte : t = fr := by omega
        subst hte
        have h7 := lay_none HE.out fun d hd => HD.out d (by rw [HR.out] at hd; exact hd)
        have HF := Lib.hid (layOf_list h7 HR.out HOW.out.rd (below_step B1.out HB.out))
        clear h7
        go_wp2_with fail
        go_ret2
        exact HF.out
  · have hl := lay_frame h0
    obtain ⟨e, he⟩ : ∃ e, frmE F = e := ⟨_, rfl⟩
    rw [he] at hl h0
    have HC := Lib.hid (refFrame_v A c F 0 e (by unfold frmZ; rw [if_neg (by rw [he]; exact h0)]; rfl) (by rw [he]) F.length rfl)
    have i1 : ¬ (e : Int) = 0 := by omega
    have HE := Lib.hid he
    have HL := Lib.hid hl
    clear he hl
    go_enter Try.func21, Try.ntmps21
    go_wp2_with fail
    refine (HC.out _ HT.out).mono ?_
    rintro e w1 ⟨rfl, b1⟩
    have B1 := Lib.hid b1
    clear b1
    go_wp2_with fail
    go_ret2
    exact layOf_bad HL.out.1 HL.out.2 B1.out
theorem refLay_v (A : Option Addr) (c : Nat) (F : List Fce) (n : Nat) (hn : F.length = n) (w : World) (H : CL w A c F) :
    Calls Try.prog 21 #[.slice A n c] w (LayOf w F) := by
  subst hn
  exact refLay_any A c F w H

end Sy
end Go.Proofs.Ytpodahnmdakjjaa

