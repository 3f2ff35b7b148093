/-
  Layer 14 (job): the library's symMergeCmpFunc at jobs.
-/
import Derived.Test.YtdibiidpknckfaaGjob
import Derived.Deep.DeepCutAuto
namespace Go.Proofs.Ytdibiidpknckfaa
open Go.RowKit Mm Tk
namespace Pm

theorem rot_none {l : List Jb} {s m mid : Nat} (h1 : s ≤ m) (h2 : s ≤ mid) (h : ¬ (s < m ∧ s < mid)) : Rot l l s (m - s) (mid - s) := fun k => by
  by_cases e1 : s ≤ k ∧ k < s + (mid - s)
  · rw [if_pos e1]; congr 1; omega
  · rw [if_neg e1]
    by_cases e2 : s + (mid - s) ≤ k ∧ k < s + (mid - s) + (m - s)
    · rw [if_pos e2]; congr 1; omega
    · rw [if_neg e2]


/-- what is said of a merge of less than F jobs -/
def SymTo (base g c Y N F : Nat) : Prop := ∀ (a m b : Nat) (l : List Jb) (w : World), b - a ≤ F → l.length = N → a < m → m < b → b ≤ N → Srt l a m → Srt l m b → At w Y → Oj w base g c l →
  Calls Try.prog 49 #[.slice (some ⟨g, 0, none⟩) N c, .int .i64 a, .int .i64 m, .int .i64 b, cmpV Y] w (LeftOf w base g c N (fun r => Stays a b l r ∧ Srt r a b))

set_option maxRecDepth 20000 in
set_option maxHeartbeats 6400000 in
theorem sym_more (base g c Y a m b N F : Nat) (l : List Jb) (w : World) (hF : b - a ≤ F + 1) (ih : SymTo base g c Y N F) (hN : l.length = N) (hbig : N ≤ 1000000) (h0 : a + 1 < m) (h1 : m + 1 < b) (h2 : b ≤ N) (hYg : Y ≠ g) (hA : Srt l a m) (hB : Srt l m b) (hy : At w Y) (H : Oj w base g c l) :
    Calls Try.prog 49 #[.slice (some ⟨g, 0, none⟩) N c, .int .i64 a, .int .i64 m, .int .i64 b, cmpV Y] w (LeftOf w base g c N (fun r => Stays a b l r ∧ Srt r a b)) := by
  have HO := Lib.hid H
  have HN := Lib.hid hN
  have HY := Lib.hid hy
  have HA := Lib.hid hA
  have HB := Lib.hid hB
  have IH := Lib.hid ih
  have e0 : ¬ (m : Int) - (a : Int) = 1 := by omega
  have eb : ((m : Int) - (a : Int) == 1) = false := beq_eq_false_iff_ne.2 e0
  have e00 : ¬ (b : Int) - (m : Int) = 1 := by omega
  have eb0 : ((b : Int) - (m : Int) == 1) = false := beq_eq_false_iff_ne.2 e00
  obtain ⟨mid, em, hm1, hm2⟩ : ∃ mid : Nat, ((a : Int) + (b : Int)) / 2 = (mid : Int) ∧ 2 * mid ≤ a + b ∧ a + b < 2 * mid + 2 := ⟨(a + b) / 2, by omega, by omega, by omega⟩
  obtain ⟨nn, en, hn1⟩ : ∃ nn : Nat, (mid : Int) + (m : Int) = (nn : Int) ∧ Hid (nn = mid + m) := ⟨mid + m, by omega, rfl⟩
  obtain ⟨pp, ep, hp1⟩ : ∃ pp : Nat, (nn : Int) - 1 = (pp : Int) ∧ Hid (pp = mid + m - 1) := ⟨mid + m - 1, by have := hn1.out; omega, rfl⟩
  clear H hN hy hA hB ih
  go_enter Try.func49, Try.ntmps49
  go_upto_if 140 with fail
  go_cut [20, 21] (fun s20 s21 wx => ∃ lo hi : Nat, s20 = .int .i64 lo ∧ s21 = .int .i64 hi ∧ lo ≤ hi ∧ hi ≤ mid ∧ a ≤ lo ∧ Hid (Lie a m b mid lo hi) ∧ w = wx)
  case first => as_aux_lemma =>
    by_cases hmm : mid < m
    · have i1 : (mid : Int) < (m : Int) := by omega
      obtain ⟨lo, el, hl⟩ : ∃ lo : Nat, (nn : Int) - (b : Int) = (lo : Int) ∧ lo = mid + m - b := ⟨mid + m - b, by have := hn1.out; omega, rfl⟩
      have HL : Hid (Lie a m b mid lo mid) := ⟨by omega, by omega, hm1, hm2, .inl ⟨hmm, hl, rfl⟩⟩
      clear hl
      go_wp2_with fail
      go_meet
      case rel => exact ⟨lo, mid, rfl, rfl, HL.out.lo_hi, Nat.le_refl _, HL.out.lo_a, HL, rfl⟩
    · have i1 : ¬ (mid : Int) < (m : Int) := by omega
      have HL : Hid (Lie a m b mid a m) := ⟨by omega, by omega, hm1, hm2, .inr ⟨by omega, rfl, rfl⟩⟩
      go_wp2_with fail
      go_meet
      case rel => exact ⟨a, m, rfl, rfl, HL.out.lo_hi, HL.out.hi_m.2, HL.out.lo_a, HL, rfl⟩
  case rest => as_aux_lemma =>
    obtain ⟨lo, hi, rfl, rfl, hlh, hhm, hal, HL, rfl⟩ := hcut
    go_wp2_with fail
    go_loopw [20, 21] (fun s20 s21 wr => ∃ i j : Nat, s20 = .int .i64 i ∧ s21 = .int .i64 j ∧ lo ≤ i ∧ i ≤ j ∧ j ≤ hi ∧ Hid (Cut (fun q => aheadB (at_ l (mid + m - 1 - q)) (at_ l q)) lo hi i j) ∧ Hid (Oj wr base g c l) ∧ Hid (w.grownBy wr (some g))) (fun s20 s21 _ => (intOf s21).toNat - (intOf s20).toNat)
    case atStart => exact ⟨lo, hi, rfl, rfl, Nat.le_refl _, hlh, Nat.le_refl _, Cut.start _ _ _, HO.out, gb_refl _ _⟩
    case round =>
      obtain ⟨i, j, rfl, rfl, hi1, hij, hj, HC, HR, HG⟩ := hrel
      by_cases hlt : i < j
      · obtain ⟨h, eh, hh1, hh2⟩ : ∃ h : Nat, ((i : Int) + (j : Int)) / 2 = (h : Int) ∧ i ≤ h ∧ h < j := ⟨(i + j) / 2, by omega, by omega, by omega⟩
        obtain ⟨g1, g2, g3, g4⟩ := HL.out.in h (by omega) (by omega)
        obtain ⟨k, ek, hk1⟩ : ∃ k : Nat, (pp : Int) - (h : Int) = (k : Int) ∧ Hid (k = mid + m - 1 - h) := ⟨mid + m - 1 - h, by have := hp1.out; omega, rfl⟩
        have HU : Hid (Up (fun c => aheadB (at_ l (mid + m - 1 - c)) (at_ l c)) lo hi) := up3 HA.out HB.out HL.out.in
        have hkb : k < b ∧ m ≤ k := by have := hk1.out; omega
        have i1 : (i : Int) < (j : Int) := by omega
        have i2 : (h : Int) < (N : Int) := by omega
        have i3 : h < N := by omega
        have i4 : (k : Int) < (N : Int) := by omega
        have i5 : k < N := by omega
        have i6 : IntKind.i64.wrap (k : Int) = (k : Int) := IntWalk.i64_in _ (by omega)
        have i7 : IntKind.i64.wrap ((pp : Int) - (h : Int)) = (k : Int) := by rw [ek]; exact i6
        clear g3 g4
        have hx := (HR.out.cell (j := k) (by rw [HN.out]; omega)).1
        have hz := (HR.out.cell (j := h) (by rw [HN.out]; omega)).1
        have hy := HY.out.gb HG.out hYg
        have ya := cell_bw hy
        cases hc : aheadB (at_ l k) (at_ l h) with
        | true => as_aux_lemma =>
          have hm := cmpJ_neg.2 hc
          have hd := decide_eq_true hm
          have HC2 := Lib.hid (HC.out.yes HU.out hh1 hi1 (by show aheadB (at_ l (mid + m - 1 - h)) (at_ l h) = _; rw [← hk1.out]; exact hc))
          clear hc
          generalize at_ l k = x at *
          generalize at_ l h = z at *
          generalize hcm : cmpJ x z = q at *
          have x0 := hx.c0
          have x0_1 := hx.c1
          have x0_2 := hx.c2
          have x0_3 := hx.c3
          have x0_4 := hx.c4
          have x0_5 := hx.c5
          have z0 := hz.c0
          have z0_1 := hz.c1
          have z0_2 := hz.c2
          have z0_3 := hz.c3
          have z0_4 := hz.c4
          have z0_5 := hz.c5
          replace x0 := cell_bw x0
          replace x0_1 := cell_bw x0_1
          replace x0_2 := cell_bw x0_2
          replace x0_3 := cell_bw x0_3
          replace x0_4 := cell_bw x0_4
          replace x0_5 := cell_bw x0_5
          replace z0 := cell_bw z0
          replace z0_1 := cell_bw z0_1
          replace z0_2 := cell_bw z0_2
          replace z0_3 := cell_bw z0_3
          replace z0_4 := cell_bw z0_4
          replace z0_5 := cell_bw z0_5
          clear hx hz hy
          go_wp2_with fail
          refine wp_region_bw (by kernel_rfl) (by kernel_rfl) ?_
          repeat
            (with_reducible refine wpQuiet_step (fun K hK => ?_)
             go_simp
             first
               | (with_reducible refine hK _ ?_
                  clear hK K)
               | (rw [if_neg]
                  rotate_left
                  focus (intro h; cases h; done)
                  with_reducible refine hK _ ?_
                  clear hK K)
               | (apply Exists.intro
                  refine ⟨fun _ => ?_, hK _ ?_⟩
                  (exact Calls.bw (hcm ▸ cmp_any Y x z _ (ya _)))
                  clear hK K))
          with_reducible refine wpQuiet_nil ?_
          intro wb hw'
          obtain ⟨⟨wb', lb⟩, hw''⟩ := hw'
          subst hw''
          have HR3 := Lib.hid (Ow.below HR.out lb (Nat.le_refl _))
          have HG3 := Lib.hid (gb_bel HG.out lb)
          clear x0 x0_1 x0_2 x0_3 x0_4 x0_5 z0 z0_1 z0_2 z0_3 z0_4 z0_5
          clear ya hcm lb
          go_wp2_with fail
          go_roundw
          case rel => exact ⟨i, h, rfl, rfl, hi1, hh1, by omega, HC2, HR3, HG3⟩
          case measure => simp [intOf]; omega
        | false => as_aux_lemma =>
          have hm : ¬ cmpJ (at_ l k) (at_ l h) < 0 := fun e => by rw [cmpJ_neg.1 e] at hc; cases hc
          have hd := decide_eq_false hm
          have HC2 := Lib.hid (HC.out.no HU.out hh1 hh2 hj (by show aheadB (at_ l (mid + m - 1 - h)) (at_ l h) = _; rw [← hk1.out]; exact hc))
          clear hc
          generalize at_ l k = x at *
          generalize at_ l h = z at *
          generalize hcm : cmpJ x z = q at *
          have x0 := hx.c0
          have x0_1 := hx.c1
          have x0_2 := hx.c2
          have x0_3 := hx.c3
          have x0_4 := hx.c4
          have x0_5 := hx.c5
          have z0 := hz.c0
          have z0_1 := hz.c1
          have z0_2 := hz.c2
          have z0_3 := hz.c3
          have z0_4 := hz.c4
          have z0_5 := hz.c5
          replace x0 := cell_bw x0
          replace x0_1 := cell_bw x0_1
          replace x0_2 := cell_bw x0_2
          replace x0_3 := cell_bw x0_3
          replace x0_4 := cell_bw x0_4
          replace x0_5 := cell_bw x0_5
          replace z0 := cell_bw z0
          replace z0_1 := cell_bw z0_1
          replace z0_2 := cell_bw z0_2
          replace z0_3 := cell_bw z0_3
          replace z0_4 := cell_bw z0_4
          replace z0_5 := cell_bw z0_5
          clear hx hz hy
          go_wp2_with fail
          refine wp_region_bw (by kernel_rfl) (by kernel_rfl) ?_
          repeat
            (with_reducible refine wpQuiet_step (fun K hK => ?_)
             go_simp
             first
               | (with_reducible refine hK _ ?_
                  clear hK K)
               | (rw [if_neg]
                  rotate_left
                  focus (intro h; cases h; done)
                  with_reducible refine hK _ ?_
                  clear hK K)
               | (apply Exists.intro
                  refine ⟨fun _ => ?_, hK _ ?_⟩
                  (exact Calls.bw (hcm ▸ cmp_any Y x z _ (ya _)))
                  clear hK K))
          with_reducible refine wpQuiet_nil ?_
          intro wb hw'
          obtain ⟨⟨wb', lb⟩, hw''⟩ := hw'
          subst hw''
          have HR3 := Lib.hid (Ow.below HR.out lb (Nat.le_refl _))
          have HG3 := Lib.hid (gb_bel HG.out lb)
          clear x0 x0_1 x0_2 x0_3 x0_4 x0_5 z0 z0_1 z0_2 z0_3 z0_4 z0_5
          clear ya hcm lb
          go_wp2_with fail
          go_roundw
          case rel => exact ⟨h + 1, j, by go_num, rfl, by omega, by omega, hj, HC2, HR3, HG3⟩
          case measure => simp [intOf]; omega
      · have e' : j = i := by omega
        subst e'
        have i1 : ¬ (j : Int) < (j : Int) := by omega
        have hm3 := HL.out.hi_m
        have hs1 : j ≤ m := by omega
        have hs2 : j ≤ mid := by omega
        have heb := HL.out.end_b hi1
        obtain ⟨e, ee, he1⟩ : ∃ e : Nat, (nn : Int) - (j : Int) = (e : Int) ∧ Hid (e = mid + m - j) := ⟨mid + m - j, by have := hn1.out; omega, rfl⟩
        have heb2 : Hid (e ≤ b ∧ m ≤ e ∧ mid ≤ e ∧ (m < e ↔ j < mid) ∧ e - m = mid - j) := by have := he1.out; show _ ∧ _; omega
        have hjm : mid < b ∧ a < mid := by omega
        clear heb hm3
        go_upto_region 39 with fail
        go_cut [185] (fun s wx => s = .bool (decide (j < m ∧ m < e)) ∧ wr = wx)
        case first => as_aux_lemma =>
          by_cases hc1 : j < m
          · have k3 : (j : Int) < (m : Int) := by omega
            have k5 : decide ((j : Int) < (m : Int)) = true := decide_eq_true k3
            by_cases hc2 : m < e
            · have k4 : (m : Int) < (e : Int) := by omega
              have k6 : decide ((m : Int) < (e : Int)) = true := decide_eq_true k4
              have HD : Hid (Value.bool true = .bool (decide (j < m ∧ m < e))) := by show _ = _; rw [decide_eq_true ⟨hc1, hc2⟩]
              go_wp2_with fail
              go_meet
              case rel => exact ⟨HD.out, rfl⟩
            · have k4 : ¬ (m : Int) < (e : Int) := by omega
              have k6 : decide ((m : Int) < (e : Int)) = false := decide_eq_false k4
              have HD : Hid (Value.bool false = .bool (decide (j < m ∧ m < e))) := by show _ = _; rw [decide_eq_false (fun h => hc2 h.2)]
              go_wp2_with fail
              go_meet
              case rel => exact ⟨HD.out, rfl⟩
          · have k3 : ¬ (j : Int) < (m : Int) := by omega
            have k5 : decide ((j : Int) < (m : Int)) = false := decide_eq_false k3
            have HD : Hid (Value.bool false = .bool (decide (j < m ∧ m < e))) := by show _ = _; rw [decide_eq_false (fun h => hc1 h.1)]
            go_wp2_with fail
            go_meet
            case rel => exact ⟨HD.out, rfl⟩
        obtain ⟨rfl, rfl⟩ := hcut
        go_upto_if 185 with fail
        go_cut [] (fun wx => ∃ r, Hid (Oj wx base g c r) ∧ Hid (r.length = N) ∧ Hid (Rot l r j (m - j) (mid - j)) ∧ Hid (Stays a b l r) ∧ Hid (w.grownBy wx (some g)))
        case first => as_aux_lemma =>
          by_cases hc : j < m ∧ m < e
          · have k1 : j < m := hc.1
            have k2 : m < e := hc.2
            have k6 := decide_eq_true hc
            go_wp2_with fail
            refine (rotate_any base g c j m e N _ l _ HN.out hbig k1 k2 (by have := heb2.out; omega) HR.out).mono ?_
            rintro e w1 ⟨rfl, r1, q1, q2, ⟨q3, q4⟩, q5⟩
            have Q1 := Lib.hid q1
            have Q2 := Lib.hid q2
            rw [heb2.out.2.2.2.2] at q3
            have Q3 := Lib.hid q3
            have Q4 := Lib.hid (q4.wide (a' := a) (b' := b) (by omega) heb2.out.1)
            have Q5 := Lib.hid (gb_trans HG.out q5)
            clear q1 q2 q3 q4 q5
            go_wp2_with fail
            go_meet
            case rel => exact ⟨r1, Q1, Q2, Q3, Q4, Q5⟩
          · have Q3 := Lib.hid (rot_none (l := l) hs1 hs2 (by have := heb2.out; omega))
            have Q4 := Lib.hid (Stays.refl a b l)
            have k6 := decide_eq_false hc
            go_wp2_with fail
            go_meet
            case rel => exact ⟨l, HR, HN, Q3, Q4, HG⟩
        case rest => as_aux_lemma =>
          obtain ⟨r, HR1, HL1, HT1, HS1, HG1⟩ := hcut
          have HT : Hid (Turned r a j mid e b) := by
            have := turned HL.out HA.out HB.out hi1 hj HC.out HT1.out
            rwa [← he1.out] at this
          have HAt := Lib.hid (HY.out.gb HG1.out hYg)
          clear HR HG HC HT1
          go_upto_region 41 with fail
          go_cut [199] (fun s wx => s = .bool (decide (a < j ∧ j < mid)) ∧ wc = wx)
          case first => as_aux_lemma =>
            by_cases hc1 : a < j
            · have k3 : (a : Int) < (j : Int) := by omega
              have k5 : decide ((a : Int) < (j : Int)) = true := decide_eq_true k3
              by_cases hc2 : j < mid
              · have k4 : (j : Int) < (mid : Int) := by omega
                have k6 : decide ((j : Int) < (mid : Int)) = true := decide_eq_true k4
                have HD : Hid (Value.bool true = .bool (decide (a < j ∧ j < mid))) := by show _ = _; rw [decide_eq_true ⟨hc1, hc2⟩]
                go_wp2_with fail
                go_meet
                case rel => exact ⟨HD.out, rfl⟩
              · have k4 : ¬ (j : Int) < (mid : Int) := by omega
                have k6 : decide ((j : Int) < (mid : Int)) = false := decide_eq_false k4
                have HD : Hid (Value.bool false = .bool (decide (a < j ∧ j < mid))) := by show _ = _; rw [decide_eq_false (fun h => hc2 h.2)]
                go_wp2_with fail
                go_meet
                case rel => exact ⟨HD.out, rfl⟩
            · have k3 : ¬ (a : Int) < (j : Int) := by omega
              have k5 : decide ((a : Int) < (j : Int)) = false := decide_eq_false k3
              have HD : Hid (Value.bool false = .bool (decide (a < j ∧ j < mid))) := by show _ = _; rw [decide_eq_false (fun h => hc1 h.1)]
              go_wp2_with fail
              go_meet
              case rel => exact ⟨HD.out, rfl⟩
          obtain ⟨rfl, rfl⟩ := hcut
          go_upto_if 199 with fail
          go_cut [] (fun wx => ∃ r1, Hid (Oj wx base g c r1) ∧ Hid (r1.length = N) ∧ Hid (Stays a mid r r1) ∧ Hid (Srt r1 a mid) ∧ Hid (w.grownBy wx (some g)))
          case first => as_aux_lemma =>
            by_cases hc : a < j ∧ j < mid
            · have k1 : a < j := hc.1
              have k2 : j < mid := hc.2
              have k6 := decide_eq_true hc
              go_wp2_with fail
              refine (IH.out a j mid r _ (by omega) HL1.out k1 k2 (by omega) HT.out.one HT.out.two HAt.out HR1.out).mono ?_
              rintro e w1 ⟨rfl, r1, q1, q2, ⟨q3, q4⟩, q5⟩
              have Q1 := Lib.hid q1
              have Q2 := Lib.hid q2
              have Q3 := Lib.hid q3
              have Q4 := Lib.hid q4
              have Q5 := Lib.hid (gb_trans HG1.out q5)
              clear q1 q2 q3 q4 q5
              go_wp2_with fail
              go_meet
              case rel => exact ⟨r1, Q1, Q2, Q3, Q4, Q5⟩
            · have Q3 := Lib.hid (Stays.refl a mid r)
              have Q4 := Lib.hid (HT.out.left hc (by omega) hs2)
              have k6 := decide_eq_false hc
              go_wp2_with fail
              go_meet
              case rel => exact ⟨r, HR1, HL1, Q3, Q4, HG1⟩
          case rest => as_aux_lemma =>
            obtain ⟨r1, HR2, HL2, HS2, HT2, HG2⟩ := hcut
            have HAt2 := Lib.hid (HY.out.gb HG2.out hYg)
            have HM3 : Hid (Srt r1 mid e ∧ Srt r1 e b) := ⟨HT.out.three.same fun k g1 _ => HS2.out.out k (.inr g1), HT.out.four.same fun k g1 _ => HS2.out.out k (.inr (by have := heb2.out; omega))⟩
            have HE1 := heb2.out.1
            have HE2 := heb2.out.2.2.1
            clear HR1 HG1 HL1
            go_upto_region 43 with fail
            go_cut [213] (fun s wx => s = .bool (decide (mid < e ∧ e < b)) ∧ wc = wx)
            case first => as_aux_lemma =>
              by_cases hc1 : mid < e
              · have k3 : (mid : Int) < (e : Int) := by omega
                have k5 : decide ((mid : Int) < (e : Int)) = true := decide_eq_true k3
                by_cases hc2 : e < b
                · have k4 : (e : Int) < (b : Int) := by omega
                  have k6 : decide ((e : Int) < (b : Int)) = true := decide_eq_true k4
                  have HD : Hid (Value.bool true = .bool (decide (mid < e ∧ e < b))) := by show _ = _; rw [decide_eq_true ⟨hc1, hc2⟩]
                  go_wp2_with fail
                  go_meet
                  case rel => exact ⟨HD.out, rfl⟩
                · have k4 : ¬ (e : Int) < (b : Int) := by omega
                  have k6 : decide ((e : Int) < (b : Int)) = false := decide_eq_false k4
                  have HD : Hid (Value.bool false = .bool (decide (mid < e ∧ e < b))) := by show _ = _; rw [decide_eq_false (fun h => hc2 h.2)]
                  go_wp2_with fail
                  go_meet
                  case rel => exact ⟨HD.out, rfl⟩
              · have k3 : ¬ (mid : Int) < (e : Int) := by omega
                have k5 : decide ((mid : Int) < (e : Int)) = false := decide_eq_false k3
                have HD : Hid (Value.bool false = .bool (decide (mid < e ∧ e < b))) := by show _ = _; rw [decide_eq_false (fun h => hc1 h.1)]
                go_wp2_with fail
                go_meet
                case rel => exact ⟨HD.out, rfl⟩
            obtain ⟨rfl, rfl⟩ := hcut
            by_cases hc : mid < e ∧ e < b
            · have k1 : mid < e := hc.1
              have k2 : e < b := hc.2
              have k6 := decide_eq_true hc
              go_wp2_with fail
              refine (IH.out mid e b r1 _ (by omega) HL2.out k1 k2 h2 HM3.out.1 HM3.out.2 HAt2.out HR2.out).mono ?_
              rintro e' w1 ⟨rfl, r2, q1, q2, ⟨q3, q4⟩, q5⟩
              have HF : Hid (LeftOf w base g c N (fun r => Stays a b l r ∧ Srt r a b) (.returned (.tuple #[])) w1) := ⟨rfl, r2, q1, q2, ⟨(HS1.out.trans (HS2.out.wide (Nat.le_refl _) (by omega))).trans (q3.wide (by omega) (Nat.le_refl _)), HT.out.done HS2.out HT2.out q3 q4⟩, gb_trans HG2.out q5⟩
              clear q1 q2 q3 q4 q5
              go_wp2_with fail
              go_end0
              exact HF.out
            · have HF : Hid (∀ wx, wx = wc → LeftOf w base g c N (fun r => Stays a b l r ∧ Srt r a b) (.returned (.tuple #[])) wx) := fun wx ew => ew ▸ ⟨rfl, r1, HR2.out, HL2.out, ⟨HS1.out.trans (HS2.out.wide (Nat.le_refl _) (by omega)), HT.out.done HS2.out HT2.out (Stays.refl _ _ _) (by
                by_cases e1 : mid = e
                · have := HM3.out.2; rwa [← e1] at this
                · have := HM3.out.1; rwa [show e = b from by omega] at this)⟩, HG2.out⟩
              have k6 := decide_eq_false hc
              go_wp2_with fail
              go_end0
              exact HF.out _ rfl

theorem sym_all (base g c Y N : Nat) (hbig : N ≤ 1000000) (hYg : Y ≠ g) : ∀ F, SymTo base g c Y N F
  | 0 => fun a m b l w h _ h1 h2 => by omega
  | F + 1 => fun a m b l w hF hN h1 h2 h3 hA hB hy H => by
    by_cases e1 : m = a + 1
    · exact sym_low base g c Y a m b N l w hN hbig e1 h2 h3 hYg hy H hB
    · by_cases e2 : b = m + 1
      · exact sym_high base g c Y a m b N l w hN hbig (by omega) e2 h3 hYg hy H hA
      · exact sym_more base g c Y a m b N F l w hF (sym_all base g c Y N hbig hYg F) hN hbig (by omega) (by omega) h3 hYg hA hB hy H

end Pm
end Go.Proofs.Ytdibiidpknckfaa
