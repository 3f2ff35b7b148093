/-
  Merged texts: Law09Args, Law09Bound, Law09Refs.
-/
import Derived.Test.YtmfbmbbndiafiaaGmem
import Derived.Test.YtmfbmbbndiafiaaGsupply
/-
  Layer 9: the arguments of the statements, opened: an interface.
-/
namespace Go.Proofs.Ytmfbmbbndiafiaa
open Go.ChangeShapes Go.WideShapes Go.ChangeAt Go.RowKit Go.Deep Go.Joins Mm
namespace Sp

theorem opNum : Opens Try.prog 3 Int := opens_int Try.underlying3 (by kernel_rfl)
theorem opFace : Opens Try.prog 32 (Int × Int) := opens_struct Try.underlying32 (by kernel_rfl) (fieldsOpen_cons rfl opNum (fieldsOpen_one rfl opNum))
section
variable {H : Type} {enc : TypeId × Value → H} {w : World} {base : Nat} {spare : Nat → Bool} {held : Bool}
theorem open_face {r : Reach} {b0 : Nat} {v : Value} {d : DataW H} {ps : List MemPlace} (hv : Value.okWide Try.prog w r b0 32 v) (h : DataW.Trod enc Try.prog w base spare held 32 v d ps) :
    ∃ P B : Int, v = .agg #[.int .i64 P, .int .i64 B] ∧ Fit P ∧ Fit B := by
  obtain ⟨cs, x, rfl, hx⟩ := open_strct (α := Int × Int) Try.underlying32 opFace hv h
  obtain ⟨v, r, rfl, ⟨rfl, f1⟩, ⟨rfl, f2⟩⟩ := hx
  exact ⟨x.1, x.2, rfl, f1, f2⟩
end

end Sp
end Go.Proofs.Ytmfbmbbndiafiaa

/-
  Layer 9: the references Right, Worst, Bound.
-/
namespace Go.Proofs.Ytmfbmbbndiafiaa
open Go.RowKit Mm
namespace Sp

set_option maxHeartbeats 800000 in
theorem refRight_any (P B : Int) (w : World) :
    Calls Try.prog 21 #[.agg #[.int .i64 P, .int .i64 B]] w fun e w' => e = .returned (.bool (rightB P B)) ∧ Below w.heap.size w w' := by
  obtain ⟨t1, t2⟩ := fc_new w P B
  have b0 := below_one w (Obj.cells #[.int .i64 P, .int .i64 B] 32)
  have B0 := Lib.hid b0
  clear b0
  by_cases h1 : 1 ≤ P
  · by_cases h2 : P ≤ 200
    · by_cases h3 : 1 ≤ B
      · by_cases h4 : B ≤ P
        · have HV : Hid (rightB P B = true) := right_iff.2 ⟨h3, h4, h2⟩
          go_enter Try.func21, Try.ntmps21
          go_wp2
          go_ret
          exact ⟨ret_bool HV.out.symm, B0.out⟩
        · have HV : Hid (rightB P B = false) := right_no.2 (by omega)
          go_enter Try.func21, Try.ntmps21
          go_wp2
          go_ret
          exact ⟨ret_bool HV.out.symm, B0.out⟩
      · have HV : Hid (rightB P B = false) := right_no.2 (by omega)
        go_enter Try.func21, Try.ntmps21
        go_wp2
        go_ret
        exact ⟨ret_bool HV.out.symm, B0.out⟩
    · have HV : Hid (rightB P B = false) := right_no.2 (by omega)
      go_enter Try.func21, Try.ntmps21
      go_wp2
      go_ret
      exact ⟨ret_bool HV.out.symm, B0.out⟩
  · have HV : Hid (rightB P B = false) := right_no.2 (by omega)
    go_enter Try.func21, Try.ntmps21
    go_wp2
    go_ret
    exact ⟨ret_bool HV.out.symm, B0.out⟩
theorem refRight_v (P B : Int) (v : Bool) (hv : rightB P B = v) (w : World) :
    Calls Try.prog 21 #[.agg #[.int .i64 P, .int .i64 B]] w fun e w' => e = .returned (.bool v) ∧ Below w.heap.size w w' := by
  subst hv
  exact refRight_any P B w

set_option maxHeartbeats 800000 in
theorem worst_any (P B i : Nat) (hB : 1 ≤ B) (hBP : B ≤ P) (hP : P ≤ 200) (hi : i ≤ 1000000) (w : World) :
    Calls Try.prog 28 #[.agg #[.int .i64 P, .int .i64 B], .int .i64 i] w fun e w' => e = .returned (.bool (worst P B i)) ∧ Below w.heap.size w w' := by
  obtain ⟨t1, t2⟩ := fc_new w (P : Int) (B : Int)
  have b0 := below_one w (Obj.cells #[.int .i64 P, .int .i64 B] 32)
  have B0 := Lib.hid b0
  clear b0
  by_cases h : i < P
  · have HV : Hid (worst P B i = decide ((i : Int) < (B : Int))) := by
      show _ = _
      unfold worst
      rw [if_pos h]
      simp
    go_enter Try.func28, Try.ntmps28
    go_wp2
    go_ret
    exact ⟨by rw [HV.out]; simp, B0.out⟩
  · obtain ⟨g, hg⟩ : ∃ g, P - B = g := ⟨_, rfl⟩
    obtain ⟨r, hr⟩ : ∃ r, i % P = r := ⟨_, rfl⟩
    have hrP : r < P := by rw [← hr]; exact Nat.mod_lt _ (by omega)
    have HV : Hid (worst P B i = decide ((g : Int) ≤ (r : Int))) := by
      show _ = _
      unfold worst
      rw [if_neg h, hg, hr]
      simp
    have e0 : IntKind.i64.wrap ((P : Int) - (B : Int)) = (g : Int) := by rw [IntWalk.i64_in _ (by omega)]; omega
    have e1 : (i : Int).tmod (P : Int) = (r : Int) := by
      rw [Int.tmod_eq_emod_of_nonneg (by omega), ← hr]
      push_cast
      rfl
    have e2 : IntKind.i64.wrap (r : Int) = (r : Int) := IntWalk.i64_in _ (by omega)
    have i2 : ¬ (P : Int) = 0 := by omega
    have i5 : ¬ P = 0 := by omega
    have i6 : decide ((P : Int) = 0) = false := decide_eq_false i2
    have i7 : ((P : Int) == 0) = false := by simpa using i5
    have i3 : ¬ (i : Int) < (P : Int) := by omega
    have HG := Lib.hid hg
    have HR := Lib.hid hr
    clear hg hr
    go_enter Try.func28, Try.ntmps28
    go_wp2_with fail
    have y1 := cell_new t1
    generalize w.alloc (Obj.cells #[.int .i64 (P : Int), .int .i64 (B : Int)] 32) = w1 at *
    clear y1
    replace t1 := cell_bw t1
    replace t2 := cell_bw t2
    refine wp_region_bw (by kernel_rfl) (by kernel_rfl) ?_
    repeat
      (with_reducible refine wpQuiet_step (fun K hK => ?_)
       go_simp
       first
         | (with_reducible refine hK _ ?_
            clear hK K)
         | (rw [if_neg]
            rotate_left
            focus (intro h; cases h; done)
            with_reducible refine hK _ ?_
            clear hK K)
         | (apply Exists.intro
            refine ⟨fun _ => ?_, hK _ ?_⟩
            (fail)
            clear hK K))
    with_reducible refine wpQuiet_nil ?_
    intro wb hw'
    obtain ⟨⟨wb', lb⟩, hw''⟩ := hw'
    subst hw''
    have B1 := Lib.hid (below_step B0.out lb)
    clear lb
    go_wp2_with fail
    go_ret
    exact ⟨by rw [HV.out]; simp, B1.out⟩
theorem worst_v (P B i : Nat) (v : Bool) (hv : worst P B i = v) (hB : 1 ≤ B) (hBP : B ≤ P) (hP : P ≤ 200) (hi : i ≤ 1000000) (w : World) :
    Calls Try.prog 28 #[.agg #[.int .i64 P, .int .i64 B], .int .i64 i] w fun e w' => e = .returned (.bool v) ∧ Below w.heap.size w w' := by
  subst hv
  exact worst_any P B i hB hBP hP hi w

set_option maxHeartbeats 800000 in
theorem refBound_any (P B t : Nat) (hB : 1 ≤ B) (hBP : B ≤ P) (hP : P ≤ 200) (ht : t ≤ 5000) (w : World) :
    Calls Try.prog 18 #[.agg #[.int .i64 P, .int .i64 B], .int .i64 t] w fun e w' => e = .returned (.int .i64 (sbf P B t : Nat)) ∧ Below w.heap.size w w' := by
  obtain ⟨t1, t2⟩ := fc_new w (P : Int) (B : Int)
  have b0 := below_one w (Obj.cells #[.int .i64 P, .int .i64 B] 32)
  have B0 := Lib.hid b0
  clear b0
  go_enter Try.func18, Try.ntmps18
  go_wp2_with fail
  generalize w.alloc (Obj.cells #[.int .i64 (P : Int), .int .i64 (B : Int)] 32) = w1 at *
  go_loopw [5, 6] (fun n i wr => ∃ k q : Nat, i = .int .i64 ((B : Int) + (k : Int)) ∧ n = .int .i64 q ∧ k ≤ t ∧ q ≤ k ∧ Hid (sbf P B k = q) ∧ Hid (Below w1.heap.size w1 wr)) (fun _ i _ => B + t - (intOf i).toNat)
  case atStart => exact ⟨0, 0, by simp, rfl, Nat.zero_le _, Nat.le_refl _, sbf_zero hB hBP, Below.refl _ _⟩
  case round =>
    obtain ⟨k, q, rfl, rfl, hk, hq, HQ, HB⟩ := hrel
    replace t1 := cell_below HB.out t1
    replace t2 := cell_below HB.out t2
    by_cases hlt : k < t
    · have hs := sbf_succ (t := k) hB hBP
      rw [HQ.out] at hs
      have c1 : ((B + k : Nat) : Int) = (B : Int) + (k : Int) := by push_cast; rfl
      cases hw : worst P B (B + k) with
      | true =>
        rw [hw] at hs
        have HN : Hid (sbf P B (k + 1) = q + 1) := hs
        have HW := Lib.hid hw
        have HC := Lib.hid c1
        clear hs hw c1
        have C := worst_v P B (B + k) true HW.out hB hBP hP (by omega)
        rw [HC.out] at C
        have HCC := Lib.hid C
        clear C
        go_wp2_with fail
        refine (HCC.out _).mono ?_
        rintro e w2 ⟨rfl, b2⟩
        replace t1 := cell_below b2 t1
        replace t2 := cell_below b2 t2
        have B2 := Lib.hid b2
        clear b2
        go_wp2_with fail
        go_roundw
        case rel => exact ⟨k + 1, q + 1, by push_cast; simp only [Int.add_assoc], by go_num, hlt, by omega, HN, below_step HB.out B2.out⟩
        case measure => simp [intOf]; omega
      | false =>
        rw [hw] at hs
        have HN : Hid (sbf P B (k + 1) = q) := hs
        have HW := Lib.hid hw
        have HC := Lib.hid c1
        clear hs hw c1
        have C := worst_v P B (B + k) false HW.out hB hBP hP (by omega)
        rw [HC.out] at C
        have HCC := Lib.hid C
        clear C
        go_wp2_with fail
        refine (HCC.out _).mono ?_
        rintro e w2 ⟨rfl, b2⟩
        replace t1 := cell_below b2 t1
        replace t2 := cell_below b2 t2
        have B2 := Lib.hid b2
        clear b2
        go_wp2_with fail
        go_roundw
        case rel => exact ⟨k + 1, q, by push_cast; simp only [Int.add_assoc], rfl, hlt, by omega, HN, below_step HB.out B2.out⟩
        case measure => simp [intOf]; omega
    · have hkt : k = t := by omega
      subst hkt
      go_wp2_with fail
      go_ret
      exact ⟨by rw [HQ.out]; rfl, below_step B0.out HB.out⟩

end Sp
end Go.Proofs.Ytmfbmbbndiafiaa

/-
  Layer 9: the references Legal, Least.
-/
namespace Go.Proofs.Ytmfbmbbndiafiaa
open Go.RowKit Mm
namespace Sp

theorem div_last {k P : Nat} (hP : 0 < P) (h : k % P = P - 1) : (k + 1) / P = k / P + 1 ∧ (k / P) * P + P = k + 1 := by
  have h1 := Nat.div_add_mod k P
  rw [Nat.mul_comm] at h1
  refine ⟨?_, by omega⟩
  rw [show k + 1 = 0 + (k / P + 1) * P from by rw [Nat.add_mul]; omega, Nat.add_mul_div_right _ _ hP, Nat.zero_div, Nat.zero_add]
theorem div_in {k P : Nat} (hP : 0 < P) (h : k % P ≠ P - 1) : (k + 1) / P = k / P := by
  have h1 := Nat.div_add_mod k P
  have h2 := Nat.mod_lt k hP
  rw [Nat.mul_comm] at h1
  rw [show k + 1 = (k % P + 1) + (k / P) * P from by omega, Nat.add_mul_div_right _ _ hP, Nat.div_eq_of_lt (by omega), Nat.zero_add]

/-- the ticks told so far: those of the last period in part; the whole ones have theirs -/
def LegTo (P B : Nat) (l : List Bool) (k q : Nat) : Prop := q = inN l (k / P * P) k ∧ ∀ j, j < k / P → B ≤ inN l (j * P) (j * P + P)
theorem LegTo.zero {P B : Nat} {l : List Bool} : LegTo P B l 0 0 := by
  refine ⟨?_, fun j h => by rw [Nat.zero_div] at h; omega⟩
  rw [Nat.zero_div, Nat.zero_mul, inN_same]
theorem LegTo.le {P B : Nat} {l : List Bool} {k q : Nat} (h : LegTo P B l k q) : q ≤ k := by
  have := inN_len l (k / P * P) k
  have := h.1
  omega
theorem LegTo.in_ {P B : Nat} {l : List Bool} {k q q' : Nat} (hP : 0 < P) (h : LegTo P B l k q) (hq : q' = q + (if at_ l k then 1 else 0)) (hr : k % P ≠ P - 1) : LegTo P B l (k + 1) q' := by
  have h1 := Nat.div_mul_le_self k P
  unfold LegTo
  rw [div_in hP hr]
  refine ⟨?_, h.2⟩
  rw [hq, h.1]
  cases hp : at_ l k with
  | true => rw [inN_yes h1 hp]; rfl
  | false => rw [inN_no hp]; rfl
theorem LegTo.full {P B : Nat} {l : List Bool} {k q q' : Nat} (h : LegTo P B l k q) (hP : 0 < P) (hq : q' = q + (if at_ l k then 1 else 0)) (hr : k % P = P - 1) : q' = inN l (k / P * P) (k / P * P + P) := by
  have h1 := Nat.div_mul_le_self k P
  rw [(div_last hP hr).2, hq, h.1]
  cases hp : at_ l k with
  | true => rw [inN_yes h1 hp]; rfl
  | false => rw [inN_no hp]; rfl
theorem LegTo.last {P B : Nat} {l : List Bool} {k q q' : Nat} (h : LegTo P B l k q) (hP : 0 < P) (hq : q' = q + (if at_ l k then 1 else 0)) (hr : k % P = P - 1) (hB : B ≤ q') : LegTo P B l (k + 1) 0 := by
  have hf := h.full hP hq hr
  obtain ⟨d1, d2⟩ := div_last hP hr
  unfold LegTo
  rw [d1]
  refine ⟨?_, fun j hj => ?_⟩
  · rw [Nat.add_mul, Nat.one_mul, d2, inN_same]
  · by_cases e : j = k / P
    · subst e; rw [← hf]; exact hB
    · exact h.2 j (by omega)
theorem LegTo.bad {P B : Nat} {l : List Bool} {k q q' : Nat} (h : LegTo P B l k q) (hP : 0 < P) (hk : k < l.length) (hq : q' = q + (if at_ l k then 1 else 0)) (hr : k % P = P - 1) (hB : ¬ B ≤ q') : legB P B l = false := by
  have hf := h.full hP hq hr
  obtain ⟨d1, d2⟩ := div_last hP hr
  refine leg_no (j := k / P) ?_ (by rw [← hf]; exact hB)
  have := Nat.div_le_div_right (c := P) (show k + 1 ≤ l.length from hk)
  omega
theorem LegTo.done {P B : Nat} {l : List Bool} {q : Nat} (h : LegTo P B l l.length q) : legB P B l = true := leg_iff.2 h.2

set_option maxHeartbeats 1600000 in
theorem refLegal_any (P B : Int) (A : Option Addr) (c : Nat) (l : List Bool) (w : World) (H : FL w A c l) :
    Calls Try.prog 15 #[.agg #[.int .i64 P, .int .i64 B], .slice A l.length c] w fun e w' => e = .returned (.bool (legalB P B l)) ∧ Below w.heap.size w w' := by
  obtain ⟨t1, t2⟩ := fc_new w P B
  have b0 := below_one w (Obj.cells #[.int .i64 P, .int .i64 B] 32)
  have HT := Lib.hid (H.below b0)
  have hb := H.1
  have B0 := Lib.hid b0
  clear b0
  clear H
  cases hv : rightB P B with
  | false =>
    have HL : Hid (legalB P B l = false) := by show _ = _; unfold legalB; rw [hv]; rfl
    have HV := Lib.hid hv
    clear hv
    go_enter Try.func15, Try.ntmps15
    go_wp2_with fail
    refine (refRight_v P B false HV.out _).mono ?_
    rintro e w1 ⟨rfl, b1⟩
    replace t1 := cell_below b1 t1
    replace t2 := cell_below b1 t2
    have B1 := Lib.hid (below_step B0.out b1)
    clear b1
    go_wp2_with fail
    go_ret
    exact ⟨ret_bool HL.out.symm, B1.out⟩
  | true =>
    have HL : Hid (legalB P B l = legB P.toNat B.toNat l) := by show _ = _; unfold legalB; rw [hv]; rfl
    obtain ⟨p, b, rfl, rfl, h1, h2, h3⟩ := right_nat hv
    rw [Int.toNat_natCast, Int.toNat_natCast] at HL
    have HV := Lib.hid hv
    clear hv
    go_enter Try.func15, Try.ntmps15
    go_wp2_with fail
    refine (refRight_v p b true HV.out _).mono ?_
    rintro e w1 ⟨rfl, b1⟩
    replace t1 := cell_below b1 t1
    replace t2 := cell_below b1 t2
    have B1 := Lib.hid (below_step B0.out b1)
    replace HT := Lib.hid (HT.out.below b1)
    clear b1
    go_wp2_with fail
    go_loopw [5, 6] (fun n i wr => ∃ k q : Nat, i = .int .i64 k ∧ n = .int .i64 q ∧ k ≤ l.length ∧ q ≤ k ∧ Hid (LegTo p b l k q) ∧ Hid (Below w1.heap.size w1 wr)) (fun _ i _ => l.length - (intOf i).toNat)
    case atStart => exact ⟨0, 0, rfl, rfl, Nat.zero_le _, Nat.le_refl _, LegTo.zero, Below.refl _ _⟩
    case round =>
      obtain ⟨k, q, rfl, rfl, hk, hq, HG, HB⟩ := hrel
      replace t1 := cell_below HB.out t1
      replace t2 := cell_below HB.out t2
      replace HT := Lib.hid (HT.out.below HB.out)
      by_cases hlt : k < l.length
      · obtain ⟨bb, off, rfl, hc⟩ := HT.out.2.flag (by omega)
        have x1 := hc k hlt
        obtain ⟨r, hr0⟩ : ∃ r, k % p = r := ⟨_, rfl⟩
        have hp0 : 0 < p := by omega
        have hrp : r < p := by rw [← hr0]; exact Nat.mod_lt _ hp0
        have e1 : (k : Int).tmod (p : Int) = (r : Int) := by
          rw [Int.tmod_eq_emod_of_nonneg (by omega), ← hr0]
          push_cast
          rfl
        have e2 : IntKind.i64.wrap (r : Int) = (r : Int) := IntWalk.i64_in _ (by omega)
        have i2 : ¬ (p : Int) = 0 := by omega
        have i5 : ¬ p = 0 := by omega
        have i6 : decide ((p : Int) = 0) = false := decide_eq_false i2
        have i7 : ((p : Int) == 0) = false := by simpa using i5
        obtain ⟨g, hg0⟩ : ∃ g, g = p - 1 := ⟨_, rfl⟩
        have e3 : IntKind.i64.wrap ((p : Int) - 1) = (g : Int) := by rw [IntWalk.i64_in _ (by omega)]; omega
        have HR := Lib.hid hr0
        have HGP := Lib.hid hg0
        clear hr0 hc hg0
        cases hp : at_ l k with
        | true =>
          rw [hp] at x1
          have HQ : Hid (q + 1 = q + (if at_ l k then 1 else 0)) := by show _ = _; rw [hp]; rfl
          clear hp
          by_cases hr : r = g
          · subst hr
            have i8 : ((r : Int) == (r : Int)) = true := by simp
            have hr1 := HR.out.trans HGP.out
            by_cases hg : b ≤ q + 1
            · have HN := Lib.hid (HG.out.last hp0 HQ.out hr1 hg)
              have HR1 := Lib.hid hr1
              clear hr1
              go_wp2_with fail
              have z2 := t2
              replace t1 := cell_bw t1
              replace t2 := cell_bw t2
              refine wp_region_bw (by kernel_rfl) (by kernel_rfl) ?_
              repeat
                (with_reducible refine wpQuiet_step (fun K hK => ?_)
                 go_simp
                 first
                   | (with_reducible refine hK _ ?_
                      clear hK K)
                   | (rw [if_neg]
                      rotate_left
                      focus (intro h; cases h; done)
                      with_reducible refine hK _ ?_
                      clear hK K)
                   | (apply Exists.intro
                      refine ⟨fun _ => ?_, hK _ ?_⟩
                      (fail)
                      clear hK K))
              with_reducible refine wpQuiet_nil ?_
              intro wb hw'
              obtain ⟨⟨wb', lb⟩, hw''⟩ := hw'
              subst hw''
              replace z2 := cell_below lb z2
              have B2 := Lib.hid (below_step HB.out lb)
              clear lb t1 t2
              go_wp2_with fail
              go_roundw
              case rel => exact ⟨k + 1, 0, by go_num, rfl, hlt, Nat.zero_le _, HN, B2⟩
              case measure => simp [intOf]; omega
            · have HF : Hid (legalB (p : Int) (b : Int) l = false) := by show _ = _; rw [HL.out]; exact HG.out.bad hp0 hlt HQ.out hr1 hg
              have HR1 := Lib.hid hr1
              clear hr1
              go_wp2_with fail
              have z2 := t2
              replace t1 := cell_bw t1
              replace t2 := cell_bw t2
              refine wp_region_bw (by kernel_rfl) (by kernel_rfl) ?_
              repeat
                (with_reducible refine wpQuiet_step (fun K hK => ?_)
                 go_simp
                 first
                   | (with_reducible refine hK _ ?_
                      clear hK K)
                   | (rw [if_neg]
                      rotate_left
                      focus (intro h; cases h; done)
                      with_reducible refine hK _ ?_
                      clear hK K)
                   | (apply Exists.intro
                      refine ⟨fun _ => ?_, hK _ ?_⟩
                      (fail)
                      clear hK K))
              with_reducible refine wpQuiet_nil ?_
              intro wb hw'
              obtain ⟨⟨wb', lb⟩, hw''⟩ := hw'
              subst hw''
              replace z2 := cell_below lb z2
              have B2 := Lib.hid (below_step HB.out lb)
              clear lb t1 t2
              go_wp2_with fail
              go_ret
              exact ⟨ret_bool HF.out.symm, below_step B1.out B2.out⟩
          · have HN := Lib.hid (HG.out.in_ hp0 HQ.out (by rw [HR.out, ← HGP.out]; exact hr))
            have i8 : ((r : Int) == (g : Int)) = false := beq_eq_false_iff_ne.2 (by omega)
            have i9 : ¬ (r : Int) = (g : Int) := by omega
            go_wp2_with fail
            replace t1 := cell_bw t1
            replace t2 := cell_bw t2
            refine wp_region_bw (by kernel_rfl) (by kernel_rfl) ?_
            repeat
              (with_reducible refine wpQuiet_step (fun K hK => ?_)
               go_simp
               first
                 | (with_reducible refine hK _ ?_
                    clear hK K)
                 | (rw [if_neg]
                    rotate_left
                    focus (intro h; cases h; done)
                    with_reducible refine hK _ ?_
                    clear hK K)
                 | (apply Exists.intro
                    refine ⟨fun _ => ?_, hK _ ?_⟩
                    (fail)
                    clear hK K))
            with_reducible refine wpQuiet_nil ?_
            intro wb hw'
            obtain ⟨⟨wb', lb⟩, hw''⟩ := hw'
            subst hw''
            have B2 := Lib.hid (below_step HB.out lb)
            clear lb t1 t2
            go_wp2_with fail
            go_roundw
            case rel => exact ⟨k + 1, q + 1, by go_num, by go_num, hlt, by omega, HN, B2⟩
            case measure => simp [intOf]; omega
        | false =>
          rw [hp] at x1
          have HQ : Hid (q = q + (if at_ l k then 1 else 0)) := by show _ = _; rw [hp]; rfl
          clear hp
          by_cases hr : r = g
          · subst hr
            have i8 : ((r : Int) == (r : Int)) = true := by simp
            have hr1 := HR.out.trans HGP.out
            by_cases hg : b ≤ q
            · have HN := Lib.hid (HG.out.last hp0 HQ.out hr1 hg)
              have HR1 := Lib.hid hr1
              clear hr1
              go_wp2_with fail
              have z2 := t2
              replace t1 := cell_bw t1
              replace t2 := cell_bw t2
              refine wp_region_bw (by kernel_rfl) (by kernel_rfl) ?_
              repeat
                (with_reducible refine wpQuiet_step (fun K hK => ?_)
                 go_simp
                 first
                   | (with_reducible refine hK _ ?_
                      clear hK K)
                   | (rw [if_neg]
                      rotate_left
                      focus (intro h; cases h; done)
                      with_reducible refine hK _ ?_
                      clear hK K)
                   | (apply Exists.intro
                      refine ⟨fun _ => ?_, hK _ ?_⟩
                      (fail)
                      clear hK K))
              with_reducible refine wpQuiet_nil ?_
              intro wb hw'
              obtain ⟨⟨wb', lb⟩, hw''⟩ := hw'
              subst hw''
              replace z2 := cell_below lb z2
              have B2 := Lib.hid (below_step HB.out lb)
              clear lb t1 t2
              go_wp2_with fail
              go_roundw
              case rel => exact ⟨k + 1, 0, by go_num, rfl, hlt, Nat.zero_le _, HN, B2⟩
              case measure => simp [intOf]; omega
            · have HF : Hid (legalB (p : Int) (b : Int) l = false) := by show _ = _; rw [HL.out]; exact HG.out.bad hp0 hlt HQ.out hr1 hg
              have HR1 := Lib.hid hr1
              clear hr1
              go_wp2_with fail
              have z2 := t2
              replace t1 := cell_bw t1
              replace t2 := cell_bw t2
              refine wp_region_bw (by kernel_rfl) (by kernel_rfl) ?_
              repeat
                (with_reducible refine wpQuiet_step (fun K hK => ?_)
                 go_simp
                 first
                   | (with_reducible refine hK _ ?_
                      clear hK K)
                   | (rw [if_neg]
                      rotate_left
                      focus (intro h; cases h; done)
                      with_reducible refine hK _ ?_
                      clear hK K)
                   | (apply Exists.intro
                      refine ⟨fun _ => ?_, hK _ ?_⟩
                      (fail)
                      clear hK K))
              with_reducible refine wpQuiet_nil ?_
              intro wb hw'
              obtain ⟨⟨wb', lb⟩, hw''⟩ := hw'
              subst hw''
              replace z2 := cell_below lb z2
              have B2 := Lib.hid (below_step HB.out lb)
              clear lb t1 t2
              go_wp2_with fail
              go_ret
              exact ⟨ret_bool HF.out.symm, below_step B1.out B2.out⟩
          · have HN := Lib.hid (HG.out.in_ hp0 HQ.out (by rw [HR.out, ← HGP.out]; exact hr))
            have i8 : ((r : Int) == (g : Int)) = false := beq_eq_false_iff_ne.2 (by omega)
            have i9 : ¬ (r : Int) = (g : Int) := by omega
            go_wp2_with fail
            replace t1 := cell_bw t1
            replace t2 := cell_bw t2
            refine wp_region_bw (by kernel_rfl) (by kernel_rfl) ?_
            repeat
              (with_reducible refine wpQuiet_step (fun K hK => ?_)
               go_simp
               first
                 | (with_reducible refine hK _ ?_
                    clear hK K)
                 | (rw [if_neg]
                    rotate_left
                    focus (intro h; cases h; done)
                    with_reducible refine hK _ ?_
                    clear hK K)
                 | (apply Exists.intro
                    refine ⟨fun _ => ?_, hK _ ?_⟩
                    (fail)
                    clear hK K))
            with_reducible refine wpQuiet_nil ?_
            intro wb hw'
            obtain ⟨⟨wb', lb⟩, hw''⟩ := hw'
            subst hw''
            have B2 := Lib.hid (below_step HB.out lb)
            clear lb t1 t2
            go_wp2_with fail
            go_roundw
            case rel => exact ⟨k + 1, q, by go_num, rfl, hlt, by omega, HN, B2⟩
            case measure => simp [intOf]; omega
      · have hkl : k = l.length := by omega
        subst hkl
        have HF : Hid (legalB (p : Int) (b : Int) l = true) := by show _ = _; rw [HL.out]; exact HG.out.done
        go_wp2_with fail
        go_ret
        exact ⟨ret_bool HF.out.symm, below_step B1.out HB.out⟩
theorem refLegal_v (P B : Int) (A : Option Addr) (c : Nat) (l : List Bool) (v : Bool) (hv : legalB P B l = v) (n : Nat) (hn : l.length = n) (w : World) (H : FL w A c l) :
    Calls Try.prog 15 #[.agg #[.int .i64 P, .int .i64 B], .slice A n c] w fun e w' => e = .returned (.bool v) ∧ Below w.heap.size w w' := by
  subst hv; subst hn
  exact refLegal_any P B A c l w H

end Sp
end Go.Proofs.Ytmfbmbbndiafiaa

