/-
  Merged texts: Law09Args, Law09Right, Law09Bound.
-/
import Derived.Test.YtdjjdebnbaaihaaGreatGmem
import Derived.Test.YtdjjdebnbaaihaaGreatGsupply
/-
  Layer 9: the arguments of the statements, opened: an interface.
-/
namespace Go.Proofs.YtdjjdebnbaaihaaGreat
open Go.ChangeShapes Go.WideShapes Go.ChangeAt Go.RowKit Go.Deep Go.Joins Mm
namespace Sp

theorem opNum : Opens Tryz.prog 3 Int := opens_int Tryz.underlying3 (by kernel_rfl)
theorem opFace : Opens Tryz.prog 23 (Int × Int) := opens_struct Tryz.underlying23 (by kernel_rfl) (fieldsOpen_cons rfl opNum (fieldsOpen_one rfl opNum))
section
variable {H : Type} {enc : TypeId × Value → H} {w : World} {base : Nat} {spare : Nat → Bool} {held : Bool}
set_option maxRecDepth 20000 in
theorem open_face {r : Reach} {b0 : Nat} {v : Value} {d : DataW H} {ps : List MemPlace} (hv : Value.okWide Tryz.prog w r b0 23 v) (h : DataW.Trod enc Tryz.prog w base spare held 23 v d ps) :
    ∃ P B : Int, v = .agg #[.int .i64 P, .int .i64 B] ∧ Fit P ∧ Fit B := by
  obtain ⟨cs, x, rfl, hx⟩ := open_strct (α := Int × Int) Tryz.underlying23 opFace hv h
  obtain ⟨v, r, rfl, ⟨rfl, f1⟩, ⟨rfl, f2⟩⟩ := hx
  exact ⟨x.1, x.2, rfl, f1, f2⟩
end

end Sp
end Go.Proofs.YtdjjdebnbaaihaaGreat

/-
  Layer 9: the reference Right.
-/
namespace Go.Proofs.YtdjjdebnbaaihaaGreat
open Go.RowKit Mm
namespace Sp

set_option maxHeartbeats 800000 in
theorem refRight_any (P B : Int) (w : World) :
    Calls Tryz.prog 29 #[.agg #[.int .i64 P, .int .i64 B]] w fun e w' => e = .returned (.bool (rightB P B)) ∧ Below w.heap.size w w' := by
  obtain ⟨t1, t2⟩ := fc_new w P B
  have b0 := below_one w (Obj.cells #[.int .i64 P, .int .i64 B] 23)
  have B0 := Lib.hid b0
  clear b0
  by_cases h1 : 1 ≤ P
  · by_cases h2 : P ≤ 200
    · by_cases h3 : 1 ≤ B
      · by_cases h4 : B ≤ P
        · have HV : Hid (rightB P B = true) := right_iff.2 ⟨h3, h4, h2⟩
          go_enter Tryz.func29, Tryz.ntmps29
          go_wp2
          go_ret
          exact ⟨ret_bool HV.out.symm, B0.out⟩
        · have HV : Hid (rightB P B = false) := right_no.2 (by omega)
          go_enter Tryz.func29, Tryz.ntmps29
          go_wp2
          go_ret
          exact ⟨ret_bool HV.out.symm, B0.out⟩
      · have HV : Hid (rightB P B = false) := right_no.2 (by omega)
        go_enter Tryz.func29, Tryz.ntmps29
        go_wp2
        go_ret
        exact ⟨ret_bool HV.out.symm, B0.out⟩
    · have HV : Hid (rightB P B = false) := right_no.2 (by omega)
      go_enter Tryz.func29, Tryz.ntmps29
      go_wp2
      go_ret
      exact ⟨ret_bool HV.out.symm, B0.out⟩
  · have HV : Hid (rightB P B = false) := right_no.2 (by omega)
    go_enter Tryz.func29, Tryz.ntmps29
    go_wp2
    go_ret
    exact ⟨ret_bool HV.out.symm, B0.out⟩
theorem refRight_v (P B : Int) (v : Bool) (hv : rightB P B = v) (w : World) :
    Calls Tryz.prog 29 #[.agg #[.int .i64 P, .int .i64 B]] w fun e w' => e = .returned (.bool v) ∧ Below w.heap.size w w' := by
  subst hv
  exact refRight_any P B w

end Sp
end Go.Proofs.YtdjjdebnbaaihaaGreat

/-
  Layer 9: the references Worst, Bound.
-/
namespace Go.Proofs.YtdjjdebnbaaihaaGreat
open Go.RowKit Mm
namespace Sp

set_option maxHeartbeats 800000 in
theorem worst_any (P B i : Nat) (hB : 1 ≤ B) (hBP : B ≤ P) (hP : P ≤ 200) (hi : i ≤ 1000000) (w : World) :
    Calls Tryz.prog 106 #[.agg #[.int .i64 P, .int .i64 B], .int .i64 i] w fun e w' => e = .returned (.bool (worst P B i)) ∧ Below w.heap.size w w' := by
  obtain ⟨t1, t2⟩ := fc_new w (P : Int) (B : Int)
  have b0 := below_one w (Obj.cells #[.int .i64 P, .int .i64 B] 23)
  have B0 := Lib.hid b0
  clear b0
  by_cases h : i < P
  · have HV : Hid (worst P B i = decide ((i : Int) < (B : Int))) := by
      show _ = _
      unfold worst
      rw [if_pos h]
      simp
    go_enter Tryz.func106, Tryz.ntmps106
    go_wp2
    go_ret
    exact ⟨by rw [HV.out]; simp, B0.out⟩
  · obtain ⟨g, hg⟩ : ∃ g, P - B = g := ⟨_, rfl⟩
    obtain ⟨r, hr⟩ : ∃ r, i % P = r := ⟨_, rfl⟩
    have hrP : r < P := by rw [← hr]; exact Nat.mod_lt _ (by omega)
    have HV : Hid (worst P B i = decide ((g : Int) ≤ (r : Int))) := by
      show _ = _
      unfold worst
      rw [if_neg h, hg, hr]
      simp
    have e0 : IntKind.i64.wrap ((P : Int) - (B : Int)) = (g : Int) := by rw [IntWalk.i64_in _ (by omega)]; omega
    have e1 : (i : Int).tmod (P : Int) = (r : Int) := by
      rw [Int.tmod_eq_emod_of_nonneg (by omega), ← hr]
      push_cast
      rfl
    have e2 : IntKind.i64.wrap (r : Int) = (r : Int) := IntWalk.i64_in _ (by omega)
    have i2 : ¬ (P : Int) = 0 := by omega
    have i5 : ¬ P = 0 := by omega
    have i6 : decide ((P : Int) = 0) = false := decide_eq_false i2
    have i7 : ((P : Int) == 0) = false := by simpa using i5
    have i3 : ¬ (i : Int) < (P : Int) := by omega
    have HG := Lib.hid hg
    have HR := Lib.hid hr
    clear hg hr
    go_enter Tryz.func106, Tryz.ntmps106
    go_wp2_with fail
    have y1 := cell_new t1
    generalize w.alloc (Obj.cells #[.int .i64 (P : Int), .int .i64 (B : Int)] 23) = w1 at *
    clear y1
    replace t1 := cell_bw t1
    replace t2 := cell_bw t2
    refine wp_region_bw (by kernel_rfl) (by kernel_rfl) ?_
    repeat
      (with_reducible refine wpQuiet_step (fun K hK => ?_)
       go_simp
       first
         | (with_reducible refine hK _ ?_
            clear hK K)
         | (rw [if_neg]
            rotate_left
            focus (intro h; cases h; done)
            with_reducible refine hK _ ?_
            clear hK K)
         | (apply Exists.intro
            refine ⟨fun _ => ?_, hK _ ?_⟩
            (fail)
            clear hK K))
    with_reducible refine wpQuiet_nil ?_
    intro wb hw'
    obtain ⟨⟨wb', lb⟩, hw''⟩ := hw'
    subst hw''
    have B1 := Lib.hid (below_step B0.out lb)
    clear lb
    go_wp2_with fail
    go_ret
    exact ⟨by rw [HV.out]; simp, B1.out⟩
theorem worst_v (P B i : Nat) (v : Bool) (hv : worst P B i = v) (hB : 1 ≤ B) (hBP : B ≤ P) (hP : P ≤ 200) (hi : i ≤ 1000000) (w : World) :
    Calls Tryz.prog 106 #[.agg #[.int .i64 P, .int .i64 B], .int .i64 i] w fun e w' => e = .returned (.bool v) ∧ Below w.heap.size w w' := by
  subst hv
  exact worst_any P B i hB hBP hP hi w

set_option maxHeartbeats 800000 in
theorem refBound_any (P B t : Nat) (hB : 1 ≤ B) (hBP : B ≤ P) (hP : P ≤ 200) (ht : t ≤ 5000) (w : World) :
    Calls Tryz.prog 93 #[.agg #[.int .i64 P, .int .i64 B], .int .i64 t] w fun e w' => e = .returned (.int .i64 (sbf P B t : Nat)) ∧ Below w.heap.size w w' := by
  obtain ⟨t1, t2⟩ := fc_new w (P : Int) (B : Int)
  have b0 := below_one w (Obj.cells #[.int .i64 P, .int .i64 B] 23)
  have B0 := Lib.hid b0
  clear b0
  go_enter Tryz.func93, Tryz.ntmps93
  go_wp2_with fail
  generalize w.alloc (Obj.cells #[.int .i64 (P : Int), .int .i64 (B : Int)] 23) = w1 at *
  go_loopw [5, 6] (fun n i wr => ∃ k q : Nat, i = .int .i64 ((B : Int) + (k : Int)) ∧ n = .int .i64 q ∧ k ≤ t ∧ q ≤ k ∧ Hid (sbf P B k = q) ∧ Hid (Below w1.heap.size w1 wr)) (fun _ i _ => B + t - (intOf i).toNat)
  case atStart => exact ⟨0, 0, by simp, rfl, Nat.zero_le _, Nat.le_refl _, sbf_zero hB hBP, Below.refl _ _⟩
  case round =>
    obtain ⟨k, q, rfl, rfl, hk, hq, HQ, HB⟩ := hrel
    replace t1 := cell_below HB.out t1
    replace t2 := cell_below HB.out t2
    by_cases hlt : k < t
    · have hs := sbf_succ (t := k) hB hBP
      rw [HQ.out] at hs
      have c1 : ((B + k : Nat) : Int) = (B : Int) + (k : Int) := by push_cast; rfl
      cases hw : worst P B (B + k) with
      | true =>
        rw [hw] at hs
        have HN : Hid (sbf P B (k + 1) = q + 1) := hs
        have HW := Lib.hid hw
        have HC := Lib.hid c1
        clear hs hw c1
        have C := worst_v P B (B + k) true HW.out hB hBP hP (by omega)
        rw [HC.out] at C
        have HCC := Lib.hid C
        clear C
        go_wp2_with fail
        refine (HCC.out _).mono ?_
        rintro e w2 ⟨rfl, b2⟩
        replace t1 := cell_below b2 t1
        replace t2 := cell_below b2 t2
        have B2 := Lib.hid b2
        clear b2
        go_wp2_with fail
        go_roundw
        case rel => exact ⟨k + 1, q + 1, by push_cast; simp only [Int.add_assoc], by go_num, hlt, by omega, HN, below_step HB.out B2.out⟩
        case measure => simp [intOf]; omega
      | false =>
        rw [hw] at hs
        have HN : Hid (sbf P B (k + 1) = q) := hs
        have HW := Lib.hid hw
        have HC := Lib.hid c1
        clear hs hw c1
        have C := worst_v P B (B + k) false HW.out hB hBP hP (by omega)
        rw [HC.out] at C
        have HCC := Lib.hid C
        clear C
        go_wp2_with fail
        refine (HCC.out _).mono ?_
        rintro e w2 ⟨rfl, b2⟩
        replace t1 := cell_below b2 t1
        replace t2 := cell_below b2 t2
        have B2 := Lib.hid b2
        clear b2
        go_wp2_with fail
        go_roundw
        case rel => exact ⟨k + 1, q, by push_cast; simp only [Int.add_assoc], rfl, hlt, by omega, HN, below_step HB.out B2.out⟩
        case measure => simp [intOf]; omega
    · have hkt : k = t := by omega
      subst hkt
      go_wp2_with fail
      go_ret
      exact ⟨by rw [HQ.out]; rfl, below_step B0.out HB.out⟩

end Sp
end Go.Proofs.YtdjjdebnbaaihaaGreat

