/-
  For any interface, any list and any number the statement SupplyPatterns of layer 9 returns true (which patterns are legal, and what they give at least, is what the document says), and its arguments read as before. No condition.
-/
import Derived.Test.YtjpenmldoaepfaaLaw09Args
import Derived.Test.YtjpenmldoaepfaaLaw09Refs
import Derived.Test.YtjpenmldoaepfaaLaw09Least
import Derived.Test.YtjpenmldoaepfaaLaw09Knows
namespace Go.Proofs.Ytjpenmldoaepfaa.supplyPatterns
open Go.ChangeShapes Go.WideShapes Go.ChangeAt Go.RowKit
open Mm Sp

set_option maxHeartbeats 1600000 in
theorem walk (P B : Int) (A : Option Addr) (c : Nat) (l : List Bool) (t : Int) (w : World) (_ : Fit P) (_ : Fit B) (hr : Rd w A c l) (ft : Fit t) :
    Calls Try.prog 4 #[.agg #[.int .i64 P, .int .i64 B], .slice A l.length c, .int .i64 t] w fun e w' => e = .returned (.bool true) ∧ Below w.heap.size w w' := by
  obtain ⟨t1, t2⟩ := fc_new w P B
  have b0 := below_one w (Obj.cells #[.int .i64 P, .int .i64 B] 23)
  have hm := hr.max
  have hle := hr.le
  by_cases hlen : l.length ≤ 600
  · have HT : Hid (FL _ A c l) := ⟨by omega, hr.below b0⟩
    obtain ⟨v, hv⟩ : ∃ v, legalB P B l = v := ⟨_, rfl⟩
    obtain ⟨z, hz⟩ : ∃ z, ((leastZ l t : Nat) : Int) = z := ⟨_, rfl⟩
    have i1 : (v == v) = true := by simp
    have i2 : (z == z) = true := by simp
    have i3 : decide (v = v) = true := by simp
    have i4 : decide (z = z) = true := by simp
    have HV := Lib.hid hv
    have HZ := Lib.hid hz
    have HR := Lib.hid hr
    have B0 := Lib.hid b0
    have FT := Lib.hid ft
    clear hv hz hr b0 ft
    unfold maxLen at hm
    go_enter Try.func4, Try.ntmps4
    go_wp2_with fail
    generalize w.alloc (Obj.cells #[.int .i64 P, .int .i64 B] 23) = w0 at *
    replace t1 := cell_bw t1
    replace t2 := cell_bw t2
    refine wp_region_bw (by kernel_rfl) (by kernel_rfl) ?_
    repeat
      (with_reducible refine wpQuiet_step (fun K hK => ?_)
       go_simp
       first
         | (with_reducible refine hK _ ?_
            clear hK K)
         | (rw [if_neg]
            rotate_left
            focus (intro h; cases h; done)
            with_reducible refine hK _ ?_
            clear hK K)
         | (apply Exists.intro
            refine ⟨fun _ => ?_, hK _ ?_⟩
            (first | exact Calls.bw (legal_v P B A c l v HV.out _ rfl _ (HT.out.bw _)) | exact Calls.bw (refLegal_v P B A c l v HV.out _ rfl _ (HT.out.bw _)) | exact Calls.bw (least_v A c l t z HZ.out _ rfl _ (HT.out.bw _)) | exact Calls.bw (refLeast_v A c l t z HZ.out _ rfl _ FT.out (HT.out.bw _)) | exact Calls.bw (knows9_any _))
            clear hK K))
    with_reducible refine wpQuiet_nil ?_
    intro wb hw'
    obtain ⟨⟨wb', lb⟩, hw''⟩ := hw'
    subst hw''
    have B1 := Lib.hid (below_step B0.out lb)
    clear lb
    go_wp2_with fail
    go_ret
    exact ⟨rfl, B1.out⟩
  · have B0 := Lib.hid b0
    clear b0 hr
    unfold maxLen at hm
    go_enter Try.func4, Try.ntmps4
    go_wp2_with fail
    refine (knows9_any _).mono ?_
    rintro e w1 ⟨rfl, b1⟩
    have B1 := Lib.hid (below_step B0.out b1)
    clear b1
    go_wp2_with fail
    go_ret
    exact ⟨rfl, B1.out⟩

set_option maxRecDepth 100000 in
theorem lifted (os : Os) (started : os.Started) (H : Type) (enc : TypeId × Value → H) :
    ReturnsInHanded {} Try.checked os 4 .any (Rows.supplyPatternsSpec.pre6 enc Try.prog Try.f4 Rows.supplyPatternsRow.domain false) (Rows.supplyPatternsSpec.post enc Try.prog Try.f4 false true false false) := by
  refine returnsInHanded_of_change (C := Try.checked) own started (by kernel_rfl) Try.func4
    (ChangeSpec.witness6 (enc := enc) (C := Try.checked) false ⟨#[], #[.agg #[.int .i64 0, .int .i64 0], .slice none 0 0, .int .i64 0], []⟩ 8 (by kernel_rfl) (by kernel_rfl) (by kernel_rfl) (by kernel_rfl)) ?_
  intro W base args ds gs before hval0 hW hcnd _
  have hval : ∀ (j : Nat) t v, Try.f4.params[j]? = some t → args[j]? = some v → Value.okWide Try.prog W .any base t v := hval0
  have hW' := hW
  obtain ⟨p, q, hA0, hV, rfl, hfz, hnd⟩ := hW
  have hA : DataW.TrodAll enc Try.prog W 0 (fun _ => true) true Try.f4.params.toList args.toList ds p := hA0
  rw [Try.params4] at hA hval
  obtain ⟨v0, v1, v2, d0, d1, d2, p0, p1, p2, rfl, rfl, rfl, h0, h1, h2⟩ := trodAll_three hA
  obtain ⟨rfl, rfl⟩ := trodVars_none hV
  obtain ⟨P0, B0, rfl, fp0, fb0⟩ := Sp.open_face (hval 0 23 v0 rfl rfl) h0
  obtain ⟨A1, c1, l1, rfl, hr1⟩ := Mm.open_list (α := Bool) Try.underlying31 Mm.opFlags (hval 1 31 v1 rfl rfl) h1
  obtain ⟨n2, rfl, f2⟩ := Mm.open_num' Try.underlying3 (hval 2 3 v2 rfl rfl) h2
  clear hA0 hval0
  refine (walk P0 B0 A1 c1 l1 n2 W fp0 fb0 hr1 f2).mono fun e W' ⟨he, bel⟩ => ?_
  subst he
  have hlt0 : ∀ x ∈ p0, x.block < W.heap.size := fun x hx => hW'.lt x (by simp [hx])
  have hlt1 : ∀ x ∈ p1, x.block < W.heap.size := fun x hx => hW'.lt x (by simp [hx])
  have hlt2 : ∀ x ∈ p2, x.block < W.heap.size := fun x hx => hW'.lt x (by simp [hx])
  exact ⟨_, rfl, _, _, _, [], _, [], hW', trodAll_mk1 (shut_bool Try.underlying4 _), trodAll_mk3 (Below.trod laidOut (by kernel_rfl) (of_decide_eq_true (by kernel_rfl)) h0 bel hlt0) (Below.trod laidOut (by kernel_rfl) (of_decide_eq_true (by kernel_rfl)) h1 bel hlt1) (Below.trod laidOut (by kernel_rfl) (of_decide_eq_true (by kernel_rfl)) h2 bel hlt2), rfl, bel.frame _, fun h => by cases h⟩

/-- The statement. -/
theorem proved : Rows.SupplyPatternsSaid :=
  OpenClaim.holds_of_wide 4 Try.f4 rfl rfl rfl rfl rfl rfl rfl ⟨rfl, rfl, rfl, rfl, rfl⟩ rfl rfl rfl rfl rfl (by kernel_rfl) Try.func4 (by kernel_rfl)
    (of_decide_eq_true (by kernel_rfl)) (by unfold Func.isWrapper; first | (rw [if_pos (by decide +kernel)]; kernel_rfl) | (rw [if_neg (by decide +kernel)]; exact ⟨rfl, rfl⟩))
    (fun os started H enc _ => lifted os started H enc)
#print axioms proved

end Go.Proofs.Ytjpenmldoaepfaa.supplyPatterns
