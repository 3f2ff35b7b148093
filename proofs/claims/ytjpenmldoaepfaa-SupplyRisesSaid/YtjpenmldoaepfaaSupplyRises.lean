/-
  For any interface and any number the statement SupplyRises of layer 9 returns true (the bound rises by 0 or 1 with each tick, and by the budget with each period, from where it may first rise on; and is not more than the ticks), and its arguments read as before. No condition.
-/
import Derived.Test.YtjpenmldoaepfaaLaw09Args
import Derived.Test.YtjpenmldoaepfaaLaw09Refs
import Derived.Test.YtjpenmldoaepfaaLaw09Knows
namespace Go.Proofs.Ytjpenmldoaepfaa.supplyRises
open Go.ChangeShapes Go.WideShapes Go.ChangeAt Go.RowKit
open Mm Sp

theorem bz {p b k : Nat} (h4 : 1 ≤ b) (h5 : b ≤ p) (h6 : p ≤ 200) (hk : k ≤ 4611686018427387903) (t : Int) (ht : t = k) (z : Nat) (hz : sbf p b k = z) : ((bndZ p b t : Nat) : Int) = z ∧ ((bndE p b t : Nat) : Int) = 0 := by
  subst ht
  have h : okB p b k = true := ok_iff.2 ⟨right_iff.2 ⟨by omega, by omega, by omega⟩, by omega, by omega⟩
  unfold bndZ bndE
  rw [h]
  simp only [if_true, Int.toNat_natCast, hz]
  exact ⟨trivial, rfl⟩

set_option maxHeartbeats 6400000 in
theorem walk (P B t : Int) (w : World) (_ : Fit P) (_ : Fit B) (_ : Fit t) :
    Calls Try.prog 7 #[.agg #[.int .i64 P, .int .i64 B], .int .i64 t] w fun e w' => e = .returned (.bool true) ∧ Below w.heap.size w w' := by
  obtain ⟨t1, t2⟩ := fc_new w P B
  have B0 := Lib.hid (below_one w (Obj.cells #[.int .i64 P, .int .i64 B] 23))
  cases hv : rightB P B with
  | false =>
    have HV := Lib.hid hv
    clear hv
    go_enter Try.func7, Try.ntmps7
    go_wp2_with fail
    refine (refRight_v P B _ HV.out _).mono ?_
    rintro e w1 ⟨rfl, b1⟩
    replace t1 := cell_below b1 t1
    replace t2 := cell_below b1 t2
    have B1 := Lib.hid (below_step B0.out b1)
    clear b1
    go_wp2_with fail
    refine (knows9_any _).mono ?_
    rintro e w2 ⟨rfl, b2⟩
    have B2 := Lib.hid (below_step B1.out b2)
    clear b2
    go_wp2_with fail
    go_ret
    exact ⟨rfl, B2.out⟩
  | true =>
    by_cases hr : 0 ≤ t ∧ t ≤ 4611686018427387703
    · obtain ⟨p, b, e1, e2, h4, h5, h6⟩ := right_nat hv
      obtain ⟨k, e3⟩ : ∃ k : Nat, t = k := ⟨t.toNat, by omega⟩
      subst e1
      subst e2
      subst e3
      have hk : k ≤ 4611686018427387703 := by omega
      obtain ⟨x, hx⟩ : ∃ x, sbf p b k = x := ⟨_, rfl⟩
      obtain ⟨y, hy⟩ : ∃ y, sbf p b (k + 1) = y := ⟨_, rfl⟩
      obtain ⟨z, hz⟩ : ∃ z, sbf p b (k + p) = z := ⟨_, rfl⟩
      have E1 := Lib.hid (bz h4 h5 h6 (by omega) (k : Int) rfl x hx)
      have E2 := Lib.hid (bz (k := k + 1) h4 h5 h6 (by omega) ((k : Int) + 1) (by push_cast; rfl) y hy)
      have E3 := Lib.hid (bz (k := k + p) h4 h5 h6 (by omega) ((k : Int) + (p : Int)) (by push_cast; rfl) z hz)
      have hxk : x ≤ k := by rw [← hx]; exact sbf_le h4 h5 k
      have hxy : y = x ∨ y = x + 1 := by rw [← hx, ← hy]; exact sbf_rise h4 h5
      have hxz : p - b ≤ k → z = x + b := fun h => by rw [← hx, ← hz]; exact sbf_period h4 h5 h
      have hzb : z ≤ k + p := by rw [← hz]; exact sbf_le h4 h5 _
      have hx0 : k = 0 → x = 0 := fun h => by omega
      have HV := Lib.hid hv
      have HX := Lib.hid hx
      have HY := Lib.hid hy
      have HZ := Lib.hid hz
      clear hv hx hy hz
      obtain ⟨g, hg⟩ : ∃ g, p - b = g := ⟨_, rfl⟩
      have e0 : IntKind.i64.wrap ((p : Int) - (b : Int)) = (g : Int) := by rw [IntWalk.i64_in _ (by omega)]; omega
      rw [hg] at hxz
      have HG := Lib.hid hg
      clear hg
      go_enter Try.func7, Try.ntmps7
      go_wp2_with fail
      refine (refRight_v p b _ HV.out _).mono ?_
      rintro e w1 ⟨rfl, b1⟩
      replace t1 := cell_below b1 t1
      replace t2 := cell_below b1 t2
      have B1 := Lib.hid (below_step B0.out b1)
      clear b1
      go_wp2_with fail
      refine (bound_v p b k _ _ E1.out.1 E1.out.2 _).mono ?_
      rintro e w2 ⟨rfl, b2⟩
      replace t1 := cell_below b2 t1
      replace t2 := cell_below b2 t2
      have B2 := Lib.hid (below_step B1.out b2)
      clear b2
      go_wp2_with fail
      refine (bound_v p b ((k : Int) + 1) _ _ E2.out.1 E2.out.2 _).mono ?_
      rintro e w3 ⟨rfl, b3⟩
      replace t1 := cell_below b3 t1
      replace t2 := cell_below b3 t2
      have B3 := Lib.hid (below_step B2.out b3)
      clear b3
      go_wp2_with fail
      refine (bound_v p b ((k : Int) + (p : Int)) _ _ E3.out.1 E3.out.2 _).mono ?_
      rintro e w4 ⟨rfl, b4⟩
      replace t1 := cell_below b4 t1
      replace t2 := cell_below b4 t2
      have B4 := Lib.hid (below_step B3.out b4)
      clear b4
      clear E1 E2 E3 HX HY HZ HG B0 B1 B2 B3
      rcases hxy with hy1 | hy1
      · subst hy1
        by_cases hgk : k < g
        · clear hxz
          by_cases hk0 : k = 0
          · have hx1 := hx0 hk0
            subst hk0
            subst hx1
            go_wp2_with fail
            refine (knows9_any _).mono ?_
            rintro e w5 ⟨rfl, b5⟩
            have B5 := Lib.hid (below_step B4.out b5)
            clear b5
            go_wp2_with fail
            go_ret
            exact ⟨rfl, B5.out⟩
          · clear hx0
            go_wp2_with fail
            refine (knows9_any _).mono ?_
            rintro e w5 ⟨rfl, b5⟩
            have B5 := Lib.hid (below_step B4.out b5)
            clear b5
            go_wp2_with fail
            go_ret
            exact ⟨rfl, B5.out⟩
        · have hz1 := hxz (by omega)
          clear hxz
          subst hz1
          by_cases hk0 : k = 0
          · have hx1 := hx0 hk0
            subst hk0
            subst hx1
            go_wp2_with fail
            refine (knows9_any _).mono ?_
            rintro e w5 ⟨rfl, b5⟩
            have B5 := Lib.hid (below_step B4.out b5)
            clear b5
            go_wp2_with fail
            go_ret
            exact ⟨rfl, B5.out⟩
          · clear hx0
            go_wp2_with fail
            refine (knows9_any _).mono ?_
            rintro e w5 ⟨rfl, b5⟩
            have B5 := Lib.hid (below_step B4.out b5)
            clear b5
            go_wp2_with fail
            go_ret
            exact ⟨rfl, B5.out⟩
      · subst hy1
        by_cases hgk : k < g
        · clear hxz
          by_cases hk0 : k = 0
          · have hx1 := hx0 hk0
            subst hk0
            subst hx1
            go_wp2_with fail
            refine (knows9_any _).mono ?_
            rintro e w5 ⟨rfl, b5⟩
            have B5 := Lib.hid (below_step B4.out b5)
            clear b5
            go_wp2_with fail
            go_ret
            exact ⟨rfl, B5.out⟩
          · clear hx0
            go_wp2_with fail
            refine (knows9_any _).mono ?_
            rintro e w5 ⟨rfl, b5⟩
            have B5 := Lib.hid (below_step B4.out b5)
            clear b5
            go_wp2_with fail
            go_ret
            exact ⟨rfl, B5.out⟩
        · have hz1 := hxz (by omega)
          clear hxz
          subst hz1
          by_cases hk0 : k = 0
          · have hx1 := hx0 hk0
            subst hk0
            subst hx1
            go_wp2_with fail
            refine (knows9_any _).mono ?_
            rintro e w5 ⟨rfl, b5⟩
            have B5 := Lib.hid (below_step B4.out b5)
            clear b5
            go_wp2_with fail
            go_ret
            exact ⟨rfl, B5.out⟩
          · clear hx0
            go_wp2_with fail
            refine (knows9_any _).mono ?_
            rintro e w5 ⟨rfl, b5⟩
            have B5 := Lib.hid (below_step B4.out b5)
            clear b5
            go_wp2_with fail
            go_ret
            exact ⟨rfl, B5.out⟩
    · have hr' : t < 0 ∨ 4611686018427387703 < t := by omega
      have HV := Lib.hid hv
      clear hv
      clear hr
      rcases hr' with h | h
      · go_enter Try.func7, Try.ntmps7
        go_wp2_with fail
        refine (refRight_v P B _ HV.out _).mono ?_
        rintro e w1 ⟨rfl, b1⟩
        replace t1 := cell_below b1 t1
        replace t2 := cell_below b1 t2
        have B1 := Lib.hid (below_step B0.out b1)
        clear b1
        go_wp2_with fail
        refine (knows9_any _).mono ?_
        rintro e w2 ⟨rfl, b2⟩
        have B2 := Lib.hid (below_step B1.out b2)
        clear b2
        go_wp2_with fail
        go_ret
        exact ⟨rfl, B2.out⟩
      · go_enter Try.func7, Try.ntmps7
        go_wp2_with fail
        refine (refRight_v P B _ HV.out _).mono ?_
        rintro e w1 ⟨rfl, b1⟩
        replace t1 := cell_below b1 t1
        replace t2 := cell_below b1 t2
        have B1 := Lib.hid (below_step B0.out b1)
        clear b1
        go_wp2_with fail
        refine (knows9_any _).mono ?_
        rintro e w2 ⟨rfl, b2⟩
        have B2 := Lib.hid (below_step B1.out b2)
        clear b2
        go_wp2_with fail
        go_ret
        exact ⟨rfl, B2.out⟩

set_option maxRecDepth 100000 in
theorem lifted (os : Os) (started : os.Started) (H : Type) (enc : TypeId × Value → H) :
    ReturnsInHanded {} Try.checked os 7 .any (Rows.supplyRisesSpec.pre6 enc Try.prog Try.f7 Rows.supplyRisesRow.domain false) (Rows.supplyRisesSpec.post enc Try.prog Try.f7 false true false false) := by
  refine returnsInHanded_of_change (C := Try.checked) own started (by kernel_rfl) Try.func7
    (ChangeSpec.witness6 (enc := enc) (C := Try.checked) false ⟨#[], #[.agg #[.int .i64 0, .int .i64 0], .int .i64 0], []⟩ 8 (by kernel_rfl) (by kernel_rfl) (by kernel_rfl) (by kernel_rfl)) ?_
  intro W base args ds gs before hval0 hW hcnd _
  have hval : ∀ (j : Nat) t v, Try.f7.params[j]? = some t → args[j]? = some v → Value.okWide Try.prog W .any base t v := hval0
  have hW' := hW
  obtain ⟨p, q, hA0, hV, rfl, hfz, hnd⟩ := hW
  have hA : DataW.TrodAll enc Try.prog W 0 (fun _ => true) true Try.f7.params.toList args.toList ds p := hA0
  rw [Try.params7] at hA hval
  obtain ⟨v0, v1, d0, d1, p0, p1, rfl, rfl, rfl, h0, h1⟩ := trodAll_two hA
  obtain ⟨rfl, rfl⟩ := trodVars_none hV
  obtain ⟨P0, B0, rfl, fp0, fb0⟩ := Sp.open_face (hval 0 23 v0 rfl rfl) h0
  obtain ⟨n1, rfl, f1⟩ := Mm.open_num' Try.underlying3 (hval 1 3 v1 rfl rfl) h1
  clear hA0 hval0
  refine (walk P0 B0 n1 W fp0 fb0 f1).mono fun e W' ⟨he, bel⟩ => ?_
  subst he
  have hlt0 : ∀ x ∈ p0, x.block < W.heap.size := fun x hx => hW'.lt x (by simp [hx])
  have hlt1 : ∀ x ∈ p1, x.block < W.heap.size := fun x hx => hW'.lt x (by simp [hx])
  exact ⟨_, rfl, _, _, _, [], _, [], hW', trodAll_mk1 (shut_bool Try.underlying4 _), trodAll_mk2 (Below.trod laidOut (by kernel_rfl) (of_decide_eq_true (by kernel_rfl)) h0 bel hlt0) (Below.trod laidOut (by kernel_rfl) (of_decide_eq_true (by kernel_rfl)) h1 bel hlt1), rfl, bel.frame _, fun h => by cases h⟩

/-- The statement. -/
theorem proved : Rows.SupplyRisesSaid :=
  OpenClaim.holds_of_wide 7 Try.f7 rfl rfl rfl rfl rfl rfl rfl ⟨rfl, rfl, rfl, rfl, rfl⟩ rfl rfl rfl rfl rfl (by kernel_rfl) Try.func7 (by kernel_rfl)
    (of_decide_eq_true (by kernel_rfl)) (by unfold Func.isWrapper; first | (rw [if_pos (by decide +kernel)]; kernel_rfl) | (rw [if_neg (by decide +kernel)]; exact ⟨rfl, rfl⟩))
    (fun os started H enc _ => lifted os started H enc)
#print axioms proved

end Go.Proofs.Ytjpenmldoaepfaa.supplyRises
