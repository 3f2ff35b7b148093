/-
  For any interface and any number the statement SupplyMore of layer 9 returns true (an interface with a tick more gives not less; one that gives all gives all), and its arguments read as before. No condition.
-/
import Derived.Test.YtjpenmldoaepfaaLaw09Args
import Derived.Test.YtjpenmldoaepfaaLaw09Refs
import Derived.Test.YtjpenmldoaepfaaLaw09Knows
namespace Go.Proofs.Ytjpenmldoaepfaa.supplyMore
open Go.ChangeShapes Go.WideShapes Go.ChangeAt Go.RowKit
open Mm Sp

theorem bz {p b k : Nat} (h4 : 1 ≤ b) (h5 : b ≤ p) (h6 : p ≤ 200) (hk : k ≤ 4611686018427387903) (B : Int) (hB : B = b) (z : Nat) (hz : sbf p b k = z) : ((bndZ p B k : Nat) : Int) = z ∧ ((bndE p B k : Nat) : Int) = 0 := by
  subst hB
  have h : okB p b k = true := ok_iff.2 ⟨right_iff.2 ⟨by omega, by omega, by omega⟩, by omega, by omega⟩
  unfold bndZ bndE
  rw [h]
  simp only [if_true, Int.toNat_natCast, hz]
  exact ⟨trivial, rfl⟩

set_option maxHeartbeats 3200000 in
theorem walk (P B t : Int) (w : World) (_ : Fit P) (_ : Fit B) (_ : Fit t) :
    Calls Try.prog 8 #[.agg #[.int .i64 P, .int .i64 B], .int .i64 t] w fun e w' => e = .returned (.bool true) ∧ Below w.heap.size w w' := by
  obtain ⟨t1, t2⟩ := fc_new w P B
  have t3 : (w.alloc (Obj.cells #[.int .i64 P, .int .i64 B] 23)).frozen? ⟨w.heap.size, 1, none⟩ = false := by simp
  have B0 := Lib.hid (below_one w (Obj.cells #[.int .i64 P, .int .i64 B] 23))
  cases hv : rightB P B with
  | false =>
    have HV := Lib.hid hv
    clear hv
    go_enter Try.func8, Try.ntmps8
    go_wp2_with fail
    refine (refRight_v P B _ HV.out _).mono ?_
    rintro e w1 ⟨rfl, b1⟩
    have B1 := Lib.hid (below_step B0.out b1)
    clear b1
    go_wp2_with fail
    refine (knows9_any _).mono ?_
    rintro e w2 ⟨rfl, b2⟩
    have B2 := Lib.hid (below_step B1.out b2)
    clear b2
    go_wp2_with fail
    go_ret
    exact ⟨rfl, B2.out⟩
  | true =>
    by_cases hr : 0 ≤ t ∧ t ≤ 4611686018427387903
    · obtain ⟨p, b, e1, e2, h4, h5, h6⟩ := right_nat hv
      obtain ⟨k, e3⟩ : ∃ k : Nat, t = k := ⟨t.toNat, by omega⟩
      subst e1
      subst e2
      subst e3
      have hk : k ≤ 4611686018427387903 := by omega
      obtain ⟨x, hx⟩ : ∃ x, sbf p b k = x := ⟨_, rfl⟩
      have E1 := Lib.hid (bz h4 h5 h6 hk (b : Int) rfl x hx)
      have HV := Lib.hid hv
      clear hv
      by_cases hbp : b < p
      · obtain ⟨y, hy⟩ : ∃ y, sbf p (b + 1) k = y := ⟨_, rfl⟩
        have E2 := Lib.hid (bz (b := b + 1) (by omega) hbp h6 hk ((b : Int) + 1) (by push_cast; rfl) y hy)
        have hxy : x ≤ y := by rw [← hx, ← hy]; exact sbf_more h4 hbp k
        have HX := Lib.hid hx
        have HY := Lib.hid hy
        clear hx hy
        go_enter Try.func8, Try.ntmps8
        go_wp2_with fail
        refine (refRight_v p b _ HV.out _).mono ?_
        rintro e w1 ⟨rfl, b1⟩
        replace t3 := frozen_below b1 t2 t3
        replace t1 := cell_below b1 t1
        replace t2 := cell_below b1 t2
        have B1 := Lib.hid (below_step B0.out b1)
        clear b1
        go_wp2_with fail
        refine (bound_v p b k _ _ E1.out.1 E1.out.2 _).mono ?_
        rintro e w2 ⟨rfl, b2⟩
        replace t3 := frozen_below b2 t2 t3
        replace t1 := cell_below b2 t1
        replace t2 := cell_below b2 t2
        have B2 := Lib.hid (below_step B1.out b2)
        clear b2
        have n1 : (⟨w.heap.size, 1, none⟩ : Addr) ≠ ⟨w.heap.size, 0, none⟩ := fun e => by injection e with _ e; cases e
        have y1 := (World.cell?_setCell_other w2 ⟨w.heap.size, 1, none⟩ ⟨w.heap.size, 0, none⟩ (.int .i64 ((b : Int) + 1)) n1).trans t1
        have y2 := World.cell?_setCell_same w2 ⟨w.heap.size, 1, none⟩ (.int .i64 ((b : Int) + 1)) t2
        have B3 : Hid (Below w.heap.size w (w2.setCell ⟨w.heap.size, 1, none⟩ (.int .i64 ((b : Int) + 1)))) := B2.out.setCell (Nat.le_refl _) _
        clear n1
        go_wp2_with fail
        refine (bound_v p ((b : Int) + 1) k _ _ E2.out.1 E2.out.2 _).mono ?_
        rintro e w4 ⟨rfl, b4⟩
        have B4 := Lib.hid (below_step B3.out b4)
        clear b4
        go_wp2_with fail
        refine (knows9_any _).mono ?_
        rintro e w5 ⟨rfl, b5⟩
        have B5 := Lib.hid (below_step B4.out b5)
        clear b5
        go_wp2_with fail
        go_ret
        exact ⟨rfl, B5.out⟩
      · have hbp' : b = p := by omega
        subst hbp'
        have hx2 : x = k := by rw [← hx]; exact sbf_all b k
        subst hx2
        have HX := Lib.hid hx
        clear hx
        go_enter Try.func8, Try.ntmps8
        go_wp2_with fail
        refine (refRight_v b b _ HV.out _).mono ?_
        rintro e w1 ⟨rfl, b1⟩
        replace t3 := frozen_below b1 t2 t3
        replace t1 := cell_below b1 t1
        replace t2 := cell_below b1 t2
        have B1 := Lib.hid (below_step B0.out b1)
        clear b1
        go_wp2_with fail
        refine (bound_v b b x _ _ E1.out.1 E1.out.2 _).mono ?_
        rintro e w2 ⟨rfl, b2⟩
        replace t3 := frozen_below b2 t2 t3
        replace t1 := cell_below b2 t1
        replace t2 := cell_below b2 t2
        have B2 := Lib.hid (below_step B1.out b2)
        clear b2
        have n1 : (⟨w.heap.size, 1, none⟩ : Addr) ≠ ⟨w.heap.size, 0, none⟩ := fun e => by injection e with _ e; cases e
        have y1 := (World.cell?_setCell_other w2 ⟨w.heap.size, 1, none⟩ ⟨w.heap.size, 0, none⟩ (.int .i64 ((b : Int) + 1)) n1).trans t1
        have y2 := World.cell?_setCell_same w2 ⟨w.heap.size, 1, none⟩ (.int .i64 ((b : Int) + 1)) t2
        have B3 : Hid (Below w.heap.size w (w2.setCell ⟨w.heap.size, 1, none⟩ (.int .i64 ((b : Int) + 1)))) := B2.out.setCell (Nat.le_refl _) _
        clear n1
        go_wp2_with fail
        refine (knows9_any _).mono ?_
        rintro e w4 ⟨rfl, b4⟩
        have B4 := Lib.hid (below_step B3.out b4)
        clear b4
        go_wp2_with fail
        go_ret
        exact ⟨rfl, B4.out⟩
    · have hr' : t < 0 ∨ 4611686018427387903 < t := by omega
      have HV := Lib.hid hv
      clear hv
      clear hr
      rcases hr' with h | h
      · go_enter Try.func8, Try.ntmps8
        go_wp2_with fail
        refine (refRight_v P B _ HV.out _).mono ?_
        rintro e w1 ⟨rfl, b1⟩
        have B1 := Lib.hid (below_step B0.out b1)
        clear b1
        go_wp2_with fail
        refine (knows9_any _).mono ?_
        rintro e w2 ⟨rfl, b2⟩
        have B2 := Lib.hid (below_step B1.out b2)
        clear b2
        go_wp2_with fail
        go_ret
        exact ⟨rfl, B2.out⟩
      · go_enter Try.func8, Try.ntmps8
        go_wp2_with fail
        refine (refRight_v P B _ HV.out _).mono ?_
        rintro e w1 ⟨rfl, b1⟩
        have B1 := Lib.hid (below_step B0.out b1)
        clear b1
        go_wp2_with fail
        refine (knows9_any _).mono ?_
        rintro e w2 ⟨rfl, b2⟩
        have B2 := Lib.hid (below_step B1.out b2)
        clear b2
        go_wp2_with fail
        go_ret
        exact ⟨rfl, B2.out⟩

set_option maxRecDepth 100000 in
theorem lifted (os : Os) (started : os.Started) (H : Type) (enc : TypeId × Value → H) :
    ReturnsInHanded {} Try.checked os 8 .any (Rows.supplyMoreSpec.pre6 enc Try.prog Try.f8 Rows.supplyMoreRow.domain false) (Rows.supplyMoreSpec.post enc Try.prog Try.f8 false true false false) := by
  refine returnsInHanded_of_change (C := Try.checked) own started (by kernel_rfl) Try.func8
    (ChangeSpec.witness6 (enc := enc) (C := Try.checked) false ⟨#[], #[.agg #[.int .i64 0, .int .i64 0], .int .i64 0], []⟩ 8 (by kernel_rfl) (by kernel_rfl) (by kernel_rfl) (by kernel_rfl)) ?_
  intro W base args ds gs before hval0 hW hcnd _
  have hval : ∀ (j : Nat) t v, Try.f8.params[j]? = some t → args[j]? = some v → Value.okWide Try.prog W .any base t v := hval0
  have hW' := hW
  obtain ⟨p, q, hA0, hV, rfl, hfz, hnd⟩ := hW
  have hA : DataW.TrodAll enc Try.prog W 0 (fun _ => true) true Try.f8.params.toList args.toList ds p := hA0
  rw [Try.params8] at hA hval
  obtain ⟨v0, v1, d0, d1, p0, p1, rfl, rfl, rfl, h0, h1⟩ := trodAll_two hA
  obtain ⟨rfl, rfl⟩ := trodVars_none hV
  obtain ⟨P0, B0, rfl, fp0, fb0⟩ := Sp.open_face (hval 0 23 v0 rfl rfl) h0
  obtain ⟨n1, rfl, f1⟩ := Mm.open_num' Try.underlying3 (hval 1 3 v1 rfl rfl) h1
  clear hA0 hval0
  refine (walk P0 B0 n1 W fp0 fb0 f1).mono fun e W' ⟨he, bel⟩ => ?_
  subst he
  have hlt0 : ∀ x ∈ p0, x.block < W.heap.size := fun x hx => hW'.lt x (by simp [hx])
  have hlt1 : ∀ x ∈ p1, x.block < W.heap.size := fun x hx => hW'.lt x (by simp [hx])
  exact ⟨_, rfl, _, _, _, [], _, [], hW', trodAll_mk1 (shut_bool Try.underlying4 _), trodAll_mk2 (Below.trod laidOut (by kernel_rfl) (of_decide_eq_true (by kernel_rfl)) h0 bel hlt0) (Below.trod laidOut (by kernel_rfl) (of_decide_eq_true (by kernel_rfl)) h1 bel hlt1), rfl, bel.frame _, fun h => by cases h⟩

/-- The statement. -/
theorem proved : Rows.SupplyMoreSaid :=
  OpenClaim.holds_of_wide 8 Try.f8 rfl rfl rfl rfl rfl rfl rfl ⟨rfl, rfl, rfl, rfl, rfl⟩ rfl rfl rfl rfl rfl (by kernel_rfl) Try.func8 (by kernel_rfl)
    (of_decide_eq_true (by kernel_rfl)) (by unfold Func.isWrapper; first | (rw [if_pos (by decide +kernel)]; kernel_rfl) | (rw [if_neg (by decide +kernel)]; exact ⟨rfl, rfl⟩))
    (fun os started H enc _ => lifted os started H enc)
#print axioms proved

end Go.Proofs.Ytjpenmldoaepfaa.supplyMore
