/-
  For any interface, any list and any number the statement SupplyLeast of layer 9 returns true (no pattern gives less than the bound, in as many ticks one behind the other, of its whole periods), and its arguments read as before. No condition.
-/
import Derived.Test.YtjpenmldoaepfaaLaw09Args
import Derived.Test.YtjpenmldoaepfaaLaw09Refs
import Derived.Test.YtjpenmldoaepfaaLaw09Knows
namespace Go.Proofs.Ytjpenmldoaepfaa.supplyLeast
open Go.ChangeShapes Go.WideShapes Go.ChangeAt Go.RowKit
open Mm Sp

theorem bz {p b k : Nat} (h4 : 1 ≤ b) (h5 : b ≤ p) (h6 : p ≤ 200) (hk : k ≤ 4611686018427387903) (z : Nat) (hz : sbf p b k = z) : ((bndZ p b k : Nat) : Int) = z ∧ ((bndE p b k : Nat) : Int) = 0 := by
  have h : okB p b k = true := ok_iff.2 ⟨right_iff.2 ⟨by omega, by omega, by omega⟩, by omega, by omega⟩
  unfold bndZ bndE
  rw [h]
  simp only [if_true, Int.toNat_natCast, hz]
  exact ⟨trivial, rfl⟩
theorem in_take (l : List Bool) {a i j : Nat} (hij : i ≤ j) (hj : j ≤ a) : inN (l.take a) i j = inN l i j := by
  unfold inN
  rw [cnt_congr (p := at_ (l.take a)) (q := at_ l) (n := j) (fun x hx => at_take (by omega)), cnt_congr (p := at_ (l.take a)) (q := at_ l) (n := i) (fun x hx => at_take (by omega))]
/-- no pattern gives less than the bound -/
theorem least_bound {p b k : Nat} {l : List Bool} (h1 : 1 ≤ b) (h2 : b ≤ p) (hl : legB p b l = true) {a : Nat} (ha : l.length / p * p = a) (hk : k ≤ a) : sbf p b k ≤ leastZ (l.take a) k := by
  have hal : a ≤ l.length := by rw [← ha]; exact Nat.div_mul_le_self _ _
  have hlen : (l.take a).length = a := by rw [List.length_take]; omega
  rw [leastZ_in (by omega), hlen]
  refine leastTo_ge fun j hj => ?_
  rw [in_take l (by omega) (by omega)]
  have hleg : ∀ q, q < l.length / p → cnt (at_ l) (q * p) + b ≤ cnt (at_ l) ((q + 1) * p) := by
    intro q hq
    have := leg_iff.1 hl q hq
    unfold inN at this
    rw [show (q + 1) * p = q * p + p from by rw [Nat.add_mul]; omega]
    omega
  have := least_any h1 h2 hleg (s := j) (t := k) (by omega)
  unfold inN
  omega

set_option maxHeartbeats 3200000 in
theorem walk (P B : Int) (A : Option Addr) (c : Nat) (l : List Bool) (t : Int) (w : World) (_ : Fit P) (_ : Fit B) (hr : Rd w A c l) (ft : Fit t) :
    Calls Try.prog 5 #[.agg #[.int .i64 P, .int .i64 B], .slice A l.length c, .int .i64 t] w fun e w' => e = .returned (.bool true) ∧ Below w.heap.size w w' := by
  obtain ⟨t1, t2⟩ := fc_new w P B
  have b0 := below_one w (Obj.cells #[.int .i64 P, .int .i64 B] 23)
  have hm := hr.max
  have hle := hr.le
  unfold maxLen at hm
  by_cases hlen : l.length ≤ 600
  · have HT : Hid (FL _ A c l) := ⟨by omega, hr.below b0⟩
    have B0 := Lib.hid b0
    have FT := Lib.hid ft
    clear b0 ft
    cases hv : legalB P B l with
    | false =>
      have HV := Lib.hid hv
      have HR := Lib.hid hr
      clear hv hr
      go_enter Try.func5, Try.ntmps5
      go_wp2_with fail
      refine (refLegal_v P B A c l _ HV.out _ rfl _ HT.out).mono ?_
      rintro e w1 ⟨rfl, b1⟩
      have B1 := Lib.hid (below_step B0.out b1)
      clear b1
      go_wp2_with fail
      refine (knows9_any _).mono ?_
      rintro e w2 ⟨rfl, b2⟩
      have B2 := Lib.hid (below_step B1.out b2)
      clear b2
      go_wp2_with fail
      go_ret
      exact ⟨rfl, B2.out⟩
    | true =>
      by_cases ht : t < 1
      · skip
        have HV := Lib.hid hv
        have HR := Lib.hid hr
        clear hv hr
        go_enter Try.func5, Try.ntmps5
        go_wp2_with fail
        refine (refLegal_v P B A c l _ HV.out _ rfl _ HT.out).mono ?_
        rintro e w1 ⟨rfl, b1⟩
        have B1 := Lib.hid (below_step B0.out b1)
        clear b1
        go_wp2_with fail
        refine (knows9_any _).mono ?_
        rintro e w2 ⟨rfl, b2⟩
        have B2 := Lib.hid (below_step B1.out b2)
        clear b2
        go_wp2_with fail
        go_ret
        exact ⟨rfl, B2.out⟩
      · obtain ⟨hv1, hv2⟩ := legal_iff.1 hv
        obtain ⟨p, b, e1, e2, h4, h5, h6⟩ := right_nat hv1
        obtain ⟨k, e3⟩ : ∃ k : Nat, t = k := ⟨t.toNat, by omega⟩
        subst e1
        subst e2
        subst e3
        rw [Int.toNat_natCast, Int.toNat_natCast] at hv2
        obtain ⟨m, hm0⟩ : ∃ m, l.length / p = m := ⟨_, rfl⟩
        obtain ⟨a, ha⟩ : ∃ a, m * p = a := ⟨_, rfl⟩
        have hal : a ≤ l.length := by rw [← ha, ← hm0]; exact Nat.div_mul_le_self _ _
        have hml : m ≤ l.length := by rw [← hm0]; exact Nat.div_le_self _ _
        have hk1 : 1 ≤ k := by omega
        have HLEN : Hid ((l.take a).length = a) := by show List.length _ = _; rw [List.length_take]; omega
        have q1 : ((l.length : Int)) / (p : Int) = (m : Int) := by rw [← Int.natCast_ediv, hm0]
        have q2 : IntKind.i64.wrap ((l.length : Int).tdiv (p : Int)) = (m : Int) := by rw [IntWalk.i64_quo _ _ ⟨by omega, by omega, by omega⟩, q1]
        have q3 : IntKind.i64.wrap (m : Int) = (m : Int) := IntWalk.i64_in _ (by omega)
        have q4 : IntKind.i64.wrap ((m : Int) * (p : Int)) = (a : Int) := by
          rw [show (m : Int) * (p : Int) = (a : Int) from by rw [← ha]; push_cast; rfl]
          exact IntWalk.i64_in _ (by omega)
        have i2 : ¬ (p : Int) = 0 := by omega
        have i5 : ¬ p = 0 := by omega
        have i6 : decide ((p : Int) = 0) = false := decide_eq_false i2
        have i7 : ((p : Int) == 0) = false := beq_eq_false_iff_ne.2 i2
        have i8 : (a : Int) ≤ (c : Int) := by omega
        have i9 : (0 : Int) ≤ (a : Int) := by omega
        by_cases hka : k ≤ a
        · obtain ⟨z, hz⟩ : ∃ z, sbf p b k = z := ⟨_, rfl⟩
          obtain ⟨y, hy⟩ : ∃ y, leastZ (l.take a) k = y := ⟨_, rfl⟩
          have hzy : z ≤ y := by rw [← hz, ← hy]; exact least_bound h4 h5 hv2 (by rw [hm0, ha]) hka
          have E1 := Lib.hid (bz h4 h5 h6 (k := k) (by omega) z hz)
          have HYY : Hid (((leastZ (l.take a) k : Nat) : Int) = (y : Int)) := by show _ = _; rw [hy]
          obtain ⟨bb, off, rfl, _⟩ := hr.flag (by omega)
          have HV := Lib.hid hv
          have HV2 := Lib.hid hv2
          have HM0 := Lib.hid hm0
          have HA := Lib.hid ha
          have HZ := Lib.hid hz
          have HY := Lib.hid hy
          have HR := Lib.hid hr
          clear hv hv2 hm0 ha hz hy hr
          go_enter Try.func5, Try.ntmps5
          go_wp2_with fail
          refine (refLegal_v p b _ _ l _ HV.out _ rfl _ HT.out).mono ?_
          rintro e w1 ⟨rfl, b1⟩
          replace t1 := cell_below b1 t1
          replace t2 := cell_below b1 t2
          have B1 := Lib.hid (below_step B0.out b1)
          replace HT := Lib.hid (HT.out.below b1)
          clear b1
          go_wp2_with fail
          have z1 := t1
          have z2 := t2
          replace t1 := cell_bw t1
          replace t2 := cell_bw t2
          refine wp_region_bw (by kernel_rfl) (by kernel_rfl) ?_
          repeat
            (with_reducible refine wpQuiet_step (fun K hK => ?_)
             go_simp
             first
               | (with_reducible refine hK _ ?_
                  clear hK K)
               | (rw [if_neg]
                  rotate_left
                  focus (intro h; cases h; done)
                  with_reducible refine hK _ ?_
                  clear hK K)
               | (apply Exists.intro
                  refine ⟨fun _ => ?_, hK _ ?_⟩
                  (fail)
                  clear hK K))
          with_reducible refine wpQuiet_nil ?_
          intro wb hw'
          obtain ⟨⟨wb', lb⟩, hw''⟩ := hw'
          subst hw''
          replace z1 := cell_below lb z1
          replace z2 := cell_below lb z2
          have B2 := Lib.hid (below_step B1.out lb)
          have HT2 : Hid (FL wb _ _ (l.take a)) := ⟨by have := HT.out.1; rw [List.length_take]; omega, RdS.front (HT.out.2.below lb) a⟩
          clear lb t1 t2
          go_wp2_with fail
          refine (bound_v p b k _ _ E1.out.1 E1.out.2 _).mono ?_
          rintro e w3 ⟨rfl, b3⟩
          have B3 := Lib.hid (below_step B2.out b3)
          replace HT2 := Lib.hid (HT2.out.below b3)
          clear b3
          go_wp2_with fail
          refine (least_v _ c (l.take a) k y HYY.out _ HLEN.out _ HT2.out).mono ?_
          rintro e w4 ⟨rfl, b4⟩
          have B4 := Lib.hid (below_step B3.out b4)
          clear b4
          go_wp2_with fail
          refine (knows9_any _).mono ?_
          rintro e w5 ⟨rfl, b5⟩
          have B5 := Lib.hid (below_step B4.out b5)
          clear b5
          go_wp2_with fail
          go_ret
          exact ⟨rfl, B5.out⟩
        · have HYY : Hid (((leastZ (l.take a) k : Nat) : Int) = 0) := by show _ = _; rw [leastZ_out (.inr (by have := HLEN.out; omega))]; rfl
          by_cases h0 : 0 < l.length
          · obtain ⟨bb, off, rfl, _⟩ := hr.flag h0
            have HV := Lib.hid hv
            have HV2 := Lib.hid hv2
            have HM0 := Lib.hid hm0
            have HA := Lib.hid ha
            have HR := Lib.hid hr
            clear hv hv2 hm0 ha hr
            go_enter Try.func5, Try.ntmps5
            go_wp2_with fail
            refine (refLegal_v p b _ _ l _ HV.out _ rfl _ HT.out).mono ?_
            rintro e w1 ⟨rfl, b1⟩
            replace t1 := cell_below b1 t1
            replace t2 := cell_below b1 t2
            have B1 := Lib.hid (below_step B0.out b1)
            replace HT := Lib.hid (HT.out.below b1)
            clear b1
            go_wp2_with fail
            have z1 := t1
            have z2 := t2
            replace t1 := cell_bw t1
            replace t2 := cell_bw t2
            refine wp_region_bw (by kernel_rfl) (by kernel_rfl) ?_
            repeat
              (with_reducible refine wpQuiet_step (fun K hK => ?_)
               go_simp
               first
                 | (with_reducible refine hK _ ?_
                    clear hK K)
                 | (rw [if_neg]
                    rotate_left
                    focus (intro h; cases h; done)
                    with_reducible refine hK _ ?_
                    clear hK K)
                 | (apply Exists.intro
                    refine ⟨fun _ => ?_, hK _ ?_⟩
                    (fail)
                    clear hK K))
            with_reducible refine wpQuiet_nil ?_
            intro wb hw'
            obtain ⟨⟨wb', lb⟩, hw''⟩ := hw'
            subst hw''
            replace z1 := cell_below lb z1
            replace z2 := cell_below lb z2
            have B2 := Lib.hid (below_step B1.out lb)
            have HT2 : Hid (FL wb _ _ (l.take a)) := ⟨by have := HT.out.1; rw [List.length_take]; omega, RdS.front (HT.out.2.below lb) a⟩
            clear lb t1 t2
            go_wp2_with fail
            refine (least_v _ c (l.take a) k 0 HYY.out _ HLEN.out _ HT2.out).mono ?_
            rintro e w3 ⟨rfl, b3⟩
            have B3 := Lib.hid (below_step B2.out b3)
            clear b3
            go_wp2_with fail
            refine (knows9_any _).mono ?_
            rintro e w4 ⟨rfl, b4⟩
            have B4 := Lib.hid (below_step B3.out b4)
            clear b4
            go_wp2_with fail
            go_ret
            exact ⟨rfl, B4.out⟩
          · have ha0 : a = 0 := by omega
            subst ha0
            rcases A with _ | a0
            · have hc0 := hr.none_ rfl
              subst hc0
              have HV := Lib.hid hv
              have HV2 := Lib.hid hv2
              have HM0 := Lib.hid hm0
              have HA := Lib.hid ha
              have HR := Lib.hid hr
              clear hv hv2 hm0 ha hr
              go_enter Try.func5, Try.ntmps5
              go_wp2_with fail
              refine (refLegal_v p b _ _ l _ HV.out _ rfl _ HT.out).mono ?_
              rintro e w1 ⟨rfl, b1⟩
              replace t1 := cell_below b1 t1
              replace t2 := cell_below b1 t2
              have B1 := Lib.hid (below_step B0.out b1)
              replace HT := Lib.hid (HT.out.below b1)
              clear b1
              go_wp2_with fail
              have z1 := t1
              have z2 := t2
              replace t1 := cell_bw t1
              replace t2 := cell_bw t2
              refine wp_region_bw (by kernel_rfl) (by kernel_rfl) ?_
              repeat
                (with_reducible refine wpQuiet_step (fun K hK => ?_)
                 go_simp
                 first
                   | (with_reducible refine hK _ ?_
                      clear hK K)
                   | (rw [if_neg]
                      rotate_left
                      focus (intro h; cases h; done)
                      with_reducible refine hK _ ?_
                      clear hK K)
                   | (apply Exists.intro
                      refine ⟨fun _ => ?_, hK _ ?_⟩
                      (fail)
                      clear hK K))
              with_reducible refine wpQuiet_nil ?_
              intro wb hw'
              obtain ⟨⟨wb', lb⟩, hw''⟩ := hw'
              subst hw''
              replace z1 := cell_below lb z1
              replace z2 := cell_below lb z2
              have B2 := Lib.hid (below_step B1.out lb)
              have HT2 : Hid (FL wb _ _ (l.take 0)) := ⟨by have := HT.out.1; rw [List.length_take]; omega, RdS.front (HT.out.2.below lb) 0⟩
              clear lb t1 t2
              go_wp2_with fail
              refine (least_v _ _ (l.take 0) k 0 HYY.out _ HLEN.out _ HT2.out).mono ?_
              rintro e w3 ⟨rfl, b3⟩
              have B3 := Lib.hid (below_step B2.out b3)
              clear b3
              go_wp2_with fail
              refine (knows9_any _).mono ?_
              rintro e w4 ⟨rfl, b4⟩
              have B4 := Lib.hid (below_step B3.out b4)
              clear b4
              go_wp2_with fail
              go_ret
              exact ⟨rfl, B4.out⟩
            · skip
              have HV := Lib.hid hv
              have HV2 := Lib.hid hv2
              have HM0 := Lib.hid hm0
              have HA := Lib.hid ha
              have HR := Lib.hid hr
              clear hv hv2 hm0 ha hr
              go_enter Try.func5, Try.ntmps5
              go_wp2_with fail
              refine (refLegal_v p b _ _ l _ HV.out _ rfl _ HT.out).mono ?_
              rintro e w1 ⟨rfl, b1⟩
              replace t1 := cell_below b1 t1
              replace t2 := cell_below b1 t2
              have B1 := Lib.hid (below_step B0.out b1)
              replace HT := Lib.hid (HT.out.below b1)
              clear b1
              go_wp2_with fail
              have z1 := t1
              have z2 := t2
              replace t1 := cell_bw t1
              replace t2 := cell_bw t2
              refine wp_region_bw (by kernel_rfl) (by kernel_rfl) ?_
              repeat
                (with_reducible refine wpQuiet_step (fun K hK => ?_)
                 go_simp
                 first
                   | (with_reducible refine hK _ ?_
                      clear hK K)
                   | (rw [if_neg]
                      rotate_left
                      focus (intro h; cases h; done)
                      with_reducible refine hK _ ?_
                      clear hK K)
                   | (apply Exists.intro
                      refine ⟨fun _ => ?_, hK _ ?_⟩
                      (fail)
                      clear hK K))
              with_reducible refine wpQuiet_nil ?_
              intro wb hw'
              obtain ⟨⟨wb', lb⟩, hw''⟩ := hw'
              subst hw''
              replace z1 := cell_below lb z1
              replace z2 := cell_below lb z2
              have B2 := Lib.hid (below_step B1.out lb)
              have HT2 : Hid (FL wb _ _ (l.take 0)) := ⟨by have := HT.out.1; rw [List.length_take]; omega, RdS.front (HT.out.2.below lb) 0⟩
              clear lb t1 t2
              go_wp2_with fail
              refine (least_v _ c (l.take 0) k 0 HYY.out _ HLEN.out _ HT2.out).mono ?_
              rintro e w3 ⟨rfl, b3⟩
              have B3 := Lib.hid (below_step B2.out b3)
              clear b3
              go_wp2_with fail
              refine (knows9_any _).mono ?_
              rintro e w4 ⟨rfl, b4⟩
              have B4 := Lib.hid (below_step B3.out b4)
              clear b4
              go_wp2_with fail
              go_ret
              exact ⟨rfl, B4.out⟩
  · have B0 := Lib.hid b0
    clear b0 hr
    go_enter Try.func5, Try.ntmps5
    go_wp2_with fail
    refine (knows9_any _).mono ?_
    rintro e w1 ⟨rfl, b1⟩
    have B1 := Lib.hid (below_step B0.out b1)
    clear b1
    go_wp2_with fail
    go_ret
    exact ⟨rfl, B1.out⟩

set_option maxRecDepth 100000 in
theorem lifted (os : Os) (started : os.Started) (H : Type) (enc : TypeId × Value → H) :
    ReturnsInHanded {} Try.checked os 5 .any (Rows.supplyLeastSpec.pre6 enc Try.prog Try.f5 Rows.supplyLeastRow.domain false) (Rows.supplyLeastSpec.post enc Try.prog Try.f5 false true false false) := by
  refine returnsInHanded_of_change (C := Try.checked) own started (by kernel_rfl) Try.func5
    (ChangeSpec.witness6 (enc := enc) (C := Try.checked) false ⟨#[], #[.agg #[.int .i64 0, .int .i64 0], .slice none 0 0, .int .i64 0], []⟩ 8 (by kernel_rfl) (by kernel_rfl) (by kernel_rfl) (by kernel_rfl)) ?_
  intro W base args ds gs before hval0 hW hcnd _
  have hval : ∀ (j : Nat) t v, Try.f5.params[j]? = some t → args[j]? = some v → Value.okWide Try.prog W .any base t v := hval0
  have hW' := hW
  obtain ⟨p, q, hA0, hV, rfl, hfz, hnd⟩ := hW
  have hA : DataW.TrodAll enc Try.prog W 0 (fun _ => true) true Try.f5.params.toList args.toList ds p := hA0
  rw [Try.params5] at hA hval
  obtain ⟨v0, v1, v2, d0, d1, d2, p0, p1, p2, rfl, rfl, rfl, h0, h1, h2⟩ := trodAll_three hA
  obtain ⟨rfl, rfl⟩ := trodVars_none hV
  obtain ⟨P0, B0, rfl, fp0, fb0⟩ := Sp.open_face (hval 0 23 v0 rfl rfl) h0
  obtain ⟨A1, c1, l1, rfl, hr1⟩ := Mm.open_list (α := Bool) Try.underlying31 Mm.opFlags (hval 1 31 v1 rfl rfl) h1
  obtain ⟨n2, rfl, f2⟩ := Mm.open_num' Try.underlying3 (hval 2 3 v2 rfl rfl) h2
  clear hA0 hval0
  refine (walk P0 B0 A1 c1 l1 n2 W fp0 fb0 hr1 f2).mono fun e W' ⟨he, bel⟩ => ?_
  subst he
  have hlt0 : ∀ x ∈ p0, x.block < W.heap.size := fun x hx => hW'.lt x (by simp [hx])
  have hlt1 : ∀ x ∈ p1, x.block < W.heap.size := fun x hx => hW'.lt x (by simp [hx])
  have hlt2 : ∀ x ∈ p2, x.block < W.heap.size := fun x hx => hW'.lt x (by simp [hx])
  exact ⟨_, rfl, _, _, _, [], _, [], hW', trodAll_mk1 (shut_bool Try.underlying4 _), trodAll_mk3 (Below.trod laidOut (by kernel_rfl) (of_decide_eq_true (by kernel_rfl)) h0 bel hlt0) (Below.trod laidOut (by kernel_rfl) (of_decide_eq_true (by kernel_rfl)) h1 bel hlt1) (Below.trod laidOut (by kernel_rfl) (of_decide_eq_true (by kernel_rfl)) h2 bel hlt2), rfl, bel.frame _, fun h => by cases h⟩

/-- The statement. -/
theorem proved : Rows.SupplyLeastSaid :=
  OpenClaim.holds_of_wide 5 Try.f5 rfl rfl rfl rfl rfl rfl rfl ⟨rfl, rfl, rfl, rfl, rfl⟩ rfl rfl rfl rfl rfl (by kernel_rfl) Try.func5 (by kernel_rfl)
    (of_decide_eq_true (by kernel_rfl)) (by unfold Func.isWrapper; first | (rw [if_pos (by decide +kernel)]; kernel_rfl) | (rw [if_neg (by decide +kernel)]; exact ⟨rfl, rfl⟩))
    (fun os started H enc _ => lifted os started H enc)
#print axioms proved

end Go.Proofs.Ytjpenmldoaepfaa.supplyLeast
