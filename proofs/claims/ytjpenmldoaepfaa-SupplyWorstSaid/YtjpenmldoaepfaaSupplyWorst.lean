/-
  For any interface and any number the statement SupplyWorst of layer 9 returns true (the pattern in which the first period's ticks are given at its beginning, all others' at their ends, is legal, and gives just the bound), and its arguments read as before. No condition.
-/
import Derived.Test.YtjpenmldoaepfaaLaw09Args
import Derived.Test.YtjpenmldoaepfaaLaw09Refs
import Derived.Test.YtjpenmldoaepfaaLaw09Knows
namespace Go.Proofs.Ytjpenmldoaepfaa.supplyWorst
open Go.ChangeShapes Go.WideShapes Go.ChangeAt Go.RowKit
open Mm Sp

theorem bz {p b k : Nat} (h4 : 1 ≤ b) (h5 : b ≤ p) (h6 : p ≤ 200) (hk : k ≤ 4611686018427387903) (z : Nat) (hz : sbf p b k = z) : ((bndZ p b k : Nat) : Int) = z ∧ ((bndE p b k : Nat) : Int) = 0 := by
  have h : okB p b k = true := ok_iff.2 ⟨right_iff.2 ⟨by omega, by omega, by omega⟩, by omega, by omega⟩
  unfold bndZ bndE
  rw [h]
  simp only [if_true, Int.toNat_natCast, hz]
  exact ⟨trivial, rfl⟩
/-- the first n ticks of the worst pattern -/
def worstL (p b n : Nat) : List Bool := (List.range n).map (worst p b)
theorem worstL_len (p b n : Nat) : (worstL p b n).length = n := by unfold worstL; rw [List.length_map, List.length_range]
theorem worstL_succ (p b n : Nat) : worstL p b (n + 1) = worstL p b n ++ [worst p b n] := by
  unfold worstL
  rw [List.range_succ, List.map_append]
  rfl
theorem worstL_at {p b n j : Nat} (h : j < n) : at_ (worstL p b n) j = worst p b j := by
  rw [at_get (by rw [worstL_len]; exact h)]
  simp [worstL]
theorem worstL_in {p b n i j : Nat} (hij : i ≤ j) (hj : j ≤ n) : inN (worstL p b n) i j = cnt (worst p b) j - cnt (worst p b) i := by
  unfold inN
  rw [cnt_congr (p := at_ (worstL p b n)) (q := worst p b) (n := j) (fun x hx => worstL_at (by omega)), cnt_congr (p := at_ (worstL p b n)) (q := worst p b) (n := i) (fun x hx => worstL_at (by omega))]
theorem worst_legal {p b : Nat} (h1 : 1 ≤ b) (h2 : b ≤ p) (h3 : p ≤ 200) (n : Nat) : legalB p b (worstL p b n) = true := by
  refine legal_iff.2 ⟨right_iff.2 ⟨by omega, by omega, by omega⟩, ?_⟩
  rw [Int.toNat_natCast, Int.toNat_natCast]
  refine leg_iff.2 fun j hj => ?_
  rw [worstL_len] at hj
  have h4 := period_le (show 0 < p by omega) hj
  rw [worstL_in (by omega) h4]
  have h5 := worst_period h1 h2 j
  rw [show (j + 1) * p = j * p + p from by rw [Nat.add_mul]; omega] at h5
  omega
theorem worst_least {p b n k : Nat} (h1 : 1 ≤ b) (h2 : b ≤ p) (hk : b + k ≤ n) : leastZ (worstL p b n) k = sbf p b k := by
  rw [leastZ_in (by rw [worstL_len]; omega), worstL_len]
  have hu := leastTo_le (worstL p b n) k (n - k) b (by omega)
  rw [worstL_in (by omega) (by omega)] at hu
  have e1 := sbf_worst h1 h2 k
  have e2 := sbf_worst h1 h2 0
  rw [sbf_zero h1 h2, Nat.add_zero] at e2
  have hl : sbf p b k ≤ leastTo (worstL p b n) k (n - k) := by
    refine leastTo_ge fun j hj => ?_
    rw [worstL_in (by omega) (by omega)]
    have := least_any (p := worst p b) (M := j + k) h1 h2 (fun q _ => by rw [worst_period h1 h2]; omega) (s := j) (t := k) (by
      have := Nat.mul_le_mul_left (j + k) (show 1 ≤ p by omega)
      omega)
    omega
  omega

set_option maxHeartbeats 3200000 in
theorem walk (P B t : Int) (w : World) (_ : Fit P) (_ : Fit B) (_ : Fit t) :
    Calls Try.prog 6 #[.agg #[.int .i64 P, .int .i64 B], .int .i64 t] w fun e w' => e = .returned (.bool true) ∧ Below w.heap.size w w' := by
  obtain ⟨t1, t2⟩ := fc_new w P B
  have B0 := Lib.hid (below_one w (Obj.cells #[.int .i64 P, .int .i64 B] 23))
  cases hv : rightB P B with
  | false =>
    have HV := Lib.hid hv
    clear hv
    go_enter Try.func6, Try.ntmps6
    go_wp2_with fail
    refine (refRight_v P B _ HV.out _).mono ?_
    rintro e w1 ⟨rfl, b1⟩
    have B1 := Lib.hid (below_step B0.out b1)
    clear b1
    go_wp2_with fail
    refine (knows9_any _).mono ?_
    rintro e w2 ⟨rfl, b2⟩
    have B2 := Lib.hid (below_step B1.out b2)
    clear b2
    go_wp2_with fail
    go_ret
    exact ⟨rfl, B2.out⟩
  | true =>
    by_cases hr : 1 ≤ t ∧ t ≤ 300
    · obtain ⟨p, b, e1, e2, h4, h5, h6⟩ := right_nat hv
      obtain ⟨k, e3⟩ : ∃ k : Nat, t = k := ⟨t.toNat, by omega⟩
      subst e1
      subst e2
      subst e3
      have hk1 : 1 ≤ k := by omega
      have hk2 : k ≤ 300 := by omega
      obtain ⟨n, hn⟩ : ∃ n, 3 * p + 300 = n := ⟨_, rfl⟩
      have hni : 3 * (p : Int) + 300 = (n : Int) := by omega
      have e4 : IntKind.i64.wrap (3 * (p : Int) + 300) = (n : Int) := by rw [hni]; exact IntWalk.i64_in _ (by omega)
      obtain ⟨z, hz⟩ : ∃ z, sbf p b k = z := ⟨_, rfl⟩
      have E1 := Lib.hid (bz h4 h5 h6 (k := k) (by omega) z hz)
      have EL : Hid (((leastZ (worstL p b n) k : Nat) : Int) = (z : Int)) := by show _ = _; rw [worst_least h4 h5 (by omega), hz]
      have EG := Lib.hid (worst_legal h4 h5 h6 n)
      have hn9 : n ≤ 900 := by omega
      have HV := Lib.hid hv
      have HZ := Lib.hid hz
      have HN := Lib.hid hn
      have HNI := Lib.hid hni
      clear hv hz hn hni
      go_enter Try.func6, Try.ntmps6
      go_wp2_with fail
      refine (refRight_v p b _ HV.out _).mono ?_
      rintro e w1 ⟨rfl, b1⟩
      replace t1 := cell_below b1 t1
      replace t2 := cell_below b1 t2
      have B1 := Lib.hid (below_step B0.out b1)
      clear b1
      go_wp2_with fail
      go_loopw [5, 6] (fun s i wr => ∃ (j : Nat) (A : Option Addr) (c : Nat), i = .int .i64 j ∧ s = .slice A j c ∧ j ≤ n ∧ Hid (Ow wr w1.heap.size 4 A c (worstL p b j)) ∧ Hid (Below w1.heap.size w1 wr)) (fun _ i _ => n - (intOf i).toNat)
      case atStart => exact ⟨0, none, 0, rfl, rfl, Nat.zero_le _, ow_none _ _ _, Below.refl _ _⟩
      case round =>
        obtain ⟨j, A, c, rfl, rfl, hj, HO, HB⟩ := hrel
        replace t1 := cell_below HB.out t1
        replace t2 := cell_below HB.out t2
        by_cases hlt : j < n
        · have hlti : (j : Int) < (n : Int) := by omega
          obtain ⟨v, hw⟩ : ∃ v, worst p b j = v := ⟨_, rfl⟩
          have HW := Lib.hid hw
          clear hw
          go_wp2_with fail
          refine (worst_v p b j v HW.out h4 h5 h6 (by omega) _).mono ?_
          rintro e w2 ⟨rfl, b2⟩
          have HO2 := Lib.hid (HO.out.below b2 (Nat.le_refl _))
          have B2 := Lib.hid (below_step HB.out b2)
          clear b2
          have HRA := Lib.hid (HO2.out.alloc (Obj.cells #[.bool v] 4))
          have HDA := Lib.hid (rd_literal w2 [v] 1 rfl #[.bool v] 4 (by decide) (rows_bool_ v rows_nil_))
          have BA := Lib.hid (below_step B2.out (below_one w2 (Obj.cells #[.bool v] 4)))
          have HJL := Lib.hid (worstL_len p b j)
          have HJ2 : Hid (j + 1 ≤ 1000000) := by show _ ≤ _; omega
          have HNX : Hid (worstL p b j ++ [v] = worstL p b (j + 1)) := by show _ = _; rw [worstL_succ, HW.out]
          go_wp2_with (at_builtin
                       refine list_app_n slF rfl _ _ rfl (base := w1.heap.size) (l := worstL p b j) (r := [v]) (n := j) (m := 1) HJL.out rfl rfl rfl HRA.out HDA.out HJ2.out (by have := BA.out.size; exact this) ?_
                       intro A3 c3 w3 k1 k2 k3
                       have O3 := Lib.hid k1
                       have B3 := Lib.hid (BA.out.trans k2)
                       clear k1 k2 k3)
          go_roundw
          case rel => exact ⟨j + 1, A3, c3, by go_num, rfl, hlt, by rw [← HNX.out]; exact O3, B3⟩
          case measure => simp [intOf]; omega
        · have hjn : j = n := by omega
          subst hjn
          have hlti : ¬ (j : Int) < (j : Int) := by omega
          have B2 := Lib.hid (below_step B1.out HB.out)
          have HJL := Lib.hid (worstL_len p b j)
          have HT : Hid (FL wr A c (worstL p b j)) := ⟨by have := HJL.out; omega, HO.out.rd⟩
          go_wp2_with fail
          refine (bound_v p b k _ _ E1.out.1 E1.out.2 _).mono ?_
          rintro e w3 ⟨rfl, b3⟩
          replace t1 := cell_below b3 t1
          replace t2 := cell_below b3 t2
          have B3 := Lib.hid (below_step B2.out b3)
          replace HT := Lib.hid (HT.out.below b3)
          clear b3
          go_wp2_with fail
          refine (legal_v p b A c (worstL p b j) true EG.out _ HJL.out _ HT.out).mono ?_
          rintro e w4 ⟨rfl, b4⟩
          have B4 := Lib.hid (below_step B3.out b4)
          replace HT := Lib.hid (HT.out.below b4)
          clear b4
          go_wp2_with fail
          refine (least_v A c (worstL p b j) k z EL.out _ HJL.out _ HT.out).mono ?_
          rintro e w5 ⟨rfl, b5⟩
          have B5 := Lib.hid (below_step B4.out b5)
          clear b5
          go_wp2_with fail
          refine (knows9_any _).mono ?_
          rintro e w6 ⟨rfl, b6⟩
          have B6 := Lib.hid (below_step B5.out b6)
          clear b6
          go_wp2_with fail
          go_ret
          exact ⟨rfl, B6.out⟩
    · have hr' : t < 1 ∨ 300 < t := by omega
      have HV := Lib.hid hv
      clear hv
      clear hr
      rcases hr' with h | h
      · go_enter Try.func6, Try.ntmps6
        go_wp2_with fail
        refine (refRight_v P B _ HV.out _).mono ?_
        rintro e w1 ⟨rfl, b1⟩
        have B1 := Lib.hid (below_step B0.out b1)
        clear b1
        go_wp2_with fail
        refine (knows9_any _).mono ?_
        rintro e w2 ⟨rfl, b2⟩
        have B2 := Lib.hid (below_step B1.out b2)
        clear b2
        go_wp2_with fail
        go_ret
        exact ⟨rfl, B2.out⟩
      · go_enter Try.func6, Try.ntmps6
        go_wp2_with fail
        refine (refRight_v P B _ HV.out _).mono ?_
        rintro e w1 ⟨rfl, b1⟩
        have B1 := Lib.hid (below_step B0.out b1)
        clear b1
        go_wp2_with fail
        refine (knows9_any _).mono ?_
        rintro e w2 ⟨rfl, b2⟩
        have B2 := Lib.hid (below_step B1.out b2)
        clear b2
        go_wp2_with fail
        go_ret
        exact ⟨rfl, B2.out⟩

set_option maxRecDepth 100000 in
theorem lifted (os : Os) (started : os.Started) (H : Type) (enc : TypeId × Value → H) :
    ReturnsInHanded {} Try.checked os 6 .any (Rows.supplyWorstSpec.pre6 enc Try.prog Try.f6 Rows.supplyWorstRow.domain false) (Rows.supplyWorstSpec.post enc Try.prog Try.f6 false true false false) := by
  refine returnsInHanded_of_change (C := Try.checked) own started (by kernel_rfl) Try.func6
    (ChangeSpec.witness6 (enc := enc) (C := Try.checked) false ⟨#[], #[.agg #[.int .i64 0, .int .i64 0], .int .i64 0], []⟩ 8 (by kernel_rfl) (by kernel_rfl) (by kernel_rfl) (by kernel_rfl)) ?_
  intro W base args ds gs before hval0 hW hcnd _
  have hval : ∀ (j : Nat) t v, Try.f6.params[j]? = some t → args[j]? = some v → Value.okWide Try.prog W .any base t v := hval0
  have hW' := hW
  obtain ⟨p, q, hA0, hV, rfl, hfz, hnd⟩ := hW
  have hA : DataW.TrodAll enc Try.prog W 0 (fun _ => true) true Try.f6.params.toList args.toList ds p := hA0
  rw [Try.params6] at hA hval
  obtain ⟨v0, v1, d0, d1, p0, p1, rfl, rfl, rfl, h0, h1⟩ := trodAll_two hA
  obtain ⟨rfl, rfl⟩ := trodVars_none hV
  obtain ⟨P0, B0, rfl, fp0, fb0⟩ := Sp.open_face (hval 0 23 v0 rfl rfl) h0
  obtain ⟨n1, rfl, f1⟩ := Mm.open_num' Try.underlying3 (hval 1 3 v1 rfl rfl) h1
  clear hA0 hval0
  refine (walk P0 B0 n1 W fp0 fb0 f1).mono fun e W' ⟨he, bel⟩ => ?_
  subst he
  have hlt0 : ∀ x ∈ p0, x.block < W.heap.size := fun x hx => hW'.lt x (by simp [hx])
  have hlt1 : ∀ x ∈ p1, x.block < W.heap.size := fun x hx => hW'.lt x (by simp [hx])
  exact ⟨_, rfl, _, _, _, [], _, [], hW', trodAll_mk1 (shut_bool Try.underlying4 _), trodAll_mk2 (Below.trod laidOut (by kernel_rfl) (of_decide_eq_true (by kernel_rfl)) h0 bel hlt0) (Below.trod laidOut (by kernel_rfl) (of_decide_eq_true (by kernel_rfl)) h1 bel hlt1), rfl, bel.frame _, fun h => by cases h⟩

/-- The statement. -/
theorem proved : Rows.SupplyWorstSaid :=
  OpenClaim.holds_of_wide 6 Try.f6 rfl rfl rfl rfl rfl rfl rfl ⟨rfl, rfl, rfl, rfl, rfl⟩ rfl rfl rfl rfl rfl (by kernel_rfl) Try.func6 (by kernel_rfl)
    (of_decide_eq_true (by kernel_rfl)) (by unfold Func.isWrapper; first | (rw [if_pos (by decide +kernel)]; kernel_rfl) | (rw [if_neg (by decide +kernel)]; exact ⟨rfl, rfl⟩))
    (fun os started H enc _ => lifted os started H enc)
#print axioms proved

end Go.Proofs.Ytjpenmldoaepfaa.supplyWorst
