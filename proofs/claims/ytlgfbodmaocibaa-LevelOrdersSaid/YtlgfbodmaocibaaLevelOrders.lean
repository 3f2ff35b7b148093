/-
  For all tasks and any two places the statement LevelOrders of layer 6 returns true (of two tasks the one with the shorter deadline has the higher level; those with one have one), and its arguments read as before. No condition.
-/
import Derived.Test.YtlgfbodmaocibaaLaw05Args
import Derived.Test.YtlgfbodmaocibaaLaw06Knows
namespace Go.Proofs.Ytlgfbodmaocibaa.levelOrders
open Go.ChangeShapes Go.WideShapes Go.ChangeAt Go.RowKit
open Mm Tk Lv

theorem in_of {L : List Tsk} (h : allB L = true) {n : Nat} (hn : n < L.length) : ((ofZ L n : Nat) : Int) = lvl L n := by
  have h1 : ofZ L n = lvl L n := by simp [ofZ, h, hn]
  rw [h1]
theorem fit_nat {n : Nat} (h : n ≤ 1000000) : Fit (n : Int) := ⟨by omega, by omega⟩

set_option maxHeartbeats 1600000 in
theorem walk (A : Option Addr) (c : Nat) (L : List Tsk) (i k : Nat) (w : World) (hr : Rd w A c L) (hi : i < 256) (hk : k < 256) :
    Calls Try.prog 4 #[.slice A L.length c, .int .u8 i, .int .u8 k] w fun e w' => e = .returned (.bool true) ∧ Below w.heap.size w w' := by
  have HR := Lib.hid hr
  clear hr
  cases hg : greatB6 L [] with
  | true =>
    go_enter Try.func4, Try.ntmps4
    go_wp2_with fail
    refine (great6_any A c L none 0 [] _ HR.out (by decide)).mono ?_
    rintro e w1 ⟨rfl, b1⟩
    have B1 := Lib.hid b1
    clear b1
    go_wp2_with fail
    refine (knows6_any _).mono ?_
    rintro e w2 ⟨rfl, b2⟩
    have B2 := Lib.hid (below_step B1.out b2)
    clear b2
    go_wp2_with fail
    go_ret
    exact ⟨rfl, B2.out⟩
  | false =>
    obtain ⟨hL, hin, _⟩ := great6_no hg
    have HT : Hid (TL w A c L) := ⟨by omega, fun j hj => by have := hin j hj; omega, HR.out⟩
    clear hin
    cases ha : allB L with
    | false =>
      go_enter Try.func4, Try.ntmps4
      go_wp2_with fail
      refine (great6_any A c L none 0 [] _ HR.out (by decide)).mono ?_
      rintro e w1 ⟨rfl, b1⟩
      have B1 := Lib.hid b1
      replace HT := Lib.hid (HT.out.below b1)
      clear b1
      go_wp2_with fail
      refine (refAll_any A c L _ HT.out.1 HT.out.2.1 HT.out.2.2).mono ?_
      rintro e w2 ⟨rfl, b2⟩
      have B2 := Lib.hid (below_step B1.out b2)
      replace HT := Lib.hid (HT.out.below b2)
      clear b2
      go_wp2_with fail
      refine (knows6_any _).mono ?_
      rintro e w3 ⟨rfl, b3⟩
      have B3 := Lib.hid (below_step B2.out b3)
      clear b3
      go_wp2_with fail
      go_ret
      exact ⟨rfl, B3.out⟩
    | true =>
      by_cases h0 : L.length = 0
      · have hL0 := List.eq_nil_of_length_eq_zero h0
        subst hL0
        go_enter Try.func4, Try.ntmps4
        go_wp2_with fail
        refine (great6_any A c [] none 0 [] _ HR.out (by decide)).mono ?_
        rintro e w1 ⟨rfl, b1⟩
        have B1 := Lib.hid b1
        replace HT := Lib.hid (HT.out.below b1)
        clear b1
        go_wp2_with fail
        refine (refAll_any A c [] _ HT.out.1 HT.out.2.1 HT.out.2.2).mono ?_
        rintro e w2 ⟨rfl, b2⟩
        have B2 := Lib.hid (below_step B1.out b2)
        replace HT := Lib.hid (HT.out.below b2)
        clear b2
        go_wp2_with fail
        refine (knows6_any _).mono ?_
        rintro e w3 ⟨rfl, b3⟩
        have B3 := Lib.hid (below_step B2.out b3)
        clear b3
        go_wp2_with fail
        go_ret
        exact ⟨rfl, B3.out⟩
      · have hl0 : 0 < L.length := by omega
        have i5 : ¬ (L.length : Int) = 0 := by omega
        have hx : i % L.length < L.length := Nat.mod_lt _ hl0
        have hy : k % L.length < L.length := Nat.mod_lt _ hl0
        have e1 : Int.tmod (i : Int) (L.length : Int) = ((i % L.length : Nat) : Int) := by rw [Int.tmod_eq_emod_of_nonneg (by omega)]; exact (Int.natCast_emod i L.length).symm
        have e2 : Int.tmod (k : Int) (L.length : Int) = ((k % L.length : Nat) : Int) := by rw [Int.tmod_eq_emod_of_nonneg (by omega)]; exact (Int.natCast_emod k L.length).symm
        generalize i % L.length = a at *
        generalize k % L.length = b at *
        have z1 := in_of ha hx
        have z2 := in_of ha hy
        have p1 := lvl_pos L a
        have p2 := lvl_le hx
        have p3 := lvl_lt (L := L) (i := a) hy
        have F1 := Lib.hid (fit_nat (show a ≤ 1000000 by omega))
        have F2 := Lib.hid (fit_nat (show b ≤ 1000000 by omega))
        generalize lvl L a = p at *
        generalize lvl L b = q at *
        obtain ⟨g, off, rfl, hc⟩ := task_at HT.out.2.2 hl0
        obtain ⟨_, _, _, x2, _, _, _, _, _, _⟩ := hc a hx
        obtain ⟨_, _, _, y2, _, _, _, _, _, _⟩ := hc b hy
        clear hc
        generalize at_ L a = x at *
        generalize at_ L b = y at *
        have i1 : (0 : Int) ≤ (a : Int) := by omega
        have i2 : (a : Int) < (L.length : Int) := by omega
        have i3 : (0 : Int) ≤ (b : Int) := by omega
        have i4 : (b : Int) < (L.length : Int) := by omega
        have Z1 := Lib.hid z1
        have Z2 := Lib.hid z2
        clear z1 z2
        go_enter Try.func4, Try.ntmps4
        go_wp2_with fail
        refine (great6_any _ c L none 0 [] _ HR.out (by decide)).mono ?_
        rintro e w1 ⟨rfl, b1⟩
        replace x2 := cell_below b1 x2
        replace y2 := cell_below b1 y2
        have B1 := Lib.hid b1
        replace HT := Lib.hid (HT.out.below b1)
        clear b1
        go_wp2_with fail
        refine (refAll_any _ c L _ HT.out.1 HT.out.2.1 HT.out.2.2).mono ?_
        rintro e w2 ⟨rfl, b2⟩
        replace x2 := cell_below b2 x2
        replace y2 := cell_below b2 y2
        have B2 := Lib.hid (below_step B1.out b2)
        replace HT := Lib.hid (HT.out.below b2)
        clear b2
        go_wp2_with fail
        refine wp_region_bw (by kernel_rfl) (by kernel_rfl) ?_
        repeat
          (with_reducible refine wpQuiet_step (fun K hK => ?_)
           go_simp
           first
             | (with_reducible refine hK _ ?_
                clear hK K)
             | (rw [if_neg]
                rotate_left
                focus (intro h; cases h; done)
                with_reducible refine hK _ ?_
                clear hK K)
             | (apply Exists.intro
                refine ⟨fun _ => ?_, hK _ ?_⟩
                (fail)
                clear hK K))
        with_reducible refine wpQuiet_nil ?_
        intro wb hw'
        obtain ⟨⟨wb', lb⟩, hw''⟩ := hw'
        subst hw''
        have hw1 : IntKind.i64.wrap (i : Int) = (i : Int) := IntWalk.i64_in _ (by omega)
        have hw2 : IntKind.i64.wrap (k : Int) = (k : Int) := IntWalk.i64_in _ (by omega)
        go_wp2_with fail
        rw [hw1, hw2, e1, e2]
        clear hw1 hw2 e1 e2 hi hk h0 i5 hl0
        have B3 := Lib.hid (below_step B2.out lb)
        replace HT := Lib.hid (HT.out.below lb)
        replace x2 := cell_below lb x2
        replace y2 := cell_below lb y2
        clear lb
        have p4 : (1 : Int) ≤ (p : Int) := by omega
        have p5 : decide ((1 : Int) ≤ (p : Int)) = true := by simp; omega
        have p6 : 0 < p := by omega
        by_cases hd : x.2.1 < y.2.1
        · have hq : q < p := p3.2 hd
          clear p3
          go_wp2_with fail
          replace x2 := cell_bw x2
          replace y2 := cell_bw y2
          refine wp_region_bw (by kernel_rfl) (by kernel_rfl) ?_
          repeat
            (with_reducible refine wpQuiet_step (fun K hK => ?_)
             go_simp
             first
               | (with_reducible refine hK _ ?_
                  clear hK K)
               | (rw [if_neg]
                  rotate_left
                  focus (intro h; cases h; done)
                  with_reducible refine hK _ ?_
                  clear hK K)
               | (apply Exists.intro
                  refine ⟨fun _ => ?_, hK _ ?_⟩
                  (first | with_reducible exact Calls.bw (of_v _ c L a p Z1.out _ rfl _ F1.out (HT.out.bw _)) | with_reducible exact Calls.bw (of_v _ c L b q Z2.out _ rfl _ F2.out (HT.out.bw _)) | exact Calls.bw (knows6_any _))
                  clear hK K))
          with_reducible refine wpQuiet_nil ?_
          intro wb hw'
          obtain ⟨⟨wb', lb⟩, hw''⟩ := hw'
          subst hw''
          go_wp2_with fail
          go_ret
          refine ⟨ret_bool ?_, below_step B3.out lb⟩
          first | rfl | (simp; omega)
        · have hq : ¬ q < p := fun e => hd (p3.1 e)
          clear p3
          go_wp2_with fail
          replace x2 := cell_bw x2
          replace y2 := cell_bw y2
          refine wp_region_bw (by kernel_rfl) (by kernel_rfl) ?_
          repeat
            (with_reducible refine wpQuiet_step (fun K hK => ?_)
             go_simp
             first
               | (with_reducible refine hK _ ?_
                  clear hK K)
               | (rw [if_neg]
                  rotate_left
                  focus (intro h; cases h; done)
                  with_reducible refine hK _ ?_
                  clear hK K)
               | (apply Exists.intro
                  refine ⟨fun _ => ?_, hK _ ?_⟩
                  (first | with_reducible exact Calls.bw (of_v _ c L a p Z1.out _ rfl _ F1.out (HT.out.bw _)) | with_reducible exact Calls.bw (of_v _ c L b q Z2.out _ rfl _ F2.out (HT.out.bw _)) | exact Calls.bw (knows6_any _))
                  clear hK K))
          with_reducible refine wpQuiet_nil ?_
          intro wb hw'
          obtain ⟨⟨wb', lb⟩, hw''⟩ := hw'
          subst hw''
          go_wp2_with fail
          go_ret
          refine ⟨ret_bool ?_, below_step B3.out lb⟩
          first | rfl | (simp; omega)

set_option maxRecDepth 100000 in
theorem lifted (os : Os) (started : os.Started) (H : Type) (enc : TypeId × Value → H) :
    ReturnsInHanded {} Try.checked os 4 .any (Rows.levelOrdersSpec.pre6 enc Try.prog Try.f4 Rows.levelOrdersRow.domain false) (Rows.levelOrdersSpec.post enc Try.prog Try.f4 false true false false) := by
  refine returnsInHanded_of_change (C := Try.checked) own started (by kernel_rfl) Try.func4
    (ChangeSpec.witness6 (enc := enc) (C := Try.checked) false ⟨#[], #[.slice none 0 0, .int .u8 0, .int .u8 0], []⟩ 8 (by kernel_rfl) (by kernel_rfl) (by kernel_rfl) (by kernel_rfl)) ?_
  intro W base args ds gs before hval0 hW hcnd _
  have hval : ∀ (j : Nat) t v, Try.f4.params[j]? = some t → args[j]? = some v → Value.okWide Try.prog W .any base t v := hval0
  have hW' := hW
  obtain ⟨p, q, hA0, hV, rfl, hfz, hnd⟩ := hW
  have hA : DataW.TrodAll enc Try.prog W 0 (fun _ => true) true Try.f4.params.toList args.toList ds p := hA0
  rw [Try.params4] at hA hval
  obtain ⟨v0, v1, v2, d0, d1, d2, p0, p1, p2, rfl, rfl, rfl, h0, h1, h2⟩ := trodAll_three hA
  obtain ⟨rfl, rfl⟩ := trodVars_none hV
  obtain ⟨A0, c0, l0, rfl, hr0⟩ := Mm.open_list (α := Tk.Tsk) Try.underlying22 Tk.opTasks (hval 0 22 v0 rfl rfl) h0
  obtain ⟨n1, rfl, f1⟩ := Mm.open_u8' Try.underlying5 (hval 1 5 v1 rfl rfl) h1
  obtain ⟨n2, rfl, f2⟩ := Mm.open_u8' Try.underlying5 (hval 2 5 v2 rfl rfl) h2
  clear hA0 hval0
  refine (walk A0 c0 l0 n1 n2 W hr0 f1 f2).mono fun e W' ⟨he, bel⟩ => ?_
  subst he
  have hlt0 : ∀ x ∈ p0, x.block < W.heap.size := fun x hx => hW'.lt x (by simp [hx])
  have hlt1 : ∀ x ∈ p1, x.block < W.heap.size := fun x hx => hW'.lt x (by simp [hx])
  have hlt2 : ∀ x ∈ p2, x.block < W.heap.size := fun x hx => hW'.lt x (by simp [hx])
  exact ⟨_, rfl, _, _, _, [], _, [], hW', trodAll_mk1 (shut_bool Try.underlying4 _), trodAll_mk3 (Below.trod laidOut (by kernel_rfl) (of_decide_eq_true (by kernel_rfl)) h0 bel hlt0) (Below.trod laidOut (by kernel_rfl) (of_decide_eq_true (by kernel_rfl)) h1 bel hlt1) (Below.trod laidOut (by kernel_rfl) (of_decide_eq_true (by kernel_rfl)) h2 bel hlt2), rfl, bel.frame _, fun h => by cases h⟩

/-- The statement. -/
theorem proved : Rows.LevelOrdersSaid :=
  OpenClaim.holds_of_wide 4 Try.f4 rfl rfl rfl rfl rfl rfl rfl ⟨rfl, rfl, rfl, rfl, rfl⟩ rfl rfl rfl rfl rfl (by kernel_rfl) Try.func4 (by kernel_rfl)
    (of_decide_eq_true (by kernel_rfl)) (by unfold Func.isWrapper; first | (rw [if_pos (by decide +kernel)]; kernel_rfl) | (rw [if_neg (by decide +kernel)]; exact ⟨rfl, rfl⟩))
    (fun os started H enc _ => lifted os started H enc)
#print axioms proved

end Go.Proofs.Ytlgfbodmaocibaa.levelOrders
