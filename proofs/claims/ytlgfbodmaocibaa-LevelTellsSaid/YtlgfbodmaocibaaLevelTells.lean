/-
  For all tasks, any two numbers and all held resources the statement LevelTells of layer 6 returns true (levels, ceilings, and who passes, is what the document says), and its arguments read as before. No condition.
-/
import Derived.Test.YtlgfbodmaocibaaLaw05Args
import Derived.Test.YtlgfbodmaocibaaMemOpenInts
import Derived.Test.YtlgfbodmaocibaaLaw06Knows
namespace Go.Proofs.Ytlgfbodmaocibaa.levelTells
open Go.ChangeShapes Go.WideShapes Go.ChangeAt Go.RowKit
open Mm Tk Lv

theorem zero_of {L : List Tsk} (h : allB L = false) (i r : Int) (l : List Int) : ((ofZ L i : Nat) : Int) = 0 ∧ ((ceilZ L r : Nat) : Int) = 0 ∧ ((heldZ L l : Nat) : Int) = 0 ∧ passB L i l = false := by
  have h1 : ofZ L i = 0 := by simp [ofZ, h]
  have h2 : ceilZ L r = 0 := by simp [ceilZ, h]
  have h3 : heldZ L l = 0 := by simp [heldZ, h]
  refine ⟨by rw [h1]; rfl, by rw [h2]; rfl, by rw [h3]; rfl, by simp [passB, h1]⟩
theorem all_of {L : List Tsk} (h : allB L = true) (r : Int) (l : List Int) : ((ceilZ L r : Nat) : Int) = ceil L r ∧ ((heldZ L l : Nat) : Int) = heldC L l := by
  exact ⟨by simp [ceilZ, h], by simp [heldZ, h]⟩
theorem out_of {L : List Tsk} {i : Int} (h : i < 0 ∨ (L.length : Int) ≤ i) (l : List Int) : ((ofZ L i : Nat) : Int) = 0 ∧ passB L i l = false := by
  have h1 : ofZ L i = 0 := by
    unfold ofZ
    rw [if_neg]
    simp
    intro _ _
    omega
  exact ⟨by rw [h1]; rfl, by simp [passB, h1]⟩
theorem in_of {L : List Tsk} (h : allB L = true) {n : Nat} (hn : n < L.length) (l : List Int) : ((ofZ L n : Nat) : Int) = lvl L n ∧ passB L n l = decide (heldC L l < lvl L n) := by
  have h1 : ofZ L n = lvl L n := by simp [ofZ, h, hn]
  refine ⟨by rw [h1], ?_⟩
  unfold passB
  rw [h1, heldZ, h, if_pos rfl]

set_option maxHeartbeats 1600000 in
theorem walk (A : Option Addr) (c : Nat) (L : List Tsk) (i r : Int) (A2 : Option Addr) (c2 : Nat) (h : List Int) (w : World) (hr : Rd w A c L) (fi : Fit i) (_fr : Fit r) (hh : Rd w A2 c2 h) :
    Calls Try.prog 3 #[.slice A L.length c, .int .i64 i, .int .i64 r, .slice A2 h.length c2] w fun e w' => e = .returned (.bool true) ∧ Below w.heap.size w w' := by
  have hm := Nat.le_trans hh.le hh.max
  have HM := Lib.hid hm
  have HF := Lib.hid fi
  unfold Fit at fi
  have HR := Lib.hid hr
  have HH := Lib.hid hh
  clear hr hh
  clear hm
  cases hg : greatB6 L h with
  | true =>
    go_enter Try.func3, Try.ntmps3
    go_wp2_with fail
    refine (great6_any A c L A2 c2 h _ HR.out HM.out).mono ?_
    rintro e w1 ⟨rfl, b1⟩
    have B1 := Lib.hid b1
    clear b1
    go_wp2_with fail
    refine (knows6_any _).mono ?_
    rintro e w2 ⟨rfl, b2⟩
    have B2 := Lib.hid (below_step B1.out b2)
    clear b2
    go_wp2_with fail
    go_ret
    exact ⟨rfl, B2.out⟩
  | false =>
    obtain ⟨hL, hin, hh50⟩ := great6_no hg
    have HT : Hid (TL w A c L) := ⟨by omega, fun j hj => by have := hin j hj; omega, HR.out⟩
    have HI : Hid (IL w A2 c2 h) := ⟨by omega, HH.out⟩
    clear hin
    cases ha : allB L with
    | false =>
      obtain ⟨z1, z2, z3, z4⟩ := zero_of ha i r h
      have Z1 := Lib.hid z1
      have Z2 := Lib.hid z2
      have Z3 := Lib.hid z3
      have Z4 := Lib.hid z4
      clear z1 z2 z3 z4
      go_enter Try.func3, Try.ntmps3
      go_wp2_with fail
      refine (great6_any A c L A2 c2 h _ HR.out HM.out).mono ?_
      rintro e w1 ⟨rfl, b1⟩
      have B1 := Lib.hid b1
      replace HT := Lib.hid (HT.out.below b1)
      replace HI := Lib.hid (HI.out.below b1)
      clear b1
      go_wp2_with fail
      refine (refAll_any A c L _ HT.out.1 HT.out.2.1 HT.out.2.2).mono ?_
      rintro e w2 ⟨rfl, b2⟩
      have B2 := Lib.hid (below_step B1.out b2)
      replace HT := Lib.hid (HT.out.below b2)
      replace HI := Lib.hid (HI.out.below b2)
      clear b2
      go_wp2_with fail
      refine (of_v A c L i 0 Z1.out _ rfl _ HF.out HT.out).mono ?_
      rintro e w3 ⟨rfl, b3⟩
      have B3 := Lib.hid (below_step B2.out b3)
      replace HT := Lib.hid (HT.out.below b3)
      replace HI := Lib.hid (HI.out.below b3)
      clear b3
      go_wp2_with fail
      refine (ceil_v A c L r 0 Z2.out _ rfl _ HT.out).mono ?_
      rintro e w4 ⟨rfl, b4⟩
      have B4 := Lib.hid (below_step B3.out b4)
      replace HT := Lib.hid (HT.out.below b4)
      replace HI := Lib.hid (HI.out.below b4)
      clear b4
      go_wp2_with fail
      refine (held_v A c L A2 c2 h 0 Z3.out _ rfl _ rfl _ HT.out HI.out).mono ?_
      rintro e w5 ⟨rfl, b5⟩
      have B5 := Lib.hid (below_step B4.out b5)
      replace HT := Lib.hid (HT.out.below b5)
      replace HI := Lib.hid (HI.out.below b5)
      clear b5
      go_wp2_with fail
      refine (passes_v A c L i A2 c2 h false Z4.out _ rfl _ rfl _ HF.out HT.out HI.out).mono ?_
      rintro e w6 ⟨rfl, b6⟩
      have B6 := Lib.hid (below_step B5.out b6)
      replace HT := Lib.hid (HT.out.below b6)
      replace HI := Lib.hid (HI.out.below b6)
      clear b6
      go_wp2_with fail
      refine (knows6_any _).mono ?_
      rintro e w7 ⟨rfl, b7⟩
      have B7 := Lib.hid (below_step B6.out b7)
      clear b7
      go_wp2_with fail
      go_ret
      exact ⟨rfl, B7.out⟩
    | true =>
      obtain ⟨z2, z3⟩ := all_of ha r h
      obtain ⟨s, hs⟩ : ∃ s, ceil L r = s := ⟨_, rfl⟩
      obtain ⟨q, hq⟩ : ∃ q, heldC L h = q := ⟨_, rfl⟩
      rw [hs] at z2
      rw [hq] at z3
      by_cases hi : i < 0 ∨ (L.length : Int) ≤ i
      · obtain ⟨z1, z4⟩ := out_of hi h
        have Z1 := Lib.hid z1
        have Z2 := Lib.hid z2
        have Z3 := Lib.hid z3
        have Z4 := Lib.hid z4
        have HS := Lib.hid hs
        have HQ := Lib.hid hq
        clear z1 z2 z3 z4 hs hq
        by_cases h1 : i < 0
        · clear hi
          go_enter Try.func3, Try.ntmps3
          go_wp2_with fail
          refine (great6_any A c L A2 c2 h _ HR.out HM.out).mono ?_
          rintro e w1 ⟨rfl, b1⟩
          have B1 := Lib.hid b1
          replace HT := Lib.hid (HT.out.below b1)
          replace HI := Lib.hid (HI.out.below b1)
          clear b1
          go_wp2_with fail
          refine (refAll_any A c L _ HT.out.1 HT.out.2.1 HT.out.2.2).mono ?_
          rintro e w2 ⟨rfl, b2⟩
          have B2 := Lib.hid (below_step B1.out b2)
          replace HT := Lib.hid (HT.out.below b2)
          replace HI := Lib.hid (HI.out.below b2)
          clear b2
          go_wp2_with fail
          refine (refHeld_v A c L A2 c2 h q HQ.out _ HT.out HI.out).mono ?_
          rintro e w3 ⟨rfl, b3⟩
          have B3 := Lib.hid (below_step B2.out b3)
          replace HT := Lib.hid (HT.out.below b3)
          replace HI := Lib.hid (HI.out.below b3)
          clear b3
          go_wp2_with fail
          refine (ceil_v A c L r s Z2.out _ rfl _ HT.out).mono ?_
          rintro e w4 ⟨rfl, b4⟩
          have B4 := Lib.hid (below_step B3.out b4)
          replace HT := Lib.hid (HT.out.below b4)
          replace HI := Lib.hid (HI.out.below b4)
          clear b4
          go_wp2_with fail
          refine (refCeil_v A c L r s HS.out _ HT.out).mono ?_
          rintro e w5 ⟨rfl, b5⟩
          have B5 := Lib.hid (below_step B4.out b5)
          replace HT := Lib.hid (HT.out.below b5)
          replace HI := Lib.hid (HI.out.below b5)
          clear b5
          go_wp2_with fail
          refine (held_v A c L A2 c2 h q Z3.out _ rfl _ rfl _ HT.out HI.out).mono ?_
          rintro e w6 ⟨rfl, b6⟩
          have B6 := Lib.hid (below_step B5.out b6)
          replace HT := Lib.hid (HT.out.below b6)
          replace HI := Lib.hid (HI.out.below b6)
          clear b6
          go_wp2_with fail
          refine (of_v A c L i 0 Z1.out _ rfl _ HF.out HT.out).mono ?_
          rintro e w7 ⟨rfl, b7⟩
          have B7 := Lib.hid (below_step B6.out b7)
          replace HT := Lib.hid (HT.out.below b7)
          replace HI := Lib.hid (HI.out.below b7)
          clear b7
          go_wp2_with fail
          refine (passes_v A c L i A2 c2 h false Z4.out _ rfl _ rfl _ HF.out HT.out HI.out).mono ?_
          rintro e w8 ⟨rfl, b8⟩
          have B8 := Lib.hid (below_step B7.out b8)
          replace HT := Lib.hid (HT.out.below b8)
          replace HI := Lib.hid (HI.out.below b8)
          clear b8
          go_wp2_with fail
          refine (knows6_any _).mono ?_
          rintro e w9 ⟨rfl, b9⟩
          have B9 := Lib.hid (below_step B8.out b9)
          clear b9
          go_wp2_with fail
          go_ret
          exact ⟨rfl, B9.out⟩
        · have h2 : (L.length : Int) ≤ i := by omega
          clear hi
          go_enter Try.func3, Try.ntmps3
          go_wp2_with fail
          refine (great6_any A c L A2 c2 h _ HR.out HM.out).mono ?_
          rintro e w1 ⟨rfl, b1⟩
          have B1 := Lib.hid b1
          replace HT := Lib.hid (HT.out.below b1)
          replace HI := Lib.hid (HI.out.below b1)
          clear b1
          go_wp2_with fail
          refine (refAll_any A c L _ HT.out.1 HT.out.2.1 HT.out.2.2).mono ?_
          rintro e w2 ⟨rfl, b2⟩
          have B2 := Lib.hid (below_step B1.out b2)
          replace HT := Lib.hid (HT.out.below b2)
          replace HI := Lib.hid (HI.out.below b2)
          clear b2
          go_wp2_with fail
          refine (refHeld_v A c L A2 c2 h q HQ.out _ HT.out HI.out).mono ?_
          rintro e w3 ⟨rfl, b3⟩
          have B3 := Lib.hid (below_step B2.out b3)
          replace HT := Lib.hid (HT.out.below b3)
          replace HI := Lib.hid (HI.out.below b3)
          clear b3
          go_wp2_with fail
          refine (ceil_v A c L r s Z2.out _ rfl _ HT.out).mono ?_
          rintro e w4 ⟨rfl, b4⟩
          have B4 := Lib.hid (below_step B3.out b4)
          replace HT := Lib.hid (HT.out.below b4)
          replace HI := Lib.hid (HI.out.below b4)
          clear b4
          go_wp2_with fail
          refine (refCeil_v A c L r s HS.out _ HT.out).mono ?_
          rintro e w5 ⟨rfl, b5⟩
          have B5 := Lib.hid (below_step B4.out b5)
          replace HT := Lib.hid (HT.out.below b5)
          replace HI := Lib.hid (HI.out.below b5)
          clear b5
          go_wp2_with fail
          refine (held_v A c L A2 c2 h q Z3.out _ rfl _ rfl _ HT.out HI.out).mono ?_
          rintro e w6 ⟨rfl, b6⟩
          have B6 := Lib.hid (below_step B5.out b6)
          replace HT := Lib.hid (HT.out.below b6)
          replace HI := Lib.hid (HI.out.below b6)
          clear b6
          go_wp2_with fail
          refine (of_v A c L i 0 Z1.out _ rfl _ HF.out HT.out).mono ?_
          rintro e w7 ⟨rfl, b7⟩
          have B7 := Lib.hid (below_step B6.out b7)
          replace HT := Lib.hid (HT.out.below b7)
          replace HI := Lib.hid (HI.out.below b7)
          clear b7
          go_wp2_with fail
          refine (passes_v A c L i A2 c2 h false Z4.out _ rfl _ rfl _ HF.out HT.out HI.out).mono ?_
          rintro e w8 ⟨rfl, b8⟩
          have B8 := Lib.hid (below_step B7.out b8)
          replace HT := Lib.hid (HT.out.below b8)
          replace HI := Lib.hid (HI.out.below b8)
          clear b8
          go_wp2_with fail
          refine (knows6_any _).mono ?_
          rintro e w9 ⟨rfl, b9⟩
          have B9 := Lib.hid (below_step B8.out b9)
          clear b9
          go_wp2_with fail
          go_ret
          exact ⟨rfl, B9.out⟩
      · obtain ⟨n, rfl⟩ : ∃ n : Nat, i = (n : Int) := ⟨i.toNat, by omega⟩
        have hn : n < L.length := by omega
        obtain ⟨p, hp⟩ : ∃ p, lvl L n = p := ⟨_, rfl⟩
        obtain ⟨z1, z4⟩ := in_of ha hn h
        rw [hp] at z1
        rw [hp, hq] at z4
        have h1 : ¬ (n : Int) < 0 := by omega
        have h2 : ¬ (L.length : Int) ≤ (n : Int) := by omega
        clear hi
        have Z1 := Lib.hid z1
        have Z2 := Lib.hid z2
        have Z3 := Lib.hid z3
        have Z4 := Lib.hid z4
        have HS := Lib.hid hs
        have HQ := Lib.hid hq
        have HP := Lib.hid hp
        clear z1 z2 z3 z4 hs hq hp
        go_enter Try.func3, Try.ntmps3
        go_wp2_with fail
        refine (great6_any A c L A2 c2 h _ HR.out HM.out).mono ?_
        rintro e w1 ⟨rfl, b1⟩
        have B1 := Lib.hid b1
        replace HT := Lib.hid (HT.out.below b1)
        replace HI := Lib.hid (HI.out.below b1)
        clear b1
        go_wp2_with fail
        refine (refAll_any A c L _ HT.out.1 HT.out.2.1 HT.out.2.2).mono ?_
        rintro e w2 ⟨rfl, b2⟩
        have B2 := Lib.hid (below_step B1.out b2)
        replace HT := Lib.hid (HT.out.below b2)
        replace HI := Lib.hid (HI.out.below b2)
        clear b2
        go_wp2_with fail
        refine (refHeld_v A c L A2 c2 h q HQ.out _ HT.out HI.out).mono ?_
        rintro e w3 ⟨rfl, b3⟩
        have B3 := Lib.hid (below_step B2.out b3)
        replace HT := Lib.hid (HT.out.below b3)
        replace HI := Lib.hid (HI.out.below b3)
        clear b3
        go_wp2_with fail
        refine (ceil_v A c L r s Z2.out _ rfl _ HT.out).mono ?_
        rintro e w4 ⟨rfl, b4⟩
        have B4 := Lib.hid (below_step B3.out b4)
        replace HT := Lib.hid (HT.out.below b4)
        replace HI := Lib.hid (HI.out.below b4)
        clear b4
        go_wp2_with fail
        refine (refCeil_v A c L r s HS.out _ HT.out).mono ?_
        rintro e w5 ⟨rfl, b5⟩
        have B5 := Lib.hid (below_step B4.out b5)
        replace HT := Lib.hid (HT.out.below b5)
        replace HI := Lib.hid (HI.out.below b5)
        clear b5
        go_wp2_with fail
        refine (held_v A c L A2 c2 h q Z3.out _ rfl _ rfl _ HT.out HI.out).mono ?_
        rintro e w6 ⟨rfl, b6⟩
        have B6 := Lib.hid (below_step B5.out b6)
        replace HT := Lib.hid (HT.out.below b6)
        replace HI := Lib.hid (HI.out.below b6)
        clear b6
        go_wp2_with fail
        refine (refOf_v A c L n p HP.out _ hn HT.out).mono ?_
        rintro e w7 ⟨rfl, b7⟩
        have B7 := Lib.hid (below_step B6.out b7)
        replace HT := Lib.hid (HT.out.below b7)
        replace HI := Lib.hid (HI.out.below b7)
        clear b7
        go_wp2_with fail
        refine (of_v A c L n p Z1.out _ rfl _ HF.out HT.out).mono ?_
        rintro e w8 ⟨rfl, b8⟩
        have B8 := Lib.hid (below_step B7.out b8)
        replace HT := Lib.hid (HT.out.below b8)
        replace HI := Lib.hid (HI.out.below b8)
        clear b8
        go_wp2_with fail
        refine (passes_v A c L n A2 c2 h (decide (q < p)) Z4.out _ rfl _ rfl _ HF.out HT.out HI.out).mono ?_
        rintro e w9 ⟨rfl, b9⟩
        have B9 := Lib.hid (below_step B8.out b9)
        replace HT := Lib.hid (HT.out.below b9)
        replace HI := Lib.hid (HI.out.below b9)
        clear b9
        go_wp2_with fail
        refine (knows6_any _).mono ?_
        rintro e w10 ⟨rfl, b10⟩
        have B10 := Lib.hid (below_step B9.out b10)
        clear b10
        go_wp2_with fail
        go_ret
        exact ⟨rfl, B10.out⟩

set_option maxRecDepth 100000 in
theorem lifted (os : Os) (started : os.Started) (H : Type) (enc : TypeId × Value → H) :
    ReturnsInHanded {} Try.checked os 3 .any (Rows.levelTellsSpec.pre6 enc Try.prog Try.f3 Rows.levelTellsRow.domain false) (Rows.levelTellsSpec.post enc Try.prog Try.f3 false true false false) := by
  refine returnsInHanded_of_change (C := Try.checked) own started (by kernel_rfl) Try.func3
    (ChangeSpec.witness6 (enc := enc) (C := Try.checked) false ⟨#[], #[.slice none 0 0, .int .i64 0, .int .i64 0, .slice none 0 0], []⟩ 8 (by kernel_rfl) (by kernel_rfl) (by kernel_rfl) (by kernel_rfl)) ?_
  intro W base args ds gs before hval0 hW hcnd _
  have hval : ∀ (j : Nat) t v, Try.f3.params[j]? = some t → args[j]? = some v → Value.okWide Try.prog W .any base t v := hval0
  have hW' := hW
  obtain ⟨p, q, hA0, hV, rfl, hfz, hnd⟩ := hW
  have hA : DataW.TrodAll enc Try.prog W 0 (fun _ => true) true Try.f3.params.toList args.toList ds p := hA0
  rw [Try.params3] at hA hval
  obtain ⟨v0, v1, v2, v3, d0, d1, d2, d3, p0, p1, p2, p3, rfl, rfl, rfl, h0, h1, h2, h3⟩ := trodAll_four' hA
  obtain ⟨rfl, rfl⟩ := trodVars_none hV
  obtain ⟨A0, c0, l0, rfl, hr0⟩ := Mm.open_list (α := Tk.Tsk) Try.underlying22 Tk.opTasks (hval 0 22 v0 rfl rfl) h0
  obtain ⟨n1, rfl, f1⟩ := Mm.open_num' Try.underlying3 (hval 1 3 v1 rfl rfl) h1
  obtain ⟨n2, rfl, f2⟩ := Mm.open_num' Try.underlying3 (hval 2 3 v2 rfl rfl) h2
  obtain ⟨A3, c3, l3, rfl, hr3⟩ := Mm.open_list (α := Int) Try.underlying23 Mm.opInts (hval 3 23 v3 rfl rfl) h3
  clear hA0 hval0
  refine (walk A0 c0 l0 n1 n2 A3 c3 l3 W hr0 f1 f2 hr3).mono fun e W' ⟨he, bel⟩ => ?_
  subst he
  have hlt0 : ∀ x ∈ p0, x.block < W.heap.size := fun x hx => hW'.lt x (by simp [hx])
  have hlt1 : ∀ x ∈ p1, x.block < W.heap.size := fun x hx => hW'.lt x (by simp [hx])
  have hlt2 : ∀ x ∈ p2, x.block < W.heap.size := fun x hx => hW'.lt x (by simp [hx])
  have hlt3 : ∀ x ∈ p3, x.block < W.heap.size := fun x hx => hW'.lt x (by simp [hx])
  exact ⟨_, rfl, _, _, _, [], _, [], hW', trodAll_mk1 (shut_bool Try.underlying4 _), trodAll_mk4 (Below.trod laidOut (by kernel_rfl) (of_decide_eq_true (by kernel_rfl)) h0 bel hlt0) (Below.trod laidOut (by kernel_rfl) (of_decide_eq_true (by kernel_rfl)) h1 bel hlt1) (Below.trod laidOut (by kernel_rfl) (of_decide_eq_true (by kernel_rfl)) h2 bel hlt2) (Below.trod laidOut (by kernel_rfl) (of_decide_eq_true (by kernel_rfl)) h3 bel hlt3), rfl, bel.frame _, fun h => by cases h⟩

/-- The statement. -/
theorem proved : Rows.LevelTellsSaid :=
  OpenClaim.holds_of_wide 3 Try.f3 rfl rfl rfl rfl rfl rfl rfl ⟨rfl, rfl, rfl, rfl, rfl⟩ rfl rfl rfl rfl rfl (by kernel_rfl) Try.func3 (by kernel_rfl)
    (of_decide_eq_true (by kernel_rfl)) (by unfold Func.isWrapper; first | (rw [if_pos (by decide +kernel)]; kernel_rfl) | (rw [if_neg (by decide +kernel)]; exact ⟨rfl, rfl⟩))
    (fun os started H enc _ => lifted os started H enc)
#print axioms proved

end Go.Proofs.Ytlgfbodmaocibaa.levelTells
