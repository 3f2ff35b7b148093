/-
  For all tasks, any of them, all held resources and one more the statement LevelPasses of layer 6 returns true (a task that passes uses nothing of what is held; and with more held no more tasks pass), and its arguments read as before. No condition.
-/
import Derived.Test.YtlgfbodmaocibaaLaw05Args
import Derived.Test.YtlgfbodmaocibaaMemOpenInts
import Derived.Test.YtlgfbodmaocibaaLaw06Knows
namespace Go.Proofs.Ytlgfbodmaocibaa.levelPasses
open Go.ChangeShapes Go.WideShapes Go.ChangeAt Go.RowKit
open Mm Tk Lv

theorem held_le (L : List Tsk) (h : List Int) (x : Int) : heldZ L h ≤ heldZ L (h ++ [x]) := by
  unfold heldZ
  split
  · rw [heldC_app]; omega
  · omega
theorem pass_less {L : List Tsk} {i : Int} {h : List Int} {x : Int} (hp : passB L i (h ++ [x]) = true) : passB L i h = true := by
  unfold passB at *
  have := held_le L h x
  simp only [decide_eq_true_eq] at *
  omega
theorem pass_nil {L : List Tsk} (ha : allB L = true) {n : Nat} (hn : n < L.length) : passB L n [] = true := by
  unfold passB
  have h1 : ofZ L n = lvl L n := by simp [ofZ, ha, hn]
  have := lvl_pos L n
  have h2 : heldZ L [] = 0 := by unfold heldZ; split <;> rfl
  rw [h1, h2]
  simp only [decide_eq_true_eq]
  omega
theorem pass_free {L : List Tsk} (ha : allB L = true) {n : Nat} (hn : n < L.length) {h : List Int} (hp : passB L n h = true) {k : Nat} (hk : k < h.length) : ((at_ L n).2.2.2.any fun s => decide (s.1 = at_ h k)) = false := by
  unfold passB at hp
  have h1 : ofZ L n = lvl L n := by simp [ofZ, ha, hn]
  have h2 : heldZ L h = heldC L h := by simp [heldZ, ha]
  rw [h1, h2, decide_eq_true_eq] at hp
  exact passes_none hn hp (at_mem hk)
theorem refUses_v (t : Tsk) (A : Option Addr) (c : Nat) (r : Int) (v : Bool) (hv : (t.2.2.2.any fun s => decide (s.1 = r)) = v) (w : World) (hbig : t.2.2.2.length ≤ 1000000) (hr : Rd w A c t.2.2.2) :
    Calls Try.prog 17 #[.agg #[.int .i64 t.1, .int .i64 t.2.1, .int .i64 t.2.2.1, .slice A t.2.2.2.length c], .int .i64 r] w fun e w' => e = .returned (.bool v) ∧ Below w.heap.size w w' := by
  subst hv
  exact refUses_any t.1 t.2.1 t.2.2.1 A c t.2.2.2 r w hbig hr

set_option maxHeartbeats 1600000 in
theorem walk (A : Option Addr) (c : Nat) (L : List Tsk) (i : Int) (A2 : Option Addr) (c2 : Nat) (h : List Int) (x : Int) (w : World) (hr : Rd w A c L) (fi : Fit i) (hh : Rd w A2 c2 h) (fx : Fit x) :
    Calls Try.prog 5 #[.slice A L.length c, .int .i64 i, .slice A2 h.length c2, .int .i64 x] w fun e w' => e = .returned (.bool true) ∧ Below w.heap.size w w' := by
  have HM := Lib.hid (Nat.le_trans hh.le hh.max)
  have HFX := Lib.hid fx
  unfold Fit at fi fx
  have HR := Lib.hid hr
  have HH := Lib.hid hh
  clear hr hh
  cases hg : greatB6 L h with
  | true =>
    go_enter Try.func5, Try.ntmps5
    go_wp2_with fail
    refine (great6_any A c L A2 c2 h _ HR.out HM.out).mono ?_
    rintro e w1 ⟨rfl, b1⟩
    have B1 := Lib.hid b1
    clear b1
    go_wp2_with fail
    refine (knows6_any _).mono ?_
    rintro e w2 ⟨rfl, b2⟩
    have B2 := Lib.hid (below_step B1.out b2)
    clear b2
    go_wp2_with fail
    go_ret
    exact ⟨rfl, B2.out⟩
  | false =>
    obtain ⟨hL, hin, hh50⟩ := great6_no hg
    have HT : Hid (TL w A c L) := ⟨by omega, fun j hj => by have := hin j hj; omega, HR.out⟩
    have HI : Hid (IL w A2 c2 h) := ⟨by omega, HH.out⟩
    clear hin
    cases ha : allB L with
    | false =>
      go_enter Try.func5, Try.ntmps5
      go_wp2_with fail
      refine (great6_any A c L A2 c2 h _ HR.out HM.out).mono ?_
      rintro e w1 ⟨rfl, b1⟩
      have B1 := Lib.hid b1
      replace HT := Lib.hid (HT.out.below b1)
      replace HI := Lib.hid (HI.out.below b1)
      clear b1
      go_wp2_with fail
      refine (refAll_any A c L _ HT.out.1 HT.out.2.1 HT.out.2.2).mono ?_
      rintro e w2 ⟨rfl, b2⟩
      have B2 := Lib.hid (below_step B1.out b2)
      replace HT := Lib.hid (HT.out.below b2)
      replace HI := Lib.hid (HI.out.below b2)
      clear b2
      go_wp2_with fail
      refine (knows6_any _).mono ?_
      rintro e w3 ⟨rfl, b3⟩
      have B3 := Lib.hid (below_step B2.out b3)
      clear b3
      go_wp2_with fail
      go_ret
      exact ⟨rfl, B3.out⟩
    | true =>
      by_cases h1 : i < 0
      · go_enter Try.func5, Try.ntmps5
        go_wp2_with fail
        refine (great6_any A c L A2 c2 h _ HR.out HM.out).mono ?_
        rintro e w1 ⟨rfl, b1⟩
        have B1 := Lib.hid b1
        replace HT := Lib.hid (HT.out.below b1)
        replace HI := Lib.hid (HI.out.below b1)
        clear b1
        go_wp2_with fail
        refine (refAll_any A c L _ HT.out.1 HT.out.2.1 HT.out.2.2).mono ?_
        rintro e w2 ⟨rfl, b2⟩
        have B2 := Lib.hid (below_step B1.out b2)
        replace HT := Lib.hid (HT.out.below b2)
        replace HI := Lib.hid (HI.out.below b2)
        clear b2
        go_wp2_with fail
        refine (knows6_any _).mono ?_
        rintro e w3 ⟨rfl, b3⟩
        have B3 := Lib.hid (below_step B2.out b3)
        clear b3
        go_wp2_with fail
        go_ret
        exact ⟨rfl, B3.out⟩
      · by_cases h2 : (L.length : Int) ≤ i
        · go_enter Try.func5, Try.ntmps5
          go_wp2_with fail
          refine (great6_any A c L A2 c2 h _ HR.out HM.out).mono ?_
          rintro e w1 ⟨rfl, b1⟩
          have B1 := Lib.hid b1
          replace HT := Lib.hid (HT.out.below b1)
          replace HI := Lib.hid (HI.out.below b1)
          clear b1
          go_wp2_with fail
          refine (refAll_any A c L _ HT.out.1 HT.out.2.1 HT.out.2.2).mono ?_
          rintro e w2 ⟨rfl, b2⟩
          have B2 := Lib.hid (below_step B1.out b2)
          replace HT := Lib.hid (HT.out.below b2)
          replace HI := Lib.hid (HI.out.below b2)
          clear b2
          go_wp2_with fail
          refine (knows6_any _).mono ?_
          rintro e w3 ⟨rfl, b3⟩
          have B3 := Lib.hid (below_step B2.out b3)
          clear b3
          go_wp2_with fail
          go_ret
          exact ⟨rfl, B3.out⟩
        · obtain ⟨n, rfl⟩ : ∃ n : Nat, i = (n : Int) := ⟨i.toNat, by omega⟩
          have hn : n < L.length := by omega
          have FN : Hid (Fit (n : Int)) := ⟨by omega, by omega⟩
          have z3 := pass_nil ha hn
          obtain ⟨p, hp⟩ : ∃ p : Nat, heldZ L (h ++ [x]) = p := ⟨_, rfl⟩
          obtain ⟨q, hq⟩ : ∃ q : Nat, heldZ L h = q := ⟨_, rfl⟩
          have hqp : q ≤ p := by have := held_le L h x; omega
          have z4 : ((heldZ L (h ++ [x]) : Nat) : Int) = p := by rw [hp]
          have z5 : ((heldZ L h : Nat) : Int) = q := by rw [hq]
          clear hp hq
          cases z2 : passB L n h with
          | false =>
            have z1 : passB L n (h ++ [x]) = false := by
              rw [← Bool.not_eq_true]
              intro e
              rw [pass_less e] at z2
              cases z2
            have Z1 := Lib.hid z1
            have Z2 := Lib.hid z2
            have Z3 := Lib.hid z3
            have Z4 := Lib.hid z4
            have Z5 := Lib.hid z5
            clear z1 z2 z3 z4 z5
            go_enter Try.func5, Try.ntmps5
            go_wp2_with fail
            refine (great6_any A c L A2 c2 h _ HR.out HM.out).mono ?_
            rintro e w1 ⟨rfl, b1⟩
            have B1 := Lib.hid b1
            replace HT := Lib.hid (HT.out.below b1)
            replace HI := Lib.hid (HI.out.below b1)
            clear b1
            go_wp2_with fail
            refine (refAll_any A c L _ HT.out.1 HT.out.2.1 HT.out.2.2).mono ?_
            rintro e w2 ⟨rfl, b2⟩
            have B2 := Lib.hid (below_step B1.out b2)
            replace HT := Lib.hid (HT.out.below b2)
            replace HI := Lib.hid (HI.out.below b2)
            clear b2
            have bA := below_one w2 (Obj.cells #[] 3)
            have HIA := Lib.hid (HI.out.below bA)
            have HE := Lib.hid (ow_empty w2 w2.heap.size 3 (Nat.le_refl _))
            have HBA := Lib.hid bA
            clear bA
            go_wp2_with (at_builtin
                         first
                           | (refine list_app_n slI rfl _ _ rfl (base := w2.heap.size) (l := []) (r := h) (n := 0) (m := h.length) rfl rfl rfl rfl HE.out HIA.out.2 (by omega) (by simp) ?_
                              intro A3 c3 w3 k1 k2 k3
                              have O3 := Lib.hid k1
                              have B3 := Lib.hid (HBA.out.trans k2)
                              clear k1 k2 k3)
                           | (refine list_app_n slI rfl _ _ rfl (base := w2.heap.size) (l := [] ++ h) (r := [x]) (n := h.length) (m := 1) (by simp) rfl rfl rfl (O3.out.alloc _) (rd_new1 _ _ x HFX.out) (by omega) (by have := B3.out.size; simp; omega) ?_
                              intro A4 c4 w4 k1 k2 k3
                              have O4 := Lib.hid k1
                              have B4 := Lib.hid (B3.out.trans (((Below.refl _ _).alloc B3.out.size _).trans k2))
                              clear k1 k2 k3))
            have HX : Hid (IL w4 A4 c4 (h ++ [x])) := ⟨by simp; omega, by have := O4.out.rd; simpa using this⟩
            have hxl : (h ++ [x]).length = h.length + 1 := by simp
            have B5 := Lib.hid (below_step B2.out B4.out)
            replace HT := Lib.hid (HT.out.below B4.out)
            replace HI := Lib.hid (HI.out.below B4.out)
            clear HIA HE HBA O3 B3 O4 B4 B1 B2
            have HXL := Lib.hid hxl
            clear hxl
            refine (passes_v A c L n A4 c4 (h ++ [x]) false Z1.out _ rfl _ HXL.out _ FN.out HT.out HX.out).mono ?_
            rintro e w6 ⟨rfl, b6⟩
            have B6 := Lib.hid (below_step B5.out b6)
            replace HT := Lib.hid (HT.out.below b6)
            replace HI := Lib.hid (HI.out.below b6)
            replace HX := Lib.hid (HX.out.below b6)
            clear b6
            go_wp2_with fail
            refine (passes_v A c L n A2 c2 h false Z2.out _ rfl _ rfl _ FN.out HT.out HI.out).mono ?_
            rintro e w7 ⟨rfl, b7⟩
            have B7 := Lib.hid (below_step B6.out b7)
            replace HT := Lib.hid (HT.out.below b7)
            replace HI := Lib.hid (HI.out.below b7)
            replace HX := Lib.hid (HX.out.below b7)
            clear b7
            go_wp2_with fail
            refine (passes_v A c L n none 0 [] true Z3.out _ rfl 0 rfl _ FN.out HT.out (il_nil _)).mono ?_
            rintro e w11 ⟨rfl, b11⟩
            have B11 := Lib.hid (below_step B7.out b11)
            replace HT := Lib.hid (HT.out.below b11)
            replace HI := Lib.hid (HI.out.below b11)
            replace HX := Lib.hid (HX.out.below b11)
            clear b11
            go_wp2_with fail
            refine (held_v A c L A4 c4 (h ++ [x]) p Z4.out _ rfl _ HXL.out _ HT.out HX.out).mono ?_
            rintro e w12 ⟨rfl, b12⟩
            have B12 := Lib.hid (below_step B11.out b12)
            replace HT := Lib.hid (HT.out.below b12)
            replace HI := Lib.hid (HI.out.below b12)
            replace HX := Lib.hid (HX.out.below b12)
            clear b12
            go_wp2_with fail
            refine (held_v A c L A2 c2 h q Z5.out _ rfl _ rfl _ HT.out HI.out).mono ?_
            rintro e w13 ⟨rfl, b13⟩
            have B13 := Lib.hid (below_step B12.out b13)
            replace HT := Lib.hid (HT.out.below b13)
            replace HI := Lib.hid (HI.out.below b13)
            replace HX := Lib.hid (HX.out.below b13)
            clear b13
            go_wp2_with fail
            refine (knows6_any _).mono ?_
            rintro e w14 ⟨rfl, b14⟩
            have B14 := Lib.hid (below_step B13.out b14)
            clear b14
            go_wp2_with fail
            go_ret
            exact ⟨rfl, B14.out⟩
          | true =>
            have HU : Hid (∀ k, k < h.length → ((at_ L n).2.2.2.any fun s => decide (s.1 = at_ h k)) = false) := fun k hk => pass_free ha hn z2 hk
            cases z1 : passB L n (h ++ [x]) with
            | false =>
              have Z1 := Lib.hid z1
              have Z2 := Lib.hid z2
              have Z3 := Lib.hid z3
              have Z4 := Lib.hid z4
              have Z5 := Lib.hid z5
              clear z1 z2 z3 z4 z5
              go_enter Try.func5, Try.ntmps5
              go_wp2_with fail
              refine (great6_any A c L A2 c2 h _ HR.out HM.out).mono ?_
              rintro e w1 ⟨rfl, b1⟩
              have B1 := Lib.hid b1
              replace HT := Lib.hid (HT.out.below b1)
              replace HI := Lib.hid (HI.out.below b1)
              clear b1
              go_wp2_with fail
              refine (refAll_any A c L _ HT.out.1 HT.out.2.1 HT.out.2.2).mono ?_
              rintro e w2 ⟨rfl, b2⟩
              have B2 := Lib.hid (below_step B1.out b2)
              replace HT := Lib.hid (HT.out.below b2)
              replace HI := Lib.hid (HI.out.below b2)
              clear b2
              have bA := below_one w2 (Obj.cells #[] 3)
              have HIA := Lib.hid (HI.out.below bA)
              have HE := Lib.hid (ow_empty w2 w2.heap.size 3 (Nat.le_refl _))
              have HBA := Lib.hid bA
              clear bA
              go_wp2_with (at_builtin
                           first
                             | (refine list_app_n slI rfl _ _ rfl (base := w2.heap.size) (l := []) (r := h) (n := 0) (m := h.length) rfl rfl rfl rfl HE.out HIA.out.2 (by omega) (by simp) ?_
                                intro A3 c3 w3 k1 k2 k3
                                have O3 := Lib.hid k1
                                have B3 := Lib.hid (HBA.out.trans k2)
                                clear k1 k2 k3)
                             | (refine list_app_n slI rfl _ _ rfl (base := w2.heap.size) (l := [] ++ h) (r := [x]) (n := h.length) (m := 1) (by simp) rfl rfl rfl (O3.out.alloc _) (rd_new1 _ _ x HFX.out) (by omega) (by have := B3.out.size; simp; omega) ?_
                                intro A4 c4 w4 k1 k2 k3
                                have O4 := Lib.hid k1
                                have B4 := Lib.hid (B3.out.trans (((Below.refl _ _).alloc B3.out.size _).trans k2))
                                clear k1 k2 k3))
              have HX : Hid (IL w4 A4 c4 (h ++ [x])) := ⟨by simp; omega, by have := O4.out.rd; simpa using this⟩
              have hxl : (h ++ [x]).length = h.length + 1 := by simp
              have B5 := Lib.hid (below_step B2.out B4.out)
              replace HT := Lib.hid (HT.out.below B4.out)
              replace HI := Lib.hid (HI.out.below B4.out)
              clear HIA HE HBA O3 B3 O4 B4 B1 B2
              have HXL := Lib.hid hxl
              clear hxl
              refine (passes_v A c L n A4 c4 (h ++ [x]) false Z1.out _ rfl _ HXL.out _ FN.out HT.out HX.out).mono ?_
              rintro e w6 ⟨rfl, b6⟩
              have B6 := Lib.hid (below_step B5.out b6)
              replace HT := Lib.hid (HT.out.below b6)
              replace HI := Lib.hid (HI.out.below b6)
              replace HX := Lib.hid (HX.out.below b6)
              clear b6
              go_wp2_with fail
              refine (passes_v A c L n A2 c2 h true Z2.out _ rfl _ rfl _ FN.out HT.out HI.out).mono ?_
              rintro e w7 ⟨rfl, b7⟩
              have B7 := Lib.hid (below_step B6.out b7)
              replace HT := Lib.hid (HT.out.below b7)
              replace HI := Lib.hid (HI.out.below b7)
              replace HX := Lib.hid (HX.out.below b7)
              clear b7
              go_wp2_with fail
              go_loopg [10] h.length (fun g k wr => ∃ m : Nat, k = .int .i64 m ∧ m + g = h.length ∧ Hid (Below w7.heap.size w7 wr))
              case atStart => exact ⟨0, rfl, by omega, Below.refl _ _⟩
              case round =>
                obtain ⟨m, rfl, hm, HB⟩ := hrel
                replace HT := Lib.hid (HT.out.below HB.out)
                replace HI := Lib.hid (HI.out.below HB.out)
                replace HX := Lib.hid (HX.out.below HB.out)
                by_cases hlt : m < h.length
                · obtain ⟨b, off, rfl, hc⟩ := HI.out.2.int (by omega)
                  obtain ⟨y1, _⟩ := hc m hlt
                  obtain ⟨g, off2, rfl, hc2⟩ := task_at HT.out.2.2 (by omega)
                  obtain ⟨B, d, x1, x2, x3, x4, _, _, _, r4⟩ := hc2 n hn
                  have R4 := Lib.hid r4.rd
                  have HL := Lib.hid (HT.out.2.1 n hn)
                  have HV := Lib.hid (HU.out m hlt)
                  clear hc hc2 r4
                  have i1 : (0 : Int) ≤ (n : Int) := by omega
                  have i2 : (n : Int) < (L.length : Int) := by omega
                  have i3 : (0 : Int) ≤ (m : Int) := by omega
                  have i4 : (m : Int) < (h.length : Int) := by omega
                  generalize at_ h m = y at *
                  generalize at_ L n = t at *
                  go_wp2_with fail
                  replace x1 := cell_bw x1
                  replace x2 := cell_bw x2
                  replace x3 := cell_bw x3
                  replace x4 := cell_bw x4
                  replace y1 := cell_bw y1
                  refine wp_region_bw (by kernel_rfl) (by kernel_rfl) ?_
                  repeat
                    (with_reducible refine wpQuiet_step (fun K hK => ?_)
                     go_simp
                     first
                       | (with_reducible refine hK _ ?_
                          clear hK K)
                       | (rw [if_neg]
                          rotate_left
                          focus (intro h; cases h; done)
                          with_reducible refine hK _ ?_
                          clear hK K)
                       | (apply Exists.intro
                          refine ⟨fun _ => ?_, hK _ ?_⟩
                          (exact Calls.bw (refUses_v t B d y false HV.out _ HL.out (R4.out.bw _)))
                          clear hK K))
                  with_reducible refine wpQuiet_nil ?_
                  intro wb hw'
                  obtain ⟨⟨wb', lb⟩, hw''⟩ := hw'
                  subst hw''
                  go_wp2_with fail
                  go_roundg (gk - 1)
                  case measure => omega
                  case rel => exact ⟨m + 1, by go_num, by omega, below_step HB.out lb⟩
                · go_wp2_with fail
                  refine (passes_v A c L n none 0 [] true Z3.out _ rfl 0 rfl _ FN.out HT.out (il_nil _)).mono ?_
                  rintro e w11 ⟨rfl, b11⟩
                  have B11 := Lib.hid b11
                  replace HT := Lib.hid (HT.out.below b11)
                  replace HI := Lib.hid (HI.out.below b11)
                  replace HX := Lib.hid (HX.out.below b11)
                  clear b11
                  go_wp2_with fail
                  refine (held_v A c L A4 c4 (h ++ [x]) p Z4.out _ rfl _ HXL.out _ HT.out HX.out).mono ?_
                  rintro e w12 ⟨rfl, b12⟩
                  have B12 := Lib.hid (below_step B11.out b12)
                  replace HT := Lib.hid (HT.out.below b12)
                  replace HI := Lib.hid (HI.out.below b12)
                  replace HX := Lib.hid (HX.out.below b12)
                  clear b12
                  go_wp2_with fail
                  refine (held_v A c L A2 c2 h q Z5.out _ rfl _ rfl _ HT.out HI.out).mono ?_
                  rintro e w13 ⟨rfl, b13⟩
                  have B13 := Lib.hid (below_step B12.out b13)
                  replace HT := Lib.hid (HT.out.below b13)
                  replace HI := Lib.hid (HI.out.below b13)
                  replace HX := Lib.hid (HX.out.below b13)
                  clear b13
                  go_wp2_with fail
                  refine (knows6_any _).mono ?_
                  rintro e w14 ⟨rfl, b14⟩
                  have B14 := Lib.hid (below_step B13.out b14)
                  clear b14
                  go_wp2_with fail
                  go_ret
                  exact ⟨rfl, below_step B7.out (below_step HB.out B14.out)⟩
            | true =>
              have Z1 := Lib.hid z1
              have Z2 := Lib.hid z2
              have Z3 := Lib.hid z3
              have Z4 := Lib.hid z4
              have Z5 := Lib.hid z5
              clear z1 z2 z3 z4 z5
              go_enter Try.func5, Try.ntmps5
              go_wp2_with fail
              refine (great6_any A c L A2 c2 h _ HR.out HM.out).mono ?_
              rintro e w1 ⟨rfl, b1⟩
              have B1 := Lib.hid b1
              replace HT := Lib.hid (HT.out.below b1)
              replace HI := Lib.hid (HI.out.below b1)
              clear b1
              go_wp2_with fail
              refine (refAll_any A c L _ HT.out.1 HT.out.2.1 HT.out.2.2).mono ?_
              rintro e w2 ⟨rfl, b2⟩
              have B2 := Lib.hid (below_step B1.out b2)
              replace HT := Lib.hid (HT.out.below b2)
              replace HI := Lib.hid (HI.out.below b2)
              clear b2
              have bA := below_one w2 (Obj.cells #[] 3)
              have HIA := Lib.hid (HI.out.below bA)
              have HE := Lib.hid (ow_empty w2 w2.heap.size 3 (Nat.le_refl _))
              have HBA := Lib.hid bA
              clear bA
              go_wp2_with (at_builtin
                           first
                             | (refine list_app_n slI rfl _ _ rfl (base := w2.heap.size) (l := []) (r := h) (n := 0) (m := h.length) rfl rfl rfl rfl HE.out HIA.out.2 (by omega) (by simp) ?_
                                intro A3 c3 w3 k1 k2 k3
                                have O3 := Lib.hid k1
                                have B3 := Lib.hid (HBA.out.trans k2)
                                clear k1 k2 k3)
                             | (refine list_app_n slI rfl _ _ rfl (base := w2.heap.size) (l := [] ++ h) (r := [x]) (n := h.length) (m := 1) (by simp) rfl rfl rfl (O3.out.alloc _) (rd_new1 _ _ x HFX.out) (by omega) (by have := B3.out.size; simp; omega) ?_
                                intro A4 c4 w4 k1 k2 k3
                                have O4 := Lib.hid k1
                                have B4 := Lib.hid (B3.out.trans (((Below.refl _ _).alloc B3.out.size _).trans k2))
                                clear k1 k2 k3))
              have HX : Hid (IL w4 A4 c4 (h ++ [x])) := ⟨by simp; omega, by have := O4.out.rd; simpa using this⟩
              have hxl : (h ++ [x]).length = h.length + 1 := by simp
              have B5 := Lib.hid (below_step B2.out B4.out)
              replace HT := Lib.hid (HT.out.below B4.out)
              replace HI := Lib.hid (HI.out.below B4.out)
              clear HIA HE HBA O3 B3 O4 B4 B1 B2
              have HXL := Lib.hid hxl
              clear hxl
              refine (passes_v A c L n A4 c4 (h ++ [x]) true Z1.out _ rfl _ HXL.out _ FN.out HT.out HX.out).mono ?_
              rintro e w6 ⟨rfl, b6⟩
              have B6 := Lib.hid (below_step B5.out b6)
              replace HT := Lib.hid (HT.out.below b6)
              replace HI := Lib.hid (HI.out.below b6)
              replace HX := Lib.hid (HX.out.below b6)
              clear b6
              go_wp2_with fail
              refine (passes_v A c L n A2 c2 h true Z2.out _ rfl _ rfl _ FN.out HT.out HI.out).mono ?_
              rintro e w7 ⟨rfl, b7⟩
              have B7 := Lib.hid (below_step B6.out b7)
              replace HT := Lib.hid (HT.out.below b7)
              replace HI := Lib.hid (HI.out.below b7)
              replace HX := Lib.hid (HX.out.below b7)
              clear b7
              go_wp2_with fail
              refine (passes_v A c L n A2 c2 h true Z2.out _ rfl _ rfl _ FN.out HT.out HI.out).mono ?_
              rintro e w8 ⟨rfl, b8⟩
              have B8 := Lib.hid (below_step B7.out b8)
              replace HT := Lib.hid (HT.out.below b8)
              replace HI := Lib.hid (HI.out.below b8)
              replace HX := Lib.hid (HX.out.below b8)
              clear b8
              go_wp2_with fail
              go_loopg [10] h.length (fun g k wr => ∃ m : Nat, k = .int .i64 m ∧ m + g = h.length ∧ Hid (Below w8.heap.size w8 wr))
              case atStart => exact ⟨0, rfl, by omega, Below.refl _ _⟩
              case round =>
                obtain ⟨m, rfl, hm, HB⟩ := hrel
                replace HT := Lib.hid (HT.out.below HB.out)
                replace HI := Lib.hid (HI.out.below HB.out)
                replace HX := Lib.hid (HX.out.below HB.out)
                by_cases hlt : m < h.length
                · obtain ⟨b, off, rfl, hc⟩ := HI.out.2.int (by omega)
                  obtain ⟨y1, _⟩ := hc m hlt
                  obtain ⟨g, off2, rfl, hc2⟩ := task_at HT.out.2.2 (by omega)
                  obtain ⟨B, d, x1, x2, x3, x4, _, _, _, r4⟩ := hc2 n hn
                  have R4 := Lib.hid r4.rd
                  have HL := Lib.hid (HT.out.2.1 n hn)
                  have HV := Lib.hid (HU.out m hlt)
                  clear hc hc2 r4
                  have i1 : (0 : Int) ≤ (n : Int) := by omega
                  have i2 : (n : Int) < (L.length : Int) := by omega
                  have i3 : (0 : Int) ≤ (m : Int) := by omega
                  have i4 : (m : Int) < (h.length : Int) := by omega
                  generalize at_ h m = y at *
                  generalize at_ L n = t at *
                  go_wp2_with fail
                  replace x1 := cell_bw x1
                  replace x2 := cell_bw x2
                  replace x3 := cell_bw x3
                  replace x4 := cell_bw x4
                  replace y1 := cell_bw y1
                  refine wp_region_bw (by kernel_rfl) (by kernel_rfl) ?_
                  repeat
                    (with_reducible refine wpQuiet_step (fun K hK => ?_)
                     go_simp
                     first
                       | (with_reducible refine hK _ ?_
                          clear hK K)
                       | (rw [if_neg]
                          rotate_left
                          focus (intro h; cases h; done)
                          with_reducible refine hK _ ?_
                          clear hK K)
                       | (apply Exists.intro
                          refine ⟨fun _ => ?_, hK _ ?_⟩
                          (exact Calls.bw (refUses_v t B d y false HV.out _ HL.out (R4.out.bw _)))
                          clear hK K))
                  with_reducible refine wpQuiet_nil ?_
                  intro wb hw'
                  obtain ⟨⟨wb', lb⟩, hw''⟩ := hw'
                  subst hw''
                  go_wp2_with fail
                  go_roundg (gk - 1)
                  case measure => omega
                  case rel => exact ⟨m + 1, by go_num, by omega, below_step HB.out lb⟩
                · go_wp2_with fail
                  refine (passes_v A c L n none 0 [] true Z3.out _ rfl 0 rfl _ FN.out HT.out (il_nil _)).mono ?_
                  rintro e w11 ⟨rfl, b11⟩
                  have B11 := Lib.hid b11
                  replace HT := Lib.hid (HT.out.below b11)
                  replace HI := Lib.hid (HI.out.below b11)
                  replace HX := Lib.hid (HX.out.below b11)
                  clear b11
                  go_wp2_with fail
                  refine (held_v A c L A4 c4 (h ++ [x]) p Z4.out _ rfl _ HXL.out _ HT.out HX.out).mono ?_
                  rintro e w12 ⟨rfl, b12⟩
                  have B12 := Lib.hid (below_step B11.out b12)
                  replace HT := Lib.hid (HT.out.below b12)
                  replace HI := Lib.hid (HI.out.below b12)
                  replace HX := Lib.hid (HX.out.below b12)
                  clear b12
                  go_wp2_with fail
                  refine (held_v A c L A2 c2 h q Z5.out _ rfl _ rfl _ HT.out HI.out).mono ?_
                  rintro e w13 ⟨rfl, b13⟩
                  have B13 := Lib.hid (below_step B12.out b13)
                  replace HT := Lib.hid (HT.out.below b13)
                  replace HI := Lib.hid (HI.out.below b13)
                  replace HX := Lib.hid (HX.out.below b13)
                  clear b13
                  go_wp2_with fail
                  refine (knows6_any _).mono ?_
                  rintro e w14 ⟨rfl, b14⟩
                  have B14 := Lib.hid (below_step B13.out b14)
                  clear b14
                  go_wp2_with fail
                  go_ret
                  exact ⟨rfl, below_step B8.out (below_step HB.out B14.out)⟩

set_option maxRecDepth 100000 in
theorem lifted (os : Os) (started : os.Started) (H : Type) (enc : TypeId × Value → H) :
    ReturnsInHanded {} Try.checked os 5 .any (Rows.levelPassesSpec.pre6 enc Try.prog Try.f5 Rows.levelPassesRow.domain false) (Rows.levelPassesSpec.post enc Try.prog Try.f5 false true false false) := by
  refine returnsInHanded_of_change (C := Try.checked) own started (by kernel_rfl) Try.func5
    (ChangeSpec.witness6 (enc := enc) (C := Try.checked) false ⟨#[], #[.slice none 0 0, .int .i64 0, .slice none 0 0, .int .i64 0], []⟩ 8 (by kernel_rfl) (by kernel_rfl) (by kernel_rfl) (by kernel_rfl)) ?_
  intro W base args ds gs before hval0 hW hcnd _
  have hval : ∀ (j : Nat) t v, Try.f5.params[j]? = some t → args[j]? = some v → Value.okWide Try.prog W .any base t v := hval0
  have hW' := hW
  obtain ⟨p, q, hA0, hV, rfl, hfz, hnd⟩ := hW
  have hA : DataW.TrodAll enc Try.prog W 0 (fun _ => true) true Try.f5.params.toList args.toList ds p := hA0
  rw [Try.params5] at hA hval
  obtain ⟨v0, v1, v2, v3, d0, d1, d2, d3, p0, p1, p2, p3, rfl, rfl, rfl, h0, h1, h2, h3⟩ := trodAll_four' hA
  obtain ⟨rfl, rfl⟩ := trodVars_none hV
  obtain ⟨A0, c0, l0, rfl, hr0⟩ := Mm.open_list (α := Tk.Tsk) Try.underlying22 Tk.opTasks (hval 0 22 v0 rfl rfl) h0
  obtain ⟨n1, rfl, f1⟩ := Mm.open_num' Try.underlying3 (hval 1 3 v1 rfl rfl) h1
  obtain ⟨A2, c2, l2, rfl, hr2⟩ := Mm.open_list (α := Int) Try.underlying23 Mm.opInts (hval 2 23 v2 rfl rfl) h2
  obtain ⟨n3, rfl, f3⟩ := Mm.open_num' Try.underlying3 (hval 3 3 v3 rfl rfl) h3
  clear hA0 hval0
  refine (walk A0 c0 l0 n1 A2 c2 l2 n3 W hr0 f1 hr2 f3).mono fun e W' ⟨he, bel⟩ => ?_
  subst he
  have hlt0 : ∀ x ∈ p0, x.block < W.heap.size := fun x hx => hW'.lt x (by simp [hx])
  have hlt1 : ∀ x ∈ p1, x.block < W.heap.size := fun x hx => hW'.lt x (by simp [hx])
  have hlt2 : ∀ x ∈ p2, x.block < W.heap.size := fun x hx => hW'.lt x (by simp [hx])
  have hlt3 : ∀ x ∈ p3, x.block < W.heap.size := fun x hx => hW'.lt x (by simp [hx])
  exact ⟨_, rfl, _, _, _, [], _, [], hW', trodAll_mk1 (shut_bool Try.underlying4 _), trodAll_mk4 (Below.trod laidOut (by kernel_rfl) (of_decide_eq_true (by kernel_rfl)) h0 bel hlt0) (Below.trod laidOut (by kernel_rfl) (of_decide_eq_true (by kernel_rfl)) h1 bel hlt1) (Below.trod laidOut (by kernel_rfl) (of_decide_eq_true (by kernel_rfl)) h2 bel hlt2) (Below.trod laidOut (by kernel_rfl) (of_decide_eq_true (by kernel_rfl)) h3 bel hlt3), rfl, bel.frame _, fun h => by cases h⟩

/-- The statement. -/
theorem proved : Rows.LevelPassesSaid :=
  OpenClaim.holds_of_wide 5 Try.f5 rfl rfl rfl rfl rfl rfl rfl ⟨rfl, rfl, rfl, rfl, rfl⟩ rfl rfl rfl rfl rfl (by kernel_rfl) Try.func5 (by kernel_rfl)
    (of_decide_eq_true (by kernel_rfl)) (by unfold Func.isWrapper; first | (rw [if_pos (by decide +kernel)]; kernel_rfl) | (rw [if_neg (by decide +kernel)]; exact ⟨rfl, rfl⟩))
    (fun os started H enc _ => lifted os started H enc)
#print axioms proved

end Go.Proofs.Ytlgfbodmaocibaa.levelPasses
