/-
  For every list of tasks and any two bytes the statement TaskRights of layer 5 returns true (which tasks are right, and which are alike, is what the document says), and its arguments read as before. No condition.
-/
import Derived.Test.YtaehcgfmdpjfaaaLaw05Args
import Derived.Test.YtaehcgfmdpjfaaaLaw05Knows
import Derived.Test.YtaehcgfmdpjfaaaLaw05Same
namespace Go.Proofs.Ytaehcgfmdpjfaaa.taskRights
open Go.ChangeShapes Go.WideShapes Go.ChangeAt Go.RowKit
open Mm Tk

set_option maxHeartbeats 1600000 in
theorem walk (A : Option Addr) (c : Nat) (L : List Tsk) (i k : Nat) (w : World) (hr : Rd w A c L) (hi : i < 256) (hk : k < 256) :
    Calls Try.prog 3 #[.slice A L.length c, .int .u8 i, .int .u8 k] w fun e w' => e = .returned (.bool true) ∧ Below w.heap.size w w' := by
  have HR := Lib.hid hr
  clear hr
  by_cases hstop : greatB L = true ∨ L.length = 0
  · cases hg : greatB L with
    | true =>
      go_enter Try.func3, Try.ntmps3
      go_wp2_with fail
      refine (great_any A c L _ HR.out).mono ?_
      rintro e w1 ⟨rfl, b1⟩
      have B1 := Lib.hid b1
      clear b1
      go_wp2_with fail
      refine (knows_any _).mono ?_
      rintro e w2 ⟨rfl, b2⟩
      have B2 := Lib.hid (below_step B1.out b2)
      clear b2
      go_wp2_with fail
      go_ret
      exact ⟨rfl, B2.out⟩
    | false =>
      have h0 : L.length = 0 := by rcases hstop with h | h
                                   · rw [hg] at h; cases h
                                   · exact h
      have hL := List.eq_nil_of_length_eq_zero h0
      subst hL
      go_enter Try.func3, Try.ntmps3
      go_wp2_with fail
      refine (great_any A c [] _ HR.out).mono ?_
      rintro e w1 ⟨rfl, b1⟩
      have B1 := Lib.hid b1
      clear b1
      go_wp2_with fail
      refine (knows_any _).mono ?_
      rintro e w2 ⟨rfl, b2⟩
      have B2 := Lib.hid (below_step B1.out b2)
      clear b2
      go_wp2_with fail
      go_ret
      exact ⟨rfl, B2.out⟩
  · have hg : greatB L = false := by rw [← Bool.not_eq_true]; exact fun h => hstop (.inl h)
    have hl0 : 0 < L.length := by omega
    obtain ⟨hl20, hin⟩ := great_no hg
    have HIN : Hid (∀ j, j < L.length → (at_ L j).2.2.2.length ≤ 20) := hin
    clear hstop hin
    go_enter Try.func3, Try.ntmps3
    go_wp2_with fail
    refine (great_any A c L _ HR.out).mono ?_
    rintro e w1 ⟨rfl, b1⟩
    have B1 := Lib.hid b1
    clear b1
    go_wp2_with fail
    have ha : i % L.length < L.length := Nat.mod_lt _ hl0
    have hb : k % L.length < L.length := Nat.mod_lt _ hl0
    have e1 : Int.tmod (i : Int) (L.length : Int) = ((i % L.length : Nat) : Int) := by rw [Int.tmod_eq_emod_of_nonneg (by omega)]; exact (Int.natCast_emod i L.length).symm
    have e2 : Int.tmod (k : Int) (L.length : Int) = ((k % L.length : Nat) : Int) := by rw [Int.tmod_eq_emod_of_nonneg (by omega)]; exact (Int.natCast_emod k L.length).symm
    generalize i % L.length = a at *
    generalize k % L.length = b at *
    obtain ⟨g, off, rfl, hc⟩ := task_at (HR.out.below B1.out) hl0
    obtain ⟨Ba, da, x1, x2, x3, x4, fx1, fx2, fx3, rx⟩ := hc a ha
    obtain ⟨Bb, db, y1, y2, y3, y4, fy1, fy2, fy3, ry⟩ := hc b hb
    clear hc
    have RX := Lib.hid rx.rd
    have RY := Lib.hid ry.rd
    have hxl := HIN.out a ha
    have hyl := HIN.out b hb
    clear rx ry fx1 fx2 fx3 fy1 fy2 fy3
    have i1 : (0 : Int) ≤ (a : Int) := by omega
    have i2 : (a : Int) < (L.length : Int) := by omega
    have i3 : (0 : Int) ≤ (b : Int) := by omega
    have i4 : (b : Int) < (L.length : Int) := by omega
    have i5 : ¬ (L.length : Int) = 0 := by omega
    generalize at_ L a = x at *
    generalize at_ L b = y at *
    have hg := lt_of_cell x1
    simp only at hg
    have px1 := cell_new x1 (Obj.cells #[.int .i64 0, .int .i64 0, .int .i64 0, .slice none 0 0] 27)
    have qx1 := cell_new px1 (Obj.cells #[.int .i64 0, .int .i64 0, .int .i64 0, .slice none 0 0] 27)
    have px2 := cell_new x2 (Obj.cells #[.int .i64 0, .int .i64 0, .int .i64 0, .slice none 0 0] 27)
    have qx2 := cell_new px2 (Obj.cells #[.int .i64 0, .int .i64 0, .int .i64 0, .slice none 0 0] 27)
    have px3 := cell_new x3 (Obj.cells #[.int .i64 0, .int .i64 0, .int .i64 0, .slice none 0 0] 27)
    have qx3 := cell_new px3 (Obj.cells #[.int .i64 0, .int .i64 0, .int .i64 0, .slice none 0 0] 27)
    have px4 := cell_new x4 (Obj.cells #[.int .i64 0, .int .i64 0, .int .i64 0, .slice none 0 0] 27)
    have qx4 := cell_new px4 (Obj.cells #[.int .i64 0, .int .i64 0, .int .i64 0, .slice none 0 0] 27)
    have py1 := cell_new y1 (Obj.cells #[.int .i64 0, .int .i64 0, .int .i64 0, .slice none 0 0] 27)
    have qy1 := cell_new py1 (Obj.cells #[.int .i64 0, .int .i64 0, .int .i64 0, .slice none 0 0] 27)
    have py2 := cell_new y2 (Obj.cells #[.int .i64 0, .int .i64 0, .int .i64 0, .slice none 0 0] 27)
    have qy2 := cell_new py2 (Obj.cells #[.int .i64 0, .int .i64 0, .int .i64 0, .slice none 0 0] 27)
    have py3 := cell_new y3 (Obj.cells #[.int .i64 0, .int .i64 0, .int .i64 0, .slice none 0 0] 27)
    have qy3 := cell_new py3 (Obj.cells #[.int .i64 0, .int .i64 0, .int .i64 0, .slice none 0 0] 27)
    have py4 := cell_new y4 (Obj.cells #[.int .i64 0, .int .i64 0, .int .i64 0, .slice none 0 0] 27)
    have qy4 := cell_new py4 (Obj.cells #[.int .i64 0, .int .i64 0, .int .i64 0, .slice none 0 0] 27)
    go_region
    · have b2 := below_two w1 (Obj.cells #[.int .i64 x.1, .int .i64 x.2.1, .int .i64 x.2.2.1, .slice Ba x.2.2.2.length da] 27) (Obj.cells #[.int .i64 y.1, .int .i64 y.2.1, .int .i64 y.2.2.1, .slice Bb y.2.2.2.length db] 27)
      obtain ⟨u1, u2, u3, u4⟩ := (box_new w1 x.1 x.2.1 x.2.2.1 Ba x.2.2.2.length da).below (below_one _ (Obj.cells #[.int .i64 y.1, .int .i64 y.2.1, .int .i64 y.2.2.1, .slice Bb y.2.2.2.length db] 27))
      obtain ⟨v1, v2, v3, v4⟩ := box_at (w1.alloc (Obj.cells #[.int .i64 x.1, .int .i64 x.2.1, .int .i64 x.2.2.1, .slice Ba x.2.2.2.length da] 27)) y.1 y.2.1 y.2.2.1 Bb y.2.2.2.length db (w1.heap.size + 1) (by simp)
      have b2 := b2.drew
      have B2 := Lib.hid (below_step B1.out b2)
      replace u1 := show ((w1.alloc (Obj.cells #[.int .i64 x.1, .int .i64 x.2.1, .int .i64 x.2.2.1, .slice Ba x.2.2.2.length da] 27)).alloc (Obj.cells #[.int .i64 y.1, .int .i64 y.2.1, .int .i64 y.2.2.1, .slice Bb y.2.2.2.length db] 27)).drew.cell? _ = _ from u1
      replace u2 := show ((w1.alloc (Obj.cells #[.int .i64 x.1, .int .i64 x.2.1, .int .i64 x.2.2.1, .slice Ba x.2.2.2.length da] 27)).alloc (Obj.cells #[.int .i64 y.1, .int .i64 y.2.1, .int .i64 y.2.2.1, .slice Bb y.2.2.2.length db] 27)).drew.cell? _ = _ from u2
      replace u3 := show ((w1.alloc (Obj.cells #[.int .i64 x.1, .int .i64 x.2.1, .int .i64 x.2.2.1, .slice Ba x.2.2.2.length da] 27)).alloc (Obj.cells #[.int .i64 y.1, .int .i64 y.2.1, .int .i64 y.2.2.1, .slice Bb y.2.2.2.length db] 27)).drew.cell? _ = _ from u3
      replace u4 := show ((w1.alloc (Obj.cells #[.int .i64 x.1, .int .i64 x.2.1, .int .i64 x.2.2.1, .slice Ba x.2.2.2.length da] 27)).alloc (Obj.cells #[.int .i64 y.1, .int .i64 y.2.1, .int .i64 y.2.2.1, .slice Bb y.2.2.2.length db] 27)).drew.cell? _ = _ from u4
      replace v1 := show ((w1.alloc (Obj.cells #[.int .i64 x.1, .int .i64 x.2.1, .int .i64 x.2.2.1, .slice Ba x.2.2.2.length da] 27)).alloc (Obj.cells #[.int .i64 y.1, .int .i64 y.2.1, .int .i64 y.2.2.1, .slice Bb y.2.2.2.length db] 27)).drew.cell? _ = _ from v1
      replace v2 := show ((w1.alloc (Obj.cells #[.int .i64 x.1, .int .i64 x.2.1, .int .i64 x.2.2.1, .slice Ba x.2.2.2.length da] 27)).alloc (Obj.cells #[.int .i64 y.1, .int .i64 y.2.1, .int .i64 y.2.2.1, .slice Bb y.2.2.2.length db] 27)).drew.cell? _ = _ from v2
      replace v3 := show ((w1.alloc (Obj.cells #[.int .i64 x.1, .int .i64 x.2.1, .int .i64 x.2.2.1, .slice Ba x.2.2.2.length da] 27)).alloc (Obj.cells #[.int .i64 y.1, .int .i64 y.2.1, .int .i64 y.2.2.1, .slice Bb y.2.2.2.length db] 27)).drew.cell? _ = _ from v3
      replace v4 := show ((w1.alloc (Obj.cells #[.int .i64 x.1, .int .i64 x.2.1, .int .i64 x.2.2.1, .slice Ba x.2.2.2.length da] 27)).alloc (Obj.cells #[.int .i64 y.1, .int .i64 y.2.1, .int .i64 y.2.2.1, .slice Bb y.2.2.2.length db] 27)).drew.cell? _ = _ from v4
      generalize hw : ((w1.alloc (Obj.cells #[.int .i64 x.1, .int .i64 x.2.1, .int .i64 x.2.2.1, .slice Ba x.2.2.2.length da] 27)).alloc (Obj.cells #[.int .i64 y.1, .int .i64 y.2.1, .int .i64 y.2.2.1, .slice Bb y.2.2.2.length db] 27)).drew = w2 at *
      have RX2 := Lib.hid (RX.out.below b2)
      have RY2 := Lib.hid (RY.out.below b2)
      have HL2 := Lib.hid (HR.out.below B2.out)
      clear b2 x1 x2 x3 x4 y1 y2 y3 y4 px1 qx1 px2 qx2 px3 qx3 px4 qx4 py1 qy1 py2 qy2 py3 qy3 py4 qy4 hw
      replace u1 := cell_bw u1
      replace u2 := cell_bw u2
      replace u3 := cell_bw u3
      replace u4 := cell_bw u4
      replace v1 := cell_bw v1
      replace v2 := cell_bw v2
      replace v3 := cell_bw v3
      replace v4 := cell_bw v4
      have HINL : Hid (∀ j, j < L.length → (at_ L j).2.2.2.length ≤ 1000000) := fun j hj => Nat.le_trans (HIN.out j hj) (by decide)
      go_wp2_with fail
      refine wp_region_bw (by kernel_rfl) (by kernel_rfl) ?_
      repeat
        (with_reducible refine wpQuiet_step (fun K hK => ?_)
         go_simp
         first
           | (with_reducible refine hK _ ?_
              clear hK K)
           | (rw [if_neg]
              rotate_left
              focus (intro h; cases h; done)
              with_reducible refine hK _ ?_
              clear hK K)
           | (apply Exists.intro
              refine ⟨fun _ => ?_, hK _ ?_⟩
              (first | (go_at_call 8; exact Calls.bw (right_any _ _ _ _ _ x.2.2.2 _ (by omega) (RX2.out.bw _))) | (go_at_call 9; exact Calls.bw (refRight_any _ _ _ _ _ x.2.2.2 _ (by omega) (RX2.out.bw _))) | (go_at_call 10; exact Calls.bw (all_any _ _ L _ (by omega) HINL.out (HL2.out.bw _))) | (go_at_call 11; exact Calls.bw (refAll_any _ _ L _ (by omega) HINL.out (HL2.out.bw _))) | (go_at_call 12; exact Calls.bw (same_any _ _ _ _ x y _ (by omega) (by omega) (RX2.out.bw _) (RY2.out.bw _))) | (go_at_call 13; exact Calls.bw (refSame_any _ _ _ _ x y _ (by omega) (by omega) (RX2.out.bw _) (RY2.out.bw _))) | (go_at_call 7; exact Calls.bw (knows_any _)))
              clear hK K))
      with_reducible refine wpQuiet_nil ?_
      intro wb hw'
      obtain ⟨⟨wb', lb⟩, hw''⟩ := hw'
      subst hw''
      go_wp2_with fail
      go_ret
      exact ⟨rfl, below_step B2.out lb⟩
    · have b2 := below_two w1 (Obj.cells #[.int .i64 y.1, .int .i64 y.2.1, .int .i64 y.2.2.1, .slice Bb y.2.2.2.length db] 27) (Obj.cells #[.int .i64 x.1, .int .i64 x.2.1, .int .i64 x.2.2.1, .slice Ba x.2.2.2.length da] 27)
      obtain ⟨v1, v2, v3, v4⟩ := (box_new w1 y.1 y.2.1 y.2.2.1 Bb y.2.2.2.length db).below (below_one _ (Obj.cells #[.int .i64 x.1, .int .i64 x.2.1, .int .i64 x.2.2.1, .slice Ba x.2.2.2.length da] 27))
      obtain ⟨u1, u2, u3, u4⟩ := box_at (w1.alloc (Obj.cells #[.int .i64 y.1, .int .i64 y.2.1, .int .i64 y.2.2.1, .slice Bb y.2.2.2.length db] 27)) x.1 x.2.1 x.2.2.1 Ba x.2.2.2.length da (w1.heap.size + 1) (by simp)
      have b2 := b2.drew
      have B2 := Lib.hid (below_step B1.out b2)
      replace u1 := show ((w1.alloc (Obj.cells #[.int .i64 y.1, .int .i64 y.2.1, .int .i64 y.2.2.1, .slice Bb y.2.2.2.length db] 27)).alloc (Obj.cells #[.int .i64 x.1, .int .i64 x.2.1, .int .i64 x.2.2.1, .slice Ba x.2.2.2.length da] 27)).drew.cell? _ = _ from u1
      replace u2 := show ((w1.alloc (Obj.cells #[.int .i64 y.1, .int .i64 y.2.1, .int .i64 y.2.2.1, .slice Bb y.2.2.2.length db] 27)).alloc (Obj.cells #[.int .i64 x.1, .int .i64 x.2.1, .int .i64 x.2.2.1, .slice Ba x.2.2.2.length da] 27)).drew.cell? _ = _ from u2
      replace u3 := show ((w1.alloc (Obj.cells #[.int .i64 y.1, .int .i64 y.2.1, .int .i64 y.2.2.1, .slice Bb y.2.2.2.length db] 27)).alloc (Obj.cells #[.int .i64 x.1, .int .i64 x.2.1, .int .i64 x.2.2.1, .slice Ba x.2.2.2.length da] 27)).drew.cell? _ = _ from u3
      replace u4 := show ((w1.alloc (Obj.cells #[.int .i64 y.1, .int .i64 y.2.1, .int .i64 y.2.2.1, .slice Bb y.2.2.2.length db] 27)).alloc (Obj.cells #[.int .i64 x.1, .int .i64 x.2.1, .int .i64 x.2.2.1, .slice Ba x.2.2.2.length da] 27)).drew.cell? _ = _ from u4
      replace v1 := show ((w1.alloc (Obj.cells #[.int .i64 y.1, .int .i64 y.2.1, .int .i64 y.2.2.1, .slice Bb y.2.2.2.length db] 27)).alloc (Obj.cells #[.int .i64 x.1, .int .i64 x.2.1, .int .i64 x.2.2.1, .slice Ba x.2.2.2.length da] 27)).drew.cell? _ = _ from v1
      replace v2 := show ((w1.alloc (Obj.cells #[.int .i64 y.1, .int .i64 y.2.1, .int .i64 y.2.2.1, .slice Bb y.2.2.2.length db] 27)).alloc (Obj.cells #[.int .i64 x.1, .int .i64 x.2.1, .int .i64 x.2.2.1, .slice Ba x.2.2.2.length da] 27)).drew.cell? _ = _ from v2
      replace v3 := show ((w1.alloc (Obj.cells #[.int .i64 y.1, .int .i64 y.2.1, .int .i64 y.2.2.1, .slice Bb y.2.2.2.length db] 27)).alloc (Obj.cells #[.int .i64 x.1, .int .i64 x.2.1, .int .i64 x.2.2.1, .slice Ba x.2.2.2.length da] 27)).drew.cell? _ = _ from v3
      replace v4 := show ((w1.alloc (Obj.cells #[.int .i64 y.1, .int .i64 y.2.1, .int .i64 y.2.2.1, .slice Bb y.2.2.2.length db] 27)).alloc (Obj.cells #[.int .i64 x.1, .int .i64 x.2.1, .int .i64 x.2.2.1, .slice Ba x.2.2.2.length da] 27)).drew.cell? _ = _ from v4
      generalize hw : ((w1.alloc (Obj.cells #[.int .i64 y.1, .int .i64 y.2.1, .int .i64 y.2.2.1, .slice Bb y.2.2.2.length db] 27)).alloc (Obj.cells #[.int .i64 x.1, .int .i64 x.2.1, .int .i64 x.2.2.1, .slice Ba x.2.2.2.length da] 27)).drew = w2 at *
      have RX2 := Lib.hid (RX.out.below b2)
      have RY2 := Lib.hid (RY.out.below b2)
      have HL2 := Lib.hid (HR.out.below B2.out)
      clear b2 x1 x2 x3 x4 y1 y2 y3 y4 px1 qx1 px2 qx2 px3 qx3 px4 qx4 py1 qy1 py2 qy2 py3 qy3 py4 qy4 hw
      replace u1 := cell_bw u1
      replace u2 := cell_bw u2
      replace u3 := cell_bw u3
      replace u4 := cell_bw u4
      replace v1 := cell_bw v1
      replace v2 := cell_bw v2
      replace v3 := cell_bw v3
      replace v4 := cell_bw v4
      have HINL : Hid (∀ j, j < L.length → (at_ L j).2.2.2.length ≤ 1000000) := fun j hj => Nat.le_trans (HIN.out j hj) (by decide)
      go_wp2_with fail
      refine wp_region_bw (by kernel_rfl) (by kernel_rfl) ?_
      repeat
        (with_reducible refine wpQuiet_step (fun K hK => ?_)
         go_simp
         first
           | (with_reducible refine hK _ ?_
              clear hK K)
           | (rw [if_neg]
              rotate_left
              focus (intro h; cases h; done)
              with_reducible refine hK _ ?_
              clear hK K)
           | (apply Exists.intro
              refine ⟨fun _ => ?_, hK _ ?_⟩
              (first | (go_at_call 8; exact Calls.bw (right_any _ _ _ _ _ x.2.2.2 _ (by omega) (RX2.out.bw _))) | (go_at_call 9; exact Calls.bw (refRight_any _ _ _ _ _ x.2.2.2 _ (by omega) (RX2.out.bw _))) | (go_at_call 10; exact Calls.bw (all_any _ _ L _ (by omega) HINL.out (HL2.out.bw _))) | (go_at_call 11; exact Calls.bw (refAll_any _ _ L _ (by omega) HINL.out (HL2.out.bw _))) | (go_at_call 12; exact Calls.bw (same_any _ _ _ _ x y _ (by omega) (by omega) (RX2.out.bw _) (RY2.out.bw _))) | (go_at_call 13; exact Calls.bw (refSame_any _ _ _ _ x y _ (by omega) (by omega) (RX2.out.bw _) (RY2.out.bw _))) | (go_at_call 7; exact Calls.bw (knows_any _)))
              clear hK K))
      with_reducible refine wpQuiet_nil ?_
      intro wb hw'
      obtain ⟨⟨wb', lb⟩, hw''⟩ := hw'
      subst hw''
      go_wp2_with fail
      go_ret
      exact ⟨rfl, below_step B2.out lb⟩

set_option maxRecDepth 100000 in
theorem lifted (os : Os) (started : os.Started) (H : Type) (enc : TypeId × Value → H) :
    ReturnsInHanded {} Try.checked os 3 .any (Rows.taskRightsSpec.pre6 enc Try.prog Try.f3 Rows.taskRightsRow.domain false) (Rows.taskRightsSpec.post enc Try.prog Try.f3 false true false false) := by
  refine returnsInHanded_of_change (C := Try.checked) own started (by kernel_rfl) Try.func3
    (ChangeSpec.witness6 (enc := enc) (C := Try.checked) false ⟨#[], #[.slice none 0 0, .int .u8 0, .int .u8 0], []⟩ 8 (by kernel_rfl) (by kernel_rfl) (by kernel_rfl) (by kernel_rfl)) ?_
  intro W base args ds gs before hval0 hW hcnd _
  have hval : ∀ (j : Nat) t v, Try.f3.params[j]? = some t → args[j]? = some v → Value.okWide Try.prog W .any base t v := hval0
  have hW' := hW
  obtain ⟨p, q, hA0, hV, rfl, hfz, hnd⟩ := hW
  have hA : DataW.TrodAll enc Try.prog W 0 (fun _ => true) true Try.f3.params.toList args.toList ds p := hA0
  rw [Try.params3] at hA hval
  obtain ⟨v0, v1, v2, d0, d1, d2, p0, p1, p2, rfl, rfl, rfl, h0, h1, h2⟩ := trodAll_three hA
  obtain ⟨rfl, rfl⟩ := trodVars_none hV
  obtain ⟨A0, c0, l0, rfl, hr0⟩ := Mm.open_list (α := Tk.Tsk) Try.underlying22 Tk.opTasks (hval 0 22 v0 rfl rfl) h0
  obtain ⟨n1, rfl, f1⟩ := Mm.open_u8' Try.underlying5 (hval 1 5 v1 rfl rfl) h1
  obtain ⟨n2, rfl, f2⟩ := Mm.open_u8' Try.underlying5 (hval 2 5 v2 rfl rfl) h2
  clear hA0 hval0
  refine (walk A0 c0 l0 n1 n2 W hr0 f1 f2).mono fun e W' ⟨he, bel⟩ => ?_
  subst he
  have hlt0 : ∀ x ∈ p0, x.block < W.heap.size := fun x hx => hW'.lt x (by simp [hx])
  have hlt1 : ∀ x ∈ p1, x.block < W.heap.size := fun x hx => hW'.lt x (by simp [hx])
  have hlt2 : ∀ x ∈ p2, x.block < W.heap.size := fun x hx => hW'.lt x (by simp [hx])
  exact ⟨_, rfl, _, _, _, [], _, [], hW', trodAll_mk1 (shut_bool Try.underlying4 _), trodAll_mk3 (Below.trod laidOut (by kernel_rfl) (of_decide_eq_true (by kernel_rfl)) h0 bel hlt0) (Below.trod laidOut (by kernel_rfl) (of_decide_eq_true (by kernel_rfl)) h1 bel hlt1) (Below.trod laidOut (by kernel_rfl) (of_decide_eq_true (by kernel_rfl)) h2 bel hlt2), rfl, bel.frame _, fun h => by cases h⟩

/-- The statement. -/
theorem proved : Rows.TaskRightsSaid :=
  OpenClaim.holds_of_wide 3 Try.f3 rfl rfl rfl rfl rfl rfl rfl ⟨rfl, rfl, rfl, rfl, rfl⟩ rfl rfl rfl rfl rfl (by kernel_rfl) Try.func3 (by kernel_rfl)
    (of_decide_eq_true (by kernel_rfl)) (by unfold Func.isWrapper; first | (rw [if_pos (by decide +kernel)]; kernel_rfl) | (rw [if_neg (by decide +kernel)]; exact ⟨rfl, rfl⟩))
    (fun os started H enc _ => lifted os started H enc)
#print axioms proved

end Go.Proofs.Ytaehcgfmdpjfaaa.taskRights
