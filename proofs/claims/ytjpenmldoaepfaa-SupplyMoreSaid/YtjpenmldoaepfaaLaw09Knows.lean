/-
  Layer 9: the calls under other names; the helper knows: the document's examples.
-/
import Derived.Test.YtjpenmldoaepfaaSupplyCalls
import Derived.Test.YtjpenmldoaepfaaMemInts
namespace Go.Proofs.Ytjpenmldoaepfaa
open Go.RowKit Mm
namespace Sp

/-- what Bound answers -/
def bndZ (P B t : Int) : Nat := if okB P B t then sbf P.toNat B.toNat t.toNat else 0
def bndE (P B t : Int) : Nat := if okB P B t then 0 else 1
theorem bound_any (P B t : Int) (w : World) :
    Calls Try.prog 10 #[.agg #[.int .i64 P, .int .i64 B], .int .i64 t] w fun e w' => e = .returned (.tuple #[.int .i64 (bndZ P B t : Nat), .int .i64 (bndE P B t : Nat)]) ∧ Below w.heap.size w w' := by
  unfold bndZ bndE
  cases h : okB P B t with
  | false => exact bound_bad P B t h w
  | true =>
    obtain ⟨h1, h2, h3⟩ := ok_iff.1 h
    obtain ⟨p, b, rfl, rfl, h4, h5, h6⟩ := right_nat h1
    obtain ⟨k, rfl⟩ : ∃ k : Nat, t = k := ⟨t.toNat, by omega⟩
    simp only [if_true, Int.toNat_natCast]
    exact bound_ok p b k h4 h5 h6 (by omega) w
theorem bound_v (P B t z e : Int) (hz : ((bndZ P B t : Nat) : Int) = z) (he : ((bndE P B t : Nat) : Int) = e) (w : World) :
    Calls Try.prog 10 #[.agg #[.int .i64 P, .int .i64 B], .int .i64 t] w fun x w' => x = .returned (.tuple #[.int .i64 z, .int .i64 e]) ∧ Below w.heap.size w w' := by
  subst hz; subst he
  exact bound_any P B t w

theorem buildFace2 (a b : Int) (w : World) : (Instr.build 23 #[(0, .int .i64 a), (1, .int .i64 b)]).run Try.prog w = .ok (.agg #[.int .i64 a, .int .i64 b]) w := by kernel_rfl
theorem buildFace1 (a : Int) (w : World) : (Instr.build 23 #[(0, .int .i64 a)]).run Try.prog w = .ok (.agg #[.int .i64 a, .int .i64 0]) w := by kernel_rfl
attribute [local go_sem ↓] buildFace2 buildFace1

def kT : List Int := [3, 6, 7, 8, 11, 13]
def kW : List Int := [0, 0, 1, 2, 2, 4]
def kG : List Bool := [true, true, false, false, false, false, false, false, true, true]
theorem kF {x : Int} (h : decide (0 ≤ x ∧ x ≤ 1000000) = true) : Fit x := fit_lit h
theorem kT_rd (w : World) : Rd (w.alloc (.cells #[.int .i64 3, .int .i64 6, .int .i64 7, .int .i64 8, .int .i64 11, .int .i64 13] 3)) (some ⟨w.heap.size, 0, none⟩) 6 kT :=
  rd_literal w kT 6 rfl _ _ (by decide) (rows_int_ _ (kF rfl) (rows_int_ _ (kF rfl) (rows_int_ _ (kF rfl) (rows_int_ _ (kF rfl) (rows_int_ _ (kF rfl) (rows_int_ _ (kF rfl) rows_nil_))))))
theorem kW_rd (w : World) : Rd (w.alloc (.cells #[.int .i64 0, .int .i64 0, .int .i64 1, .int .i64 2, .int .i64 2, .int .i64 4] 3)) (some ⟨w.heap.size, 0, none⟩) 6 kW :=
  rd_literal w kW 6 rfl _ _ (by decide) (rows_int_ _ (kF rfl) (rows_int_ _ (kF rfl) (rows_int_ _ (kF rfl) (rows_int_ _ (kF rfl) (rows_int_ _ (kF rfl) (rows_int_ _ (kF rfl) rows_nil_))))))
theorem kG_rd (w : World) : Rd (w.alloc (.cells #[.bool true, .bool true, .bool false, .bool false, .bool false, .bool false, .bool false, .bool false, .bool true, .bool true] 4)) (some ⟨w.heap.size, 0, none⟩) 10 kG :=
  rd_literal w kG 10 rfl _ _ (by decide) (rows_bool_ _ (rows_bool_ _ (rows_bool_ _ (rows_bool_ _ (rows_bool_ _ (rows_bool_ _ (rows_bool_ _ (rows_bool_ _ (rows_bool_ _ (rows_bool_ _ rows_nil_))))))))))
theorem kB : ∀ j, j < 6 → ((bndZ 5 2 (at_ kT j) : Nat) : Int) = at_ kW j ∧ ((bndE 5 2 (at_ kT j) : Nat) : Int) = 0 := by decide +kernel
theorem kR1 : rightB 5 2 = true := by decide
theorem kR0 : rightB 5 0 = false := by decide
theorem kL : legalB 5 2 kG = true := by decide +kernel
theorem kM : ((leastZ kG 7 : Nat) : Int) = 1 := by decide +kernel
theorem kGl : kG.length = 10 := rfl

def kA (w : World) : World := (((w.alloc (.cells #[.int .i64 5, .int .i64 2] 23)).alloc (.cells #[.int .i64 3, .int .i64 6, .int .i64 7, .int .i64 8, .int .i64 11, .int .i64 13] 3)).alloc (.cells #[.int .i64 0, .int .i64 0, .int .i64 1, .int .i64 2, .int .i64 2, .int .i64 4] 3))

set_option maxHeartbeats 1600000 in
theorem knows9_any (w : World) :
    Calls Try.prog 9 #[] w fun e w' => e = .returned (.bool true) ∧ Below w.heap.size w w' := by
  have t1 : (kA w).cell? ⟨w.heap.size, 0, none⟩ = some (.int .i64 5) := cell_new (cell_new (fc_new w 5 2).1 _) _
  have t2 : (kA w).cell? ⟨w.heap.size, 1, none⟩ = some (.int .i64 2) := cell_new (cell_new (fc_new w 5 2).2 _) _
  have r1 : Rd (kA w) (some ⟨w.heap.size + 1, 0, none⟩) 6 kT := by
    have := (kT_rd (w.alloc (.cells #[.int .i64 5, .int .i64 2] 23))).alloc (.cells #[.int .i64 0, .int .i64 0, .int .i64 1, .int .i64 2, .int .i64 2, .int .i64 4] 3)
    simp only [World.size_alloc] at this
    exact this
  have r2 : Rd (kA w) (some ⟨w.heap.size + 1 + 1, 0, none⟩) 6 kW := by
    have := kW_rd ((w.alloc (.cells #[.int .i64 5, .int .i64 2] 23)).alloc (.cells #[.int .i64 3, .int .i64 6, .int .i64 7, .int .i64 8, .int .i64 11, .int .i64 13] 3))
    simp only [World.size_alloc] at this
    exact this
  have b0 : Below w.heap.size w (kA w) := below_three w _ _ _
  obtain ⟨_, _, e1, hT⟩ := r1.int (by decide)
  obtain ⟨_, _, e2, hW⟩ := r2.int (by decide)
  injection e1 with e1
  injection e1 with e1 e1'
  subst e1
  subst e1'
  injection e2 with e2
  injection e2 with e2 e2'
  subst e2
  subst e2'
  clear r1 r2
  have B0 := Lib.hid b0
  have HT := Lib.hid hT
  have HW := Lib.hid hW
  clear b0 hT hW
  go_enter Try.func9, Try.ntmps9
  go_wp2_with fail
  rw [← kA]
  generalize kA w = w0 at *
  go_loopw [4] (fun i wr => ∃ k : Nat, i = .int .i64 k ∧ k ≤ 6 ∧ Hid (Below w0.heap.size w0 wr)) (fun i _ => 6 - (intOf i).toNat)
  case atStart => exact ⟨0, rfl, by omega, Below.refl _ _⟩
  case round =>
    obtain ⟨k, rfl, hk, HB⟩ := hrel
    replace t1 := cell_below HB.out t1
    replace t2 := cell_below HB.out t2
    by_cases hlt : k < 6
    · have x1 := cell_below HB.out (HT.out k hlt).1
      have x2 := cell_below HB.out (HW.out k hlt).1
      rw [Nat.zero_add] at x1 x2
      have HKB := Lib.hid (kB k hlt)
      generalize at_ kT k = x at *
      generalize at_ kW k = y at *
      have i1 : (0 : Int) ≤ (k : Int) := by omega
      have i2 : (k : Int) < 6 := by omega
      have i3 : decide ((0 : Int) ≤ (k : Int) ∧ (k : Int) < 6) = true := decide_eq_true ⟨i1, i2⟩
      go_wp2_with fail
      have z2 := x2
      replace t1 := cell_bw t1
      replace t2 := cell_bw t2
      replace x1 := cell_bw x1
      replace x2 := cell_bw x2
      refine wp_region_bw (by kernel_rfl) (by kernel_rfl) ?_
      repeat
        (with_reducible refine wpQuiet_step (fun K hK => ?_)
         go_simp
         first
           | (with_reducible refine hK _ ?_
              clear hK K)
           | (rw [if_neg]
              rotate_left
              focus (intro h; cases h; done)
              with_reducible refine hK _ ?_
              clear hK K)
           | (apply Exists.intro
              refine ⟨fun _ => ?_, hK _ ?_⟩
              (exact Calls.bw (bound_v 5 2 x y 0 HKB.out.1 HKB.out.2 _))
              clear hK K))
      with_reducible refine wpQuiet_nil ?_
      intro wb hw'
      obtain ⟨⟨wb', lb⟩, hw''⟩ := hw'
      subst hw''
      replace z2 := cell_below lb z2
      have B2 := Lib.hid (below_step HB.out lb)
      clear lb t1 t2 x1 x2
      go_wp2_with fail
      go_roundw
      case rel => exact ⟨k + 1, by go_num, hlt, B2⟩
      case measure => simp [intOf]; omega
    · have y1 := cell_new t1 (Obj.cells #[.bool true, .bool true, .bool false, .bool false, .bool false, .bool false, .bool false, .bool false, .bool true, .bool true] 4)
      have y2 := cell_new t2 (Obj.cells #[.bool true, .bool true, .bool false, .bool false, .bool false, .bool false, .bool false, .bool false, .bool true, .bool true] 4)
      have HG : Hid (FL _ _ _ _) := ⟨by decide, kG_rd wr⟩
      have B2 := Lib.hid (below_step HB.out (below_one wr (Obj.cells #[.bool true, .bool true, .bool false, .bool false, .bool false, .bool false, .bool false, .bool false, .bool true, .bool true] 4)))
      go_wp2_with fail
      clear t1 t2
      generalize wr.alloc (Obj.cells #[.bool true, .bool true, .bool false, .bool false, .bool false, .bool false, .bool false, .bool false, .bool true, .bool true] 4) = w2 at *
      refine (right_v 5 2 true kR1 _).mono ?_
      rintro e w3 ⟨rfl, b3⟩
      replace y1 := cell_below b3 y1
      replace y2 := cell_below b3 y2
      have B3 := Lib.hid (below_step B2.out b3)
      replace HG := Lib.hid (HG.out.below b3)
      clear b3
      go_wp2_with fail
      refine (legal_v 5 2 _ _ kG true kL 10 kGl _ HG.out).mono ?_
      rintro e w4 ⟨rfl, b4⟩
      replace y1 := cell_below b4 y1
      replace y2 := cell_below b4 y2
      have B4 := Lib.hid (below_step B3.out b4)
      replace HG := Lib.hid (HG.out.below b4)
      clear b4
      go_wp2_with fail
      refine (least_v _ _ kG 7 1 kM 10 kGl _ HG.out).mono ?_
      rintro e w5 ⟨rfl, b5⟩
      replace y1 := cell_below b5 y1
      replace y2 := cell_below b5 y2
      have B5 := Lib.hid (below_step B4.out b5)
      replace HG := Lib.hid (HG.out.below b5)
      clear b5
      go_wp2_with fail
      refine (right_v 5 0 false kR0 _).mono ?_
      rintro e w6 ⟨rfl, b6⟩
      replace y1 := cell_below b6 y1
      replace y2 := cell_below b6 y2
      have B6 := Lib.hid (below_step B5.out b6)
      replace HG := Lib.hid (HG.out.below b6)
      clear b6
      go_wp2_with fail
      go_ret
      exact ⟨rfl, below_step B0.out B6.out⟩

end Sp
end Go.Proofs.Ytjpenmldoaepfaa
