/-
  Layer 3: the document's example.
-/
import Derived.Test.YtilabonjjiiabaaLaw03Boxes
namespace Go.Proofs.Ytilabonjjiiabaa
open Go.RowKit
namespace Rn
attribute [local go_sem ↓] Go.wp_at_zero Go.wp_at_succ

set_option maxHeartbeats 3200000 in
theorem knows_any (w : World) :
    Calls Try.prog 8 #[] w fun e w' => e = .returned (.bool true) ∧ Below w.heap.size w w' := by
  go_enter Try.func8, Try.ntmps8
  go_wp2_with fail
  refine (new_n 2 2 _ (by omega) (by omega) rfl).mono ?_
  rintro e w1 ⟨A1, rfl, o1, b1⟩
  have D1 : Hid (Ap A1 w1.heap.size) := o1.rd.ap (by simp [zeros]) (Nat.le_refl _)
  have R1 : Hid (Rd (w1.alloc (.cells #[.slice A1 2 2, .int .i64 0, .int .i64 0] 24)) A1 2 [0, 0]) := o1.rd.alloc _
  have C1 : Hid (Box (w1.alloc (.cells #[.slice A1 2 2, .int .i64 0, .int .i64 0] 24)) w1.heap.size A1 2 2 0 0) := box_new _ _ _ _ _ _
  have B1 : Hid (Below w.heap.size w (w1.alloc (.cells #[.slice A1 2 2, .int .i64 0, .int .i64 0] 24))) := b1.alloc b1.size _
  have HX : Hid (w.heap.size ≤ w1.heap.size) := b1.size
  clear o1 b1
  go_wp2_with fail
  generalize w1.heap.size = X at *
  generalize (w1.alloc (.cells #[.slice A1 2 2, .int .i64 0, .int .i64 0] 24)) = wa at *
  refine (push_n A1 2 2 [0, 0] [5, 0] 0 0 0 0 5 _ rfl rfl rfl rfl (by omega) (by omega) (by omega) R1.out).mono ?_
  rintro e w2 ⟨A2, c2, rfl, o2, b2⟩
  have D2 : Hid (Ap A2 X) := o2.ap C1.out.lt
  have C2 := Lib.hid (C1.out.step b2)
  have B2 := Lib.hid (below_step B1.out b2)
  have R2 := Lib.hid o2.rd
  clear o2 b2
  obtain ⟨⟨x0, x1, x2⟩, ⟨g0, g1, g2⟩⟩ := C2.out
  have R3 : Hid (Rd (((w2.setCell ⟨X, 0, none⟩ (.slice A2 2 c2)).setCell ⟨X, 1, none⟩ (.int .i64 0)).setCell ⟨X, 2, none⟩ (.int .i64 (0 + 1))) A2 c2 [5, 0]) := R2.out.set D2.out _ _ _ _ _
  have C3 : Hid (Box (((w2.setCell ⟨X, 0, none⟩ (.slice A2 2 c2)).setCell ⟨X, 1, none⟩ (.int .i64 0)).setCell ⟨X, 2, none⟩ (.int .i64 (0 + 1))) X A2 2 c2 0 (0 + 1)) := C2.out.set _ _ _ _ _
  have B3 : Hid (Below w.heap.size w (((w2.setCell ⟨X, 0, none⟩ (.slice A2 2 c2)).setCell ⟨X, 1, none⟩ (.int .i64 0)).setCell ⟨X, 2, none⟩ (.int .i64 (0 + 1)))) := below_set B2.out HX.out _ _ _ _ _
  clear R2 C2 B2 C1 B1 R1
  simp only [Int.zero_add] at R3 C3 B3
  go_wp2_with fail
  clear x0 x1 x2 g0 g1 g2
  generalize (((w2.setCell ⟨X, 0, none⟩ (.slice A2 2 c2)).setCell ⟨X, 1, none⟩ (.int .i64 0)).setCell ⟨X, 2, none⟩ (.int .i64 1)) = w3 at *
  refine (push_n A2 2 c2 [5, 0] [5, 6] 0 1 0 1 6 _ rfl rfl rfl rfl (by omega) (by omega) (by omega) R3.out).mono ?_
  rintro e w4 ⟨A4, c4, rfl, o4, b4⟩
  have D4 : Hid (Ap A4 X) := o4.ap C3.out.lt
  have C4 := Lib.hid (C3.out.step b4)
  have B4 := Lib.hid (below_step B3.out b4)
  have R4 := Lib.hid o4.rd
  clear o4 b4
  obtain ⟨⟨x0, x1, x2⟩, ⟨g0, g1, g2⟩⟩ := C4.out
  have R5 : Hid (Rd (((w4.setCell ⟨X, 0, none⟩ (.slice A4 2 c4)).setCell ⟨X, 1, none⟩ (.int .i64 0)).setCell ⟨X, 2, none⟩ (.int .i64 2)) A4 c4 [5, 6]) := R4.out.set D4.out _ _ _ _ _
  have C5 : Hid (Box (((w4.setCell ⟨X, 0, none⟩ (.slice A4 2 c4)).setCell ⟨X, 1, none⟩ (.int .i64 0)).setCell ⟨X, 2, none⟩ (.int .i64 2)) X A4 2 c4 0 2) := C4.out.set _ _ _ _ _
  have B5 : Hid (Below w.heap.size w (((w4.setCell ⟨X, 0, none⟩ (.slice A4 2 c4)).setCell ⟨X, 1, none⟩ (.int .i64 0)).setCell ⟨X, 2, none⟩ (.int .i64 2))) := below_set B4.out HX.out _ _ _ _ _
  clear R4 C4 B4 C3 B3 R3
  go_wp2_with fail
  clear x0 x1 x2 g0 g1 g2
  generalize (((w4.setCell ⟨X, 0, none⟩ (.slice A4 2 c4)).setCell ⟨X, 1, none⟩ (.int .i64 0)).setCell ⟨X, 2, none⟩ (.int .i64 2)) = w5 at *
  refine (push_full A4 2 c4 0 2 9 _ (by omega) rfl).mono ?_
  rintro e w6 ⟨rfl, b6⟩
  have C6 : Hid (Box (w6.alloc (.cells #[.slice A4 2 c4, .int .i64 0, .int .i64 2] 24)) X A4 2 c4 0 2) := (C5.out.step b6).alloc _
  have R6 : Hid (Rd (w6.alloc (.cells #[.slice A4 2 c4, .int .i64 0, .int .i64 2] 24)) A4 c4 [5, 6]) := (R5.out.below b6).alloc _
  have B6 : Hid (Below w.heap.size w (w6.alloc (.cells #[.slice A4 2 c4, .int .i64 0, .int .i64 2] 24))) := (below_step B5.out b6).alloc (below_step B5.out b6).size _
  have n6 : X ≠ w6.heap.size := by have := (C5.out.step b6).lt; omega
  obtain ⟨⟨x0, x1, x2⟩, ⟨g0, g1, g2⟩⟩ := C6.out
  clear b6 C5 R5 B5
  go_wp2_with fail
  clear x0 x1 x2 g0 g1 g2
  generalize w6.heap.size = Y at *
  generalize (w6.alloc (.cells #[.slice A4 2 c4, .int .i64 0, .int .i64 2] 24)) = w7 at *
  refine (pop_n A4 2 c4 [5, 6] 0 1 1 0 1 2 1 5 _ rfl rfl rfl rfl rfl rfl rfl (by omega) (by omega) (by omega) R6.out).mono ?_
  rintro e w8 ⟨rfl, b8⟩
  have C8 := Lib.hid (C6.out.step b8)
  have R8 := Lib.hid (R6.out.below b8)
  have B8 := Lib.hid (below_step B6.out b8)
  clear b8
  obtain ⟨⟨x0, x1, x2⟩, ⟨g0, g1, g2⟩⟩ := C8.out
  have R9 : Hid (Rd (((w8.setCell ⟨X, 0, none⟩ (.slice A4 2 c4)).setCell ⟨X, 1, none⟩ (.int .i64 1)).setCell ⟨X, 2, none⟩ (.int .i64 1)) A4 c4 [5, 6]) := R8.out.set D4.out _ _ _ _ _
  have C9 : Hid (Box (((w8.setCell ⟨X, 0, none⟩ (.slice A4 2 c4)).setCell ⟨X, 1, none⟩ (.int .i64 1)).setCell ⟨X, 2, none⟩ (.int .i64 1)) X A4 2 c4 1 1) := C8.out.set _ _ _ _ _
  have B9 : Hid (Below w.heap.size w (((w8.setCell ⟨X, 0, none⟩ (.slice A4 2 c4)).setCell ⟨X, 1, none⟩ (.int .i64 1)).setCell ⟨X, 2, none⟩ (.int .i64 1))) := below_set B8.out HX.out _ _ _ _ _
  clear R8 C8 B8 C6 B6 R6
  go_wp2_with fail
  clear x0 x1 x2 g0 g1 g2
  generalize (((w8.setCell ⟨X, 0, none⟩ (.slice A4 2 c4)).setCell ⟨X, 1, none⟩ (.int .i64 1)).setCell ⟨X, 2, none⟩ (.int .i64 1)) = w9 at *
  refine (put_n A4 2 c4 [5, 6] [7, 6] 1 1 1 1 7 _ rfl rfl rfl rfl (by omega) (by omega) (by omega) R9.out).mono ?_
  rintro e wb ⟨Ab, cb, rfl, ob, bb⟩
  have Cb := Lib.hid (C9.out.step bb)
  have Bb := Lib.hid (below_step B9.out bb)
  have Rb := Lib.hid ob.rd
  clear ob bb C9 B9 R9
  go_wp2_with fail
  refine (putFull_n Ab 2 cb [7, 6] [7, 8] 1 0 1 1 0 2 1 8 _ rfl rfl rfl rfl rfl rfl rfl rfl (by omega) (by omega) Rb.out).mono ?_
  rintro e wc ⟨Ac, cc, rfl, oc, bc⟩
  have Dc : Hid (Ap Ac X) := oc.ap Cb.out.lt
  have Cc := Lib.hid (Cb.out.step bc)
  have Bc := Lib.hid (below_step Bb.out bc)
  have Rc := Lib.hid oc.rd
  clear oc bc Cb Bb Rb
  obtain ⟨⟨x0, x1, x2⟩, ⟨g0, g1, g2⟩⟩ := Cc.out
  have Rd' : Hid (Rd (((wc.setCell ⟨X, 0, none⟩ (.slice Ac 2 cc)).setCell ⟨X, 1, none⟩ (.int .i64 0)).setCell ⟨X, 2, none⟩ (.int .i64 2)) Ac cc [7, 8]) := Rc.out.set Dc.out _ _ _ _ _
  have Cd : Hid (Box (((wc.setCell ⟨X, 0, none⟩ (.slice Ac 2 cc)).setCell ⟨X, 1, none⟩ (.int .i64 0)).setCell ⟨X, 2, none⟩ (.int .i64 2)) X Ac 2 cc 0 2) := Cc.out.set _ _ _ _ _
  have Bd : Hid (Below w.heap.size w (((wc.setCell ⟨X, 0, none⟩ (.slice Ac 2 cc)).setCell ⟨X, 1, none⟩ (.int .i64 0)).setCell ⟨X, 2, none⟩ (.int .i64 2))) := below_set Bc.out HX.out _ _ _ _ _
  clear Rc Cc Bc
  go_wp2_with fail
  clear x0 x1 x2 g0 g1 g2
  generalize (((wc.setCell ⟨X, 0, none⟩ (.slice Ac 2 cc)).setCell ⟨X, 1, none⟩ (.int .i64 0)).setCell ⟨X, 2, none⟩ (.int .i64 2)) = wd at *
  refine (list_n Ac 2 cc [7, 8] [7, 8] 0 2 0 2 _ rfl rfl rfl rfl (by omega) (by omega) (by omega) Rd'.out).mono ?_
  rintro e we ⟨Ae, ce, rfl, oe, le, be⟩
  obtain ⟨ge, rfl, _, _, hge⟩ := oe.form (by simp)
  have u0 : we.cell? ⟨ge, 0, none⟩ = some (.int .i64 7) := oe.cell 0 (by simp)
  have u1 : we.cell? ⟨ge, 1, none⟩ = some (.int .i64 8) := oe.cell 1 (by simp)
  have Ce := Lib.hid (Cd.out.step be)
  have Be := Lib.hid (below_step Bd.out be)
  obtain ⟨⟨x0, x1, x2⟩, ⟨g0, g1, g2⟩⟩ := Ce.out
  clear oe le be hge Cd Bd Rd'
  go_wp2_with fail
  refine (right_any Ac 2 cc 0 2 _).mono ?_
  rintro e wf ⟨rfl, bf⟩
  have Bf := Lib.hid (below_step Be.out bf)
  clear bf
  rw [show rightB 2 0 2 = true from rfl]
  go_wp2_with fail
  go_ret
  exact ⟨rfl, Bf.out⟩

end Rn
end Go.Proofs.Ytilabonjjiiabaa
