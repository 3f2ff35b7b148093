/-
  Layer 8: the calls under other names of the lengths; the helper knows: the document's example.
-/
import Derived.Test.YtnkgfkmdfplneaaBlockSteps
import Derived.Test.YtnkgfkmdfplneaaLaw08Refs
import Derived.Test.YtnkgfkmdfplneaaLaw08Steps
import Derived.Test.YtnkgfkmdfplneaaTaskLit
namespace Go.Proofs.Ytnkgfkmdfplneaa
open Go.RowKit Mm Tk
namespace Bk

theorem buildSecL (n : Int) (w : World) : (Instr.build 39 #[(2, .int .i64 n)]).run Try.prog w = .ok (.agg #[.int .i64 0, .int .i64 0, .int .i64 n]) w := by kernel_rfl
theorem buildSecAL (a n : Int) (w : World) : (Instr.build 39 #[(1, .int .i64 a), (2, .int .i64 n)]).run Try.prog w = .ok (.agg #[.int .i64 0, .int .i64 a, .int .i64 n]) w := by kernel_rfl
theorem buildTask3 (C D T : Int) (w : World) : (Instr.build 37 #[(0, .int .i64 C), (1, .int .i64 D), (2, .int .i64 T)]).run Try.prog w = .ok (.agg #[.int .i64 C, .int .i64 D, .int .i64 T, .slice none 0 0]) w := by kernel_rfl
theorem buildTask4 (C D T : Int) (A : Option Addr) (n c : Nat) (w : World) : (Instr.build 37 #[(0, .int .i64 C), (1, .int .i64 D), (2, .int .i64 T), (3, .slice A n c)]).run Try.prog w = .ok (.agg #[.int .i64 C, .int .i64 D, .int .i64 T, .slice A n c]) w := by kernel_rfl
attribute [local go_sem ↓] buildSecL buildSecAL buildTask4

theorem of_v (A : Option Addr) (c : Nat) (L : List Tsk) (t z e : Int) (hz : ((ofB L t : Nat) : Int) = z) (he : ((errB L : Nat) : Int) = e) (n : Nat) (hn : L.length = n) (w : World) (H : TL w A c L) :
    Calls Try.prog 9 #[.slice A n c, .int .i64 t] w fun x w' => x = .returned (.tuple #[.int .i64 z, .int .i64 e]) ∧ Below w.heap.size w w' := by
  subst hz; subst he; subst hn
  exact of_any A c L t w H
theorem steps_v (A : Option Addr) (c : Nat) (L : List Tsk) (s : List Int) (e : Int) (hs : stpB L = s) (he : ((errB L : Nat) : Int) = e) (n : Nat) (hn : L.length = n) (m : Nat) (hm : s.length = m) (w : World) (H : TL w A c L) :
    Calls Try.prog 10 #[.slice A n c] w fun x w' => ∃ A' c', x = .returned (.tuple #[.slice A' m c', .int .i64 e]) ∧ Rd w' A' c' s ∧ Below w.heap.size w w' := by
  subst hs; subst he; subst hn; subst hm
  exact steps_any A c L w H
theorem refOf_v (A : Option Addr) (c : Nat) (L : List Tsk) (t z : Int) (hz : ((blk L t : Nat) : Int) = z) (n : Nat) (hn : L.length = n) (w : World) (H : TL w A c L) :
    Calls Try.prog 12 #[.slice A n c, .int .i64 t] w fun x w' => x = .returned (.int .i64 z) ∧ Below w.heap.size w w' := by
  subst hz; subst hn
  exact refOf_any A c L t w H
theorem refSteps_v (A : Option Addr) (c : Nat) (L : List Tsk) (s : List Int) (ha : allB L = true) (hs : steps L = s) (n : Nat) (hn : L.length = n) (m : Nat) (hm : s.length = m) (w : World) (H : TL w A c L) :
    Calls Try.prog 14 #[.slice A n c] w fun x w' => ∃ A' c', x = .returned (.slice A' m c') ∧ Rd w' A' c' s ∧ Below w.heap.size w w' := by
  subst hs; subst hn; subst hm
  exact refSteps_any A c L w ha H
theorem refAll_v (A : Option Addr) (c : Nat) (L : List Tsk) (v : Bool) (hv : allB L = v) (n : Nat) (hn : L.length = n) (w : World) (H : TL w A c L) :
    Calls Try.prog 11 #[.slice A n c] w fun e w' => e = .returned (.bool v) ∧ Below w.heap.size w w' := by
  subst hv; subst hn
  exact refAll_any A c L w H.1 H.2.1 H.2.2
theorem of_good {L : List Tsk} (h : allB L = true) (t : Int) : ((ofB L t : Nat) : Int) = (blk L t : Nat) ∧ ((errB L : Nat) : Int) = 0 ∧ stpB L = steps L := by
  unfold ofB errB stpB
  rw [if_pos h, if_pos h, if_pos h]
  exact ⟨rfl, rfl, rfl⟩
theorem of_bad {L : List Tsk} (h : allB L = false) (t : Int) : ((ofB L t : Nat) : Int) = 0 ∧ ((errB L : Nat) : Int) = 1 ∧ stpB L = [] := by
  unfold ofB errB stpB
  rw [h]
  exact ⟨rfl, rfl, rfl⟩

theorem len_steps (L : List Tsk) : (steps L).length ≤ 201 := by
  unfold steps
  rw [List.length_map]
  exact Nat.le_trans (List.length_filter_le _ _) (by rw [List.length_range]; omega)

def kS : List Sc := [(0, 0, 1)]
def kU : List Sc := [(0, 1, 3)]
def kL : List Tsk := [(1, 4, 9, kS), (5, 9, 9, kU)]
theorem kF {x : Int} (h : decide (0 ≤ x ∧ x ≤ 1000000) = true) : Fit x := fit_small h
theorem kS_rd (w : World) : Rd (w.alloc (.cells #[.int .i64 0, .int .i64 0, .int .i64 1] 39)) (some ⟨w.heap.size, 0, none⟩) 1 kS :=
  rd_lit w kS 1 rfl _ _ (by decide) (rows_sec (0, 0, 1) (kF rfl) (kF rfl) (kF rfl) rows_none)
theorem kU_rd (w : World) : Rd (w.alloc (.cells #[.int .i64 0, .int .i64 1, .int .i64 3] 39)) (some ⟨w.heap.size, 0, none⟩) 1 kU :=
  rd_lit w kU 1 rfl _ _ (by decide) (rows_sec (0, 1, 3) (kF rfl) (kF rfl) (kF rfl) rows_none)
theorem kL_rd (w : World) (A B : Option Addr) (hA : Rd w A 1 kS) (hB : Rd w B 1 kU) :
    Rd (w.alloc (.cells #[.int .i64 1, .int .i64 4, .int .i64 9, .slice A 1 1, .int .i64 5, .int .i64 9, .int .i64 9, .slice B 1 1] 37)) (some ⟨w.heap.size, 0, none⟩) 2 kL :=
  rd_lit w kL 2 rfl _ _ (by decide) (rows_task (1, 4, 9, kS) rfl (kF rfl) (kF rfl) (kF rfl) (hA.alloc _) (rows_task (5, 9, 9, kU) rfl (kF rfl) (kF rfl) (kF rfl) (hB.alloc _) rows_none))
theorem kL_tl {w : World} {A : Option Addr} {c : Nat} (h : Rd w A c kL) : TL w A c kL := ⟨by decide, fun j hj => by
  have : j < 2 := hj
  match j, this with
  | 0, _ => decide
  | 1, _ => decide, h⟩
theorem kLen : kL.length = 2 := rfl
theorem kZ3 : ((ofB kL 3 : Nat) : Int) = 0 := by decide +kernel
theorem kZ4 : ((ofB kL 4 : Nat) : Int) = 3 := by decide +kernel
theorem kZ8 : ((ofB kL 8 : Nat) : Int) = 3 := by decide +kernel
theorem kZ9 : ((ofB kL 9 : Nat) : Int) = 0 := by decide +kernel
theorem kE : ((errB kL : Nat) : Int) = 0 := by decide +kernel
theorem kP : stpB kL = [4, 9] := by decide +kernel

set_option maxHeartbeats 1600000 in
theorem knows8_any (w : World) :
    Calls Try.prog 8 #[] w fun e w' => e = .returned (.bool true) ∧ Below w.heap.size w w' := by
  have r1 := (kS_rd w).alloc (.cells #[.int .i64 0, .int .i64 1, .int .i64 3] 39)
  have r2 := kU_rd (w.alloc (.cells #[.int .i64 0, .int .i64 0, .int .i64 1] 39))
  have HT := Lib.hid (kL_tl (kL_rd _ _ _ r1 r2))
  simp only [World.size_alloc] at HT
  have B0 := Lib.hid (below_three w (.cells #[.int .i64 0, .int .i64 0, .int .i64 1] 39) (.cells #[.int .i64 0, .int .i64 1, .int .i64 3] 39)
    (.cells #[.int .i64 1, .int .i64 4, .int .i64 9, .slice (some ⟨w.heap.size, 0, none⟩) 1 1, .int .i64 5, .int .i64 9, .int .i64 9, .slice (some ⟨w.heap.size + 1, 0, none⟩) 1 1] 37))
  clear r1 r2
  go_enter Try.func8, Try.ntmps8
  go_wp2_with fail
  generalize ((w.alloc (.cells #[.int .i64 0, .int .i64 0, .int .i64 1] 39)).alloc (.cells #[.int .i64 0, .int .i64 1, .int .i64 3] 39)).alloc
    (.cells #[.int .i64 1, .int .i64 4, .int .i64 9, .slice (some ⟨w.heap.size, 0, none⟩) 1 1, .int .i64 5, .int .i64 9, .int .i64 9, .slice (some ⟨w.heap.size + 1, 0, none⟩) 1 1] 37) = w0 at *
  generalize (some ⟨w.heap.size + 1 + 1, 0, none⟩ : Option Addr) = A at *
  refine (of_v A 2 kL 3 0 0 kZ3 kE 2 kLen _ HT.out).mono ?_
  rintro e w1 ⟨rfl, b1⟩
  have B1 := Lib.hid (below_step B0.out b1)
  replace HT := Lib.hid (HT.out.below b1)
  clear b1
  go_wp2_with fail
  refine (of_v A 2 kL 4 3 0 kZ4 kE 2 kLen _ HT.out).mono ?_
  rintro e w2 ⟨rfl, b2⟩
  have B2 := Lib.hid (below_step B1.out b2)
  replace HT := Lib.hid (HT.out.below b2)
  clear b2
  go_wp2_with fail
  refine (of_v A 2 kL 8 3 0 kZ8 kE 2 kLen _ HT.out).mono ?_
  rintro e w3 ⟨rfl, b3⟩
  have B3 := Lib.hid (below_step B2.out b3)
  replace HT := Lib.hid (HT.out.below b3)
  clear b3
  go_wp2_with fail
  refine (of_v A 2 kL 9 0 0 kZ9 kE 2 kLen _ HT.out).mono ?_
  rintro e w4 ⟨rfl, b4⟩
  have B4 := Lib.hid (below_step B3.out b4)
  replace HT := Lib.hid (HT.out.below b4)
  clear b4
  go_wp2_with fail
  refine (steps_v A 2 kL [4, 9] 0 kP kE 2 kLen 2 rfl _ HT.out).mono ?_
  rintro e w5 ⟨A', c', rfl, r5, b5⟩
  have B5 := Lib.hid (below_step B4.out b5)
  obtain ⟨bb, off, rfl, hc⟩ := r5.int (by decide)
  have x1 := (hc 0 (by decide)).1
  have x2 := (hc 1 (by decide)).1
  rw [Nat.add_zero] at x1
  replace x1 : w5.cell? ⟨bb, off, none⟩ = some (.int .i64 4) := x1
  replace x2 : w5.cell? ⟨bb, off + 1, none⟩ = some (.int .i64 9) := x2
  clear b5 r5 hc
  go_wp2_with fail
  go_ret
  exact ⟨rfl, B5.out⟩

end Bk
end Go.Proofs.Ytnkgfkmdfplneaa
