/-
  Layer 6: the helper knows: the document's example.
-/
import Derived.Test.YtlgfbodmaocibaaLaw06Refs
import Derived.Test.YtlgfbodmaocibaaTaskLit
namespace Go.Proofs.Ytlgfbodmaocibaa
open Go.RowKit Mm Tk
namespace Lv

theorem buildSecL (n : Int) (w : World) : (Instr.build 39 #[(2, .int .i64 n)]).run Try.prog w = .ok (.agg #[.int .i64 0, .int .i64 0, .int .i64 n]) w := by kernel_rfl
theorem buildTask3 (C D T : Int) (w : World) : (Instr.build 33 #[(0, .int .i64 C), (1, .int .i64 D), (2, .int .i64 T)]).run Try.prog w = .ok (.agg #[.int .i64 C, .int .i64 D, .int .i64 T, .slice none 0 0]) w := by kernel_rfl
theorem buildTask4 (C D T : Int) (A : Option Addr) (n c : Nat) (w : World) : (Instr.build 33 #[(0, .int .i64 C), (1, .int .i64 D), (2, .int .i64 T), (3, .slice A n c)]).run Try.prog w = .ok (.agg #[.int .i64 C, .int .i64 D, .int .i64 T, .slice A n c]) w := by kernel_rfl
attribute [local go_sem ↓] buildSecL buildTask3 buildTask4

def kS : List Sc := [(0, 0, 1)]
def kL : List Tsk := [(1, 4, 9, kS), (1, 6, 9, kS), (1, 6, 9, [])]

theorem of_v (A : Option Addr) (c : Nat) (L : List Tsk) (i : Int) (v : Int) (h : ((ofZ L i : Nat) : Int) = v) (n : Nat) (hn : L.length = n) (w : World) (fi : Fit i) (H : TL w A c L) :
    Calls Try.prog 10 #[.slice A n c, .int .i64 i] w fun e w' => e = .returned (.int .i64 v) ∧ Below w.heap.size w w' := by
  subst h; subst hn
  exact of_any A c L i w fi H.1 H.2.1 H.2.2
theorem ceil_v (A : Option Addr) (c : Nat) (L : List Tsk) (r : Int) (v : Int) (h : ((ceilZ L r : Nat) : Int) = v) (n : Nat) (hn : L.length = n) (w : World) (H : TL w A c L) :
    Calls Try.prog 11 #[.slice A n c, .int .i64 r] w fun e w' => e = .returned (.int .i64 v) ∧ Below w.heap.size w w' := by
  subst h; subst hn
  exact ceil_any A c L r w H.1 H.2.1 H.2.2
theorem held_v (A : Option Addr) (c : Nat) (L : List Tsk) (A2 : Option Addr) (c2 : Nat) (l : List Int) (v : Int) (h : ((heldZ L l : Nat) : Int) = v) (n : Nat) (hn : L.length = n) (m : Nat) (hm : l.length = m) (w : World) (H : TL w A c L) (H2 : IL w A2 c2 l) :
    Calls Try.prog 12 #[.slice A n c, .slice A2 m c2] w fun e w' => e = .returned (.int .i64 v) ∧ Below w.heap.size w w' := by
  subst h; subst hn; subst hm
  exact held_any A c L A2 c2 l w H.1 H.2.1 H.2.2 H2.1 H2.2
theorem passes_v (A : Option Addr) (c : Nat) (L : List Tsk) (i : Int) (A2 : Option Addr) (c2 : Nat) (l : List Int) (v : Bool) (h : passB L i l = v) (n : Nat) (hn : L.length = n) (m : Nat) (hm : l.length = m) (w : World) (fi : Fit i) (H : TL w A c L) (H2 : IL w A2 c2 l) :
    Calls Try.prog 13 #[.slice A n c, .int .i64 i, .slice A2 m c2] w fun e w' => e = .returned (.bool v) ∧ Below w.heap.size w w' := by
  subst h; subst hn; subst hm
  exact passes_any A c L i A2 c2 l w fi H.1 H.2.1 H.2.2 H2.1 H2.2

theorem kS_rd (w : World) : Rd (w.alloc (.cells #[.int .i64 0, .int .i64 0, .int .i64 1] 39)) (some ⟨w.heap.size, 0, none⟩) 1 kS :=
  rd_lit w kS 1 rfl _ _ (by decide) (rows_sec (0, 0, 1) (fit_small rfl) (fit_small rfl) (fit_small rfl) rows_none)
theorem kL_rd (w : World) (A B : Option Addr) (hA : Rd w A 1 kS) (hB : Rd w B 1 kS) :
    Rd (w.alloc (.cells #[.int .i64 1, .int .i64 4, .int .i64 9, .slice A 1 1, .int .i64 1, .int .i64 6, .int .i64 9, .slice B 1 1, .int .i64 1, .int .i64 6, .int .i64 9, .slice none 0 0] 33)) (some ⟨w.heap.size, 0, none⟩) 3 kL :=
  rd_lit w kL 3 rfl _ _ (by decide) (rows_task (1, 4, 9, kS) rfl (fit_small rfl) (fit_small rfl) (fit_small rfl) (hA.alloc _) (rows_task (1, 6, 9, kS) rfl (fit_small rfl) (fit_small rfl) (fit_small rfl) (hB.alloc _)
    (rows_task (1, 6, 9, []) rfl (fit_small rfl) (fit_small rfl) (fit_small rfl) (rd_nil (fun _ => rfl) (by unfold maxLen; omega)) rows_none)))
theorem kL_tl {w : World} {A : Option Addr} {c : Nat} (h : Rd w A c kL) : TL w A c kL := ⟨by decide, fun j hj => by
  have : j < 3 := hj
  match j, this with
  | 0, _ => decide
  | 1, _ => decide
  | 2, _ => decide, h⟩
theorem kLen : kL.length = 3 := rfl
theorem kZ0 : ((ofZ kL 0 : Nat) : Int) = 3 := by decide
theorem kZ1 : ((ofZ kL 1 : Nat) : Int) = 1 := by decide
theorem kZ2 : ((ofZ kL 2 : Nat) : Int) = 1 := by decide
theorem kC0 : ((ceilZ kL 0 : Nat) : Int) = 3 := by decide
theorem kC1 : ((ceilZ kL 1 : Nat) : Int) = 0 := by decide
theorem kH : ((heldZ kL [1, 0] : Nat) : Int) = 3 := by decide
theorem kP0 : passB kL 0 [0] = false := by decide
theorem kP2 : passB kL 2 [] = true := by decide
theorem kF {x : Int} (h : decide (0 ≤ x ∧ x ≤ 1000000) = true) : Fit x := fit_small h

set_option maxHeartbeats 1600000 in
theorem knows6_any (w : World) :
    Calls Try.prog 8 #[] w fun e w' => e = .returned (.bool true) ∧ Below w.heap.size w w' := by
  have r1 := (kS_rd w).alloc (.cells #[.int .i64 0, .int .i64 0, .int .i64 1] 39)
  have r2 := kS_rd (w.alloc (.cells #[.int .i64 0, .int .i64 0, .int .i64 1] 39))
  have HT := Lib.hid (kL_tl (kL_rd _ _ _ r1 r2))
  simp only [World.size_alloc] at HT
  have B0 := Lib.hid (below_three w (.cells #[.int .i64 0, .int .i64 0, .int .i64 1] 39) (.cells #[.int .i64 0, .int .i64 0, .int .i64 1] 39)
    (.cells #[.int .i64 1, .int .i64 4, .int .i64 9, .slice (some ⟨w.heap.size, 0, none⟩) 1 1, .int .i64 1, .int .i64 6, .int .i64 9, .slice (some ⟨w.heap.size + 1, 0, none⟩) 1 1, .int .i64 1, .int .i64 6, .int .i64 9, .slice none 0 0] 33))
  clear r1 r2
  go_enter Try.func8, Try.ntmps8
  go_wp2_with fail
  generalize ((w.alloc (.cells #[.int .i64 0, .int .i64 0, .int .i64 1] 39)).alloc (.cells #[.int .i64 0, .int .i64 0, .int .i64 1] 39)).alloc
    (.cells #[.int .i64 1, .int .i64 4, .int .i64 9, .slice (some ⟨w.heap.size, 0, none⟩) 1 1, .int .i64 1, .int .i64 6, .int .i64 9, .slice (some ⟨w.heap.size + 1, 0, none⟩) 1 1, .int .i64 1, .int .i64 6, .int .i64 9, .slice none 0 0] 33) = w0 at *
  generalize (some ⟨w.heap.size + 1 + 1, 0, none⟩ : Option Addr) = A at *
  refine (of_v A 3 kL 0 3 kZ0 3 kLen _ (kF rfl) HT.out).mono ?_
  rintro e w1 ⟨rfl, b1⟩
  have B1 := Lib.hid (below_step B0.out b1)
  replace HT := Lib.hid (HT.out.below b1)
  clear b1
  go_wp2_with fail
  refine (of_v A 3 kL 1 1 kZ1 3 kLen _ (kF rfl) HT.out).mono ?_
  rintro e w2 ⟨rfl, b2⟩
  have B2 := Lib.hid (below_step B1.out b2)
  replace HT := Lib.hid (HT.out.below b2)
  clear b2
  go_wp2_with fail
  refine (of_v A 3 kL 2 1 kZ2 3 kLen _ (kF rfl) HT.out).mono ?_
  rintro e w3 ⟨rfl, b3⟩
  have B3 := Lib.hid (below_step B2.out b3)
  replace HT := Lib.hid (HT.out.below b3)
  clear b3
  go_wp2_with fail
  refine (ceil_v A 3 kL 0 3 kC0 3 kLen _ HT.out).mono ?_
  rintro e w4 ⟨rfl, b4⟩
  have B4 := Lib.hid (below_step B3.out b4)
  replace HT := Lib.hid (HT.out.below b4)
  clear b4
  go_wp2_with fail
  refine (ceil_v A 3 kL 1 0 kC1 3 kLen _ HT.out).mono ?_
  rintro e w5 ⟨rfl, b5⟩
  have B5 := Lib.hid (below_step B4.out b5)
  replace HT := Lib.hid (HT.out.below b5)
  clear b5
  go_wp2_with fail
  refine (held_v A 3 kL _ 2 [1, 0] 3 kH 3 kLen 2 rfl _ (HT.out.below (below_one _ _)) ⟨by decide, rd_new2 _ _ 1 0 (kF rfl) (kF rfl)⟩).mono ?_
  rintro e w6 ⟨rfl, b6⟩
  have B6 := Lib.hid (below_step (below_step B5.out (below_one _ _)) b6)
  replace HT := Lib.hid ((HT.out.below (below_one _ _)).below b6)
  clear b6
  go_wp2_with fail
  refine (passes_v A 3 kL 0 _ 1 [0] false kP0 3 kLen 1 rfl _ (kF rfl) (HT.out.below (below_one _ _)) ⟨by decide, rd_new1 _ _ 0 (kF rfl)⟩).mono ?_
  rintro e w7 ⟨rfl, b7⟩
  have B7 := Lib.hid (below_step (below_step B6.out (below_one _ _)) b7)
  replace HT := Lib.hid ((HT.out.below (below_one _ _)).below b7)
  clear b7
  go_wp2_with fail
  refine (passes_v A 3 kL 2 none 0 [] true kP2 3 kLen 0 rfl _ (kF rfl) HT.out (il_nil _)).mono ?_
  rintro e w8 ⟨rfl, b8⟩
  have B8 := Lib.hid (below_step B7.out b8)
  clear b8
  go_wp2_with fail
  go_ret
  exact ⟨rfl, B8.out⟩

end Lv
end Go.Proofs.Ytlgfbodmaocibaa
