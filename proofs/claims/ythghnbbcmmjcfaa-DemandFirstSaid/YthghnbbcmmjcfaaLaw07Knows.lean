/-
  Layer 7: the program's calls under other names of the lengths; the helper knows: the document's example.
-/
import Derived.Test.YthghnbbcmmjcfaaLaw07Legal
import Derived.Test.YthghnbbcmmjcfaaDemandOf
import Derived.Test.YthghnbbcmmjcfaaDemandBnd
import Derived.Test.YthghnbbcmmjcfaaTaskLit
namespace Go.Proofs.Ythghnbbcmmjcfaa
open Go.RowKit Mm Tk
namespace Dm

theorem buildTask3 (C D T : Int) (w : World) : (Instr.build 32 #[(0, .int .i64 C), (1, .int .i64 D), (2, .int .i64 T)]).run Try.prog w = .ok (.agg #[.int .i64 C, .int .i64 D, .int .i64 T, .slice none 0 0]) w := by kernel_rfl
attribute [local go_sem ↓] buildTask3

theorem bound_v (A : Option Addr) (c : Nat) (L : List Tsk) (t z e : Int) (hz : bndZ L t = z) (he : bndE L t = e) (n : Nat) (hn : L.length = n) (w : World) (H : TL w A c L) :
    Calls Try.prog 11 #[.slice A n c, .int .i64 t] w fun x w' => x = .returned (.tuple #[.int .i64 z, .int .i64 e]) ∧ Below w.heap.size w w' := by
  subst hz; subst he; subst hn
  exact bound_any A c L t w H
theorem of_v (A : Option Addr) (c : Nat) (L : List Tsk) (A2 : Option Addr) (c2 : Nat) (R : List (List Int)) (a b z e : Int) (hz : ofZ L R a b = z) (he : ofE L R = e) (n : Nat) (hn : L.length = n) (m : Nat) (hm : R.length = m) (w : World) (H : TL w A c L) (H2 : LL w A2 c2 R) :
    Calls Try.prog 15 #[.slice A n c, .slice A2 m c2, .int .i64 a, .int .i64 b] w fun x w' => x = .returned (.tuple #[.int .i64 z, .int .i64 e]) ∧ Below w.heap.size w w' := by
  subst hz; subst he; subst hn; subst hm
  exact of_any A c L A2 c2 R a b w H H2
theorem legal_v (A : Option Addr) (c : Nat) (L : List Tsk) (A2 : Option Addr) (c2 : Nat) (R : List (List Int)) (v : Bool) (hv : legalB L R = v) (n : Nat) (hn : L.length = n) (m : Nat) (hm : R.length = m) (w : World) (H : TL w A c L) (H2 : LL w A2 c2 R) :
    Calls Try.prog 16 #[.slice A n c, .slice A2 m c2] w fun e w' => e = .returned (.bool v) ∧ Below w.heap.size w w' := by
  subst hv; subst hn; subst hm
  exact legal_any A c L A2 c2 R w H H2
theorem refLegal_v (A : Option Addr) (c : Nat) (L : List Tsk) (A2 : Option Addr) (c2 : Nat) (R : List (List Int)) (v : Bool) (hv : legalB L R = v) (w : World) (H : TL w A c L) (H2 : LL w A2 c2 R) :
    Calls Try.prog 17 #[.slice A L.length c, .slice A2 R.length c2] w fun e w' => e = .returned (.bool v) ∧ Below w.heap.size w w' := by
  subst hv
  exact refLegal_any A c L A2 c2 R w H H2
theorem refAll_v (A : Option Addr) (c : Nat) (L : List Tsk) (v : Bool) (hv : allB L = v) (n : Nat) (hn : L.length = n) (w : World) (H : TL w A c L) :
    Calls Try.prog 12 #[.slice A n c] w fun e w' => e = .returned (.bool v) ∧ Below w.heap.size w w' := by
  subst hv; subst hn
  exact refAll_any A c L w H.1 H.2.1 H.2.2

def kL : List Tsk := [(2, 4, 6, [])]
def kR (y : Int) : List (List Int) := [[0, y]]
theorem kL_tl (w : World) : TL (w.alloc (.cells #[.int .i64 2, .int .i64 4, .int .i64 6, .slice none 0 0] 32)) (some ⟨w.heap.size, 0, none⟩) 1 kL :=
  ⟨by decide, fun j hj => by
    have : j = 0 := by simpa [kL] using hj
    subst this
    decide, rd_lit w kL 1 rfl _ _ (by decide) (rows_task (2, 4, 6, []) rfl (fit_small rfl) (fit_small rfl) (fit_small rfl) (rd_nil (fun _ => rfl) (by unfold maxLen; omega)) rows_none)⟩
theorem kR_ll (w : World) (y : Int) (hy : Fit y) (X : Nat) (hX : w.heap.size = X) : LL ((w.alloc (.cells #[.int .i64 0, .int .i64 y] 3)).alloc (.cells #[.slice (some ⟨X, 0, none⟩) 2 2] 41)) (some ⟨X + 1, 0, none⟩) 1 (kR y) := by
  subst hX
  have h1 := (rd_new2 w 3 0 y (fit_small rfl) hy).alloc (.cells #[.slice (some ⟨w.heap.size, 0, none⟩) 2 2] 41)
  have h2 := rd_lit (w.alloc (.cells #[.int .i64 0, .int .i64 y] 3)) (kR y) 1 rfl #[.slice (some ⟨w.heap.size, 0, none⟩) 2 2] 41 (by decide) ⟨[.slice (some ⟨w.heap.size, 0, none⟩) 2 2], [], rfl, ⟨some ⟨w.heap.size, 0, none⟩, 2, rfl, h1⟩, rfl⟩
  rw [World.size_alloc] at h2
  exact ⟨by simp [kR], fun j hj => by
    have : j = 0 := by simpa [kR] using hj
    subst this
    simp [kR, at_], h2⟩
theorem kZ3 : bndZ kL 3 = 0 := by decide +kernel
theorem kE3 : bndE kL 3 = 0 := by decide +kernel
theorem kZ9 : bndZ kL 9 = 2 := by decide +kernel
theorem kE9 : bndE kL 9 = 0 := by decide +kernel
theorem kZ10 : bndZ kL 10 = 4 := by decide +kernel
theorem kE10 : bndE kL 10 = 0 := by decide +kernel
theorem kOZ : ofZ kL (kR 6) 0 10 = 4 := by decide +kernel
theorem kOE : ofE kL (kR 6) = 0 := by decide +kernel
theorem kG6 : legalB kL (kR 6) = true := by decide +kernel
theorem kG5 : legalB kL (kR 5) = false := by decide +kernel

set_option maxHeartbeats 1600000 in
theorem knows7_any (w : World) :
    Calls Try.prog 10 #[] w fun e w' => e = .returned (.bool true) ∧ Below w.heap.size w w' := by
  have HT := Lib.hid (kL_tl w)
  have B0 := Lib.hid (below_one w (.cells #[.int .i64 2, .int .i64 4, .int .i64 6, .slice none 0 0] 32))
  go_enter Try.func10, Try.ntmps10
  go_wp2_with fail
  generalize w.alloc (.cells #[.int .i64 2, .int .i64 4, .int .i64 6, .slice none 0 0] 32) = w0 at *
  generalize (some ⟨w.heap.size, 0, none⟩ : Option Addr) = A at *
  refine (bound_v A 1 kL 3 0 0 kZ3 kE3 1 rfl _ HT.out).mono ?_
  rintro e w1 ⟨rfl, b1⟩
  have B1 := Lib.hid (below_step B0.out b1)
  replace HT := Lib.hid (HT.out.below b1)
  clear b1
  go_wp2_with fail
  refine (bound_v A 1 kL 9 2 0 kZ9 kE9 1 rfl _ HT.out).mono ?_
  rintro e w2 ⟨rfl, b2⟩
  have B2 := Lib.hid (below_step B1.out b2)
  replace HT := Lib.hid (HT.out.below b2)
  clear b2
  go_wp2_with fail
  refine (bound_v A 1 kL 10 4 0 kZ10 kE10 1 rfl _ HT.out).mono ?_
  rintro e w3 ⟨rfl, b3⟩
  have B3 := Lib.hid (below_step B2.out b3)
  replace HT := Lib.hid (HT.out.below b3)
  clear b3
  go_wp2_with fail
  refine (of_v A 1 kL _ 1 (kR 6) 0 10 4 0 kOZ kOE 1 rfl 1 rfl _ (HT.out.below (below_two _ _ _)) (kR_ll _ 6 (fit_small rfl) _ rfl)).mono ?_
  rintro e w4 ⟨rfl, b4⟩
  have B4 := Lib.hid (below_step (below_step B3.out (below_two _ _ _)) b4)
  replace HT := Lib.hid ((HT.out.below (below_two _ _ _)).below b4)
  clear b4
  go_wp2_with fail
  refine (legal_v A 1 kL _ 1 (kR 6) true kG6 1 rfl 1 rfl _ (HT.out.below (below_two _ _ _)) (kR_ll _ 6 (fit_small rfl) _ rfl)).mono ?_
  rintro e w5 ⟨rfl, b5⟩
  have B5 := Lib.hid (below_step (below_step B4.out (below_two _ _ _)) b5)
  replace HT := Lib.hid ((HT.out.below (below_two _ _ _)).below b5)
  clear b5
  go_wp2_with fail
  refine (legal_v A 1 kL _ 1 (kR 5) false kG5 1 rfl 1 rfl _ (HT.out.below (below_two _ _ _)) (kR_ll _ 5 (fit_small rfl) _ rfl)).mono ?_
  rintro e w6 ⟨rfl, b6⟩
  have B6 := Lib.hid (below_step (below_step B5.out (below_two _ _ _)) b6)
  clear b6
  go_wp2_with fail
  go_ret
  exact ⟨rfl, B6.out⟩

end Dm
end Go.Proofs.Ythghnbbcmmjcfaa
