/-
  Tasks and sections written as literals, in new memory.
-/
import Derived.Test.YtldiplnccgoeiaaTaskMem
namespace Go.Proofs.Ytldiplnccgoeiaa
open Go.RowKit Mm
namespace Tk

theorem rows_none {α : Type} [Dat α] {w : World} {S : Nat → Prop} : Mm.Rows w S [] ([] : List α) := rfl
theorem rows_sec {w : World} {S : Nat → Prop} {r : List Value} {l : List Sc} (x : Sc) (f1 : Fit x.1) (f2 : Fit x.2.1) (f3 : Fit x.2.2) (h : Mm.Rows w S r l) : Mm.Rows w S (.int .i64 x.1 :: .int .i64 x.2.1 :: .int .i64 x.2.2 :: r) (x :: l) :=
  ⟨[.int .i64 x.1, .int .i64 x.2.1, .int .i64 x.2.2], r, rfl, rd_sec.2 ⟨rfl, f1, f2, f3⟩, h⟩
theorem rows_task {w : World} {S : Nat → Prop} {r : List Value} {l : List Tsk} (x : Tsk) {n : Nat} (hn : x.2.2.2.length = n) {B : Option Addr} {d : Nat} (f1 : Fit x.1) (f2 : Fit x.2.1) (f3 : Fit x.2.2.1) (hs : RdS w S B d x.2.2.2) (h : Mm.Rows w S r l) : Mm.Rows w S (.int .i64 x.1 :: .int .i64 x.2.1 :: .int .i64 x.2.2.1 :: .slice B n d :: r) (x :: l) := by
  subst hn
  exact ⟨[.int .i64 x.1, .int .i64 x.2.1, .int .i64 x.2.2.1, .slice B x.2.2.2.length d], r, rfl, rd_task.2 ⟨B, d, rfl, f1, f2, f3, hs⟩, h⟩
theorem rd_lit {α : Type} [Inhabited α] [Dat α] (w : World) (l : List α) (n : Nat) (hn : l.length = n) (cs : Array Value) (e : TypeId) (hm : n ≤ 1000000) (h : Mm.Rows (w.alloc (.cells cs e)) (fun _ => True) cs.toList l) : Rd (w.alloc (.cells cs e)) (some ⟨w.heap.size, 0, none⟩) n l := by
  subst hn
  exact (ow_lit w (fun _ => True) w.heap.size e cs (Nat.le_refl _) hm h).rd
theorem fit_small {x : Int} (h : decide (0 ≤ x ∧ x ≤ 1000000) = true) : Fit x := by
  have := of_decide_eq_true h
  exact ⟨by omega, by omega⟩

end Tk
end Go.Proofs.Ytldiplnccgoeiaa
