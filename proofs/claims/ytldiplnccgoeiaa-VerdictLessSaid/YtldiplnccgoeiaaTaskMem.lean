/-
  Layer 5 (task): sections and tasks in memory: the cells of a slice's elements; a section or a task in a block of its own.
-/
import Derived.Test.YtldiplnccgoeiaaTaskMath
namespace Go.Proofs.Ytldiplnccgoeiaa
open Go.RowKit Mm
namespace Tk

/-- the cells of a section -/
theorem rd_sec {w : World} {S : Nat → Prop} {vs : List Value} {x : Sc} : Dat.rd w S vs x ↔ vs = [.int .i64 x.1, .int .i64 x.2.1, .int .i64 x.2.2] ∧ Fit x.1 ∧ Fit x.2.1 ∧ Fit x.2.2 := by
  constructor
  · rintro ⟨v, r, rfl, ⟨rfl, h1⟩, v2, r2, rfl, ⟨rfl, h2⟩, rfl, h3⟩
    exact ⟨rfl, h1, h2, h3⟩
  · rintro ⟨rfl, h1, h2, h3⟩
    exact ⟨[.int .i64 x.1], [.int .i64 x.2.1, .int .i64 x.2.2], rfl, ⟨rfl, h1⟩, [.int .i64 x.2.1], [.int .i64 x.2.2], rfl, ⟨rfl, h2⟩, rfl, h3⟩
theorem k_sec : Dat.k Sc = 3 := rfl
theorem sec_at {w : World} {S : Nat → Prop} {A : Option Addr} {c : Nat} {l : List Sc} (h : RdS w S A c l) (h0 : 0 < l.length) : ∃ b off, A = some ⟨b, off, none⟩ ∧ ∀ j, j < l.length →
    w.cell? ⟨b, off + j * 3, none⟩ = some (.int .i64 (at_ l j).1) ∧ w.cell? ⟨b, off + j * 3 + 1, none⟩ = some (.int .i64 (at_ l j).2.1) ∧ w.cell? ⟨b, off + j * 3 + 2, none⟩ = some (.int .i64 (at_ l j).2.2) ∧ Fit (at_ l j).1 ∧ Fit (at_ l j).2.1 ∧ Fit (at_ l j).2.2 := by
  obtain ⟨b, off, e, hc⟩ := h.cells h0
  refine ⟨b, off, e, fun j hj => ?_⟩
  obtain ⟨vs, h1, h2⟩ := hc j hj
  obtain ⟨rfl, f1, f2, f3⟩ := rd_sec.1 h1
  exact ⟨h2 0 _ rfl, h2 1 _ rfl, h2 2 _ rfl, f1, f2, f3⟩
theorem sec_fit {w : World} {S : Nat → Prop} {A : Option Addr} {c : Nat} {l : List Sc} (h : RdS w S A c l) {j : Nat} (hj : j < l.length) : Fit (at_ l j).1 ∧ Fit (at_ l j).2.1 ∧ Fit (at_ l j).2.2 := by
  obtain ⟨b, off, _, hc⟩ := sec_at h (by omega)
  exact (hc j hj).2.2.2
/-- the cells of a task -/
theorem rd_task {w : World} {S : Nat → Prop} {vs : List Value} {x : Tsk} : Dat.rd w S vs x ↔ ∃ B d, vs = [.int .i64 x.1, .int .i64 x.2.1, .int .i64 x.2.2.1, .slice B x.2.2.2.length d] ∧ Fit x.1 ∧ Fit x.2.1 ∧ Fit x.2.2.1 ∧ RdS w S B d x.2.2.2 := by
  constructor
  · rintro ⟨v, r, rfl, ⟨rfl, h1⟩, v2, r2, rfl, ⟨rfl, h2⟩, v3, r3, rfl, ⟨rfl, h3⟩, B, d, rfl, h4⟩
    exact ⟨B, d, rfl, h1, h2, h3, h4⟩
  · rintro ⟨B, d, rfl, h1, h2, h3, h4⟩
    exact ⟨[.int .i64 x.1], [.int .i64 x.2.1, .int .i64 x.2.2.1, .slice B x.2.2.2.length d], rfl, ⟨rfl, h1⟩, [.int .i64 x.2.1], [.int .i64 x.2.2.1, .slice B x.2.2.2.length d], rfl, ⟨rfl, h2⟩, [.int .i64 x.2.2.1], [.slice B x.2.2.2.length d], rfl, ⟨rfl, h3⟩, B, d, rfl, h4⟩
theorem k_task : Dat.k Tsk = 4 := rfl
theorem task_at {w : World} {S : Nat → Prop} {A : Option Addr} {c : Nat} {l : List Tsk} (h : RdS w S A c l) (h0 : 0 < l.length) : ∃ b off, A = some ⟨b, off, none⟩ ∧ ∀ j, j < l.length → ∃ B d,
    w.cell? ⟨b, off + j * 4, none⟩ = some (.int .i64 (at_ l j).1) ∧ w.cell? ⟨b, off + j * 4 + 1, none⟩ = some (.int .i64 (at_ l j).2.1) ∧ w.cell? ⟨b, off + j * 4 + 2, none⟩ = some (.int .i64 (at_ l j).2.2.1) ∧
      w.cell? ⟨b, off + j * 4 + 3, none⟩ = some (.slice B (at_ l j).2.2.2.length d) ∧ Fit (at_ l j).1 ∧ Fit (at_ l j).2.1 ∧ Fit (at_ l j).2.2.1 ∧ RdS w S B d (at_ l j).2.2.2 := by
  obtain ⟨b, off, e, hc⟩ := h.cells h0
  refine ⟨b, off, e, fun j hj => ?_⟩
  obtain ⟨vs, h1, h2⟩ := hc j hj
  obtain ⟨B, d, rfl, f1, f2, f3, r⟩ := rd_task.1 h1
  exact ⟨B, d, h2 0 _ rfl, h2 1 _ rfl, h2 2 _ rfl, h2 3 _ rfl, f1, f2, f3, r⟩

/-- a task in a block of its own -/
def Box (w : World) (X : Nat) (C D T : Int) (A : Option Addr) (n c : Nat) : Prop :=
  w.cell? ⟨X, 0, none⟩ = some (.int .i64 C) ∧ w.cell? ⟨X, 1, none⟩ = some (.int .i64 D) ∧ w.cell? ⟨X, 2, none⟩ = some (.int .i64 T) ∧ w.cell? ⟨X, 3, none⟩ = some (.slice A n c)
theorem Box.below {w w' : World} {X : Nat} {C D T : Int} {A : Option Addr} {n c : Nat} (h : Box w X C D T A n c) (hb : Below w.heap.size w w') : Box w' X C D T A n c :=
  ⟨cell_below hb h.1, cell_below hb h.2.1, cell_below hb h.2.2.1, cell_below hb h.2.2.2⟩
theorem box_new (w : World) (C D T : Int) (A : Option Addr) (n c : Nat) : Box (w.alloc (.cells #[.int .i64 C, .int .i64 D, .int .i64 T, .slice A n c] 47)) w.heap.size C D T A n c := by
  refine ⟨?_, ?_, ?_, ?_⟩ <;> simp
/-- a section in a block of its own -/
def Bx (w : World) (X : Nat) (x : Sc) : Prop :=
  w.cell? ⟨X, 0, none⟩ = some (.int .i64 x.1) ∧ w.cell? ⟨X, 1, none⟩ = some (.int .i64 x.2.1) ∧ w.cell? ⟨X, 2, none⟩ = some (.int .i64 x.2.2)
theorem Bx.below {w w' : World} {X : Nat} {x : Sc} (h : Bx w X x) (hb : Below w.heap.size w w') : Bx w' X x :=
  ⟨cell_below hb h.1, cell_below hb h.2.1, cell_below hb h.2.2⟩
theorem bx_new (w : World) (x : Sc) : Bx (w.alloc (.cells #[.int .i64 x.1, .int .i64 x.2.1, .int .i64 x.2.2] 61)) w.heap.size x := by
  refine ⟨?_, ?_, ?_⟩ <;> simp
theorem bx_at (w : World) (x : Sc) (X : Nat) (h : w.heap.size = X) : Bx (w.alloc (.cells #[.int .i64 x.1, .int .i64 x.2.1, .int .i64 x.2.2] 61)) X x := h ▸ bx_new w x
theorem box_at (w : World) (C D T : Int) (A : Option Addr) (n c : Nat) (X : Nat) (h : w.heap.size = X) : Box (w.alloc (.cells #[.int .i64 C, .int .i64 D, .int .i64 T, .slice A n c] 47)) X C D T A n c := h ▸ box_new w C D T A n c

end Tk
end Go.Proofs.Ytldiplnccgoeiaa
