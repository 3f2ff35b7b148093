/-
  Memory, for every layer: slices of bools; literals of ints and bools.
-/
import Derived.Test.YtjpenmldoaepfaaMem
namespace Go.Proofs.Ytjpenmldoaepfaa
open Go.RowKit
namespace Mm

theorem slF : SlT Try.prog 31 4 (Dat.k Bool) := slT_of Try.underlying31 (show _ = some (some (.bool false), 1, 1) by kernel_rfl) rfl (by omega)
theorem RdS.flag {w : World} {S : Nat → Prop} {A : Option Addr} {c : Nat} {l : List Bool} (h : RdS w S A c l) (h0 : 0 < l.length) : ∃ b off, A = some ⟨b, off, none⟩ ∧ ∀ j, j < l.length → w.cell? ⟨b, off + j, none⟩ = some (.bool (at_ l j)) := by
  obtain ⟨b, off, e, hc⟩ := h.cells h0
  refine ⟨b, off, e, fun j hj => ?_⟩
  obtain ⟨vs, rfl, h2⟩ := hc j hj
  have := h2 0 _ rfl
  simpa [Dat.k] using this
theorem Rd.flag {w : World} {A : Option Addr} {c : Nat} {l : List Bool} (h : Rd w A c l) (h0 : 0 < l.length) : ∃ b off, A = some ⟨b, off, none⟩ ∧ ∀ j, j < l.length → w.cell? ⟨b, off + j, none⟩ = some (.bool (at_ l j)) := RdS.flag h h0
/-- a list of bools, as an argument -/
def FL (w : World) (A : Option Addr) (c : Nat) (h : List Bool) : Prop := h.length ≤ 1000000 ∧ Rd w A c h
theorem FL.below {w w' : World} {A : Option Addr} {c : Nat} {h : List Bool} (H : FL w A c h) (b : Below w.heap.size w w') : FL w' A c h := ⟨H.1, H.2.below b⟩
theorem FL.bw {w : World} {A : Option Addr} {c : Nat} {h : List Bool} (H : FL w A c h) (p : BW w) : FL p.to A c h := H.below p.low

theorem rows_nil_ {α : Type} [Dat α] {w : World} {S : Nat → Prop} : Mm.Rows w S [] ([] : List α) := rfl
theorem rows_int_ {w : World} {S : Nat → Prop} {r : List Value} {l : List Int} (x : Int) (hx : Fit x) (h : Mm.Rows w S r l) : Mm.Rows w S (.int .i64 x :: r) (x :: l) := ⟨[.int .i64 x], r, rfl, ⟨rfl, hx⟩, h⟩
theorem rows_bool_ {w : World} {S : Nat → Prop} {r : List Value} {l : List Bool} (x : Bool) (h : Mm.Rows w S r l) : Mm.Rows w S (.bool x :: r) (x :: l) := ⟨[.bool x], r, rfl, rfl, h⟩
theorem rd_literal {α : Type} [Inhabited α] [Dat α] (w : World) (l : List α) (n : Nat) (hn : l.length = n) (cs : Array Value) (e : TypeId) (hm : n ≤ 1000000) (h : Mm.Rows (w.alloc (.cells cs e)) (fun _ => True) cs.toList l) : Rd (w.alloc (.cells cs e)) (some ⟨w.heap.size, 0, none⟩) n l := by
  subst hn
  exact (ow_lit w (fun _ => True) w.heap.size e cs (Nat.le_refl _) hm h).rd
theorem fit_lit {x : Int} (h : decide (0 ≤ x ∧ x ≤ 1000000) = true) : Fit x := by
  have := of_decide_eq_true h
  exact ⟨by omega, by omega⟩

end Mm
end Go.Proofs.Ytjpenmldoaepfaa
