/-
  Memory, for every layer: a slice of slices of ints: its elements' cells; as an argument, opened.
-/
import Derived.Test.YthghnbbcmmjcfaaMemOpenInts
namespace Go.Proofs.Ythghnbbcmmjcfaa
open Go.RowKit
namespace Mm

theorem list_at {w : World} {S : Nat → Prop} {A : Option Addr} {c : Nat} {l : List (List Int)} (h : RdS w S A c l) (h0 : 0 < l.length) : ∃ b off, A = some ⟨b, off, none⟩ ∧ ∀ j, j < l.length → ∃ B d,
    w.cell? ⟨b, off + j, none⟩ = some (.slice B (at_ l j).length d) ∧ RdS w S B d (at_ l j) := by
  obtain ⟨b, off, e, hc⟩ := h.cells h0
  refine ⟨b, off, e, fun j hj => ?_⟩
  obtain ⟨vs, ⟨B, d, rfl, h1⟩, h2⟩ := hc j hj
  have := h2 0 _ rfl
  exact ⟨B, d, by simpa [Dat.k] using this, h1⟩
theorem opLists : Opens Try.prog 34 (List (List Int)) := opens_slice Try.underlying34 (by kernel_rfl) opInts

/-- a slice of slices of ints, as an argument: as many as may be, each of as many as may be -/
def LL (w : World) (A : Option Addr) (c : Nat) (R : List (List Int)) : Prop := R.length ≤ 1000000 ∧ (∀ j, j < R.length → (at_ R j).length ≤ 1000000) ∧ Rd w A c R
theorem LL.below {w w' : World} {A : Option Addr} {c : Nat} {R : List (List Int)} (H : LL w A c R) (b : Below w.heap.size w w') : LL w' A c R := ⟨H.1, H.2.1, H.2.2.below b⟩
theorem LL.bw {w : World} {A : Option Addr} {c : Nat} {R : List (List Int)} (H : LL w A c R) (p : BW w) : LL p.to A c R := H.below p.low

end Mm
end Go.Proofs.Ythghnbbcmmjcfaa
