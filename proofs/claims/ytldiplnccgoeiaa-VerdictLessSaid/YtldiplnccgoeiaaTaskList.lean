/-
  Tasks as an argument.
-/
import Derived.Test.YtldiplnccgoeiaaTaskMem
namespace Go.Proofs.Ytldiplnccgoeiaa
open Go.RowKit Mm
namespace Tk

/-- tasks as an argument: as many as may be, each of as many sections as may be -/
def TL (w : World) (A : Option Addr) (c : Nat) (L : List Tsk) : Prop := L.length ≤ 1000000 ∧ (∀ j, j < L.length → (at_ L j).2.2.2.length ≤ 1000000) ∧ Rd w A c L
theorem TL.below {w w' : World} {A : Option Addr} {c : Nat} {L : List Tsk} (H : TL w A c L) (b : Below w.heap.size w w') : TL w' A c L := ⟨H.1, H.2.1, H.2.2.below b⟩
theorem TL.bw {w : World} {A : Option Addr} {c : Nat} {L : List Tsk} (H : TL w A c L) (p : BW w) : TL p.to A c L := H.below p.low
theorem TL.take {w : World} {A : Option Addr} {c : Nat} {L : List Tsk} (H : TL w A c L) (k : Nat) : TL w A c (L.take k) := ⟨by have := H.1; rw [List.length_take]; omega, fun j hj => by
  rw [List.length_take] at hj
  rw [at_take (by omega)]
  exact H.2.1 j (by omega), H.2.2.front k⟩
theorem tl_nil (w : World) (A : Option Addr) (c : Nat) (h : A = none → c = 0) (hm : c ≤ maxLen) : TL w A c [] := ⟨by simp, fun j hj => by simp at hj, rd_nil h hm⟩
theorem TL.drop {w : World} {b off c : Nat} {L : List Tsk} (H : TL w (some ⟨b, off, none⟩) c L) (k : Nat) (hk : k ≤ L.length) : TL w (some ⟨b, off + k * 4, none⟩) (c - k) (L.drop k) := ⟨by have := H.1; rw [List.length_drop]; omega, fun j hj => by
  rw [List.length_drop] at hj
  rw [at_drop]
  exact H.2.1 (k + j) (by omega), by
  have h1 := H.2.2.le
  have h2 := H.2.2.max
  exact RdS.back H.2.2 k (c - k) (by omega) (by omega)⟩

end Tk
end Go.Proofs.Ytldiplnccgoeiaa
