/-
  An argument's bytes are within reach.
-/
import Derived.Test.YtnkgfkmdfplneaaMem
import Derived.Deep.Slices
import Derived.SizedLaws
namespace Go.Proofs.Ytnkgfkmdfplneaa
open Go.RowKit
namespace Mm
theorem sized_list {H : Type} {enc : TypeId × Value → H} {P : Program} {w : World} {base : Nat} {spare : Nat → Bool} {held : Bool} {ts : List TypeId} {ds : List (DataW H)} {j : Nat} {t e : TypeId} {v : Value} {d : DataW H} {ps : List MemPlace}
    (hsz : (DataW.weightsEach P ts ds).all (· ≤ reachBytes) = true) (ht : ts[j]? = some t) (hd : ds[j]? = some d) (hu : P.underlying t = some (.slice e)) (h : DataW.Trod enc P w base spare held t v d ps) {A : Option Addr} {n c : Nat} (hv : v = .slice A n c) : n * P.bytesOf e ≤ reachBytes := by
  subst hv
  obtain ⟨fuel, hf⟩ := h
  rcases Go.Deep.open_slice hu hf with ⟨e1, _⟩ | ⟨a, len, cap, m, n', D, Pl, e1, _, hl, _, _, ex, _⟩
  · have : n = 0 := by
      have e2 : Value.slice A n c = .slice none 0 0 := by simpa [Value.cells] using e1
      injection e2
    subst this
    simp
  · have e2 : Value.slice A n c = .slice (some a) len cap := by simpa [Value.cells] using e1
    injection e2 with _ e3 _
    subst e3
    injection ex with ex _
    rw [ex] at hd
    have h1 := sized_slice hsz ht hd hu
    rw [List.length_map, List.length_range] at h1
    exact Nat.le_trans (Nat.mul_le_mul_right _ (by omega)) h1
end Mm
end Go.Proofs.Ytnkgfkmdfplneaa
