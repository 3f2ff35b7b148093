/-
  Plain mathematics, for every layer: the greatest of some numbers; how many; sums.
-/
import Derived.Test.YtldiplnccgoeiaaMem
namespace Go.Proofs.Ytldiplnccgoeiaa
namespace Mm

/-- the greatest f of the first k -/
def mostTo {α : Type} [Inhabited α] (f : α → Nat) (L : List α) : Nat → Nat
  | 0 => 0
  | k + 1 => max (mostTo f L k) (f (at_ L k))
def most {α : Type} [Inhabited α] (f : α → Nat) (L : List α) : Nat := mostTo f L L.length
theorem int_max (q y : Nat) : Value.int .i64 (if q < y then (y : Int) else (q : Int)) = .int .i64 ((max q y : Nat) : Int) := by
  congr 1
  split <;> omega
section
variable {α : Type} [Inhabited α]
theorem mostTo_congr {f g : α → Nat} {L : List α} : ∀ {k : Nat}, (∀ j, j < k → f (at_ L j) = g (at_ L j)) → mostTo f L k = mostTo g L k
  | 0, _ => rfl
  | k + 1, h => by rw [mostTo, mostTo, mostTo_congr (fun j hj => h j (by omega)), h k (by omega)]
theorem mostTo_mono {f g : α → Nat} {L : List α} : ∀ {k : Nat}, (∀ j, j < k → f (at_ L j) ≤ g (at_ L j)) → mostTo f L k ≤ mostTo g L k
  | 0, _ => Nat.le_refl _
  | k + 1, h => by
    have h1 := mostTo_mono (f := f) (g := g) (L := L) (k := k) (fun j hj => h j (by omega))
    have h2 := h k (by omega)
    rw [mostTo, mostTo]; omega
theorem mostTo_ge {f : α → Nat} {L : List α} : ∀ {k j : Nat}, j < k → f (at_ L j) ≤ mostTo f L k
  | 0, _, h => by omega
  | k + 1, j, h => by
    rw [mostTo]
    by_cases e : j = k
    · subst e; omega
    · have := mostTo_ge (f := f) (L := L) (k := k) (j := j) (by omega)
      omega
theorem mostTo_le {f : α → Nat} {L : List α} {m : Nat} : ∀ {k : Nat}, (∀ j, j < k → f (at_ L j) ≤ m) → mostTo f L k ≤ m
  | 0, _ => Nat.zero_le _
  | k + 1, h => by
    have h1 := mostTo_le (f := f) (L := L) (k := k) (fun j hj => h j (by omega))
    have h2 := h k (by omega)
    rw [mostTo]; omega
theorem mostTo_is {f : α → Nat} {L : List α} : ∀ {k : Nat}, mostTo f L k = 0 ∨ ∃ j, j < k ∧ mostTo f L k = f (at_ L j)
  | 0 => .inl rfl
  | k + 1 => by
    rw [mostTo]
    by_cases h : f (at_ L k) ≤ mostTo f L k
    · rw [Nat.max_eq_left h]
      rcases mostTo_is (f := f) (L := L) (k := k) with e | ⟨j, hj, e⟩
      · exact .inl e
      · exact .inr ⟨j, by omega, e⟩
    · rw [Nat.max_eq_right (by omega)]
      exact .inr ⟨k, by omega, rfl⟩
theorem most_ge {f : α → Nat} {L : List α} {x : α} (h : x ∈ L) : f x ≤ most f L := by
  obtain ⟨j, hj, rfl⟩ := mem_at h
  exact mostTo_ge hj
theorem most_le {f : α → Nat} {L : List α} {m : Nat} (h : ∀ x ∈ L, f x ≤ m) : most f L ≤ m := mostTo_le fun _ hj => h _ (at_mem hj)
theorem most_is {f : α → Nat} {L : List α} : most f L = 0 ∨ ∃ x ∈ L, most f L = f x := by
  rcases mostTo_is (f := f) (L := L) (k := L.length) with e | ⟨j, hj, e⟩
  · exact .inl e
  · exact .inr ⟨_, at_mem hj, e⟩
theorem most_zero {f : α → Nat} {L : List α} (h : ∀ x ∈ L, f x = 0) : most f L = 0 := by
  have := most_le (f := f) (L := L) (m := 0) (fun x hx => by rw [h x hx]; omega)
  omega
theorem most_nil (f : α → Nat) : most f [] = 0 := rfl
theorem most_congr {f g : α → Nat} {L : List α} (h : ∀ x ∈ L, f x = g x) : most f L = most g L := mostTo_congr fun _ hj => h _ (at_mem hj)
theorem most_mono {f g : α → Nat} {L : List α} (h : ∀ x ∈ L, f x ≤ g x) : most f L ≤ most g L := mostTo_mono fun _ hj => h _ (at_mem hj)
theorem most_sub {f : α → Nat} {L M : List α} (h : ∀ x ∈ L, x ∈ M) : most f L ≤ most f M := most_le fun x hx => most_ge (h x hx)
end

/-- how many of the first k -/
def cntTo {α : Type} (p : α → Bool) (L : List α) (k : Nat) : Nat := ((L.take k).filter p).length
theorem cntTo_zero {α : Type} (p : α → Bool) (L : List α) : cntTo p L 0 = 0 := rfl
theorem cntTo_yes {α : Type} [Inhabited α] {p : α → Bool} {L : List α} {k : Nat} (h : k < L.length) (hd : p (at_ L k) = true) : cntTo p L (k + 1) = cntTo p L k + 1 := by
  unfold cntTo
  rw [take_succ_at h, List.filter_append, List.length_append]
  simp [hd]
theorem cntTo_no {α : Type} [Inhabited α] {p : α → Bool} {L : List α} {k : Nat} (h : k < L.length) (hd : p (at_ L k) = false) : cntTo p L (k + 1) = cntTo p L k := by
  unfold cntTo
  rw [take_succ_at h, List.filter_append, List.length_append]
  simp [hd]
theorem cntTo_le {α : Type} (p : α → Bool) (L : List α) (k : Nat) : cntTo p L k ≤ k := by
  unfold cntTo
  exact Nat.le_trans (List.length_filter_le _ _) (by simp; omega)
theorem cntTo_all {α : Type} (p : α → Bool) (L : List α) : cntTo p L L.length = (L.filter p).length := by unfold cntTo; rw [List.take_length]

end Mm
end Go.Proofs.Ytldiplnccgoeiaa
