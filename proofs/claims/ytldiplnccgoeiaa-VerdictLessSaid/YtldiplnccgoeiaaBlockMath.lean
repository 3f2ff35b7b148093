/-
  Layer 8 (block): plain mathematics: the blocking, and where it may change.
-/
import Derived.Test.YtldiplnccgoeiaaTaskMath
import Derived.Test.YtldiplnccgoeiaaMost
namespace Go.Proofs.Ytldiplnccgoeiaa
namespace Bk
open Mm Tk

/-- does a task use a resource (as far as its sections say) -/
def useT (t : Tsk) (r : Int) : Bool := t.2.2.2.any fun x => decide (x.1 = r)
/-- is a resource used by a task that is due by t -/
def nearB (L : List Tsk) (t r : Int) : Bool := L.any fun y => decide (y.2.1 ≤ t) && useT y r
/-- how long a section, a task may be in the way; the blocking -/
def blkS (L : List Tsk) (t : Int) (s : Sc) : Nat := if nearB L t s.1 then s.2.2.toNat else 0
def blkT (L : List Tsk) (t : Int) (x : Tsk) : Nat := if t < x.2.1 then most (blkS L t) x.2.2.2 else 0
def blk (L : List Tsk) (t : Int) : Nat := most (blkT L t) L

theorem near_iff {L : List Tsk} {t r : Int} : nearB L t r = true ↔ ∃ y ∈ L, y.2.1 ≤ t ∧ useT y r = true := by
  unfold nearB
  rw [List.any_eq_true]
  simp only [Bool.and_eq_true, decide_eq_true_eq]
theorem blkS_le (L : List Tsk) (t : Int) (s : Sc) : blkS L t s ≤ s.2.2.toNat := by
  unfold blkS
  split <;> omega
/-- there is none where no task is due, or all are -/
theorem blk_low {L : List Tsk} {t : Int} (h : ∀ x ∈ L, t < x.2.1) : blk L t = 0 := by
  apply most_zero
  intro x _
  unfold blkT
  split
  · apply most_zero
    intro s _
    unfold blkS
    rw [if_neg]
    intro e
    obtain ⟨y, hy, h1, _⟩ := near_iff.1 e
    have := h y hy
    omega
  · rfl
theorem blk_high {L : List Tsk} {t : Int} (h : ∀ x ∈ L, x.2.1 ≤ t) : blk L t = 0 := by
  apply most_zero
  intro x hx
  have := h x hx
  unfold blkT
  rw [if_neg (by omega)]
/-- it hangs on which tasks are due by t alone -/
theorem blk_same {L : List Tsk} {t u : Int} (h : ∀ x ∈ L, (x.2.1 ≤ t ↔ x.2.1 ≤ u)) : blk L t = blk L u := by
  have hn : ∀ r, nearB L t r = nearB L u r := by
    intro r
    rw [Bool.eq_iff_iff, near_iff, near_iff]
    constructor
    · rintro ⟨y, hy, h1, h2⟩; exact ⟨y, hy, (h y hy).1 h1, h2⟩
    · rintro ⟨y, hy, h1, h2⟩; exact ⟨y, hy, (h y hy).2 h1, h2⟩
  apply most_congr
  intro x hx
  have h1 := h x hx
  have e : blkS L t = blkS L u := by
    funext s
    unfold blkS
    rw [hn]
  unfold blkT
  rw [e]
  by_cases h2 : t < x.2.1
  · rw [if_pos h2, if_pos (by omega)]
  · rw [if_neg h2, if_neg (by omega)]
/-- P8.3 -/
theorem blk_more {L M : List Tsk} {t : Int} (h : ∀ x ∈ L, x ∈ M) : blk L t ≤ blk M t := by
  refine Nat.le_trans (most_mono fun x _ => ?_) (most_sub h)
  unfold blkT
  split
  · apply most_mono
    intro s _
    unfold blkS
    by_cases hn : nearB L t s.1 = true
    · have : nearB M t s.1 = true := by
        obtain ⟨y, hy, h1, h2⟩ := near_iff.1 hn
        exact near_iff.2 ⟨y, h y hy, h1, h2⟩
      rw [if_pos hn, if_pos this]
      exact Nat.le_refl _
    · rw [if_neg hn]
      exact Nat.zero_le _
  · exact Nat.le_refl _
/-- it is the length of a section, or 0 -/
theorem blk_is {L : List Tsk} {t : Int} : blk L t = 0 ∨ ∃ x ∈ L, ∃ s ∈ x.2.2.2, blk L t = s.2.2.toNat := by
  rcases most_is (f := blkT L t) (L := L) with h | ⟨x, hx, h⟩
  · exact .inl h
  · unfold blk
    rw [h]
    unfold blkT
    split
    · rcases most_is (f := blkS L t) (L := x.2.2.2) with h | ⟨s, hs, h⟩
      · exact .inl h
      · rw [h]
        unfold blkS
        split
        · exact .inr ⟨x, hx, s, hs, rfl⟩
        · exact .inl rfl
    · exact .inl rfl
theorem right_sec {x : Tsk} (h : rightT x = true) {s : Sc} (hs : s ∈ x.2.2.2) : 1 ≤ s.2.2 ∧ s.2.2 ≤ 200 := by
  have h1 := times_iff.1 (rightB_iff.1 h).1
  have h2 := sec_iff.1 ((ok_of (show rightB x.1 x.2.1 x.2.2.1 x.2.2.2 = true from h)).1 s hs)
  omega
theorem blk_le {L : List Tsk} (h : allB L = true) (t : Int) : blk L t ≤ 200 := by
  rcases blk_is (L := L) (t := t) with e | ⟨x, hx, s, hs, e⟩
  · omega
  · unfold allB at h
    rw [Bool.and_eq_true, List.all_eq_true] at h
    have := right_sec (h.2 x hx) hs
    omega

/-- where it may change: the D of all tasks, rising, each once -/
def steps (L : List Tsk) : List Int := ((List.range 201).filter fun (d : Nat) => L.any fun x => decide (x.2.1 = (d : Int))).map fun (d : Nat) => (d : Int)
theorem mem_steps {L : List Tsk} (h : allB L = true) {d : Int} : d ∈ steps L ↔ ∃ x ∈ L, x.2.1 = d := by
  unfold allB at h
  rw [Bool.and_eq_true, List.all_eq_true] at h
  unfold steps
  rw [List.mem_map]
  constructor
  · rintro ⟨n, hn, rfl⟩
    rw [List.mem_filter, List.any_eq_true] at hn
    obtain ⟨x, hx, e⟩ := hn.2
    exact ⟨x, hx, of_decide_eq_true e⟩
  · rintro ⟨x, hx, rfl⟩
    have := times_iff.1 (rightB_iff.1 (h.2 x hx)).1
    refine ⟨x.2.1.toNat, List.mem_filter.2 ⟨by rw [List.mem_range]; omega, ?_⟩, by omega⟩
    rw [List.any_eq_true]
    exact ⟨x, hx, by simp; omega⟩
theorem steps_rise (L : List Tsk) : (steps L).Pairwise (· < ·) := by
  unfold steps
  rw [List.pairwise_map]
  refine (List.pairwise_lt_range.filter _).imp ?_
  intro a b h
  omega
theorem rise_unique : ∀ {a b : List Int}, a.Pairwise (· < ·) → b.Pairwise (· < ·) → (∀ x, x ∈ a ↔ x ∈ b) → a = b
  | [], [], _, _, _ => rfl
  | [], y :: b, _, _, h => by have := (h y).2 (by simp); simp at this
  | x :: a, [], _, _, h => by have := (h x).1 (by simp); simp at this
  | x :: a, y :: b, ha, hb, h => by
    obtain ⟨ha1, ha2⟩ := List.pairwise_cons.1 ha
    obtain ⟨hb1, hb2⟩ := List.pairwise_cons.1 hb
    have e : x = y := by
      have h1 := (h x).1 (by simp)
      have h2 := (h y).2 (by simp)
      rcases List.mem_cons.1 h1 with e | h1
      · exact e
      · rcases List.mem_cons.1 h2 with e | h2
        · exact e.symm
        · have := ha1 y h2
          have := hb1 x h1
          omega
    subst e
    rw [rise_unique ha2 hb2 fun z => ?_]
    constructor
    · intro hz
      have := ha1 z hz
      rcases List.mem_cons.1 ((h z).1 (List.mem_cons_of_mem _ hz)) with e | h'
      · omega
      · exact h'
    · intro hz
      have := hb1 z hz
      rcases List.mem_cons.1 ((h z).2 (List.mem_cons_of_mem _ hz)) with e | h'
      · omega
      · exact h'
theorem steps_unique {L : List Tsk} (h : allB L = true) {s : List Int} (hs : s.Pairwise (· < ·)) (hm : ∀ d, d ∈ s ↔ ∃ x ∈ L, x.2.1 = d) : s = steps L :=
  rise_unique hs (steps_rise L) fun d => by rw [hm, mem_steps h]
theorem steps_le {L : List Tsk} (h : allB L = true) {d : Int} (hd : d ∈ steps L) : 1 ≤ d ∧ d ≤ 200 := by
  obtain ⟨x, hx, rfl⟩ := (mem_steps h).1 hd
  unfold allB at h
  rw [Bool.and_eq_true, List.all_eq_true] at h
  have := times_iff.1 (rightB_iff.1 (h.2 x hx)).1
  omega
theorem rise_at {s : List Int} (hs : s.Pairwise (· < ·)) {i k : Nat} (h : i < k) (hk : k < s.length) : at_ s i < at_ s k := by
  have := List.pairwise_iff_getElem.1 hs i k (by omega) hk h
  rwa [at_get (by omega), at_get hk]
/-- between two steps nothing changes; below the first one, and from the last one on, there is none -/
theorem blk_between {L : List Tsk} (h : allB L = true) {t : Int} {i : Nat} (hi : i < (steps L).length) (h1 : at_ (steps L) i ≤ t) (h2 : ∀ k, i < k → k < (steps L).length → t < at_ (steps L) k) : blk L t = blk L (at_ (steps L) i) := by
  apply blk_same
  intro x hx
  constructor
  · intro hd
    obtain ⟨k, hk, e⟩ := mem_at ((mem_steps h).2 ⟨x, hx, rfl⟩)
    rcases Nat.lt_or_ge i k with hik | hik
    · have := h2 k hik hk
      omega
    · rcases Nat.lt_or_ge k i with hki | hki
      · have := rise_at (steps_rise L) hki hi
        omega
      · have : k = i := by omega
        subst this
        omega
  · intro hd; omega
theorem blk_first {L : List Tsk} (h : allB L = true) {t : Int} (h2 : ∀ k, k < (steps L).length → t < at_ (steps L) k) : blk L t = 0 := by
  apply blk_low
  intro x hx
  obtain ⟨k, hk, e⟩ := mem_at ((mem_steps h).2 ⟨x, hx, rfl⟩)
  have := h2 k hk
  omega
theorem blk_last {L : List Tsk} (h : allB L = true) {t : Int} (h1 : 0 < (steps L).length) (h2 : at_ (steps L) ((steps L).length - 1) ≤ t) : blk L t = 0 := by
  apply blk_high
  intro x hx
  obtain ⟨k, hk, e⟩ := mem_at ((mem_steps h).2 ⟨x, hx, rfl⟩)
  by_cases hk1 : k = (steps L).length - 1
  · subst hk1; omega
  · have := rise_at (steps_rise L) (show k < (steps L).length - 1 by omega) (by omega)
    omega
/-- tasks without sections, tasks of one deadline -/
theorem blk_plain {L : List Tsk} (h : ∀ x ∈ L, x.2.2.2 = []) (t : Int) : blk L t = 0 := by
  apply most_zero
  intro x hx
  unfold blkT
  rw [h x hx]
  split <;> rfl
theorem blk_one {L : List Tsk} {d : Int} (h : ∀ x ∈ L, x.2.1 = d) (t : Int) : blk L t = 0 := by
  rcases Int.lt_or_le t d with h1 | h1
  · exact blk_low fun x hx => by rw [h x hx]; exact h1
  · exact blk_high fun x hx => by rw [h x hx]; exact h1

end Bk
end Go.Proofs.Ytldiplnccgoeiaa
