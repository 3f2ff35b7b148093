/-
  Layer 9: the reference Least: two loops.
-/
import Derived.Test.YtjpenmldoaepfaaSupplyList
namespace Go.Proofs.Ytjpenmldoaepfaa
open Go.RowKit Mm
namespace Sp

/-- the least so far, or -1 -/
def outTo (l : List Bool) (t k : Nat) : Int := if k = 0 then -1 else (leastTo l t (k - 1) : Nat)
theorem outTo_zero (l : List Bool) (t : Nat) : outTo l t 0 = -1 := rfl
theorem outTo_le (l : List Bool) (t k : Nat) : -1 ≤ outTo l t k ∧ outTo l t k ≤ t := by
  unfold outTo
  have := leastTo_len l t (k - 1)
  split <;> omega
theorem outTo_first {l : List Bool} {t k n : Nat} (hn : inN l k (k + t) = n) (h : outTo l t k < 0) : outTo l t (k + 1) = n := by
  unfold outTo at h
  split at h
  · rename_i e
    subst e
    rw [Nat.zero_add] at hn
    show ((leastTo l t 0 : Nat) : Int) = n
    rw [leastTo, hn]
  · omega
theorem outTo_pos {l : List Bool} {t k : Nat} (h : ¬ outTo l t k < 0) : ∃ j, k = j + 1 ∧ outTo l t k = (leastTo l t j : Nat) := by
  rcases k with _ | j
  · exact absurd (by show (-1 : Int) < 0; omega) h
  · exact ⟨j, rfl, rfl⟩
theorem outTo_less {l : List Bool} {t k n : Nat} (hn : inN l k (k + t) = n) (h0 : ¬ outTo l t k < 0) (h : (n : Int) < outTo l t k) : outTo l t (k + 1) = n := by
  obtain ⟨j, rfl, e⟩ := outTo_pos h0
  rw [e] at h
  show ((leastTo l t (j + 1) : Nat) : Int) = n
  rw [leastTo, hn]
  omega
theorem outTo_stay {l : List Bool} {t k n : Nat} (hn : inN l k (k + t) = n) (h0 : ¬ outTo l t k < 0) (h : ¬ (n : Int) < outTo l t k) : outTo l t (k + 1) = outTo l t k := by
  obtain ⟨j, rfl, e⟩ := outTo_pos h0
  rw [e] at h ⊢
  show ((leastTo l t (j + 1) : Nat) : Int) = _
  rw [leastTo, hn]
  omega
theorem outTo_end {l : List Bool} {t k : Nat} (h1 : k + t = l.length + 1) : outTo l t k = (leastZ l t : Nat) ∨ k = 0 := by
  rcases k with _ | j
  · exact .inr rfl
  · left
    rw [leastZ_in (by omega)]
    show ((leastTo l t j : Nat) : Int) = _
    rw [show l.length - t = j from by omega]

set_option maxHeartbeats 1600000 in
theorem refLeast_low (A : Option Addr) (c : Nat) (l : List Bool) (t : Int) (w : World) (ht : t < 1) :
    Calls Try.prog 17 #[.slice A l.length c, .int .i64 t] w fun e w' => e = .returned (.int .i64 (leastZ l t : Nat)) ∧ Below w.heap.size w w' := by
  have HZ : Hid (leastZ l t = 0) := by
    show _ = _
    by_cases h : t = 0
    · subst h; exact leastZ_zero l
    · exact leastZ_out (.inl (by omega))
  go_enter Try.func17, Try.ntmps17
  go_wp2_with fail
  go_loop [5, 6] (fun o i => o = .int .i64 (-1) ∧ i = .int .i64 0) (fun _ _ => 0)
  case atStart => exact ⟨rfl, rfl⟩
  case round =>
    obtain ⟨rfl, rfl⟩ := hrel
    go_wp2_with fail
    go_ret
    exact ⟨by rw [HZ.out]; rfl, Below.refl _ _⟩

set_option maxHeartbeats 3200000 in
theorem refLeast_in (A : Option Addr) (c : Nat) (l : List Bool) (t : Nat) (w : World) (ht : 1 ≤ t) (ht2 : t ≤ 9223372036854775807) (H : FL w A c l) :
    Calls Try.prog 17 #[.slice A l.length c, .int .i64 t] w fun e w' => e = .returned (.int .i64 (leastZ l t : Nat)) ∧ Below w.heap.size w w' := by
  have hb := H.1
  have HT := Lib.hid H
  clear H
  go_enter Try.func17, Try.ntmps17
  go_wp2_with fail
  go_loop [5, 6] (fun o i => ∃ (k : Nat) (x : Int), i = .int .i64 k ∧ o = .int .i64 x ∧ (k = 0 ∨ k + t ≤ l.length + 1) ∧ -1 ≤ x ∧ x ≤ t ∧ Hid (outTo l t k = x)) (fun _ i => l.length + 1 - (intOf i).toNat)
  case atStart => exact ⟨0, -1, rfl, rfl, .inl rfl, by omega, by omega, rfl⟩
  case round =>
    obtain ⟨k, x, rfl, rfl, hk, hx0, hxt, HX⟩ := hrel
    have e1 : IntKind.i64.wrap ((k : Int) + (t : Int)) = (k : Int) + (t : Int) := IntWalk.i64_in _ (by omega)
    have i1 : (1 : Int) ≤ (t : Int) := by omega
    by_cases hlt : k + t ≤ l.length
    · have i2 : (k : Int) + (t : Int) ≤ (l.length : Int) := by omega
      obtain ⟨bb, off, rfl, hc⟩ := HT.out.2.flag (by omega)
      have HC := Lib.hid hc
      have HK := Lib.hid hk
      clear hc hk
      go_wp2_with fail
      go_loop [7, 8] (fun n i => ∃ d q : Nat, i = .int .i64 ((k : Int) + (d : Int)) ∧ n = .int .i64 q ∧ d ≤ t ∧ q ≤ d ∧ Hid (inN l k (k + d) = q)) (fun _ i => k + t - (intOf i).toNat)
      case atStart => exact ⟨0, 0, by simp, rfl, Nat.zero_le _, Nat.le_refl _, inN_same l k⟩
      case round =>
        obtain ⟨d, q, rfl, rfl, hd, hq, HQ⟩ := hrel
        by_cases hdt : d < t
        · have x1 := HC.out (k + d) (by omega)
          have i3 : (k : Int) + (d : Int) < (l.length : Int) := by omega
          have i4 : (0 : Int) ≤ (k : Int) + (d : Int) := by omega
          have i5 : (k : Int) + (d : Int) < (k : Int) + (t : Int) := by omega
          cases hp : at_ l (k + d) with
          | true =>
            rw [hp] at x1
            have HN : Hid (inN l k (k + (d + 1)) = q + 1) := by show _ = _; rw [← Nat.add_assoc, inN_yes (by omega) hp, HQ.out]
            clear hp
            go_wp2_with fail
            go_round
            case rel => exact ⟨d + 1, q + 1, by push_cast; simp only [Int.add_assoc], by go_num, hdt, by omega, HN⟩
            case measure => simp [intOf]; omega
          | false =>
            rw [hp] at x1
            have HN : Hid (inN l k (k + (d + 1)) = q) := by show _ = _; rw [← Nat.add_assoc, inN_no hp, HQ.out]
            clear hp
            go_wp2_with fail
            go_round
            case rel => exact ⟨d + 1, q, by push_cast; simp only [Int.add_assoc], rfl, hdt, by omega, HN⟩
            case measure => simp [intOf]; omega
        · have hdt' : d = t := by omega
          subst hdt'
          by_cases c1 : x < 0
          · have HN : Hid (outTo l d (k + 1) = q) := outTo_first HQ.out (by rw [HX.out]; exact c1)
            go_wp2_with fail
            go_round
            case rel => exact ⟨k + 1, q, by go_num, rfl, .inr (by omega), by omega, by omega, HN⟩
            case measure => simp [intOf]; omega
          · by_cases c2 : (q : Int) < x
            · have HN : Hid (outTo l d (k + 1) = q) := outTo_less HQ.out (by rw [HX.out]; exact c1) (by rw [HX.out]; exact c2)
              go_wp2_with fail
              go_round
              case rel => exact ⟨k + 1, q, by go_num, rfl, .inr (by omega), by omega, by omega, HN⟩
              case measure => simp [intOf]; omega
            · have HN : Hid (outTo l d (k + 1) = x) := (outTo_stay HQ.out (by rw [HX.out]; exact c1) (by rw [HX.out]; exact c2)).trans HX.out
              go_wp2_with fail
              go_round
              case rel => exact ⟨k + 1, x, by go_num, rfl, .inr (by omega), by omega, by omega, HN⟩
              case measure => simp [intOf]; omega
    · have i2 : ¬ (k : Int) + (t : Int) ≤ (l.length : Int) := by omega
      by_cases hk0 : k = 0
      · subst hk0
        have hx : x = -1 := by have := HX.out; rw [outTo_zero] at this; omega
        subst hx
        have HZ : Hid (leastZ l (t : Int) = 0) := leastZ_out (.inr (by omega))
        clear hk
        go_wp2_with fail
        go_ret
        exact ⟨by rw [HZ.out]; rfl, Below.refl _ _⟩
      · have HF : Hid (x = (leastZ l (t : Int) : Nat)) := by
          show _ = _
          rw [← HX.out]
          rcases outTo_end (l := l) (t := t) (k := k) (by omega) with h | h
          · exact h
          · exact absurd h hk0
        have hx : ¬ x < 0 := by have := HF.out; omega
        have HK := Lib.hid hk
        clear hk
        go_wp2_with fail
        go_ret
        exact ⟨by rw [← HF.out]; rfl, Below.refl _ _⟩
theorem refLeast_call (A : Option Addr) (c : Nat) (l : List Bool) (t : Int) (w : World) (ft : Fit t) (H : FL w A c l) :
    Calls Try.prog 17 #[.slice A l.length c, .int .i64 t] w fun e w' => e = .returned (.int .i64 (leastZ l t : Nat)) ∧ Below w.heap.size w w' := by
  by_cases h : 1 ≤ t
  · obtain ⟨k, rfl⟩ : ∃ k : Nat, t = k := ⟨t.toNat, by omega⟩
    unfold Fit at ft
    exact refLeast_in A c l k w (by omega) (by omega) H
  · exact refLeast_low A c l t w (by omega)
theorem refLeast_v (A : Option Addr) (c : Nat) (l : List Bool) (t z : Int) (hz : ((leastZ l t : Nat) : Int) = z) (n : Nat) (hn : l.length = n) (w : World) (ft : Fit t) (H : FL w A c l) :
    Calls Try.prog 17 #[.slice A n c, .int .i64 t] w fun e w' => e = .returned (.int .i64 z) ∧ Below w.heap.size w w' := by
  subst hz; subst hn
  exact refLeast_call A c l t w ft H

end Sp
end Go.Proofs.Ytjpenmldoaepfaa
