/-
  Layer 8 (block): the library's BinarySearch at ints, walked; insert; Steps.
-/
import Derived.Test.YtnkgfkmdfplneaaMemInts
import Derived.Deep.Draws
namespace Go.Proofs.Ytnkgfkmdfplneaa
open Go.RowKit Mm
namespace Bk

theorem nan1_any (x : Int) (w : World) : Calls Try.prog 39 #[.int .i64 x] w fun e w' => e = .returned (.bool false) ∧ Below w.heap.size w w' := by
  go_enter Try.func39, Try.ntmps39
  go_wp2
  go_ret
  exact ⟨by simp, Below.refl _ _⟩
theorem nan2_any (x : Int) (w : World) : Calls Try.prog 34 #[.int .i64 x] w fun e w' => e = .returned (.bool false) ∧ Below w.heap.size w w' := by
  go_enter Try.func34, Try.ntmps34
  go_wp2
  go_ret
  exact ⟨by simp, Below.refl _ _⟩
theorem less_any (x y : Int) (w : World) : Calls Try.prog 33 #[.int .i64 x, .int .i64 y] w fun e w' => e = .returned (.bool (decide (x < y))) ∧ Below w.heap.size w w' := by
  go_enter Try.func33, Try.ntmps33
  go_wp2_with fail
  refine (nan1_any x w).mono ?_
  rintro e w1 ⟨rfl, b1⟩
  have B1 := Lib.hid b1
  clear b1
  go_wp2_with fail
  go_ret
  exact ⟨rfl, B1.out⟩

/-- where a number belongs in rising numbers -/
def Cut (l : List Int) (x : Int) (p : Nat) : Prop := p ≤ l.length ∧ (∀ j, j < p → at_ l j < x) ∧ (∀ j, p ≤ j → j < l.length → x ≤ at_ l j)
theorem rising_at {l : List Int} (h : l.Pairwise (· < ·)) {a b : Nat} (hab : a ≤ b) (hb : b < l.length) : at_ l a ≤ at_ l b := by
  rcases Nat.eq_or_lt_of_le hab with e | e
  · subst e; exact Int.le_refl _
  · have := List.pairwise_iff_getElem.1 h a b (by omega) hb e
    rw [at_get (by omega), at_get hb]
    omega
theorem cut_mem {l : List Int} {x : Int} {p : Nat} (h : l.Pairwise (· < ·)) (hc : Cut l x p) : decide (x ∈ l) = (decide (p < l.length) && decide (at_ l p = x)) := by
  rw [Bool.eq_iff_iff, Bool.and_eq_true, decide_eq_true_eq, decide_eq_true_eq, decide_eq_true_eq]
  constructor
  · intro hm
    obtain ⟨j, hj, e⟩ := mem_at hm
    have h1 : p ≤ j := by
      rcases Nat.lt_or_ge j p with h | h
      · have := hc.2.1 j h; omega
      · exact h
    have h2 := hc.2.2 p (Nat.le_refl _) (by omega)
    have h3 := rising_at h h1 hj
    exact ⟨by omega, by omega⟩
  · rintro ⟨h1, h2⟩
    rw [← h2]
    exact at_mem h1

set_option maxHeartbeats 4000000 in
set_option maxRecDepth 100000 in
theorem search_any (A : Option Addr) (c : Nat) (l : List Int) (x : Int) (w : World) (hbig : l.length ≤ 1000000) (hs : l.Pairwise (· < ·)) (hr : Rd w A c l) :
    Calls Try.prog 26 #[.slice A l.length c, .int .i64 x] w fun e w' => ∃ p, e = .returned (.tuple #[.int .i64 (p : Nat), .bool (decide (x ∈ l))]) ∧ Cut l x p ∧ Below w.heap.size w w' := by
  have HR := Lib.hid hr
  have HS := Lib.hid hs
  clear hr hs
  go_enter Try.func26, Try.ntmps26
  go_wp2_with fail
  go_loopg [7, 8] l.length (fun g s7 s8 wr => ∃ lo hi : Nat, s7 = .int .i64 lo ∧ s8 = .int .i64 hi ∧ lo ≤ hi ∧ hi ≤ l.length ∧ hi - lo ≤ g ∧ Hid ((∀ j, j < lo → at_ l j < x) ∧ (∀ j, hi ≤ j → j < l.length → x ≤ at_ l j)) ∧ Hid (Below w.heap.size w wr))
  case atStart => exact ⟨0, l.length, rfl, rfl, Nat.zero_le _, Nat.le_refl _, by omega, ⟨fun j h => by omega, fun j h1 h2 => by omega⟩, Below.refl _ _⟩
  case round =>
    obtain ⟨lo, hi, rfl, rfl, hlh, hin, hg, HI, HB⟩ := hrel
    by_cases hlt : lo < hi
    · obtain ⟨b, off, rfl, hc⟩ := (HR.out.below HB.out).int (by omega)
      obtain ⟨cm, _⟩ := hc ((lo + hi) / 2) (by omega)
      clear hc
      generalize hy : at_ l ((lo + hi) / 2) = y at cm
      have HY := Lib.hid hy
      clear hy
      by_cases hyx : y < x
      · go_wp2_with fail
        refine (less_any y x _).mono ?_
        rintro e w1 ⟨rfl, b1⟩
        have B1 := Lib.hid (below_step HB.out b1)
        clear b1
        rw [decide_eq_true hyx]
        go_wp2_with fail
        go_roundg (hi - ((lo + hi) / 2 + 1))
        case measure => omega
        case rel =>
          refine ⟨(lo + hi) / 2 + 1, hi, by rw [show ((lo : Int) + (hi : Int)) / 2 + 1 = (((lo + hi) / 2 + 1 : Nat) : Int) by omega], rfl, by omega, hin, Nat.le_refl _, ⟨fun j hj => ?_, HI.out.2⟩, B1⟩
          have := rising_at HS.out (a := j) (b := (lo + hi) / 2) (by omega) (by omega)
          rw [HY.out] at this
          omega
      · go_wp2_with fail
        refine (less_any y x _).mono ?_
        rintro e w1 ⟨rfl, b1⟩
        have B1 := Lib.hid (below_step HB.out b1)
        clear b1
        rw [decide_eq_false (by omega)]
        go_wp2_with fail
        go_roundg ((lo + hi) / 2 - lo)
        case measure => omega
        case rel =>
          refine ⟨lo, (lo + hi) / 2, rfl, by rw [show ((lo : Int) + (hi : Int)) / 2 = (((lo + hi) / 2 : Nat) : Int) by omega], by omega, by omega, Nat.le_refl _, ⟨HI.out.1, fun j hj hjn => ?_⟩, B1⟩
          have := rising_at HS.out (a := (lo + hi) / 2) (b := j) hj hjn
          rw [HY.out] at this
          omega
    · have e : hi = lo := by omega
      subst e
      have HC : Hid (Cut l x hi) := ⟨hin, HI.out.1, HI.out.2⟩
      have HE := Lib.hid (cut_mem HS.out HC.out)
      by_cases hn : hi < l.length
      · obtain ⟨b, off, rfl, hc⟩ := (HR.out.below HB.out).int (by omega)
        obtain ⟨cl, _⟩ := hc hi hn
        clear hc
        generalize hy : at_ l hi = y at *
        have HY := Lib.hid hy
        clear hy
        by_cases hyx : y = x
        · have HM : Hid (decide (x ∈ l) = true) := by show _ = _; rw [HE.out, decide_eq_true hn, decide_eq_true hyx]; rfl
          go_wp2_with fail
          go_ret2
          exact ⟨hi, by rw [HM.out]; rfl, HC.out, HB.out⟩
        · have HM : Hid (decide (x ∈ l) = false) := by show _ = _; rw [HE.out, decide_eq_false hyx, Bool.and_false]
          have HBE : Hid ((y == x) = false) := by show _ = _; simp [hyx]
          go_wp2_with fail
          refine (nan2_any y _).mono ?_
          rintro e w1 ⟨rfl, b1⟩
          have B1 := Lib.hid (below_step HB.out b1)
          clear b1
          go_wp2_with fail
          go_ret2
          exact ⟨hi, by rw [HM.out]; show Ending.returned (.tuple #[.int .i64 hi, .bool (y == x)]) = _; rw [HBE.out], HC.out, B1.out⟩
      · have HM : Hid (decide (x ∈ l) = false) := by show _ = _; rw [HE.out, decide_eq_false hn, Bool.false_and]
        go_wp2_with fail
        go_ret2
        exact ⟨hi, by rw [HM.out]; rfl, HC.out, HB.out⟩

end Bk
end Go.Proofs.Ytnkgfkmdfplneaa
