/-
  The document's own product by halves, and what both divide; the examples at the end of each statement.
-/
import Derived.Test.YtoihaicjjcmgeaaLaw01Refs
namespace Go.Proofs.Ytoihaicjjcmgeaa
open Go.RowKit
namespace Ar

set_option maxHeartbeats 2000000 in
theorem refMul (a b : Int) (w : World) (ha : perm a = true) (hb : perm b = true) :
    Calls Try.prog 13 #[.int .i64 a, .int .i64 b] w fun e w' => e = .returned (.tuple #[.int .i64 (rm a b), .bool (perm (a * b))]) ∧ w = w' := by
  have h1 := perm_iff.1 ha
  have h2 := perm_iff.1 hb
  clear ha hb
  obtain ⟨x, hx0, hx⟩ := sign_cases a
  obtain ⟨y, hy0, hy⟩ := sign_cases b
  have hx1 : x ≤ 4611686018427387903 := by omega
  have hy1 : y ≤ 4611686018427387903 := by omega
  clear h1 h2
  have HT := Lib.hid (halves_tell x y hx0 hx1 hy0 hy1)
  have a1 := hi_bd x hx0 hx1
  have a2 := hi_bd y hy0 hy1
  have b1 := lo_bd x
  have b2 := lo_bd y
  have c2 := mul_bd a1.1 a1.2 b2.1 b2.2
  have c3 := mul_bd b1.1 b1.2 a2.1 a2.2
  have c4 := mul_bd b1.1 b1.2 b2.1 b2.2
  have HV : ∃ (v : Int) (o : Bool), Hid (v = rm a b) ∧ Hid (o = perm (a * b)) ∧ Hid ((perm (x * y) = false → v = 0 ∧ o = false) ∧ (perm (x * y) = true → o = true ∧ v = a * b)) := by
    refine ⟨_, _, rfl, rfl, ?_⟩
    have e : perm (a * b) = perm (x * y) := by
      rcases hx with rfl | ⟨rfl, _⟩ <;> rcases hy with rfl | ⟨rfl, _⟩
      · rfl
      · exact pm_neg_right _ _
      · exact pm_neg_left _ _
      · exact pm_neg_both _ _
    constructor
    · intro h; rw [← e] at h; exact ⟨rm_no h, h⟩
    · intro h; rw [← e] at h; exact ⟨h, rm_yes h⟩
  obtain ⟨v, o, hv, ho, HX⟩ := HV
  rw [← hv.out, ← ho.out]
  clear hv ho
  have hcase : ((0 < hi x ∧ 0 < hi y) ∧ Hid (v = 0 ∧ o = false)) ∨ ((hi x ≤ 0 ∨ (0 < hi x ∧ hi y ≤ 0)) ∧ 2147483647 < hi x * lo y + lo x * hi y ∧ Hid (v = 0 ∧ o = false)) ∨
      ((hi x ≤ 0 ∨ (0 < hi x ∧ hi y ≤ 0)) ∧ hi x * lo y + lo x * hi y ≤ 2147483647 ∧ 4611686018427387903 - (hi x * lo y + lo x * hi y) * 2147483648 < lo x * lo y ∧ Hid (v = 0 ∧ o = false)) ∨
      ((hi x ≤ 0 ∨ (0 < hi x ∧ hi y ≤ 0)) ∧ hi x * lo y + lo x * hi y ≤ 2147483647 ∧ lo x * lo y ≤ 4611686018427387903 - (hi x * lo y + lo x * hi y) * 2147483648 ∧ Hid (o = true ∧ v = a * b ∧ lo x * lo y + (hi x * lo y + lo x * hi y) * 2147483648 = x * y)) := by
    obtain ⟨t1, t2, t3, t4⟩ := HT.out
    obtain ⟨u1, u2⟩ := HX.out
    by_cases hA : 0 < hi x ∧ 0 < hi y
    · exact .inl ⟨hA, u1 (t1 hA)⟩
    · have hA1 : hi x ≤ 0 ∨ hi y ≤ 0 := by omega
      have hA2 : hi x ≤ 0 ∨ (0 < hi x ∧ hi y ≤ 0) := by omega
      by_cases hB : 2147483647 < hi x * lo y + lo x * hi y
      · exact .inr (.inl ⟨hA2, hB, u1 (t2 hB)⟩)
      · have hB' : hi x * lo y + lo x * hi y ≤ 2147483647 := by omega
        by_cases hC : 4611686018427387903 - (hi x * lo y + lo x * hi y) * 2147483648 < lo x * lo y
        · exact .inr (.inr (.inl ⟨hA2, hB', hC, u1 (t3 hA1 hB' hC)⟩))
        · have hC' : lo x * lo y ≤ 4611686018427387903 - (hi x * lo y + lo x * hi y) * 2147483648 := by omega
          obtain ⟨g1, g2⟩ := t4 hA1 hB' hC'
          exact .inr (.inr (.inr ⟨hA2, hB', hC', ⟨(u2 g1).1, (u2 g1).2, g2⟩⟩))
  clear HT HX
  rcases hcase with ⟨⟨hA, hA'⟩, HR⟩ | ⟨hA, hB, HR⟩ | ⟨hA, hB, hC, HR⟩ | ⟨hA, hB, hC, HR⟩
  · rcases hx with rfl | ⟨rfl, hx⟩ <;> rcases hy with rfl | ⟨rfl, hy⟩
    all_goals
      go_enter Try.func13, Try.ntmps13
      go_wp2_with fail
      refine (halves_any _ _ (by omega) (by omega)).mono ?_
      rintro e w' ⟨rfl, rfl⟩
      go_wp2_with fail
      refine (halves_any _ _ (by omega) (by omega)).mono ?_
      rintro e w' ⟨rfl, rfl⟩
      go_wp2_with fail
      go_ret2
      exact ⟨ret2b HR.out.1.symm HR.out.2.symm, rfl⟩
  · rcases hA with hA | ⟨hA, hA'⟩ <;> rcases hx with rfl | ⟨rfl, hx⟩ <;> rcases hy with rfl | ⟨rfl, hy⟩
    all_goals
      go_enter Try.func13, Try.ntmps13
      go_wp2_with fail
      refine (halves_any _ _ (by omega) (by omega)).mono ?_
      rintro e w' ⟨rfl, rfl⟩
      go_wp2_with fail
      refine (halves_any _ _ (by omega) (by omega)).mono ?_
      rintro e w' ⟨rfl, rfl⟩
      go_wp2_with fail
      go_ret2
      exact ⟨ret2b HR.out.1.symm HR.out.2.symm, rfl⟩
  · rcases hA with hA | ⟨hA, hA'⟩ <;> rcases hx with rfl | ⟨rfl, hx⟩ <;> rcases hy with rfl | ⟨rfl, hy⟩
    all_goals
      go_enter Try.func13, Try.ntmps13
      go_wp2_with fail
      refine (halves_any _ _ (by omega) (by omega)).mono ?_
      rintro e w' ⟨rfl, rfl⟩
      go_wp2_with fail
      refine (halves_any _ _ (by omega) (by omega)).mono ?_
      rintro e w' ⟨rfl, rfl⟩
      go_wp2_with fail
      go_ret2
      exact ⟨ret2b HR.out.1.symm HR.out.2.symm, rfl⟩
  · rcases hA with hA | ⟨hA, hA'⟩ <;> rcases hx with rfl | ⟨rfl, hx⟩ <;> rcases hy with rfl | ⟨rfl, hy⟩
    all_goals
      go_enter Try.func13, Try.ntmps13
      go_wp2_with fail
      refine (halves_any _ _ (by omega) (by omega)).mono ?_
      rintro e w' ⟨rfl, rfl⟩
      go_wp2_with fail
      refine (halves_any _ _ (by omega) (by omega)).mono ?_
      rintro e w' ⟨rfl, rfl⟩
      go_wp2_with fail
      go_ret2
      refine ⟨ret2b ?_ HR.out.1.symm, rfl⟩
      rw [HR.out.2.1]
      have h3 := HR.out.2.2
      first
        | exact h3
        | (rw [Int.neg_mul_neg]; exact h3)
        | (rw [Int.neg_mul, ← h3])
        | (rw [Int.mul_neg, ← h3])

set_option maxHeartbeats 400000 in
theorem refLcm (a b : Int) (w : World) (ha : perm a = true) (hb : perm b = true) (ha1 : 1 ≤ a) (hb1 : 1 ≤ b) :
    Calls Try.prog 21 #[.int .i64 a, .int .i64 b] w fun e w' => e = .returned (.tuple #[.int .i64 (if perm (a / gcdZ a b * b) then a / gcdZ a b * b else 0), .bool (perm (a / gcdZ a b * b))]) ∧ w = w' := by
  have h1 := perm_iff.1 ha
  have h2 := perm_iff.1 hb
  have hg := gcdZ_pos a b ha1
  have hq := IntWalk.tdiv_le b (gcdZ a b) (by omega) hg
  have HQ : Hid (perm (b / gcdZ a b) = true) := perm_iff.2 (by omega)
  have HA := Lib.hid ha
  have HL := Lib.hid (lcm_two a b ha1 hb1)
  clear ha hb
  have HV : ∃ (v : Int) (o : Bool), Hid (v = rm a (b / gcdZ a b)) ∧ Hid (o = perm (a * (b / gcdZ a b))) := ⟨_, _, rfl, rfl⟩
  obtain ⟨v, o, hv, ho⟩ := HV
  have ev : (if perm (a / gcdZ a b * b) then a / gcdZ a b * b else 0) = v := by rw [hv.out]; unfold rm; rw [HL.out]
  have eo : perm (a / gcdZ a b * b) = o := by rw [ho.out, HL.out]
  rw [ev, eo]
  clear ev eo
  go_enter Try.func21, Try.ntmps21
  go_wp2_with fail
  refine (refGcd b.toNat a b _ (by omega) (by omega) (by omega) (by omega) (by omega)).mono ?_
  rintro e w' ⟨rfl, rfl⟩
  go_wp2_with fail
  refine (refMul a (b / gcdZ a b) _ HA.out HQ.out).mono ?_
  rintro e w' ⟨rfl, rfl⟩
  rw [← hv.out, ← ho.out]
  go_wp2_with fail
  go_ret2
  exact ⟨rfl, rfl⟩

/-! The examples. -/
theorem ex_floor (w : World) : Calls Try.prog 15 #[.int .i64 (-7), .int .i64 2] w fun e w' => e = .returned (.tuple #[.int .i64 (-4), .int .i64 0]) ∧ Below w.heap.size w w' :=
  floor_ok (-7) 2 w (by decide) (by decide) (by decide)
theorem ex_ceil (w : World) : Calls Try.prog 16 #[.int .i64 (-7), .int .i64 2] w fun e w' => e = .returned (.tuple #[.int .i64 (-3), .int .i64 0]) ∧ Below w.heap.size w w' :=
  ceil_ok (-7) 2 w (by decide) (by decide) (by decide)
theorem ex_gcd (w : World) : Calls Try.prog 18 #[.int .i64 12, .int .i64 18] w fun e w' => e = .returned (.tuple #[.int .i64 6, .int .i64 0]) ∧ Below w.heap.size w w' :=
  gcd_ok 12 18 w (by decide) (by decide) (by decide) (by decide)
theorem ex_lcm (w : World) : Calls Try.prog 19 #[.int .i64 4, .int .i64 6] w fun e w' => e = .returned (.tuple #[.int .i64 12, .int .i64 0]) ∧ Below w.heap.size w w' :=
  lcm_ok 4 6 w (by decide) (by decide) (by decide) (by decide) (by decide)
theorem ex_mul (w : World) : Calls Try.prog 9 #[.int .i64 1099511627776, .int .i64 1099511627776] w fun e w' => e = .returned (.tuple #[.int .i64 0, .int .i64 5]) ∧ Below w.heap.size w w' :=
  mul_large' 1099511627776 1099511627776 w (by decide) (by decide) (by decide)

set_option maxHeartbeats 400000 in
theorem knows_any (w : World) : Calls Try.prog 11 #[] w fun e w' => e = .returned (.bool true) ∧ Below w.heap.size w w' := by
  go_enter Try.func11, Try.ntmps11
  go_wp2_with fail
  refine (ex_floor _).mono ?_
  rintro e w1 ⟨rfl, b1⟩
  have B1 := Lib.hid b1
  clear b1
  go_wp2_with fail
  refine (ex_ceil _).mono ?_
  rintro e w2 ⟨rfl, b2⟩
  have B2 := Lib.hid (B1.out.trans (b2.mono B1.out.size))
  clear b2 B1
  go_wp2_with fail
  refine (ex_gcd _).mono ?_
  rintro e w3 ⟨rfl, b3⟩
  have B3 := Lib.hid (B2.out.trans (b3.mono B2.out.size))
  clear b3 B2
  go_wp2_with fail
  refine (ex_lcm _).mono ?_
  rintro e w4 ⟨rfl, b4⟩
  have B4 := Lib.hid (B3.out.trans (b4.mono B3.out.size))
  clear b4 B3
  go_wp2_with fail
  refine (ex_mul _).mono ?_
  rintro e w5 ⟨rfl, b5⟩
  have B5 := Lib.hid (B4.out.trans (b5.mono B4.out.size))
  clear b5 B4
  go_wp2_with fail
  go_ret
  exact ⟨rfl, B5.out⟩

end Ar
end Go.Proofs.Ytoihaicjjcmgeaa
