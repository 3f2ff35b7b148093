/-
  Layer 1 (arith): what permitted and Add answer, and that they write nothing that was there.
-/
import Derived.Test.YtldiplnccgoeiaaRows
import Derived.Test.YtldiplnccgoeiaaArithMath
import Derived.WalkKit
import Derived.WalkSpells
import Derived.Lib.Hide
namespace Go.Proofs.Ytldiplnccgoeiaa
open Go.RowKit

theorem ret_bool {a b : Bool} (h : a = b) : Ending.returned (.bool a) = .returned (.bool b) := by rw [h]
theorem ret_int {k : IntKind} {a b : Int} (h : a = b) : Ending.returned (.int k a) = .returned (.int k b) := by rw [h]

namespace Ar

theorem all_snoc (zs : List Int) (k : Nat) (h : k < zs.length) : (zs.take (k + 1)).all perm = ((zs.take k).all perm && perm (zs.getD k 0)) := by
  rw [List.take_succ_eq_append_getElem h, List.all_append]
  simp [List.getD, h]
theorem all_no (zs : List Int) (k : Nat) (h : k < zs.length) (hp : perm (zs.getD k 0) = false) : zs.all perm = false := by
  rw [List.all_eq_false]
  exact ⟨zs.getD k 0, by simp [List.getD, h], by rw [hp]; simp⟩

set_option maxHeartbeats 400000 in
theorem permitted_any (b off cap : Nat) (zs : List Int) (w : World) (hbig : zs.length ≤ 1000000)
    (hc : ∀ j, j < zs.length → w.cell? ⟨b, off + j, none⟩ = some (.int .i64 (zs.getD j 0))) :
    Calls Try.prog 39 #[.slice (some ⟨b, off, none⟩) zs.length cap] w fun e w' => e = .returned (.bool (zs.all perm)) ∧ w = w' := by
  have HC := Lib.hid hc
  clear hc
  go_enter Try.func39, Try.ntmps39
  go_wp2
  go_loop [7] (fun i => ∃ k : Nat, k ≤ zs.length ∧ i = .int .i64 k ∧ Hid ((zs.take k).all perm = true)) (fun i => zs.length - (intOf i).toNat)
  case atStart => exact ⟨0, Nat.zero_le _, rfl, by show (zs.take 0).all perm = true; simp⟩
  case round =>
    obtain ⟨k, hk, rfl, hp⟩ := hrel
    by_cases hlt : k < zs.length
    · have hcell := HC.out k hlt
      have hsn := Lib.hid (all_snoc zs k hlt)
      have hno := Lib.hid (all_no zs k hlt)
      generalize zs.getD k 0 = z at hcell hsn hno
      cases hz : perm z with
      | true =>
        have hz' := Lib.hid hz
        obtain ⟨h1, h2⟩ := perm_iff.1 hz
        clear hz
        go_wp2
        go_round
        case rel => exact ⟨k + 1, by omega, by go_num, by show (zs.take (k + 1)).all perm = true; rw [hsn.out, hp.out, hz'.out]; rfl⟩
        case measure => simp [intOf]; omega
      | false =>
        have hz' := Lib.hid hz
        rcases perm_no.1 hz with h1 | h1
        all_goals
          clear hz
          go_wp2
          go_ret
          exact ⟨ret_bool (hno.out hz'.out).symm, rfl⟩
    · go_wp2
      go_ret
      exact ⟨ret_bool (by have := hp.out; rw [List.take_of_length_le (by omega)] at this; exact this.symm), rfl⟩

theorem perm1 (a : Int) (b : Nat) (w : World) (hc : w.cell? ⟨b, 0, none⟩ = some (.int .i64 a)) :
    Calls Try.prog 39 #[.slice (some ⟨b, 0, none⟩) 1 1] w fun e w' => e = .returned (.bool (perm a)) ∧ w = w' := by
  refine (permitted_any b 0 1 [a] w (by simp) ?_).mono ?_
  · intro j hj
    have : j = 0 := by simpa using hj
    subst this
    simpa using hc
  · rintro e w' ⟨rfl, rfl⟩
    exact ⟨by simp, rfl⟩

theorem perm2 (a b : Int) (w : World) :
    Calls Try.prog 39 #[.slice (some ⟨w.heap.size, 0, none⟩) 2 2] (w.alloc (.cells #[.int .i64 a, .int .i64 b] 3)) fun e w' => e = .returned (.bool (perm a && perm b)) ∧ w.alloc (.cells #[.int .i64 a, .int .i64 b] 3) = w' := by
  refine (permitted_any w.heap.size 0 2 [a, b] _ (by simp) ?_).mono ?_
  · intro j hj
    have : j = 0 ∨ j = 1 := by have : j < 2 := by simpa using hj
                               omega
    rcases this with rfl | rfl <;> go_simp
  · rintro e w' ⟨rfl, rfl⟩
    exact ⟨by simp, rfl⟩

set_option maxHeartbeats 400000 in
theorem add_bad (a b : Int) (w : World) (h : (perm a && perm b) = false) :
    Calls Try.prog 23 #[.int .i64 a, .int .i64 b] w fun e w' => e = .returned (.tuple #[.int .i64 0, .int .i64 1]) ∧ Below w.heap.size w w' := by
  have H := Lib.hid h
  clear h
  go_enter Try.func23, Try.ntmps23
  go_wp2_with fail
  refine (perm2 a b w).mono ?_
  rintro e w' ⟨rfl, rfl⟩
  rw [H.out]
  go_wp2_with fail
  go_ret2
  exact ⟨rfl, (Below.refl _ _).alloc (Nat.le_refl _) _⟩

set_option maxHeartbeats 400000 in
theorem add_ok (a b : Int) (w : World) (ha : perm a = true) (hb : perm b = true) (hs : perm (a + b) = true) :
    Calls Try.prog 23 #[.int .i64 a, .int .i64 b] w fun e w' => e = .returned (.tuple #[.int .i64 (a + b), .int .i64 0]) ∧ Below w.heap.size w w' := by
  have h1 := perm_iff.1 ha
  have h2 := perm_iff.1 hb
  have H : Hid ((perm a && perm b) = true) := by show (perm a && perm b) = true; rw [ha, hb]; rfl
  have HS := Lib.hid hs
  clear ha hb hs
  go_enter Try.func23, Try.ntmps23
  go_wp2_with fail
  refine (perm2 a b w).mono ?_
  rintro e w' ⟨rfl, rfl⟩
  rw [H.out]
  go_wp2_with fail
  refine (perm1 (a + b) _ _ (by go_simp)).mono ?_
  rintro e w' ⟨rfl, rfl⟩
  rw [HS.out]
  go_wp2_with fail
  go_ret2
  exact ⟨rfl, ((Below.refl _ _).alloc (Nat.le_refl _) _).alloc (by simp) _⟩

set_option maxHeartbeats 400000 in
theorem add_large (a b : Int) (w : World) (ha : perm a = true) (hb : perm b = true) (hs : perm (a + b) = false) :
    Calls Try.prog 23 #[.int .i64 a, .int .i64 b] w fun e w' => e = .returned (.tuple #[.int .i64 0, .int .i64 5]) ∧ Below w.heap.size w w' := by
  have h1 := perm_iff.1 ha
  have h2 := perm_iff.1 hb
  have H : Hid ((perm a && perm b) = true) := by show (perm a && perm b) = true; rw [ha, hb]; rfl
  have HS := Lib.hid hs
  clear ha hb hs
  go_enter Try.func23, Try.ntmps23
  go_wp2_with fail
  refine (perm2 a b w).mono ?_
  rintro e w' ⟨rfl, rfl⟩
  rw [H.out]
  go_wp2_with fail
  refine (perm1 (a + b) _ _ (by go_simp)).mono ?_
  rintro e w' ⟨rfl, rfl⟩
  rw [HS.out]
  go_wp2_with fail
  go_ret2
  exact ⟨rfl, ((Below.refl _ _).alloc (Nat.le_refl _) _).alloc (by simp) _⟩

end Ar
end Go.Proofs.Ytldiplnccgoeiaa
