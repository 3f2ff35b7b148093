/-
  Merged texts: ArithMath, ArithPerm, ArithAdd, ArithWalks, ArithLcm.
-/
import Derived.IntWalk
import Derived.Test.YtdjjdebnbaaihaaRows
import Derived.WalkKit
import Derived.WalkSpells
import Derived.Lib.Hide
import Derived.RegionTactic
import Derived.ChangeAlike
import Derived.Deep.QuietTactic
import Derived.BigQuiet
import Derived.WalkSmall
/-
  Plain arithmetic for layer 1 (arith): which numbers are permitted, and what its calls answer. Nothing here speaks of the program.
-/
namespace Go.Proofs.Ytdjjdebnbaaihaa.Ar
open Go.RowKit

/-- The number may be. -/
def perm (n : Int) : Bool := decide (-4611686018427387903 ≤ n ∧ n ≤ 4611686018427387903)

theorem perm_iff {n : Int} : perm n = true ↔ -4611686018427387903 ≤ n ∧ n ≤ 4611686018427387903 := by
  unfold perm; simp
theorem perm_no {n : Int} : perm n = false ↔ n < -4611686018427387903 ∨ 4611686018427387903 < n := by
  unfold perm; simp; omega
theorem perm_neg (n : Int) : perm (-n) = perm n := by
  cases h : perm n with
  | true => rw [perm_iff] at h ⊢; omega
  | false => rw [perm_no] at h ⊢; omega

/-- What 'wrapped' answers. -/
def wrapB (p a b : Int) : Bool := b != 0 && RowKit.wrap64 (p.tdiv b) != a

theorem tdiv_bd (p b : Int) (h1 : -9223372036854775808 ≤ p) (h2 : p ≤ 9223372036854775807) : -9223372036854775808 ≤ p.tdiv b ∧ p.tdiv b ≤ 9223372036854775808 := by
  have h : (p.tdiv b).natAbs ≤ p.natAbs := by rw [Int.natAbs_tdiv]; exact Nat.div_le_self _ _
  omega

theorem wrap_bd (n : Int) : -9223372036854775808 ≤ wrap64 n ∧ wrap64 n ≤ 9223372036854775807 := by unfold wrap64; omega
theorem wrap_off (n : Int) : ∃ k : Int, wrap64 n = n - 18446744073709551616 * k := ⟨(n + 9223372036854775808) / 18446744073709551616, by unfold wrap64; omega⟩

theorem mul_fits {a b : Int} (ha : perm a = true) (hp : perm (a * b) = true) : wrap64 (a * b) = a * b ∧ wrapB (a * b) a b = false := by
  have h := perm_iff.1 hp
  have h' := perm_iff.1 ha
  refine ⟨IntWalk.wrap64_in _ (by omega), ?_⟩
  unfold wrapB
  by_cases hb : b = 0
  · simp [hb]
  · rw [Int.mul_tdiv_cancel _ hb, IntWalk.wrap64_in _ (by omega)]; simp

theorem mul_large {a b : Int} (ha : perm a = true) (hb : perm b = true) (hp : perm (a * b) = false) : wrapB (wrap64 (a * b)) a b = true ∨ (wrapB (wrap64 (a * b)) a b = false ∧ perm (wrap64 (a * b)) = false) := by
  have ha' := perm_iff.1 ha
  have hb' := perm_iff.1 hb
  by_cases hin : -9223372036854775808 ≤ a * b ∧ a * b ≤ 9223372036854775807
  · rw [IntWalk.wrap64_in _ hin]
    cases hw : wrapB (a * b) a b with
    | true => exact .inl rfl
    | false => exact .inr ⟨rfl, hp⟩
  · left
    have hb0 : b ≠ 0 := by intro h; apply hin; rw [h]; simp
    obtain ⟨k, hk⟩ := wrap_off (a * b)
    have hbd := wrap_bd (a * b)
    generalize wrap64 (a * b) = p at hk hbd
    generalize hm : a * b = m at hk hin
    have hk0 : k ≠ 0 := by intro h; rw [h] at hk; omega
    unfold wrapB
    have hne : (b != 0) = true := by simpa using hb0
    rw [hne, Bool.true_and, bne_iff_ne]
    intro he
    have ht := tdiv_bd p b hbd.1 hbd.2
    have hta : p.tdiv b = a := by
      by_cases hx : p.tdiv b = 9223372036854775808
      · rw [hx] at he; have : wrap64 9223372036854775808 = -9223372036854775808 := by unfold wrap64; omega
        omega
      · rw [IntWalk.wrap64_in _ (by omega)] at he; exact he
    have hr := Int.mul_tdiv_add_tmod p b
    rw [hta, Int.mul_comm, hm] at hr
    have hlt : (p.tmod b).natAbs < b.natAbs := by
      rw [Int.natAbs_tmod]; exact Nat.mod_lt _ (by omega)
    omega

/-- The quotient rounded down. -/
theorem floor_eq (a b : Int) (hb : 1 ≤ b) : (a.tmod b < 0 → a.tdiv b - 1 = a / b) ∧ (0 ≤ a.tmod b → a.tdiv b = a / b) := by
  have h1 := Int.mul_tdiv_add_tmod a b
  have h2 := Int.mul_ediv_add_emod a b
  have h3 := Int.emod_nonneg a (show b ≠ 0 by omega)
  have h4 := Int.emod_lt_of_pos a (show 0 < b by omega)
  have h5 : (a.tmod b).natAbs < b.natAbs := by rw [Int.natAbs_tmod]; exact Nat.mod_lt _ (by omega)
  generalize a.tdiv b = q at *
  generalize a.tmod b = r at *
  generalize a / b = q' at *
  generalize a % b = r' at *
  have key : b * (q - q') = r' - r := by rw [Int.mul_sub]; omega
  constructor
  · intro h
    have hlo : 0 < b * (q - q') := by omega
    have hhi : b * (q - q') < b * 2 := by omega
    have g1 : q - q' < 2 := Int.lt_of_mul_lt_mul_left hhi (by omega)
    have g2 : 0 < q - q' := Int.pos_of_mul_pos_right hlo (by omega)
    omega
  · intro h
    have hhi : b * (q - q') < b * 1 := by omega
    have hlo : b * (-1) < b * (q - q') := by omega
    have g1 : q - q' < 1 := Int.lt_of_mul_lt_mul_left hhi (by omega)
    have g2 : -1 < q - q' := Int.lt_of_mul_lt_mul_left hlo (by omega)
    omega

/-- The quotient rounded up. -/
def up (a b : Int) : Int := -((-a) / b)

theorem ceil_eq (a b : Int) (hb : 1 ≤ b) : (0 < a.tmod b → a.tdiv b + 1 = up a b) ∧ (a.tmod b ≤ 0 → a.tdiv b = up a b) := by
  have h := floor_eq (-a) b hb
  have e1 : (-a).tmod b = -(a.tmod b) := Int.neg_tmod a b
  have e2 : (-a).tdiv b = -(a.tdiv b) := Int.neg_tdiv a b
  rw [e1, e2] at h
  unfold up
  omega

theorem quo_bd (a b : Int) (ha : perm a = true) : -4611686018427387903 ≤ a.tdiv b ∧ a.tdiv b ≤ 4611686018427387903 := by
  have h' := perm_iff.1 ha
  have h : (a.tdiv b).natAbs ≤ a.natAbs := by rw [Int.natAbs_tdiv]; exact Nat.div_le_self _ _
  omega

theorem rem_bd (a b : Int) (hb : 1 ≤ b) : -b < a.tmod b ∧ a.tmod b < b := by
  have h5 : (a.tmod b).natAbs < b.natAbs := by rw [Int.natAbs_tmod]; exact Nat.mod_lt _ (by omega)
  omega

/-- The document's own quotient: what is left is taken off first. -/
theorem ref_floor (a b : Int) (hb : 1 ≤ b) : (a.tmod b < 0 → (a - (a.tmod b + b)).tdiv b = a / b) ∧ (0 ≤ a.tmod b → (a - a.tmod b).tdiv b = a / b) := by
  have h1 := Int.mul_tdiv_add_tmod a b
  have hf := floor_eq a b hb
  have hb0 : b ≠ 0 := by omega
  constructor
  · intro h
    have e : a - (a.tmod b + b) = b * (a.tdiv b - 1) := by rw [Int.mul_sub, Int.mul_one]; omega
    rw [e, Int.mul_tdiv_cancel_left _ hb0]; exact hf.1 h
  · intro h
    have e : a - a.tmod b = b * a.tdiv b := by omega
    rw [e, Int.mul_tdiv_cancel_left _ hb0]; exact hf.2 h

/-- What divides both. -/
def gcdZ (a b : Int) : Int := ((Nat.gcd a.toNat b.toNat : Nat) : Int)

theorem gcdZ_zero (a : Int) (h : 0 ≤ a) : gcdZ a 0 = a := by unfold gcdZ; simp; omega
theorem gcdZ_step (a b : Int) (ha : 0 ≤ a) (hb : 0 ≤ b) : gcdZ a b = gcdZ b (a % b) := by
  obtain ⟨x, rfl⟩ := Int.eq_ofNat_of_zero_le ha
  obtain ⟨y, rfl⟩ := Int.eq_ofNat_of_zero_le hb
  unfold gcdZ
  have : ((x : Int) % (y : Int)).toNat = x % y := by rw [← Int.natCast_emod]; rfl
  rw [this, Int.toNat_natCast, Int.toNat_natCast, Nat.gcd_comm x y, Nat.gcd_rec y x, Nat.gcd_comm]
theorem gcdZ_nonneg (a b : Int) : 0 ≤ gcdZ a b := by unfold gcdZ; omega
theorem gcdZ_pos (a b : Int) (ha : 1 ≤ a) : 1 ≤ gcdZ a b := by
  unfold gcdZ
  have := Nat.gcd_pos_of_pos_left (m := a.toNat) b.toNat (by omega)
  omega
theorem gcdZ_pos' (a b : Int) (hb : 1 ≤ b) : 1 ≤ gcdZ a b := by
  unfold gcdZ
  have := Nat.gcd_pos_of_pos_right (n := b.toNat) a.toNat (by omega)
  omega
theorem gcdZ_dvd_left (a b : Int) (ha : 0 ≤ a) : gcdZ a b ∣ a := by
  unfold gcdZ
  have := Int.natCast_dvd_natCast.2 (Nat.gcd_dvd_left a.toNat b.toNat)
  rwa [Int.toNat_of_nonneg ha] at this
theorem gcdZ_dvd_right (a b : Int) (hb : 0 ≤ b) : gcdZ a b ∣ b := by
  unfold gcdZ
  have := Int.natCast_dvd_natCast.2 (Nat.gcd_dvd_right a.toNat b.toNat)
  rwa [Int.toNat_of_nonneg hb] at this
theorem gcdZ_le (a b : Int) (ha : 1 ≤ a) : gcdZ a b ≤ a := Int.le_of_dvd (by omega) (gcdZ_dvd_left a b (by omega))

end Go.Proofs.Ytdjjdebnbaaihaa.Ar

/-
  Layer 1 (arith): what permitted answers, and that it writes nothing that was there.
-/
namespace Go.Proofs.Ytdjjdebnbaaihaa
open Go.RowKit

theorem ret_bool {a b : Bool} (h : a = b) : Ending.returned (.bool a) = .returned (.bool b) := by rw [h]
theorem ret_int {k : IntKind} {a b : Int} (h : a = b) : Ending.returned (.int k a) = .returned (.int k b) := by rw [h]

namespace Ar

theorem all_snoc (zs : List Int) (k : Nat) (h : k < zs.length) : (zs.take (k + 1)).all perm = ((zs.take k).all perm && perm (zs.getD k 0)) := by
  rw [List.take_succ_eq_append_getElem h, List.all_append]
  simp [List.getD, h]
theorem all_no (zs : List Int) (k : Nat) (h : k < zs.length) (hp : perm (zs.getD k 0) = false) : zs.all perm = false := by
  rw [List.all_eq_false]
  exact ⟨zs.getD k 0, by simp [List.getD, h], by rw [hp]; simp⟩

set_option maxHeartbeats 400000 in
theorem permitted_any (b off cap : Nat) (zs : List Int) (w : World) (hbig : zs.length ≤ 1000000)
    (hc : ∀ j, j < zs.length → w.cell? ⟨b, off + j, none⟩ = some (.int .i64 (zs.getD j 0))) :
    Calls Try.prog 81 #[.slice (some ⟨b, off, none⟩) zs.length cap] w fun e w' => e = .returned (.bool (zs.all perm)) ∧ w = w' := by
  have HC := Lib.hid hc
  clear hc
  go_enter Try.func81, Try.ntmps81
  go_wp2
  go_loop [7] (fun i => ∃ k : Nat, k ≤ zs.length ∧ i = .int .i64 k ∧ Hid ((zs.take k).all perm = true)) (fun i => zs.length - (intOf i).toNat)
  case atStart => exact ⟨0, Nat.zero_le _, rfl, by show (zs.take 0).all perm = true; simp⟩
  case round =>
    obtain ⟨k, hk, rfl, hp⟩ := hrel
    by_cases hlt : k < zs.length
    · have hcell := HC.out k hlt
      have hsn := Lib.hid (all_snoc zs k hlt)
      have hno := Lib.hid (all_no zs k hlt)
      generalize zs.getD k 0 = z at hcell hsn hno
      cases hz : perm z with
      | true =>
        have hz' := Lib.hid hz
        obtain ⟨h1, h2⟩ := perm_iff.1 hz
        clear hz
        go_wp2
        go_round
        case rel => exact ⟨k + 1, by omega, by go_num, by show (zs.take (k + 1)).all perm = true; rw [hsn.out, hp.out, hz'.out]; rfl⟩
        case measure => simp [intOf]; omega
      | false =>
        have hz' := Lib.hid hz
        rcases perm_no.1 hz with h1 | h1
        all_goals
          clear hz
          go_wp2
          go_ret
          exact ⟨ret_bool (hno.out hz'.out).symm, rfl⟩
    · go_wp2
      go_ret
      exact ⟨ret_bool (by have := hp.out; rw [List.take_of_length_le (by omega)] at this; exact this.symm), rfl⟩

theorem perm1 (a : Int) (b : Nat) (w : World) (hc : w.cell? ⟨b, 0, none⟩ = some (.int .i64 a)) :
    Calls Try.prog 81 #[.slice (some ⟨b, 0, none⟩) 1 1] w fun e w' => e = .returned (.bool (perm a)) ∧ w = w' := by
  refine (permitted_any b 0 1 [a] w (by simp) ?_).mono ?_
  · intro j hj
    have : j = 0 := by simpa using hj
    subst this
    simpa using hc
  · rintro e w' ⟨rfl, rfl⟩
    exact ⟨by simp, rfl⟩

theorem perm2 (a b : Int) (w : World) :
    Calls Try.prog 81 #[.slice (some ⟨w.heap.size, 0, none⟩) 2 2] (w.alloc (.cells #[.int .i64 a, .int .i64 b] 3)) fun e w' => e = .returned (.bool (perm a && perm b)) ∧ w.alloc (.cells #[.int .i64 a, .int .i64 b] 3) = w' := by
  refine (permitted_any w.heap.size 0 2 [a, b] _ (by simp) ?_).mono ?_
  · intro j hj
    have : j = 0 ∨ j = 1 := by have : j < 2 := by simpa using hj
                               omega
    rcases this with rfl | rfl <;> go_simp
  · rintro e w' ⟨rfl, rfl⟩
    exact ⟨by simp, rfl⟩

end Ar
end Go.Proofs.Ytdjjdebnbaaihaa

/-
  Layer 1 (arith): what Add answers, and that it writes nothing that was there.
-/
namespace Go.Proofs.Ytdjjdebnbaaihaa
open Go.RowKit
namespace Ar

set_option maxHeartbeats 400000 in
theorem add_bad (a b : Int) (w : World) (h : (perm a && perm b) = false) :
    Calls Try.prog 86 #[.int .i64 a, .int .i64 b] w fun e w' => e = .returned (.tuple #[.int .i64 0, .int .i64 1]) ∧ Below w.heap.size w w' := by
  have H := Lib.hid h
  clear h
  go_enter Try.func86, Try.ntmps86
  go_wp2_with fail
  refine (perm2 a b w).mono ?_
  rintro e w' ⟨rfl, rfl⟩
  rw [H.out]
  go_wp2_with fail
  go_ret2
  exact ⟨rfl, (Below.refl _ _).alloc (Nat.le_refl _) _⟩

set_option maxHeartbeats 400000 in
theorem add_ok (a b : Int) (w : World) (ha : perm a = true) (hb : perm b = true) (hs : perm (a + b) = true) :
    Calls Try.prog 86 #[.int .i64 a, .int .i64 b] w fun e w' => e = .returned (.tuple #[.int .i64 (a + b), .int .i64 0]) ∧ Below w.heap.size w w' := by
  have h1 := perm_iff.1 ha
  have h2 := perm_iff.1 hb
  have H : Hid ((perm a && perm b) = true) := by show (perm a && perm b) = true; rw [ha, hb]; rfl
  have HS := Lib.hid hs
  clear ha hb hs
  go_enter Try.func86, Try.ntmps86
  go_wp2_with fail
  refine (perm2 a b w).mono ?_
  rintro e w' ⟨rfl, rfl⟩
  rw [H.out]
  go_wp2_with fail
  refine (perm1 (a + b) _ _ (by go_simp)).mono ?_
  rintro e w' ⟨rfl, rfl⟩
  rw [HS.out]
  go_wp2_with fail
  go_ret2
  exact ⟨rfl, ((Below.refl _ _).alloc (Nat.le_refl _) _).alloc (by simp) _⟩

set_option maxHeartbeats 400000 in
theorem add_large (a b : Int) (w : World) (ha : perm a = true) (hb : perm b = true) (hs : perm (a + b) = false) :
    Calls Try.prog 86 #[.int .i64 a, .int .i64 b] w fun e w' => e = .returned (.tuple #[.int .i64 0, .int .i64 5]) ∧ Below w.heap.size w w' := by
  have h1 := perm_iff.1 ha
  have h2 := perm_iff.1 hb
  have H : Hid ((perm a && perm b) = true) := by show (perm a && perm b) = true; rw [ha, hb]; rfl
  have HS := Lib.hid hs
  clear ha hb hs
  go_enter Try.func86, Try.ntmps86
  go_wp2_with fail
  refine (perm2 a b w).mono ?_
  rintro e w' ⟨rfl, rfl⟩
  rw [H.out]
  go_wp2_with fail
  refine (perm1 (a + b) _ _ (by go_simp)).mono ?_
  rintro e w' ⟨rfl, rfl⟩
  rw [HS.out]
  go_wp2_with fail
  go_ret2
  exact ⟨rfl, ((Below.refl _ _).alloc (Nat.le_refl _) _).alloc (by simp) _⟩

end Ar
end Go.Proofs.Ytdjjdebnbaaihaa

/-
  Layer 1 (arith): what each call answers, and that it writes nothing that was there.
-/
namespace Go.Proofs.Ytdjjdebnbaaihaa
open Go.RowKit
namespace Ar

set_option maxHeartbeats 400000 in
theorem wrapped_any (p a b : Int) (w : World) :
    Calls Try.prog 87 #[.int .i64 p, .int .i64 a, .int .i64 b] w fun e w' => e = .returned (.bool (wrapB p a b)) ∧ w = w' := by
  by_cases hb : b = 0
  · subst hb
    go_enter Try.func87, Try.ntmps87
    go_wp2
    go_ret
    exact ⟨ret_bool (by simp [wrapB]), rfl⟩
  · go_enter Try.func87, Try.ntmps87
    go_wp2
    go_ret
    exact ⟨ret_bool (by simp [wrapB]), rfl⟩

set_option maxHeartbeats 400000 in
theorem mul_bad (a b : Int) (w : World) (h : (perm a && perm b) = false) :
    Calls Try.prog 82 #[.int .i64 a, .int .i64 b] w fun e w' => e = .returned (.tuple #[.int .i64 0, .int .i64 1]) ∧ Below w.heap.size w w' := by
  have H := Lib.hid h
  clear h
  go_enter Try.func82, Try.ntmps82
  go_wp2_with fail
  refine (perm2 a b w).mono ?_
  rintro e w' ⟨rfl, rfl⟩
  rw [H.out]
  go_wp2_with fail
  go_ret2
  exact ⟨rfl, (Below.refl _ _).alloc (Nat.le_refl _) _⟩

set_option maxHeartbeats 400000 in
theorem mul_ok (a b : Int) (w : World) (ha : perm a = true) (hb : perm b = true) (hs : perm (a * b) = true) :
    Calls Try.prog 82 #[.int .i64 a, .int .i64 b] w fun e w' => e = .returned (.tuple #[.int .i64 (a * b), .int .i64 0]) ∧ Below w.heap.size w w' := by
  have hf := Lib.hid (mul_fits ha hs)
  have H : Hid ((perm a && perm b) = true) := by show (perm a && perm b) = true; rw [ha, hb]; rfl
  have HS := Lib.hid hs
  have hbd := perm_iff.1 hs
  clear ha hb hs
  go_enter Try.func82, Try.ntmps82
  go_wp2_with fail
  refine (perm2 a b w).mono ?_
  rintro e w' ⟨rfl, rfl⟩
  rw [H.out]
  go_wp2_with fail
  refine (wrapped_any (a * b) a b _).mono ?_
  rintro e w' ⟨rfl, rfl⟩
  rw [hf.out.2]
  go_wp2_with fail
  refine (perm1 (a * b) _ _ (by go_simp)).mono ?_
  rintro e w' ⟨rfl, rfl⟩
  rw [HS.out]
  go_wp2_with fail
  go_ret2
  exact ⟨rfl, ((Below.refl _ _).alloc (Nat.le_refl _) _).alloc (by simp) _⟩

set_option maxHeartbeats 400000 in
theorem mul_large' (a b : Int) (w : World) (ha : perm a = true) (hb : perm b = true) (hs : perm (a * b) = false) :
    Calls Try.prog 82 #[.int .i64 a, .int .i64 b] w fun e w' => e = .returned (.tuple #[.int .i64 0, .int .i64 5]) ∧ Below w.heap.size w w' := by
  have H : Hid ((perm a && perm b) = true) := by show (perm a && perm b) = true; rw [ha, hb]; rfl
  rcases mul_large ha hb hs with hw | ⟨hw, hn⟩
  · have HW := Lib.hid hw
    clear ha hb hs hw
    go_enter Try.func82, Try.ntmps82
    go_wp2_with fail
    refine (perm2 a b w).mono ?_
    rintro e w' ⟨rfl, rfl⟩
    rw [H.out]
    go_wp2_with fail
    refine (wrapped_any (wrap64 (a * b)) a b _).mono ?_
    rintro e w' ⟨rfl, rfl⟩
    rw [HW.out]
    go_wp2_with fail
    go_ret2
    exact ⟨rfl, (Below.refl _ _).alloc (Nat.le_refl _) _⟩
  · have HW := Lib.hid hw
    have HN := Lib.hid hn
    clear ha hb hs hw hn
    go_enter Try.func82, Try.ntmps82
    go_wp2_with fail
    refine (perm2 a b w).mono ?_
    rintro e w' ⟨rfl, rfl⟩
    rw [H.out]
    go_wp2_with fail
    refine (wrapped_any (wrap64 (a * b)) a b _).mono ?_
    rintro e w' ⟨rfl, rfl⟩
    rw [HW.out]
    go_wp2_with fail
    refine (perm1 (wrap64 (a * b)) _ _ (by go_simp)).mono ?_
    rintro e w' ⟨rfl, rfl⟩
    rw [HN.out]
    go_wp2_with fail
    go_ret2
    exact ⟨rfl, ((Below.refl _ _).alloc (Nat.le_refl _) _).alloc (by simp) _⟩

end Ar
end Go.Proofs.Ytdjjdebnbaaihaa

/-
  Layer 1 (arith): what divides both, what both divide.
-/
namespace Go.Proofs.Ytdjjdebnbaaihaa
open Go.RowKit
theorem ret2 {k : IntKind} {a b : Int} {v : Value} (h : a = b) : Ending.returned (.tuple #[.int k a, v]) = .returned (.tuple #[.int k b, v]) := by rw [h]
namespace Ar

set_option maxHeartbeats 400000 in
theorem divisor_any (a b : Int) (w : World) (ha : 0 ≤ a) (hb : 0 ≤ b) (ha1 : a ≤ 4611686018427387903) (hb1 : b ≤ 4611686018427387903) :
    Calls Try.prog 83 #[.int .i64 a, .int .i64 b] w fun e w' => e = .returned (.int .i64 (gcdZ a b)) ∧ Below w.heap.size w w' := by
  have HG : ∃ g, Hid (g = gcdZ a b) := ⟨_, rfl⟩
  obtain ⟨g, HG⟩ := HG
  rw [← HG.out]
  go_enter Try.func83, Try.ntmps83
  go_wp2
  go_loopw [0, 1] (fun s t w' => ∃ x y : Int, 0 ≤ x ∧ 0 ≤ y ∧ x ≤ 4611686018427387903 ∧ y ≤ 4611686018427387903 ∧ s = .int .i64 x ∧ t = .int .i64 y ∧ Hid (g = gcdZ x y) ∧ Below w.heap.size w w') (fun _ t _ => (intOf t).toNat)
  case atStart => exact ⟨a, b, ha, hb, ha1, hb1, rfl, rfl, HG, Below.refl _ _⟩
  case round =>
    obtain ⟨x, y, hx, hy, hx1, hy1, rfl, rfl, hg, hbel⟩ := hrel
    by_cases h0 : y = 0
    · subst h0
      have hg' := Lib.hid (hg.out.trans (gcdZ_zero x hx))
      go_wp2
      go_ret
      exact ⟨ret_int hg'.out.symm, hbel⟩
    · have hpos : 1 ≤ y := by omega
      have hm0 := Int.emod_nonneg x h0
      have hm1 := Int.emod_lt_of_pos x (show 0 < y by omega)
      have hne : (y != 0) = true := by simpa using h0
      have HS := Lib.hid (hg.out.trans (gcdZ_step x y hx hy))
      go_wp2
      go_quiet (fail)
      go_roundw
      case rel => exact ⟨_, _, _, _, _, _, _, _, ⟨y, x % y, by omega, by omega, by omega, by omega, rfl, rfl, HS, below_drewN hbel _⟩, rfl⟩
      case measure => simp [intOf]; omega

set_option maxHeartbeats 400000 in
theorem lcm_bad (a b : Int) (w : World) (h : (perm a && perm b) = false ∨ a < 1 ∨ b < 1) :
    Calls Try.prog 76 #[.int .i64 a, .int .i64 b] w fun e w' => e = .returned (.tuple #[.int .i64 0, .int .i64 1]) ∧ Below w.heap.size w w' := by
  cases hp : (perm a && perm b) with
  | false =>
    have H := Lib.hid hp
    clear hp h
    go_enter Try.func76, Try.ntmps76
    go_wp2_with fail
    refine (perm2 a b w).mono ?_
    rintro e w' ⟨rfl, rfl⟩
    rw [H.out]
    go_wp2_with fail
    go_ret2
    exact ⟨rfl, (Below.refl _ _).alloc (Nat.le_refl _) _⟩
  | true =>
    have H := Lib.hid hp
    have hb : a < 1 ∨ (1 ≤ a ∧ b < 1) := by
      rcases h with h | h
      · rw [h] at hp; cases hp
      · omega
    clear hp h
    rcases hb with hb | ⟨ha, hb⟩
    all_goals
      go_enter Try.func76, Try.ntmps76
      go_wp2_with fail
      refine (perm2 a b w).mono ?_
      rintro e w' ⟨rfl, rfl⟩
      rw [H.out]
      go_wp2_with fail
      go_ret2
      exact ⟨rfl, (Below.refl _ _).alloc (Nat.le_refl _) _⟩

set_option maxHeartbeats 400000 in
theorem lcm_ok (a b : Int) (w : World) (ha : perm a = true) (hb : perm b = true) (ha0 : 1 ≤ a) (hb0 : 1 ≤ b) (hs : perm (a / gcdZ a b * b) = true) :
    Calls Try.prog 76 #[.int .i64 a, .int .i64 b] w fun e w' => e = .returned (.tuple #[.int .i64 (a / gcdZ a b * b), .int .i64 0]) ∧ Below w.heap.size w w' := by
  have h1 := perm_iff.1 ha
  have h2 := perm_iff.1 hb
  have hg := gcdZ_pos a b ha0
  have hq := IntWalk.tdiv_le a (gcdZ a b) (by omega) hg
  have H : Hid ((perm a && perm b) = true) := by show (perm a && perm b) = true; rw [ha, hb]; rfl
  have HQ : Hid (perm (a / gcdZ a b) = true) := perm_iff.2 (by omega)
  have HB := Lib.hid hb
  have HS := Lib.hid hs
  clear ha hb hs
  go_enter Try.func76, Try.ntmps76
  go_wp2_with fail
  refine (perm2 a b w).mono ?_
  rintro e w' ⟨rfl, rfl⟩
  rw [H.out]
  go_wp2_with fail
  refine (divisor_any a b _ (by omega) (by omega) (by omega) (by omega)).mono ?_
  rintro e w' ⟨rfl, hbel⟩
  have HBel := Lib.hid hbel
  clear hbel
  go_wp2_with fail
  refine (mul_ok (a / gcdZ a b) b _ HQ.out HB.out HS.out).mono ?_
  rintro e w2 ⟨rfl, hbel2⟩
  have HBel2 := Lib.hid hbel2
  clear hbel2
  go_wp2_with fail
  go_ret2
  have b1 := HBel.out
  have b2 := HBel2.out
  have s1 := b1.size
  exact ⟨rfl, (((Below.refl _ _).alloc (Nat.le_refl _) _).trans (b1.mono (by simp))).trans (b2.mono (by simp at s1; omega))⟩

set_option maxHeartbeats 400000 in
theorem lcm_large (a b : Int) (w : World) (ha : perm a = true) (hb : perm b = true) (ha0 : 1 ≤ a) (hb0 : 1 ≤ b) (hs : perm (a / gcdZ a b * b) = false) :
    Calls Try.prog 76 #[.int .i64 a, .int .i64 b] w fun e w' => e = .returned (.tuple #[.int .i64 0, .int .i64 5]) ∧ Below w.heap.size w w' := by
  have h1 := perm_iff.1 ha
  have h2 := perm_iff.1 hb
  have hg := gcdZ_pos a b ha0
  have hq := IntWalk.tdiv_le a (gcdZ a b) (by omega) hg
  have H : Hid ((perm a && perm b) = true) := by show (perm a && perm b) = true; rw [ha, hb]; rfl
  have HQ : Hid (perm (a / gcdZ a b) = true) := perm_iff.2 (by omega)
  have HB := Lib.hid hb
  have HS := Lib.hid hs
  clear ha hb hs
  go_enter Try.func76, Try.ntmps76
  go_wp2_with fail
  refine (perm2 a b w).mono ?_
  rintro e w' ⟨rfl, rfl⟩
  rw [H.out]
  go_wp2_with fail
  refine (divisor_any a b _ (by omega) (by omega) (by omega) (by omega)).mono ?_
  rintro e w' ⟨rfl, hbel⟩
  have HBel := Lib.hid hbel
  clear hbel
  go_wp2_with fail
  refine (mul_large' (a / gcdZ a b) b _ HQ.out HB.out HS.out).mono ?_
  rintro e w2 ⟨rfl, hbel2⟩
  have HBel2 := Lib.hid hbel2
  clear hbel2
  go_wp2_with fail
  go_ret2
  have b1 := HBel.out
  have b2 := HBel2.out
  have s1 := b1.size
  exact ⟨rfl, (((Below.refl _ _).alloc (Nat.le_refl _) _).trans (b1.mono (by simp))).trans (b2.mono (by simp at s1; omega))⟩

end Ar
end Go.Proofs.Ytdjjdebnbaaihaa

