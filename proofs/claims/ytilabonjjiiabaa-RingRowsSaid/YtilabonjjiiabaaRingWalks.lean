/-
  Layer 3 (ring): Right, full, place, withoutFirst, with, New.
-/
import Derived.Test.YtilabonjjiiabaaRingMath
import Derived.Deep.RegionHeld3
import Derived.Deep.DrawnRows
import Derived.IntWalk
namespace Go.Proofs.Ytilabonjjiiabaa
open Go.RowKit
namespace Rn
attribute [local go_sem ↓] Go.wp_at_zero Go.wp_at_succ

set_option maxHeartbeats 1600000 in
theorem right_any (A : Option Addr) (n c : Nat) (f m : Int) (w : World) :
    Calls Try.prog 13 #[.agg #[.slice A n c, .int .i64 f, .int .i64 m]] w fun e w' => e = .returned (.bool (rightB n f m)) ∧ Below w.heap.size w w' := by
  have fin : ∀ b, rightB n f m = b → ∀ w', Below w.heap.size w w' → (Ending.returned (.bool b) = .returned (.bool (rightB n f m)) ∧ Below w.heap.size w w') := fun b h w' hb => ⟨ret_bool h.symm, hb⟩
  have FIN := Lib.hid fin
  clear fin
  by_cases h1 : (0 : Int) ≤ f
  · by_cases h2 : f < (n : Int)
    · by_cases h3 : (0 : Int) ≤ m
      · by_cases h4 : m ≤ (n : Int)
        · go_enter Try.func13, Try.ntmps13
          go_wp2
          go_ret
          exact FIN.out true (decide_eq_true ⟨h1, h2, h3, h4⟩) _ (below_one _ _)
        · have h4' : (n : Int) < m := by omega
          go_enter Try.func13, Try.ntmps13
          go_wp2
          go_ret
          exact FIN.out false (decide_eq_false (by omega)) _ (below_one _ _)
      · have h3' : m < 0 := by omega
        go_enter Try.func13, Try.ntmps13
        go_wp2
        go_ret
        exact FIN.out false (decide_eq_false (by omega)) _ (below_one _ _)
    · have h2' : (n : Int) ≤ f := by omega
      go_enter Try.func13, Try.ntmps13
      go_wp2
      go_ret
      exact FIN.out false (decide_eq_false (by omega)) _ (below_one _ _)
  · have h1' : f < 0 := by omega
    go_enter Try.func13, Try.ntmps13
    go_wp2
    go_ret
    exact FIN.out false (decide_eq_false (by omega)) _ (below_one _ _)

theorem full_any (A : Option Addr) (n c : Nat) (f m : Int) (w : World) :
    Calls Try.prog 23 #[.agg #[.slice A n c, .int .i64 f, .int .i64 m]] w fun e w' => e = .returned (.bool (m == (n : Int))) ∧ Below w.heap.size w w' := by
  go_enter Try.func23, Try.ntmps23
  go_wp2
  go_ret
  exact ⟨rfl, below_one _ _⟩

/-- place number (f + i) of n, wrapped round -/
def PlaceOf (w : World) (n x : Nat) (e : Ending) (w' : World) : Prop := ∃ p : Nat, e = .returned (.int .i64 (p : Int)) ∧ p = x % n ∧ Below w.heap.size w w'
theorem place_any (A : Option Addr) (n c f i : Nat) (m I : Int) (w : World) (hbig : n ≤ 1000000) (hf : f < n) (hi : i ≤ n) (hI : I = (i : Int)) :
    Calls Try.prog 22 #[.agg #[.slice A n c, .int .i64 (f : Int), .int .i64 m], .int .i64 I] w (PlaceOf w n (f + i)) := by
  subst hI
  have h0 : ¬ ((n : Int) = 0) := by omega
  have hs : IntKind.i64.wrap ((f : Int) + (i : Int)) = (f : Int) + (i : Int) := IntWalk.i64_in _ (by omega)
  have ht : Int.tmod ((f : Int) + (i : Int)) (n : Int) = (((f + i) % n : Nat) : Int) := by
    rw [Int.tmod_eq_emod_of_nonneg (by omega)]
    push_cast
    rfl
  have hw : IntKind.i64.wrap (((f + i) % n : Nat) : Int) = (((f + i) % n : Nat) : Int) := IntWalk.i64_in _ (by have := place_lt (f + i) (n := n) (by omega); omega)
  have HP : ∃ p, Hid (p = (f + i) % n) := ⟨_, rfl⟩
  obtain ⟨p, HP⟩ := HP
  rw [← HP.out] at ht hw
  go_enter Try.func22, Try.ntmps22
  go_wp2
  go_ret
  exact ⟨p, rfl, HP.out, below_one _ _⟩

end Rn
end Go.Proofs.Ytilabonjjiiabaa
