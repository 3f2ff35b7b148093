/-
  Layer 9 (supply): what Bound answers, in all cases; literals of an interface.
-/
import Derived.Test.YtldiplnccgoeiaaSupplyFace
namespace Go.Proofs.Ytldiplnccgoeiaa
open Go.RowKit Mm
namespace Sp

/-- what Bound answers -/
def bndZ (P B t : Int) : Nat := if okB P B t then sbf P.toNat B.toNat t.toNat else 0
def bndE (P B t : Int) : Nat := if okB P B t then 0 else 1
theorem bound_any (P B t : Int) (w : World) :
    Calls Try.prog 20 #[.agg #[.int .i64 P, .int .i64 B], .int .i64 t] w fun e w' => e = .returned (.tuple #[.int .i64 (bndZ P B t : Nat), .int .i64 (bndE P B t : Nat)]) ∧ Below w.heap.size w w' := by
  unfold bndZ bndE
  cases h : okB P B t with
  | false => exact bound_bad P B t h w
  | true =>
    obtain ⟨h1, h2, h3⟩ := ok_iff.1 h
    obtain ⟨p, b, rfl, rfl, h4, h5, h6⟩ := right_nat h1
    obtain ⟨k, rfl⟩ : ∃ k : Nat, t = k := ⟨t.toNat, by omega⟩
    simp only [if_true, Int.toNat_natCast]
    exact bound_ok p b k h4 h5 h6 (by omega) w
theorem bound_v (P B t z e : Int) (hz : ((bndZ P B t : Nat) : Int) = z) (he : ((bndE P B t : Nat) : Int) = e) (w : World) :
    Calls Try.prog 20 #[.agg #[.int .i64 P, .int .i64 B], .int .i64 t] w fun x w' => x = .returned (.tuple #[.int .i64 z, .int .i64 e]) ∧ Below w.heap.size w w' := by
  subst hz; subst he
  exact bound_any P B t w

theorem buildFace2 (a b : Int) (w : World) : (Instr.build 31 #[(0, .int .i64 a), (1, .int .i64 b)]).run Try.prog w = .ok (.agg #[.int .i64 a, .int .i64 b]) w := by kernel_rfl
theorem buildFace1 (a : Int) (w : World) : (Instr.build 31 #[(0, .int .i64 a)]).run Try.prog w = .ok (.agg #[.int .i64 a, .int .i64 0]) w := by kernel_rfl

end Sp
end Go.Proofs.Ytldiplnccgoeiaa
