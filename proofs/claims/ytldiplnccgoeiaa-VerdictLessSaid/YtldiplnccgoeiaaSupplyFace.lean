/-
  Layer 9 (supply): an interface in a block of its own; Right, Bound.
-/
import Derived.Test.YtldiplnccgoeiaaSupplyMath
import Derived.WalkSmall
namespace Go.Proofs.Ytldiplnccgoeiaa
open Go.RowKit Mm
namespace Sp

/-- block X holds this interface -/
def Fc (w : World) (X : Nat) (P B : Int) : Prop := w.cell? ⟨X, 0, none⟩ = some (.int .i64 P) ∧ w.cell? ⟨X, 1, none⟩ = some (.int .i64 B)
theorem Fc.below {w w' : World} {X : Nat} {P B : Int} (h : Fc w X P B) (b : Below w.heap.size w w') : Fc w' X P B := ⟨cell_below b h.1, cell_below b h.2⟩
theorem fc_new (w : World) (P B : Int) : Fc (w.alloc (.cells #[.int .i64 P, .int .i64 B] 31)) w.heap.size P B := by
  refine ⟨?_, ?_⟩ <;> simp

/-- which interfaces are right -/
def rightB (P B : Int) : Bool := decide (1 ≤ B ∧ B ≤ P ∧ P ≤ 200)
theorem right_iff {P B : Int} : rightB P B = true ↔ 1 ≤ B ∧ B ≤ P ∧ P ≤ 200 := by unfold rightB; exact decide_eq_true_iff
theorem right_no {P B : Int} : rightB P B = false ↔ ¬ (1 ≤ B ∧ B ≤ P ∧ P ≤ 200) := by unfold rightB; exact decide_eq_false_iff_not
theorem right_nat {P B : Int} (h : rightB P B = true) : ∃ p b : Nat, P = p ∧ B = b ∧ 1 ≤ b ∧ b ≤ p ∧ p ≤ 200 := by
  have := right_iff.1 h
  exact ⟨P.toNat, B.toNat, by omega, by omega, by omega, by omega, by omega⟩

set_option maxHeartbeats 800000 in
theorem right_any (P B : Int) (w : World) :
    Calls Try.prog 28 #[.agg #[.int .i64 P, .int .i64 B]] w fun e w' => e = .returned (.bool (rightB P B)) ∧ Below w.heap.size w w' := by
  obtain ⟨t1, t2⟩ := fc_new w P B
  have b0 := below_one w (Obj.cells #[.int .i64 P, .int .i64 B] 31)
  have B0 := Lib.hid b0
  clear b0
  cases h : rightB P B with
  | true =>
    obtain ⟨h1, h2, h3⟩ := right_iff.1 h
    go_enter Try.func28, Try.ntmps28
    go_wp2
    go_ret
    exact ⟨rfl, B0.out⟩
  | false =>
    have h' := right_no.1 h
    by_cases h1 : 1 ≤ B
    · by_cases h2 : B ≤ P
      · have h3 : ¬ P ≤ 200 := fun h3 => h' ⟨h1, h2, h3⟩
        go_enter Try.func28, Try.ntmps28
        go_wp2
        go_ret
        exact ⟨rfl, B0.out⟩
      · go_enter Try.func28, Try.ntmps28
        go_wp2
        go_ret
        exact ⟨rfl, B0.out⟩
    · go_enter Try.func28, Try.ntmps28
      go_wp2
      go_ret
      exact ⟨rfl, B0.out⟩
theorem right_v (P B : Int) (v : Bool) (hv : rightB P B = v) (w : World) :
    Calls Try.prog 28 #[.agg #[.int .i64 P, .int .i64 B]] w fun e w' => e = .returned (.bool v) ∧ Below w.heap.size w w' := by
  subst hv
  exact right_any P B w

/-- an interface that is right, and a number that may be -/
def okB (P B t : Int) : Bool := rightB P B && decide (0 ≤ t ∧ t ≤ 4611686018427387903)
theorem ok_iff {P B t : Int} : okB P B t = true ↔ rightB P B = true ∧ 0 ≤ t ∧ t ≤ 4611686018427387903 := by
  unfold okB
  rw [Bool.and_eq_true, decide_eq_true_iff]

set_option maxHeartbeats 1600000 in
theorem bound_bad (P B t : Int) (h : okB P B t = false) (w : World) :
    Calls Try.prog 20 #[.agg #[.int .i64 P, .int .i64 B], .int .i64 t] w fun e w' => e = .returned (.tuple #[.int .i64 0, .int .i64 1]) ∧ Below w.heap.size w w' := by
  obtain ⟨t1, t2⟩ := fc_new w P B
  have b0 := below_one w (Obj.cells #[.int .i64 P, .int .i64 B] 31)
  have B0 := Lib.hid b0
  clear b0
  have h' : ¬ (rightB P B = true ∧ 0 ≤ t ∧ t ≤ 4611686018427387903) := fun e => by rw [ok_iff.2 e] at h; cases h
  clear h
  cases hv : rightB P B with
  | false =>
    have HV := Lib.hid hv
    clear hv
    clear h'
    go_enter Try.func20, Try.ntmps20
    go_wp2_with fail
    refine (right_v P B false HV.out _).mono ?_
    rintro e w1 ⟨rfl, b1⟩
    replace t1 := cell_below b1 t1
    replace t2 := cell_below b1 t2
    have B1 := Lib.hid (below_step B0.out b1)
    clear b1
    go_wp2_with fail
    go_ret2
    exact ⟨rfl, B1.out⟩
  | true =>
    have h1 : t < 0 ∨ 4611686018427387903 < t := by
      rcases Int.lt_or_le t 0 with e | e
      · exact .inl e
      · right
        rcases Int.lt_or_le 4611686018427387903 t with e' | e'
        · exact e'
        · exact absurd ⟨hv, e, e'⟩ h'
    have HV := Lib.hid hv
    clear hv
    clear h'
    rcases h1 with h1 | h1
    · go_enter Try.func20, Try.ntmps20
      go_wp2_with fail
      refine (right_v P B true HV.out _).mono ?_
      rintro e w1 ⟨rfl, b1⟩
      replace t1 := cell_below b1 t1
      replace t2 := cell_below b1 t2
      have B1 := Lib.hid (below_step B0.out b1)
      clear b1
      go_wp2_with fail
      go_ret2
      exact ⟨rfl, B1.out⟩
    · go_enter Try.func20, Try.ntmps20
      go_wp2_with fail
      refine (right_v P B true HV.out _).mono ?_
      rintro e w1 ⟨rfl, b1⟩
      replace t1 := cell_below b1 t1
      replace t2 := cell_below b1 t2
      have B1 := Lib.hid (below_step B0.out b1)
      clear b1
      go_wp2_with fail
      go_ret2
      exact ⟨rfl, B1.out⟩

set_option maxHeartbeats 1600000 in
theorem bound_ok (P B t : Nat) (hB : 1 ≤ B) (hBP : B ≤ P) (hP : P ≤ 200) (ht : t ≤ 4611686018427387903) (w : World) :
    Calls Try.prog 20 #[.agg #[.int .i64 P, .int .i64 B], .int .i64 t] w fun e w' => e = .returned (.tuple #[.int .i64 (sbf P B t : Nat), .int .i64 0]) ∧ Below w.heap.size w w' := by
  obtain ⟨t1, t2⟩ := fc_new w (P : Int) (B : Int)
  have b0 := below_one w (Obj.cells #[.int .i64 P, .int .i64 B] 31)
  have HV : Hid (rightB P B = true) := right_iff.2 ⟨by omega, by omega, by omega⟩
  obtain ⟨g, hg⟩ : ∃ g, P - B = g := ⟨_, rfl⟩
  have e0 : IntKind.i64.wrap ((P : Int) - (B : Int)) = (g : Int) := by rw [IntWalk.i64_in _ (by omega)]; omega
  have hgP : g < P := by omega
  have B0 := Lib.hid b0
  clear b0
  by_cases hlt : t < g
  · have HZ : Hid (sbf P B t = 0) := sbf_low (by omega)
    have hi : (t : Int) < (g : Int) := by omega
    clear hlt
    have HG := Lib.hid hg
    clear hg
    go_enter Try.func20, Try.ntmps20
    go_wp2_with fail
    refine (right_v P B true HV.out _).mono ?_
    rintro e w1 ⟨rfl, b1⟩
    replace t1 := cell_below b1 t1
    replace t2 := cell_below b1 t2
    have B1 := Lib.hid (below_step B0.out b1)
    clear b1
    go_wp2_with fail
    go_ret2
    exact ⟨by rw [HZ.out]; rfl, B1.out⟩
  · obtain ⟨k, r, hr, et⟩ := split_at (P := P) (B := B) (t := t) (by omega) (by omega)
    rw [hg] at et
    have hz : sbf P B t = B * k + (r - g) := by
      have := sbf_at (P := P) (B := B) k r hr
      rw [hg] at this
      rw [et, this]
    obtain ⟨a, ha⟩ : ∃ a, k * P = a := ⟨_, rfl⟩
    obtain ⟨m, hm⟩ : ∃ m, B * k = m := ⟨_, rfl⟩
    have hma : m ≤ a := by
      rw [← hm, ← ha, Nat.mul_comm k P]
      exact Nat.mul_le_mul_right k hBP
    have hka : k ≤ a := by
      rw [← ha]
      exact Nat.le_mul_of_pos_right k (by omega)
    rw [ha] at et
    rw [hm] at hz
    have e2 : IntKind.i64.wrap (((t : Int) - (g : Int)).tdiv (P : Int)) = (k : Int) := by
      rw [IntWalk.i64_quo _ _ ⟨by omega, by omega, by omega⟩]
      rw [show (t : Int) - (g : Int) = ((r + k * P : Nat) : Int) from by rw [ha]; omega]
      rw [← Int.natCast_ediv, Nat.add_mul_div_right _ _ (by omega), Nat.div_eq_of_lt hr, Nat.zero_add]
    have e3 : IntKind.i64.wrap ((k : Int) * (P : Int)) = (a : Int) := by
      rw [show (k : Int) * (P : Int) = (a : Int) from by rw [← ha]; push_cast; rfl]
      exact IntWalk.i64_in _ (by omega)
    have e6 : IntKind.i64.wrap ((B : Int) * (k : Int)) = (m : Int) := by
      rw [show (B : Int) * (k : Int) = (m : Int) from by rw [← hm]; push_cast; rfl]
      exact IntWalk.i64_in _ (by omega)
    have i1 : ¬ (t : Int) < (g : Int) := by omega
    have i2 : ¬ (P : Int) = 0 := by omega
    have i3 : IntKind.i64.wrap ((t : Int) - (g : Int)) = (t : Int) - (g : Int) := IntWalk.i64_in _ (by omega)
    have e2' : ((t : Int) - (g : Int)) / (P : Int) = (k : Int) := by
      rw [show (t : Int) - (g : Int) = ((r + k * P : Nat) : Int) from by rw [ha]; omega]
      rw [← Int.natCast_ediv, Nat.add_mul_div_right _ _ (by omega), Nat.div_eq_of_lt hr, Nat.zero_add]
    have e5 : IntKind.i64.wrap ((a : Int) + 2 * (g : Int)) = (a : Int) + 2 * (g : Int) := IntWalk.i64_in _ (by omega)
    have e7 : IntKind.i64.wrap ((t : Int) - ((a : Int) + 2 * (g : Int))) = (t : Int) - ((a : Int) + 2 * (g : Int)) := IntWalk.i64_in _ (by omega)
    have HG := Lib.hid hg
    have HA := Lib.hid ha
    have HM := Lib.hid hm
    have HZ := Lib.hid hz
    clear hg ha hm hz
    have HLT := Lib.hid hlt
    clear hlt
    by_cases hn : g < r
    · have i4 : ¬ (t : Int) ≤ (a : Int) + 2 * (g : Int) := by omega
      have e8 : IntKind.i64.wrap ((m : Int) + ((t : Int) - ((a : Int) + 2 * (g : Int)))) = (m : Int) + ((t : Int) - ((a : Int) + 2 * (g : Int))) := IntWalk.i64_in _ (by omega)
      have ET := Lib.hid et
      have HN := Lib.hid hn
      clear et hn
      go_enter Try.func20, Try.ntmps20
      go_wp2_with fail
      refine (right_v P B true HV.out _).mono ?_
      rintro e w1 ⟨rfl, b1⟩
      replace t1 := cell_below b1 t1
      replace t2 := cell_below b1 t2
      have B1 := Lib.hid (below_step B0.out b1)
      clear b1
      go_wp2_with fail
      go_ret2
      have h1 := ET.out
      have h2 := HN.out
      exact ⟨by rw [HZ.out, show ((m + (r - g) : Nat) : Int) = (m : Int) + ((t : Int) - ((a : Int) + 2 * (g : Int))) from by omega]; rfl, B1.out⟩
    · have i4 : (t : Int) ≤ (a : Int) + 2 * (g : Int) := by omega
      have e9 : IntKind.i64.wrap (m : Int) = (m : Int) := IntWalk.i64_in _ (by omega)
      have ET := Lib.hid et
      have HN := Lib.hid hn
      clear et hn
      go_enter Try.func20, Try.ntmps20
      go_wp2_with fail
      refine (right_v P B true HV.out _).mono ?_
      rintro e w1 ⟨rfl, b1⟩
      replace t1 := cell_below b1 t1
      replace t2 := cell_below b1 t2
      have B1 := Lib.hid (below_step B0.out b1)
      clear b1
      go_wp2_with fail
      go_ret2
      have h2 := HN.out
      exact ⟨by rw [HZ.out, show r - g = 0 from by omega]; rfl, B1.out⟩

end Sp
end Go.Proofs.Ytldiplnccgoeiaa
