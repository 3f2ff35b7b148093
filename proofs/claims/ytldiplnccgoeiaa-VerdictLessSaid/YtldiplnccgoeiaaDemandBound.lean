/-
  Layer 7 (demand): the closure that adds, checked; Bound.
-/
import Derived.Test.YtldiplnccgoeiaaDemandJobs
import Derived.Test.YtldiplnccgoeiaaTaskAll
import Derived.Test.YtldiplnccgoeiaaTaskList
import Derived.Test.YtldiplnccgoeiaaArithAdd
namespace Go.Proofs.Ytldiplnccgoeiaa
open Go.RowKit Mm Tk
namespace Dm

/-- the sum, and the error, that stand for a number from 0 on -/
def sumV (v : Int) : Int := if v ≤ 4611686018427387903 then v else 0
def errV (v : Int) : Int := if v ≤ 4611686018427387903 then 0 else 5
/-- what Bound answers -/
def bndZ (L : List Tsk) (t : Int) : Int := if allB L = true ∧ 0 ≤ t ∧ t ≤ 4611686018427387903 then sumV (bnd L t) else 0
def bndE (L : List Tsk) (t : Int) : Int := if allB L = true ∧ 0 ≤ t ∧ t ≤ 4611686018427387903 then errV (bnd L t) else 1

/-- blocks X and E have the sum and the error -/
def Acc (w : World) (X E : Nat) (v : Int) : Prop := w.cell? ⟨X, 0, none⟩ = some (.int .i64 (sumV v)) ∧ w.cell? ⟨E, 0, none⟩ = some (.int .i64 (errV v)) ∧ w.frozen? ⟨X, 0, none⟩ = false ∧ w.frozen? ⟨E, 0, none⟩ = false
theorem Acc.below {w w' : World} {X E : Nat} {v : Int} (h : Acc w X E v) (b : Below w.heap.size w w') : Acc w' X E v :=
  ⟨cell_below b h.1, cell_below b h.2.1, frozen_below b h.1 h.2.2.1, frozen_below b h.2.1 h.2.2.2⟩
theorem Acc.put {w : World} {X E : Nat} {v u : Int} (h : Acc w X E v) (hne : X ≠ E) : Acc ((w.setCell ⟨X, 0, none⟩ (.int .i64 (sumV u))).setCell ⟨E, 0, none⟩ (.int .i64 (errV u))) X E u := by
  have n1 : (⟨E, 0, none⟩ : Addr) ≠ ⟨X, 0, none⟩ := fun e => by injection e with e; exact hne e.symm
  have n2 : (⟨X, 0, none⟩ : Addr) ≠ ⟨E, 0, none⟩ := fun e => by injection e with e; exact hne e
  refine ⟨?_, ?_, ?_, ?_⟩
  · rw [World.cell?_setCell_other _ _ _ _ n1]
    exact World.cell?_setCell_same _ _ _ h.1
  · exact World.cell?_setCell_same _ _ _ ((World.cell?_setCell_other _ _ _ _ n2).trans h.2.1)
  · rw [World.frozen?_setCell, World.frozen?_setCell]; exact h.2.2.1
  · rw [World.frozen?_setCell, World.frozen?_setCell]; exact h.2.2.2

theorem sum_small {v : Int} (h : v ≤ 4611686018427387903) : sumV v = v ∧ errV v = 0 := by simp [sumV, errV, h]
theorem sum_great {v : Int} (h : ¬ v ≤ 4611686018427387903) : sumV v = 0 ∧ errV v = 5 := by simp [sumV, errV, h]

/-- what the closure does -/
def Added (w : World) (base X E : Nat) (u : Int) (e : Ending) (w' : World) : Prop := e = .returned (.tuple #[]) ∧ Acc w' X E u ∧ Below base w w' ∧ (∀ i, i < w.heap.size → i ≠ X → i ≠ E → w'.heap[i]? = w.heap[i]?)

theorem perm_of {v : Int} (h0 : 0 ≤ v) (h : v ≤ 4611686018427387903) : Ar.perm v = true := Ar.perm_iff.2 (by omega)
theorem perm_not {v : Int} (h : ¬ v ≤ 4611686018427387903) : Ar.perm v = false := Ar.perm_no.2 (by omega)

theorem added {w w1 : World} {base X E : Nat} {v u : Int} (hX : base ≤ X) (hE : base ≤ E) (hne : X ≠ E) (h : Acc w X E v) (b : Below w.heap.size w w1) :
    Added w base X E u (.returned (.tuple #[])) ((w1.setCell ⟨X, 0, none⟩ (.int .i64 (sumV u))).setCell ⟨E, 0, none⟩ (.int .i64 (errV u))) := by
  have hX' := lt_of_cell h.1
  simp only at hX'
  refine ⟨rfl, (h.below b).put hne, ((b.mono (by omega)).setCell (by exact hX) _).setCell (by exact hE) _, fun i hi h1 h2 => ?_⟩
  rw [Below.heap_setCell _ _ _ _ h2, Below.heap_setCell _ _ _ _ h1]
  exact b.block i hi

set_option maxHeartbeats 1600000 in
theorem add_closure (base X E : Nat) (v n : Int) (w : World) (hX : base ≤ X) (hE : base ≤ E) (hne : X ≠ E) (hv : 0 ≤ v) (hn : 0 ≤ n ∧ n ≤ 4611686018427387903) (h : Acc w X E v) :
    Calls Try.prog 35 #[.int .i64 n, .pointer (some ⟨E, 0, none⟩), .pointer (some ⟨X, 0, none⟩)] w (Added w base X E (v + n)) := by
  obtain ⟨x1, x2, x3, x4⟩ := id h
  have HA := Lib.hid h
  clear h
  by_cases hvm : v ≤ 4611686018427387903
  · obtain ⟨s1, s2⟩ := sum_small hvm
    rw [s1] at x1
    rw [s2] at x2
    have n2 : (⟨X, 0, none⟩ : Addr) ≠ ⟨E, 0, none⟩ := fun e => by injection e with e; exact hne e
    clear s1 s2
    by_cases hs : v + n ≤ 4611686018427387903
    · obtain ⟨u1, u2⟩ := sum_small hs
      have U1 := Lib.hid u1
      have U2 := Lib.hid u2
      clear u1 u2
      go_enter Try.func35, Try.ntmps35
      go_wp2_with fail
      refine (Ar.add_ok v n _ (perm_of hv hvm) (perm_of hn.1 hn.2) (perm_of (by omega) hs)).mono ?_
      rintro e w1 ⟨rfl, b1⟩
      have y2 := (World.cell?_setCell_other w1 ⟨X, 0, none⟩ ⟨E, 0, none⟩ (.int .i64 (v + n)) n2).trans (cell_below b1 x2)
      replace x3 := frozen_below b1 x1 x3
      replace x4 := frozen_below b1 x2 x4
      replace x1 := cell_below b1 x1
      replace x2 := cell_below b1 x2
      have B1 := Lib.hid b1
      clear b1
      go_wp2_with fail
      go_end0
      have := added (u := v + n) hX hE hne HA.out B1.out
      rwa [U1.out, U2.out] at this
    · obtain ⟨u1, u2⟩ := sum_great hs
      have U1 := Lib.hid u1
      have U2 := Lib.hid u2
      clear u1 u2
      go_enter Try.func35, Try.ntmps35
      go_wp2_with fail
      refine (Ar.add_large v n _ (perm_of hv hvm) (perm_of hn.1 hn.2) (perm_not (by omega))).mono ?_
      rintro e w1 ⟨rfl, b1⟩
      have y2 := (World.cell?_setCell_other w1 ⟨X, 0, none⟩ ⟨E, 0, none⟩ (.int .i64 0) n2).trans (cell_below b1 x2)
      replace x3 := frozen_below b1 x1 x3
      replace x4 := frozen_below b1 x2 x4
      replace x1 := cell_below b1 x1
      replace x2 := cell_below b1 x2
      have B1 := Lib.hid b1
      clear b1
      go_wp2_with fail
      go_end0
      have := added (u := v + n) hX hE hne HA.out B1.out
      rwa [U1.out, U2.out] at this
  · obtain ⟨s1, s2⟩ := sum_great hvm
    obtain ⟨u1, u2⟩ := sum_great (v := v + n) (by omega)
    rw [s1] at x1
    rw [s2] at x2
    have HX : Hid (Acc w X E (v + n)) := by
      obtain ⟨y1, y2, y3, y4⟩ := HA.out
      refine ⟨?_, ?_, y3, y4⟩
      · rw [u1]; exact x1
      · rw [u2]; exact x2
    clear s1 s2 u1 u2
    go_enter Try.func35, Try.ntmps35
    go_wp2_with fail
    go_end0
    exact ⟨rfl, HX.out, Below.refl _ _, fun _ _ _ _ => rfl⟩

end Dm
end Go.Proofs.Ytldiplnccgoeiaa
