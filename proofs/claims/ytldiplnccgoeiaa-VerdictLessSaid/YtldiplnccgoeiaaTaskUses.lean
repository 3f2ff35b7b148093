/-
  Layer 5 (task): Uses.
-/
import Derived.Test.YtldiplnccgoeiaaTaskGen
namespace Go.Proofs.Ytldiplnccgoeiaa
open Go.RowKit Mm Go.Shelf
namespace Tk

/-- does a task use a resource -/
def usesB (C D T : Int) (l : List Sc) (r : Int) : Bool := rightB C D T l && l.any (fun x => decide (x.1 = r))

theorem uses_closure (r : Int) (X : Nat) (w : World) (hX : w.cell? ⟨X, 0, none⟩ = some (.int .i64 r)) :
    PredSec 57 #[.pointer (some ⟨X, 0, none⟩)] (fun x => decide (x.1 = r)) w := fun W x hb => by
  have hc := cell_new (cell_below hb hX) (.cells #[.int .i64 x.1, .int .i64 x.2.1, .int .i64 x.2.2] 61)
  show Calls Try.prog 57 #[.agg #[.int .i64 x.1, .int .i64 x.2.1, .int .i64 x.2.2], .pointer (some ⟨X, 0, none⟩)] W _
  clear hX hb
  go_enter Try.func57, Try.ntmps57
  go_wp2
  go_ret
  exact ⟨rfl, below_one _ _⟩
theorem usesEnters : ∀ args w, (callFunc 57 args).run Try.prog w = .ok (.enter 57 args) w := enters_of Try.func57 (by kernel_rfl) rfl

set_option maxHeartbeats 800000 in
theorem uses_any (C D T : Int) (A : Option Addr) (c : Nat) (l : List Sc) (r : Int) (w : World) (hbig : l.length ≤ 1000000) (hr : Rd w A c l) :
    Calls Try.prog 50 #[.agg #[.int .i64 C, .int .i64 D, .int .i64 T, .slice A l.length c], .int .i64 r] w fun e w' => e = .returned (.bool (usesB C D T l r)) ∧ Below w.heap.size w w' := by
  obtain ⟨t1, t2, t3, t4⟩ := (box_new w C D T A l.length c).below (below_one _ (Obj.cells #[.int .i64 r] 3))
  have r1 : ((w.alloc (Obj.cells #[.int .i64 C, .int .i64 D, .int .i64 T, .slice A l.length c] 47)).alloc (Obj.cells #[.int .i64 r] 3)).cell? ⟨w.heap.size + 1, 0, none⟩ = some (.int .i64 r) := by simp
  have b0 := below_two w (Obj.cells #[.int .i64 C, .int .i64 D, .int .i64 T, .slice A l.length c] 47) (Obj.cells #[.int .i64 r] 3)
  cases ht : rightB C D T l with
  | false =>
    have HH : Hid (usesB C D T l r = false) := by show _ = _; simp [usesB, ht]
    go_enter Try.func50, Try.ntmps50
    go_wp2_with fail
    have HR := Lib.hid hr
    have B0 := Lib.hid b0
    clear hr b0
    generalize (w.alloc (Obj.cells #[.int .i64 C, .int .i64 D, .int .i64 T, .slice A l.length c] 47)).alloc (Obj.cells #[.int .i64 r] 3) = w0 at *
    refine (right_any C D T A c l _ hbig (HR.out.below B0.out)).mono ?_
    rintro e w1 ⟨rfl, b1⟩
    have B1 := Lib.hid (below_step B0.out b1)
    clear b1
    go_wp2_with fail
    go_ret
    exact ⟨ret_bool HH.out.symm, B1.out⟩
  | true =>
    have HH : Hid (usesB C D T l r = l.any (fun x => decide (x.1 = r))) := by show _ = _; simp [usesB, ht]
    go_enter Try.func50, Try.ntmps50
    go_wp2_with fail
    have HR := Lib.hid hr
    have B0 := Lib.hid b0
    clear hr b0
    generalize (w.alloc (Obj.cells #[.int .i64 C, .int .i64 D, .int .i64 T, .slice A l.length c] 47)).alloc (Obj.cells #[.int .i64 r] 3) = w0 at *
    refine (right_any C D T A c l _ hbig (HR.out.below B0.out)).mono ?_
    rintro e w1 ⟨rfl, b1⟩
    replace t1 := cell_below b1 t1
    replace t2 := cell_below b1 t2
    replace t3 := cell_below b1 t3
    replace t4 := cell_below b1 t4
    replace r1 := cell_below b1 r1
    have B1 := Lib.hid (below_step B0.out b1)
    clear b1
    go_wp2_with fail
    refine (hasSec _ _ _ usesEnters A c l _ hbig (uses_closure r _ _ r1) (HR.out.below B1.out)).mono ?_
    rintro e w2 ⟨rfl, b2⟩
    have B2 := Lib.hid (below_step B1.out b2)
    clear b2
    go_wp2_with fail
    go_ret
    exact ⟨ret_bool HH.out.symm, B2.out⟩

end Tk
end Go.Proofs.Ytldiplnccgoeiaa
