/-
  Layer 5 (task): Uses, All.
-/
import Derived.Test.YtlgfbodmaocibaaTaskGen
namespace Go.Proofs.Ytlgfbodmaocibaa
open Go.RowKit Mm Go.Shelf
namespace Tk

/-- does a task use a resource -/
def usesB (C D T : Int) (l : List Sc) (r : Int) : Bool := rightB C D T l && l.any (fun x => decide (x.1 = r))

theorem uses_closure (r : Int) (X : Nat) (w : World) (hX : w.cell? ⟨X, 0, none⟩ = some (.int .i64 r)) :
    PredSec 38 #[.pointer (some ⟨X, 0, none⟩)] (fun x => decide (x.1 = r)) w := fun W x hb => by
  have hc := cell_new (cell_below hb hX) (.cells #[.int .i64 x.1, .int .i64 x.2.1, .int .i64 x.2.2] 39)
  show Calls Try.prog 38 #[.agg #[.int .i64 x.1, .int .i64 x.2.1, .int .i64 x.2.2], .pointer (some ⟨X, 0, none⟩)] W _
  clear hX hb
  go_enter Try.func38, Try.ntmps38
  go_wp2
  go_ret
  exact ⟨rfl, below_one _ _⟩
theorem usesEnters : ∀ args w, (callFunc 38 args).run Try.prog w = .ok (.enter 38 args) w := enters_of Try.func38 (by kernel_rfl) rfl

set_option maxHeartbeats 800000 in
theorem uses_any (C D T : Int) (A : Option Addr) (c : Nat) (l : List Sc) (r : Int) (w : World) (hbig : l.length ≤ 1000000) (hr : Rd w A c l) :
    Calls Try.prog 32 #[.agg #[.int .i64 C, .int .i64 D, .int .i64 T, .slice A l.length c], .int .i64 r] w fun e w' => e = .returned (.bool (usesB C D T l r)) ∧ Below w.heap.size w w' := by
  obtain ⟨t1, t2, t3, t4⟩ := (box_new w C D T A l.length c).below (below_one _ (Obj.cells #[.int .i64 r] 3))
  have r1 : ((w.alloc (Obj.cells #[.int .i64 C, .int .i64 D, .int .i64 T, .slice A l.length c] 33)).alloc (Obj.cells #[.int .i64 r] 3)).cell? ⟨w.heap.size + 1, 0, none⟩ = some (.int .i64 r) := by simp
  have b0 := below_two w (Obj.cells #[.int .i64 C, .int .i64 D, .int .i64 T, .slice A l.length c] 33) (Obj.cells #[.int .i64 r] 3)
  cases ht : rightB C D T l with
  | false =>
    have HH : Hid (usesB C D T l r = false) := by show _ = _; simp [usesB, ht]
    go_enter Try.func32, Try.ntmps32
    go_wp2_with fail
    have HR := Lib.hid hr
    have B0 := Lib.hid b0
    clear hr b0
    generalize (w.alloc (Obj.cells #[.int .i64 C, .int .i64 D, .int .i64 T, .slice A l.length c] 33)).alloc (Obj.cells #[.int .i64 r] 3) = w0 at *
    refine (right_any C D T A c l _ hbig (HR.out.below B0.out)).mono ?_
    rintro e w1 ⟨rfl, b1⟩
    have B1 := Lib.hid (below_step B0.out b1)
    clear b1
    go_wp2_with fail
    go_ret
    exact ⟨ret_bool HH.out.symm, B1.out⟩
  | true =>
    have HH : Hid (usesB C D T l r = l.any (fun x => decide (x.1 = r))) := by show _ = _; simp [usesB, ht]
    go_enter Try.func32, Try.ntmps32
    go_wp2_with fail
    have HR := Lib.hid hr
    have B0 := Lib.hid b0
    clear hr b0
    generalize (w.alloc (Obj.cells #[.int .i64 C, .int .i64 D, .int .i64 T, .slice A l.length c] 33)).alloc (Obj.cells #[.int .i64 r] 3) = w0 at *
    refine (right_any C D T A c l _ hbig (HR.out.below B0.out)).mono ?_
    rintro e w1 ⟨rfl, b1⟩
    replace t1 := cell_below b1 t1
    replace t2 := cell_below b1 t2
    replace t3 := cell_below b1 t3
    replace t4 := cell_below b1 t4
    replace r1 := cell_below b1 r1
    have B1 := Lib.hid (below_step B0.out b1)
    clear b1
    go_wp2_with fail
    refine (hasSec _ _ _ usesEnters A c l _ hbig (uses_closure r _ _ r1) (HR.out.below B1.out)).mono ?_
    rintro e w2 ⟨rfl, b2⟩
    have B2 := Lib.hid (below_step B1.out b2)
    clear b2
    go_wp2_with fail
    go_ret
    exact ⟨ret_bool HH.out.symm, B2.out⟩

theorem all_closure (w : World) : PredTask 26 #[] (fun t => !rightT t) w := fun W x B d _ hr hl => by
  obtain ⟨t1, t2, t3, t4⟩ := box_new W x.1 x.2.1 x.2.2.1 B x.2.2.2.length d
  have b0 := below_one W (Obj.cells #[.int .i64 x.1, .int .i64 x.2.1, .int .i64 x.2.2.1, .slice B x.2.2.2.length d] 33)
  show Calls Try.prog 26 #[.agg #[.int .i64 x.1, .int .i64 x.2.1, .int .i64 x.2.2.1, .slice B x.2.2.2.length d]] W _
  have HQ : Hid (rightT x = rightB x.1 x.2.1 x.2.2.1 x.2.2.2) := rfl
  go_enter Try.func26, Try.ntmps26
  go_wp2_with fail
  have HR := Lib.hid hr
  have B0 := Lib.hid b0
  clear hr b0
  generalize W.alloc (Obj.cells #[.int .i64 x.1, .int .i64 x.2.1, .int .i64 x.2.2.1, .slice B x.2.2.2.length d] 33) = w0 at *
  refine (right_any x.1 x.2.1 x.2.2.1 B d x.2.2.2 _ hl (HR.out.below B0.out)).mono ?_
  rintro e w1 ⟨rfl, b1⟩
  replace t1 := cell_below b1 t1
  replace t2 := cell_below b1 t2
  replace t3 := cell_below b1 t3
  replace t4 := cell_below b1 t4
  have B1 := Lib.hid (below_step B0.out b1)
  clear b1
  go_wp2_with fail
  go_ret
  exact ⟨ret_bool (by rw [HQ.out]), B1.out⟩
theorem allEnters : ∀ args w, (callFunc 26 args).run Try.prog w = .ok (.enter 26 args) w := enters_of Try.func26 (by kernel_rfl) rfl
theorem any_not (L : List Tsk) : L.any (fun t => !rightT t) = !L.all rightT := by
  induction L with
  | nil => rfl
  | cons x l ih => simp [ih]

set_option maxHeartbeats 800000 in
theorem all_any (A : Option Addr) (c : Nat) (L : List Tsk) (w : World) (hbig : L.length ≤ 1000000) (hin : ∀ j, j < L.length → (at_ L j).2.2.2.length ≤ 1000000) (hr : Rd w A c L) :
    Calls Try.prog 20 #[.slice A L.length c] w fun e w' => e = .returned (.bool (allB L)) ∧ Below w.heap.size w w' := by
  by_cases h8 : 8 < L.length
  · have HH : Hid (allB L = false) := by show _ = _; simp [allB]; omega
    go_enter Try.func20, Try.ntmps20
    go_wp2_with fail
    go_ret
    exact ⟨ret_bool HH.out.symm, Below.refl _ _⟩
  · have HH : Hid (allB L = !(L.any (fun t => !rightT t))) := by show _ = _; rw [any_not]; simp [allB]; omega
    go_enter Try.func20, Try.ntmps20
    have HR := Lib.hid hr
    have HIN := Lib.hid hin
    clear hr hin
    go_wp2_with fail
    refine (hasTask _ _ _ allEnters A c L _ hbig HIN.out (all_closure _) HR.out).mono ?_
    rintro e w1 ⟨rfl, b1⟩
    have B1 := Lib.hid b1
    clear b1
    go_wp2_with fail
    go_ret
    exact ⟨ret_bool HH.out.symm, B1.out⟩

end Tk
end Go.Proofs.Ytlgfbodmaocibaa
