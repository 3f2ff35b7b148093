/-
  Layer 8 (block): usedBy; the closure that keeps the greatest.
-/
import Derived.Test.YtldiplnccgoeiaaTaskUses
import Derived.Test.YtldiplnccgoeiaaTaskList
import Derived.Test.YtldiplnccgoeiaaBlockMath
namespace Go.Proofs.Ytldiplnccgoeiaa
open Go.RowKit Mm Tk Go.Shelf
namespace Bk

/-- is a task due by t, and does it use a resource -/
def nearP (t r : Int) (y : Tsk) : Bool := decide (y.2.1 ≤ t) && usesB y.1 y.2.1 y.2.2.1 y.2.2.2 r
theorem near_eq {L : List Tsk} (h : allB L = true) (t r : Int) : L.any (nearP t r) = nearB L t r := by
  unfold allB at h
  rw [Bool.and_eq_true, List.all_eq_true] at h
  rw [Bool.eq_iff_iff, near_iff, List.any_eq_true]
  constructor
  · rintro ⟨y, hy, e⟩
    unfold nearP usesB at e
    rw [Bool.and_eq_true, decide_eq_true_eq, Bool.and_eq_true] at e
    exact ⟨y, hy, e.1, e.2.2⟩
  · rintro ⟨y, hy, h1, h2⟩
    refine ⟨y, hy, ?_⟩
    unfold nearP usesB
    rw [Bool.and_eq_true, decide_eq_true_eq, Bool.and_eq_true]
    exact ⟨h1, h.2 y hy, h2⟩

theorem near_closure (t r : Int) (X Y : Nat) (w : World) (hX : w.cell? ⟨X, 0, none⟩ = some (.int .i64 t)) (hY : w.cell? ⟨Y, 0, none⟩ = some (.int .i64 r)) :
    PredTask 49 #[.pointer (some ⟨X, 0, none⟩), .pointer (some ⟨Y, 0, none⟩)] (nearP t r) w := fun W x B d hb hr hl => by
  obtain ⟨t1, t2, t3, t4⟩ := box_new W x.1 x.2.1 x.2.2.1 B x.2.2.2.length d
  have b0 := below_one W (Obj.cells #[.int .i64 x.1, .int .i64 x.2.1, .int .i64 x.2.2.1, .slice B x.2.2.2.length d] 47)
  have c1 := cell_new (cell_below hb hX) (.cells #[.int .i64 x.1, .int .i64 x.2.1, .int .i64 x.2.2.1, .slice B x.2.2.2.length d] 47)
  have c2 := cell_new (cell_below hb hY) (.cells #[.int .i64 x.1, .int .i64 x.2.1, .int .i64 x.2.2.1, .slice B x.2.2.2.length d] 47)
  show Calls Try.prog 49 #[.agg #[.int .i64 x.1, .int .i64 x.2.1, .int .i64 x.2.2.1, .slice B x.2.2.2.length d], .pointer (some ⟨X, 0, none⟩), .pointer (some ⟨Y, 0, none⟩)] W _
  clear hX hY hb
  have HR := Lib.hid hr
  have B0 := Lib.hid b0
  clear hr b0
  by_cases hd : x.2.1 ≤ t
  · have HH : Hid (nearP t r x = usesB x.1 x.2.1 x.2.2.1 x.2.2.2 r) := by show _ = _; simp [nearP, hd]
    go_enter Try.func49, Try.ntmps49
    go_wp2_with fail
    generalize W.alloc (Obj.cells #[.int .i64 x.1, .int .i64 x.2.1, .int .i64 x.2.2.1, .slice B x.2.2.2.length d] 47) = w0 at *
    refine (uses_any x.1 x.2.1 x.2.2.1 B d x.2.2.2 r _ hl (HR.out.below B0.out)).mono ?_
    rintro e w1 ⟨rfl, b1⟩
    have B1 := Lib.hid (below_step B0.out b1)
    clear b1
    go_wp2_with fail
    go_ret
    exact ⟨ret_bool HH.out.symm, B1.out⟩
  · have HH : Hid (nearP t r x = false) := by show _ = _; simp [nearP, hd]
    go_enter Try.func49, Try.ntmps49
    go_wp2_with fail
    go_ret
    exact ⟨ret_bool HH.out.symm, B0.out⟩
theorem nearEnters : ∀ args w, (callFunc 49 args).run Try.prog w = .ok (.enter 49 args) w := enters_of Try.func49 (by kernel_rfl) rfl

set_option maxHeartbeats 800000 in
theorem used_any (A : Option Addr) (c : Nat) (L : List Tsk) (r t : Int) (w : World) (H : TL w A c L) :
    Calls Try.prog 38 #[.slice A L.length c, .int .i64 r, .int .i64 t] w fun e w' => e = .returned (.bool (L.any (nearP t r))) ∧ Below w.heap.size w w' := by
  have hb1 := H.1
  have HT := Lib.hid (H.below (below_two w (Obj.cells #[.int .i64 r] 3) (Obj.cells #[.int .i64 t] 3)))
  have B0 := Lib.hid (below_two w (Obj.cells #[.int .i64 r] 3) (Obj.cells #[.int .i64 t] 3))
  have r1 : ((w.alloc (Obj.cells #[.int .i64 r] 3)).alloc (Obj.cells #[.int .i64 t] 3)).cell? ⟨w.heap.size, 0, none⟩ = some (.int .i64 r) := cell_new (by simp) _
  have r2 : ((w.alloc (Obj.cells #[.int .i64 r] 3)).alloc (Obj.cells #[.int .i64 t] 3)).cell? ⟨w.heap.size + 1, 0, none⟩ = some (.int .i64 t) := by simp
  clear H
  go_enter Try.func38, Try.ntmps38
  go_wp2_with fail
  generalize (w.alloc (Obj.cells #[.int .i64 r] 3)).alloc (Obj.cells #[.int .i64 t] 3) = w0 at *
  refine (hasTask _ _ _ nearEnters A c L _ hb1 HT.out.2.1 (near_closure t r _ _ _ r2 r1) HT.out.2.2).mono ?_
  rintro e w1 ⟨rfl, b1⟩
  have B1 := Lib.hid (below_step B0.out b1)
  clear b1
  go_wp2_with fail
  go_ret
  exact ⟨rfl, B1.out⟩

/-- block X has the greatest so far -/
def Best (w : World) (X : Nat) (v : Nat) : Prop := w.cell? ⟨X, 0, none⟩ = some (.int .i64 v) ∧ w.frozen? ⟨X, 0, none⟩ = false
theorem Best.below {w w' : World} {X v : Nat} (h : Best w X v) (b : Below w.heap.size w w') : Best w' X v := ⟨cell_below b h.1, frozen_below b h.1 h.2⟩
theorem Best.put {w : World} {X v : Nat} (h : Best w X v) (u : Nat) : Best (w.setCell ⟨X, 0, none⟩ (.int .i64 u)) X u :=
  ⟨World.cell?_setCell_same _ _ _ h.1, by rw [World.frozen?_setCell]; exact h.2⟩
/-- what the closure does -/
def Kept (w : World) (base X u : Nat) (e : Ending) (w' : World) : Prop := e = .returned (.tuple #[]) ∧ Best w' X u ∧ Below base w w' ∧ (∀ i, i < w.heap.size → i ≠ X → w'.heap[i]? = w.heap[i]?)
theorem kept_put {w w1 : World} {base X v u : Nat} {z : Int} (hz : z = (u : Int)) (hX : base ≤ X) (h : Best w X v) (b : Below w.heap.size w w1) : Kept w base X u (.returned (.tuple #[])) (w1.setCell ⟨X, 0, none⟩ (.int .i64 z)) := by
  subst hz
  have hX' := lt_of_cell h.1
  simp only at hX'
  refine ⟨rfl, (h.below b).put u, (b.mono (by omega)).setCell (by exact hX) _, fun i hi h1 => ?_⟩
  rw [Below.heap_setCell _ _ _ _ h1]
  exact b.block i hi
theorem kept_same {w w1 : World} {base X v u : Nat} (hu : u = v) (hX : base ≤ X) (h : Best w X v) (b : Below w.heap.size w w1) : Kept w base X u (.returned (.tuple #[])) w1 := by
  subst hu
  have hX' := lt_of_cell h.1
  simp only at hX'
  exact ⟨rfl, h.below b, b.mono (by omega), fun i hi _ => b.block i hi⟩
theorem cell_kept1 {w w' : World} {X Y j : Nat} (hk : ∀ i, i < w.heap.size → i ≠ X → w'.heap[i]? = w.heap[i]?) (h1 : Y ≠ X) {v : Value} (h : w.cell? ⟨Y, j, none⟩ = some v) : w'.cell? ⟨Y, j, none⟩ = some v :=
  (World.cell?_of_block (w := w) (hk Y (lt_of_cell h) h1)).trans h

/-- how long a section may be in the way, as the closure sees it -/
def blkP (L : List Tsk) (t : Int) (s : Sc) : Nat := if L.any (nearP t s.1) then s.2.2.toNat else 0

set_option maxHeartbeats 1600000 in
theorem keep_closure (base X Y Z v : Nat) (A : Option Addr) (c : Nat) (L : List Tsk) (t : Int) (s : Sc) (w : World) (hX : base ≤ X) (h : Best w X v) (H : TL w A c L)
    (hY : w.cell? ⟨Y, 0, none⟩ = some (.slice A L.length c)) (hZ : w.cell? ⟨Z, 0, none⟩ = some (.int .i64 t)) :
    Calls Try.prog 37 #[.agg #[.int .i64 s.1, .int .i64 s.2.1, .int .i64 s.2.2], .pointer (some ⟨X, 0, none⟩), .pointer (some ⟨Y, 0, none⟩), .pointer (some ⟨Z, 0, none⟩)] w (Kept w base X (max v (blkP L t s))) := by
  have b0 := below_one w (Obj.cells #[.int .i64 s.1, .int .i64 s.2.1, .int .i64 s.2.2] 61)
  have s1 : (w.alloc (Obj.cells #[.int .i64 s.1, .int .i64 s.2.1, .int .i64 s.2.2] 61)).cell? ⟨w.heap.size, 0, none⟩ = some (.int .i64 s.1) := by simp
  have s3 : (w.alloc (Obj.cells #[.int .i64 s.1, .int .i64 s.2.1, .int .i64 s.2.2] 61)).cell? ⟨w.heap.size, 2, none⟩ = some (.int .i64 s.2.2) := by simp
  have hx1 := cell_below b0 h.1
  have hx2 := frozen_below b0 h.1 h.2
  replace hY := cell_below b0 hY
  replace hZ := cell_below b0 hZ
  have HB := Lib.hid h
  have HT := Lib.hid (H.below b0)
  have B0 := Lib.hid b0
  clear b0
  clear h H
  by_cases hv : (v : Int) < s.2.2
  · cases hn : L.any (nearP t s.1) with
    | true =>
      have HU : Hid (s.2.2 = ((max v (blkP L t s) : Nat) : Int)) := by show _ = _; rw [blkP, if_pos hn]; omega
      have HN := Lib.hid hn
      clear hn
      go_enter Try.func37, Try.ntmps37
      go_wp2_with fail
      generalize w.alloc (Obj.cells #[.int .i64 s.1, .int .i64 s.2.1, .int .i64 s.2.2] 61) = w0 at *
      refine (used_any A c L s.1 t _ HT.out).mono ?_
      rintro e w1 ⟨rfl, b1⟩
      rw [HN.out]
      replace hx2 := frozen_below b1 hx1 hx2
      replace hx1 := (cell_below b1) hx1
      replace s3 := (cell_below b1) s3
      have B1 := Lib.hid (below_step B0.out b1)
      clear b1
      go_wp2_with fail
      go_end0
      exact kept_put HU.out hX HB.out B1.out
    | false =>
      have HU : Hid (max v (blkP L t s) = v) := by show _ = _; rw [blkP, if_neg (by rw [hn]; simp)]; omega
      have HN := Lib.hid hn
      clear hn
      go_enter Try.func37, Try.ntmps37
      go_wp2_with fail
      generalize w.alloc (Obj.cells #[.int .i64 s.1, .int .i64 s.2.1, .int .i64 s.2.2] 61) = w0 at *
      refine (used_any A c L s.1 t _ HT.out).mono ?_
      rintro e w1 ⟨rfl, b1⟩
      rw [HN.out]
      have B1 := Lib.hid (below_step B0.out b1)
      clear b1
      go_wp2_with fail
      go_end0
      exact kept_same HU.out hX HB.out B1.out
  · have HU : Hid (max v (blkP L t s) = v) := by
      show _ = _
      have : blkP L t s ≤ s.2.2.toNat := by unfold blkP; split <;> omega
      omega
    go_enter Try.func37, Try.ntmps37
    go_wp2_with fail
    go_end0
    exact kept_same HU.out hX HB.out B0.out

end Bk
end Go.Proofs.Ytldiplnccgoeiaa
