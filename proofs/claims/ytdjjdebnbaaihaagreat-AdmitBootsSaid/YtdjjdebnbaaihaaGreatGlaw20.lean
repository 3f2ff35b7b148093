/-
  Merged texts: Law20Args, Law20Refs, Law20Part, Law20Boot, Law20More, Law20Add, Law20Great.
-/
import Derived.Test.YtdjjdebnbaaihaaGreatGlaw05
import Derived.Test.YtdjjdebnbaaihaaGreatGlaw09
import Derived.Test.YtdjjdebnbaaihaaGreatGadmit
import Derived.Test.YtdjjdebnbaaihaaGreatGlaw10
import Derived.Test.YtdjjdebnbaaihaaGreatGtask
import Derived.Test.YtdjjdebnbaaihaaGreatGlaw17
import Derived.Test.YtdjjdebnbaaihaaGreatGpart
import Derived.Deep.DeepCutAuto
/-
  Layer 20: the arguments of the statements, opened: a partition.
-/
namespace Go.Proofs.YtdjjdebnbaaihaaGreat
open Go.ChangeShapes Go.WideShapes Go.ChangeAt Go.RowKit Go.Deep Go.Joins Mm Tk
namespace Pm

theorem opPart : Opens Tryz.prog 26 ((Int × Int) × List Tsk) := opens_struct Tryz.underlying26 (by kernel_rfl) (fieldsOpen_cons rfl Sp.opFace (fieldsOpen_one rfl opTasks))
section
variable {H : Type} {enc : TypeId × Value → H} {w : World} {base : Nat} {spare : Nat → Bool} {held : Bool}
set_option maxRecDepth 20000 in
theorem open_part {r : Reach} {b0 : Nat} {v : Value} {d : DataW H} {ps : List MemPlace} (hv : Value.okWide Tryz.prog w r b0 26 v) (h : DataW.Trod enc Tryz.prog w base spare held 26 v d ps) :
    ∃ (P B : Int) (A : Option Addr) (c : Nat) (L : List Tsk), v = .agg #[.int .i64 P, .int .i64 B, .slice A L.length c] ∧ Fit P ∧ Fit B ∧ Rd w A c L := by
  obtain ⟨cs, x, rfl, hx⟩ := open_strct (α := (Int × Int) × List Tsk) Tryz.underlying26 opPart hv h
  obtain ⟨v1, r1, rfl, h1, A, c, rfl, g⟩ := hx
  obtain ⟨v2, r2, rfl, ⟨rfl, f1⟩, ⟨rfl, f2⟩⟩ := h1
  exact ⟨x.1.1, x.1.2, A, c, x.2, rfl, f1, f2, g⟩
end

end Pm
end Go.Proofs.YtdjjdebnbaaihaaGreat

/-
  Layer 20: the references of the statements: Fits, Boot; how far a test goes.
-/
namespace Go.Proofs.YtdjjdebnbaaihaaGreat
open Go.RowKit Mm Tk Vd
namespace Pm

set_option maxHeartbeats 800000 in
theorem refFit_any (P B : Int) (A : Option Addr) (c : Nat) (L : List Tsk) (w : World) (H : TL w A c L) :
    Calls Tryz.prog 31 #[.slice A L.length c, .agg #[.int .i64 P, .int .i64 B]] w fun e w' => e = .returned (.int .i64 (fitE L P B : Nat)) ∧ Below w.heap.size w w' := by
  obtain ⟨t1, t2⟩ := Sp.fc_new w P B
  have b0 := below_one w (Obj.cells #[.int .i64 P, .int .i64 B] 23)
  have HT := Lib.hid (H.below b0)
  obtain ⟨z, hz⟩ : ∃ z, cycZ L P B = z := ⟨_, rfl⟩
  obtain ⟨y, hy⟩ : ∃ y, endZ L P B = y := ⟨_, rfl⟩
  obtain ⟨e, he⟩ : ∃ e, cycE L P B = e := ⟨_, rfl⟩
  have HC := Lib.hid (refCycle_v A c L P B z y e hz hy he L.length rfl)
  clear H hz hy
  have B0 := Lib.hid b0
  clear b0
  by_cases h0 : e = 0
  · subst h0
    obtain ⟨v, hv⟩ : ∃ v, fitsB L P B = v := ⟨_, rfl⟩
    have HF := Lib.hid (refFits_v A c L P B (cycE_zero.1 he) v hv L.length rfl)
    cases v with
    | true =>
      have HE := Lib.hid (fitE_yes he hv)
      clear he hv
      go_enter Tryz.func31, Tryz.ntmps31
      go_wp2_with fail
      refine (HC.out _ HT.out).mono ?_
      rintro e w1 ⟨rfl, b1⟩
      replace t1 := cell_below b1 t1
      replace t2 := cell_below b1 t2
      have B1 := Lib.hid (below_step B0.out b1)
      replace HT := Lib.hid (HT.out.below b1)
      clear b1
      go_wp2_with fail
      refine (HF.out _ HT.out).mono ?_
      rintro e w2 ⟨rfl, b2⟩
      replace t1 := cell_below b2 t1
      replace t2 := cell_below b2 t2
      have B2 := Lib.hid (below_step B1.out b2)
      replace HT := Lib.hid (HT.out.below b2)
      clear b2
      go_wp2_with fail
      go_ret
      exact ⟨by rw [HE.out]; rfl, B2.out⟩
    | false =>
      have HE := Lib.hid (fitE_no he hv)
      clear he hv
      go_enter Tryz.func31, Tryz.ntmps31
      go_wp2_with fail
      refine (HC.out _ HT.out).mono ?_
      rintro e w1 ⟨rfl, b1⟩
      replace t1 := cell_below b1 t1
      replace t2 := cell_below b1 t2
      have B1 := Lib.hid (below_step B0.out b1)
      replace HT := Lib.hid (HT.out.below b1)
      clear b1
      go_wp2_with fail
      refine (HF.out _ HT.out).mono ?_
      rintro e w2 ⟨rfl, b2⟩
      replace t1 := cell_below b2 t1
      replace t2 := cell_below b2 t2
      have B2 := Lib.hid (below_step B1.out b2)
      replace HT := Lib.hid (HT.out.below b2)
      clear b2
      go_wp2_with fail
      go_ret
      exact ⟨by rw [HE.out]; rfl, B2.out⟩
  · have HE : Hid (fitE L P B = e) := by show _ = _; rw [fitE_cyc (by omega), he]
    have i1 : ¬ (e : Int) = 0 := by omega
    have i2 : ((e : Int) == 0) = false := beq_eq_false_iff_ne.2 i1
    clear he h0
    go_enter Tryz.func31, Tryz.ntmps31
    go_wp2_with fail
    refine (HC.out _ HT.out).mono ?_
    rintro e w1 ⟨rfl, b1⟩
    replace t1 := cell_below b1 t1
    replace t2 := cell_below b1 t2
    have B1 := Lib.hid (below_step B0.out b1)
    replace HT := Lib.hid (HT.out.below b1)
    clear b1
    go_wp2_with fail
    go_ret
    exact ⟨by rw [HE.out]; rfl, B1.out⟩
theorem refFit_v (A : Option Addr) (c : Nat) (L : List Tsk) (P B : Int) (v : Nat) (hv : fitE L P B = v) (n : Nat) (hn : L.length = n) (w : World) (H : TL w A c L) :
    Calls Tryz.prog 31 #[.slice A n c, .agg #[.int .i64 P, .int .i64 B]] w fun e w' => e = .returned (.int .i64 v) ∧ Below w.heap.size w w' := by
  subst hv; subst hn
  exact refFit_any P B A c L w H
set_option maxHeartbeats 800000 in
theorem far_any (P B : Int) (A : Option Addr) (c : Nat) (L : List Tsk) (v : Bool) (hv : decide (300 < endZ L P B) = v) (n : Nat) (hn : L.length = n) (w : World) (H : TL w A c L) :
    Calls Tryz.prog 7 #[.slice A n c, .agg #[.int .i64 P, .int .i64 B]] w fun e w' => e = .returned (.bool v) ∧ Below w.heap.size w w' := by
  obtain ⟨t1, t2⟩ := Sp.fc_new w P B
  have b0 := below_one w (Obj.cells #[.int .i64 P, .int .i64 B] 23)
  have HT := Lib.hid (H.below b0)
  obtain ⟨z, hz⟩ : ∃ z, cycZ L P B = z := ⟨_, rfl⟩
  obtain ⟨y, hy⟩ : ∃ y, endZ L P B = y := ⟨_, rfl⟩
  obtain ⟨e, he⟩ : ∃ e, cycE L P B = e := ⟨_, rfl⟩
  have HC := Lib.hid (refCycle_v A c L P B z y e hz hy he n hn)
  rw [hy] at hv
  clear H hz hy he hn
  have B0 := Lib.hid b0
  clear b0
  by_cases h : 300 < y
  · have i1 : (300 : Int) < (y : Int) := by omega
    rw [decide_eq_true h] at hv
    subst hv
    clear h
    go_enter Tryz.func7, Tryz.ntmps7
    go_wp2_with fail
    refine (HC.out _ HT.out).mono ?_
    rintro e w1 ⟨rfl, b1⟩
    replace t1 := cell_below b1 t1
    replace t2 := cell_below b1 t2
    have B1 := Lib.hid (below_step B0.out b1)
    clear b1
    go_wp2_with fail
    go_ret
    exact ⟨ret_bool (by simp), B1.out⟩
  · have i1 : ¬ (300 : Int) < (y : Int) := by omega
    rw [decide_eq_false h] at hv
    subst hv
    clear h
    go_enter Tryz.func7, Tryz.ntmps7
    go_wp2_with fail
    refine (HC.out _ HT.out).mono ?_
    rintro e w1 ⟨rfl, b1⟩
    replace t1 := cell_below b1 t1
    replace t2 := cell_below b1 t2
    have B1 := Lib.hid (below_step B0.out b1)
    clear b1
    go_wp2_with fail
    go_ret
    exact ⟨ret_bool (by simp [i1]), B1.out⟩

end Pm
end Go.Proofs.YtdjjdebnbaaihaaGreat

/-
  Layer 20: a partition in a box; Boot's error, in parts.
-/
namespace Go.Proofs.YtdjjdebnbaaihaaGreat
open Go.RowKit Mm Tk Vd
namespace Pm

theorem pt_new (w : World) (P B : Int) (A : Option Addr) (n c : Nat) : (w.alloc (Obj.cells #[.int .i64 P, .int .i64 B, .slice A n c] 26)).cell? ⟨w.heap.size, 0, none⟩ = some (.int .i64 P) ∧ (w.alloc (Obj.cells #[.int .i64 P, .int .i64 B, .slice A n c] 26)).cell? ⟨w.heap.size, 1, none⟩ = some (.int .i64 B) ∧ (w.alloc (Obj.cells #[.int .i64 P, .int .i64 B, .slice A n c] 26)).cell? ⟨w.heap.size, 2, none⟩ = some (.slice A n c) := by
  refine ⟨?_, ?_, ?_⟩ <;> simp
theorem bootE_face {L : List Tsk} {P B : Int} (h : Sp.rightB P B = false) : bootE L P B = 1 := by unfold bootE; rw [if_neg (by rw [h]; simp)]
theorem bootE_tasks {L : List Tsk} {P B : Int} (h : allB L = false) : bootE L P B = 1 := by unfold bootE; rw [if_neg (by rw [h]; simp)]
theorem bootE_fit {L : List Tsk} {P B : Int} (h : Sp.rightB P B = true) (h2 : allB L = true) : bootE L P B = fitE L P B := by unfold bootE; rw [if_pos ⟨h, h2⟩]

end Pm
end Go.Proofs.YtdjjdebnbaaihaaGreat

/-
  Layer 20: the references of the statements: Boot.
-/
namespace Go.Proofs.YtdjjdebnbaaihaaGreat
open Go.RowKit Mm Tk Vd
namespace Pm

set_option maxHeartbeats 800000 in
theorem refBoot_v (A : Option Addr) (c : Nat) (L : List Tsk) (P B : Int) (v : Nat) (hv : bootE L P B = v) (n : Nat) (hn : L.length = n) (w : World) (H : TL w A c L) :
    Calls Tryz.prog 10 #[.agg #[.int .i64 P, .int .i64 B, .slice A n c]] w fun e w' => e = .returned (.int .i64 v) ∧ Below w.heap.size w w' := by
  obtain ⟨t1, t2, t3⟩ := pt_new w P B A n c
  have b0 := below_one w (Obj.cells #[.int .i64 P, .int .i64 B, .slice A n c] 26)
  have HT := Lib.hid (H.below b0)
  clear H
  have B0 := Lib.hid b0
  clear b0
  cases h1 : Sp.rightB P B with
  | false =>
    rw [bootE_face h1] at hv
    subst hv
    clear hn
    go_enter Tryz.func10, Tryz.ntmps10
    go_wp2_with fail
    refine (Sp.refRight_v P B _ h1 _).mono ?_
    rintro e w1 ⟨rfl, b1⟩
    replace t1 := cell_below b1 t1
    replace t2 := cell_below b1 t2
    replace t3 := cell_below b1 t3
    have B1 := Lib.hid (below_step B0.out b1)
    replace HT := Lib.hid (HT.out.below b1)
    clear b1
    go_wp2_with fail
    go_ret
    exact ⟨rfl, B1.out⟩
  | true =>
    cases h2 : allB L with
    | false =>
      rw [bootE_tasks h2] at hv
      subst hv
      have HA := Lib.hid (refAll_v A c L false h2 n hn)
      clear hn
      go_enter Tryz.func10, Tryz.ntmps10
      go_wp2_with fail
      refine (Sp.refRight_v P B _ h1 _).mono ?_
      rintro e w1 ⟨rfl, b1⟩
      replace t1 := cell_below b1 t1
      replace t2 := cell_below b1 t2
      replace t3 := cell_below b1 t3
      have B1 := Lib.hid (below_step B0.out b1)
      replace HT := Lib.hid (HT.out.below b1)
      clear b1
      go_wp2_with fail
      refine (HA.out _ HT.out).mono ?_
      rintro e w2 ⟨rfl, b2⟩
      replace t1 := cell_below b2 t1
      replace t2 := cell_below b2 t2
      replace t3 := cell_below b2 t3
      have B2 := Lib.hid (below_step B1.out b2)
      replace HT := Lib.hid (HT.out.below b2)
      clear b2
      go_wp2_with fail
      go_ret
      exact ⟨rfl, B2.out⟩
    | true =>
      rw [bootE_fit h1 h2] at hv
      have HA := Lib.hid (refAll_v A c L true h2 n hn)
      have HF := Lib.hid (refFit_v A c L P B v hv n hn)
      clear hn hv
      go_enter Tryz.func10, Tryz.ntmps10
      go_wp2_with fail
      refine (Sp.refRight_v P B _ h1 _).mono ?_
      rintro e w1 ⟨rfl, b1⟩
      replace t1 := cell_below b1 t1
      replace t2 := cell_below b1 t2
      replace t3 := cell_below b1 t3
      have B1 := Lib.hid (below_step B0.out b1)
      replace HT := Lib.hid (HT.out.below b1)
      clear b1
      go_wp2_with fail
      refine (HA.out _ HT.out).mono ?_
      rintro e w2 ⟨rfl, b2⟩
      replace t1 := cell_below b2 t1
      replace t2 := cell_below b2 t2
      replace t3 := cell_below b2 t3
      have B2 := Lib.hid (below_step B1.out b2)
      replace HT := Lib.hid (HT.out.below b2)
      clear b2
      go_wp2_with fail
      refine (HF.out _ HT.out).mono ?_
      rintro e w3 ⟨rfl, b3⟩
      have B3 := Lib.hid (below_step B2.out b3)
      clear b3
      go_wp2_with fail
      go_ret
      exact ⟨rfl, B3.out⟩

end Pm
end Go.Proofs.YtdjjdebnbaaihaaGreat

/-
  Layer 20: what a region loads that makes 'append(append([]api.Task{}, l...), t)': the caller's list, the task, the interface.
-/
namespace Go.Proofs.YtdjjdebnbaaihaaGreat
open Go.RowKit Mm Tk Vd
namespace Pm

/-- the state's tasks in block Y, the interface in block F, the task in block X -/
def Ld (Y F X : Nat) (A : Option Addr) (n a : Nat) (P B : Int) (x : Tsk) (D : Option Addr) (d : Nat) (w : World) : Prop :=
  w.cell? ⟨Y, 0, none⟩ = some (.slice A n a) ∧ w.cell? ⟨F, 0, none⟩ = some (.int .i64 P) ∧ w.cell? ⟨F, 1, none⟩ = some (.int .i64 B) ∧
  w.cell? ⟨X, 0, none⟩ = some (.int .i64 x.1) ∧ w.cell? ⟨X, 1, none⟩ = some (.int .i64 x.2.1) ∧ w.cell? ⟨X, 2, none⟩ = some (.int .i64 x.2.2.1) ∧ w.cell? ⟨X, 3, none⟩ = some (.slice D x.2.2.2.length d)
theorem Ld.below {Y F X : Nat} {A : Option Addr} {n a : Nat} {P B : Int} {x : Tsk} {D : Option Addr} {d : Nat} {w w' : World} (h : Ld Y F X A n a P B x D d w) (b : Below w.heap.size w w') : Ld Y F X A n a P B x D d w' :=
  ⟨cell_below b h.1, cell_below b h.2.1, cell_below b h.2.2.1, cell_below b h.2.2.2.1, cell_below b h.2.2.2.2.1, cell_below b h.2.2.2.2.2.1, cell_below b h.2.2.2.2.2.2⟩
theorem admE_bad {s : St} {P B : Int} {x : Tsk} (h : ¬ (rightS s = true ∧ Sp.rightB P B = true ∧ rightT x = true)) : admE s P B x = 1 := by unfold admE; rw [if_neg h]
theorem admE_full {s : St} {P B : Int} {x : Tsk} (h : rightS s = true ∧ Sp.rightB P B = true ∧ rightT x = true) (h8 : 8 ≤ s.tasks.length) : admE s P B x = 3 := by unfold admE; rw [if_pos h, if_pos h8]
theorem admE_began {s : St} {P B : Int} {x : Tsk} (h : rightS s = true ∧ Sp.rightB P B = true ∧ rightT x = true) (h8 : ¬ 8 ≤ s.tasks.length) (hb : (s.jobs.any fun j => begJ j) = true) : admE s P B x = 9 := by unfold admE; rw [if_pos h, if_neg h8, if_pos hb]
theorem admE_fit {s : St} {P B : Int} {x : Tsk} (h : rightS s = true ∧ Sp.rightB P B = true ∧ rightT x = true) (h8 : ¬ 8 ≤ s.tasks.length) (hb : (s.jobs.any fun j => begJ j) = false) : admE s P B x = fitE (s.tasks ++ [x]) P B := by rw [admE_parts, if_pos h, if_neg h8, hb]; rfl
theorem began_yes {l : List Jb} {k : Nat} (hk : k < l.length) (h : begJ (at_ l k) = true) : (l.any fun j => begJ j) = true := List.any_eq_true.2 ⟨_, at_mem hk, h⟩
theorem began_no {l : List Jb} (h : ∀ j, j < l.length → begJ (at_ l j) = false) : (l.any fun j => begJ j) = false := by
  cases e : l.any fun j => begJ j with
  | false => rfl
  | true =>
    obtain ⟨y, hy, hb⟩ := List.any_eq_true.1 e
    obtain ⟨j, hj, e2⟩ := mem_at hy
    rw [← e2, h j hj] at hb
    cases hb

end Pm
end Go.Proofs.YtdjjdebnbaaihaaGreat

/-
  Layer 20: the references of the statements: Add.
-/
namespace Go.Proofs.YtdjjdebnbaaihaaGreat
open Go.RowKit Mm Tk Vd
namespace Pm

set_option maxRecDepth 20000 in
set_option maxHeartbeats 4000000 in
theorem refAdd_v (p : Pl) (s : St) (x : Tsk) (D : Option Addr) (k d : Nat) (hk : x.2.2.2.length = k) (hkb : k ≤ 100000) (fx : Fit x.1 ∧ Fit x.2.1 ∧ Fit x.2.2.1) (P B : Int) (v : Nat) (hv : admE s P B x = v) (w : World) (H : SR w p s) (hx : Rd w D d x.2.2.2) :
    Calls Tryz.prog 16 #[(.agg #[.slice p.A s.tasks.length p.a, .slice p.B s.leaves.length p.b, .slice p.C s.lasts.length p.c, .slice p.D s.jobs.length p.d, .slice p.E s.log.length p.e]), .agg #[.int .i64 P, .int .i64 B], .agg #[.int .i64 x.1, .int .i64 x.2.1, .int .i64 x.2.2.1, .slice D k d]] w fun e w' => e = .returned (.int .i64 v) ∧ Below w.heap.size w w' := by
  subst hk
  have B0 := Lib.hid (below_three w (Obj.cells #[.slice p.A s.tasks.length p.a, .slice p.B s.leaves.length p.b, .slice p.C s.lasts.length p.c, .slice p.D s.jobs.length p.d, .slice p.E s.log.length p.e] 41) (Obj.cells #[.int .i64 P, .int .i64 B] 23) (Obj.cells #[.int .i64 x.1, .int .i64 x.2.1, .int .i64 x.2.2.1, .slice D x.2.2.2.length d] 47))
  have HY := Lib.hid (((cs_new w p s _ 41 rfl).below (below_one _ (Obj.cells #[.int .i64 P, .int .i64 B] 23))).below (below_one _ (Obj.cells #[.int .i64 x.1, .int .i64 x.2.1, .int .i64 x.2.2.1, .slice D x.2.2.2.length d] 47)))
  have YB : Hid (Ld w.heap.size (w.heap.size + 1) (w.heap.size + 2) p.A s.tasks.length p.a P B x D d (((w.alloc (Obj.cells #[.slice p.A s.tasks.length p.a, .slice p.B s.leaves.length p.b, .slice p.C s.lasts.length p.c, .slice p.D s.jobs.length p.d, .slice p.E s.log.length p.e] 41)).alloc (Obj.cells #[.int .i64 P, .int .i64 B] 23)).alloc (Obj.cells #[.int .i64 x.1, .int .i64 x.2.1, .int .i64 x.2.2.1, .slice D x.2.2.2.length d] 47))) := by
    obtain ⟨t1, t2⟩ := Sp.fc_new (w.alloc (Obj.cells #[.slice p.A s.tasks.length p.a, .slice p.B s.leaves.length p.b, .slice p.C s.lasts.length p.c, .slice p.D s.jobs.length p.d, .slice p.E s.log.length p.e] 41)) P B
    rw [World.size_alloc] at t1 t2
    have b := below_one ((w.alloc (Obj.cells #[.slice p.A s.tasks.length p.a, .slice p.B s.leaves.length p.b, .slice p.C s.lasts.length p.c, .slice p.D s.jobs.length p.d, .slice p.E s.log.length p.e] 41)).alloc (Obj.cells #[.int .i64 P, .int .i64 B] 23)) (Obj.cells #[.int .i64 x.1, .int .i64 x.2.1, .int .i64 x.2.2.1, .slice D x.2.2.2.length d] 47)
    obtain ⟨z1, z2, z3, z4⟩ := box_at ((w.alloc (Obj.cells #[.slice p.A s.tasks.length p.a, .slice p.B s.leaves.length p.b, .slice p.C s.lasts.length p.c, .slice p.D s.jobs.length p.d, .slice p.E s.log.length p.e] 41)).alloc (Obj.cells #[.int .i64 P, .int .i64 B] 23)) x.1 x.2.1 x.2.2.1 D x.2.2.2.length d (w.heap.size + 2) (by simp)
    exact ⟨HY.out.c0, cell_below b t1, cell_below b t2, z1, z2, z3, z4⟩
  have HS := Lib.hid (H.below B0.out)
  have HX2 := Lib.hid (hx.below B0.out)
  have HTR : ∀ u, rightT x = u → Hid (∀ W, Rd W D d x.2.2.2 → Calls Tryz.prog 46 #[.agg #[.int .i64 x.1, .int .i64 x.2.1, .int .i64 x.2.2.1, .slice D x.2.2.2.length d]] W fun e w' => e = .returned (.bool u) ∧ Below W.heap.size W w') := fun u hu W h => by
    have := Tk.refRight_any x.1 x.2.1 x.2.2.1 D d x.2.2.2 W (by omega) h
    rw [← hu]
    exact this
  have F1 := Lib.hid fx.1
  have F2 := Lib.hid fx.2.1
  have F3 := Lib.hid fx.2.2
  have HKB := Lib.hid hkb
  clear H hx fx hkb
  cases h1 : rightS s with
  | false =>
    rw [admE_bad (fun h => by rw [h1] at h; cases h.1)] at hv
    subst hv
    clear HTR
    go_enter Tryz.func16, Tryz.ntmps16
    go_upto_region 1 with fail
    generalize ((w.alloc (Obj.cells #[.slice p.A s.tasks.length p.a, .slice p.B s.leaves.length p.b, .slice p.C s.lasts.length p.c, .slice p.D s.jobs.length p.d, .slice p.E s.log.length p.e] 41)).alloc (Obj.cells #[.int .i64 P, .int .i64 B] 23)).alloc (Obj.cells #[.int .i64 x.1, .int .i64 x.2.1, .int .i64 x.2.2.1, .slice D x.2.2.2.length d] 47) = w0 at *
    obtain ⟨Y, hY⟩ : ∃ Y, w.heap.size = Y := ⟨_, rfl⟩
    obtain ⟨F, hF⟩ : ∃ F, Y + 1 = F := ⟨_, rfl⟩
    obtain ⟨X, hX⟩ : ∃ X, Y + 1 + 1 = X := ⟨_, rfl⟩
    rw [hY] at YB HY
    rw [hF] at YB
    rw [show Y + 2 = X from hX] at YB
    rw [hF] at hX
    rw [hY, hF, hX]
    clear hX hF hY
    obtain ⟨_, f1, f2, z1, z2, z3, z4⟩ := YB.out
    obtain ⟨y0, y1, y2, y3, y4⟩ := HY.out
    go_wp2_with fail
    clear f1 f2 z1 z2 z3 z4 y0 y1 y2 y3 y4
    refine (rightR_s p s _ h1 _ HS.out).mono ?_
    rintro e w3 ⟨rfl, b3⟩
    have BW := Lib.hid (below_step B0.out b3)
    replace YB := Lib.hid (YB.out.below b3)
    replace HY := Lib.hid (HY.out.below b3)
    replace HS := Lib.hid (HS.out.below b3)
    replace HX2 := Lib.hid (HX2.out.below b3)
    clear b3
    obtain ⟨_, f1, f2, z1, z2, z3, z4⟩ := YB.out
    obtain ⟨y0, y1, y2, y3, y4⟩ := HY.out
    go_wp2_with fail
    clear f1 f2 z1 z2 z3 z4 y0 y1 y2 y3 y4
    go_ret
    exact ⟨rfl, BW.out⟩
  | true =>
    cases h2 : Sp.rightB P B with
    | false =>
      rw [admE_bad (fun h => by rw [h2] at h; cases h.2.1)] at hv
      subst hv
      clear HTR
      go_enter Tryz.func16, Tryz.ntmps16
      go_upto_region 1 with fail
      generalize ((w.alloc (Obj.cells #[.slice p.A s.tasks.length p.a, .slice p.B s.leaves.length p.b, .slice p.C s.lasts.length p.c, .slice p.D s.jobs.length p.d, .slice p.E s.log.length p.e] 41)).alloc (Obj.cells #[.int .i64 P, .int .i64 B] 23)).alloc (Obj.cells #[.int .i64 x.1, .int .i64 x.2.1, .int .i64 x.2.2.1, .slice D x.2.2.2.length d] 47) = w0 at *
      obtain ⟨Y, hY⟩ : ∃ Y, w.heap.size = Y := ⟨_, rfl⟩
      obtain ⟨F, hF⟩ : ∃ F, Y + 1 = F := ⟨_, rfl⟩
      obtain ⟨X, hX⟩ : ∃ X, Y + 1 + 1 = X := ⟨_, rfl⟩
      rw [hY] at YB HY
      rw [hF] at YB
      rw [show Y + 2 = X from hX] at YB
      rw [hF] at hX
      rw [hY, hF, hX]
      clear hX hF hY
      obtain ⟨_, f1, f2, z1, z2, z3, z4⟩ := YB.out
      obtain ⟨y0, y1, y2, y3, y4⟩ := HY.out
      go_wp2_with fail
      clear f1 f2 z1 z2 z3 z4 y0 y1 y2 y3 y4
      refine (rightR_s p s _ h1 _ HS.out).mono ?_
      rintro e w3 ⟨rfl, b3⟩
      have BW := Lib.hid (below_step B0.out b3)
      replace YB := Lib.hid (YB.out.below b3)
      replace HY := Lib.hid (HY.out.below b3)
      replace HS := Lib.hid (HS.out.below b3)
      replace HX2 := Lib.hid (HX2.out.below b3)
      clear b3
      obtain ⟨_, f1, f2, z1, z2, z3, z4⟩ := YB.out
      obtain ⟨y0, y1, y2, y3, y4⟩ := HY.out
      go_wp2_with fail
      clear f1 f2 z1 z2 z3 z4 y0 y1 y2 y3 y4
      refine (Sp.refRight_v P B _ h2 _).mono ?_
      rintro e w4 ⟨rfl, b3⟩
      have BW2 := Lib.hid (below_step BW.out b3)
      replace YB := Lib.hid (YB.out.below b3)
      replace HY := Lib.hid (HY.out.below b3)
      replace HX2 := Lib.hid (HX2.out.below b3)
      replace HS := Lib.hid (HS.out.below b3)
      clear b3
      obtain ⟨_, f1, f2, z1, z2, z3, z4⟩ := YB.out
      obtain ⟨y0, y1, y2, y3, y4⟩ := HY.out
      go_wp2_with fail
      clear f1 f2 z1 z2 z3 z4 y0 y1 y2 y3 y4
      go_ret
      exact ⟨rfl, BW2.out⟩
    | true =>
      cases h3 : rightT x with
      | false =>
        rw [admE_bad (fun h => by rw [h3] at h; cases h.2.2)] at hv
        subst hv
        replace HTR := HTR _ h3
        go_enter Tryz.func16, Tryz.ntmps16
        go_upto_region 1 with fail
        generalize ((w.alloc (Obj.cells #[.slice p.A s.tasks.length p.a, .slice p.B s.leaves.length p.b, .slice p.C s.lasts.length p.c, .slice p.D s.jobs.length p.d, .slice p.E s.log.length p.e] 41)).alloc (Obj.cells #[.int .i64 P, .int .i64 B] 23)).alloc (Obj.cells #[.int .i64 x.1, .int .i64 x.2.1, .int .i64 x.2.2.1, .slice D x.2.2.2.length d] 47) = w0 at *
        obtain ⟨Y, hY⟩ : ∃ Y, w.heap.size = Y := ⟨_, rfl⟩
        obtain ⟨F, hF⟩ : ∃ F, Y + 1 = F := ⟨_, rfl⟩
        obtain ⟨X, hX⟩ : ∃ X, Y + 1 + 1 = X := ⟨_, rfl⟩
        rw [hY] at YB HY
        rw [hF] at YB
        rw [show Y + 2 = X from hX] at YB
        rw [hF] at hX
        rw [hY, hF, hX]
        clear hX hF hY
        obtain ⟨_, f1, f2, z1, z2, z3, z4⟩ := YB.out
        obtain ⟨y0, y1, y2, y3, y4⟩ := HY.out
        go_wp2_with fail
        clear f1 f2 z1 z2 z3 z4 y0 y1 y2 y3 y4
        refine (rightR_s p s _ h1 _ HS.out).mono ?_
        rintro e w3 ⟨rfl, b3⟩
        have BW := Lib.hid (below_step B0.out b3)
        replace YB := Lib.hid (YB.out.below b3)
        replace HY := Lib.hid (HY.out.below b3)
        replace HS := Lib.hid (HS.out.below b3)
        replace HX2 := Lib.hid (HX2.out.below b3)
        clear b3
        obtain ⟨_, f1, f2, z1, z2, z3, z4⟩ := YB.out
        obtain ⟨y0, y1, y2, y3, y4⟩ := HY.out
        go_wp2_with fail
        clear f1 f2 z1 z2 z3 z4 y0 y1 y2 y3 y4
        refine (Sp.refRight_v P B _ h2 _).mono ?_
        rintro e w4 ⟨rfl, b3⟩
        have BW2 := Lib.hid (below_step BW.out b3)
        replace YB := Lib.hid (YB.out.below b3)
        replace HY := Lib.hid (HY.out.below b3)
        replace HX2 := Lib.hid (HX2.out.below b3)
        replace HS := Lib.hid (HS.out.below b3)
        clear b3
        obtain ⟨_, f1, f2, z1, z2, z3, z4⟩ := YB.out
        obtain ⟨y0, y1, y2, y3, y4⟩ := HY.out
        go_wp2_with fail
        clear f1 f2 z1 z2 z3 z4 y0 y1 y2 y3 y4
        refine (HTR.out _ HX2.out).mono ?_
        rintro e w5 ⟨rfl, b3⟩
        have BW3 := Lib.hid (below_step BW2.out b3)
        replace YB := Lib.hid (YB.out.below b3)
        replace HY := Lib.hid (HY.out.below b3)
        replace HX2 := Lib.hid (HX2.out.below b3)
        replace HS := Lib.hid (HS.out.below b3)
        clear b3
        obtain ⟨_, f1, f2, z1, z2, z3, z4⟩ := YB.out
        obtain ⟨y0, y1, y2, y3, y4⟩ := HY.out
        go_wp2_with fail
        clear f1 f2 z1 z2 z3 z4 y0 y1 y2 y3 y4
        go_ret
        exact ⟨rfl, BW3.out⟩
      | true =>
        replace HTR := HTR _ h3
        by_cases h8 : 8 ≤ s.tasks.length
        · rw [admE_full ⟨h1, h2, h3⟩ h8] at hv
          subst hv
          have i1 : (8 : Int) ≤ (s.tasks.length : Int) := by omega
          clear h8
          go_enter Tryz.func16, Tryz.ntmps16
          go_upto_region 1 with fail
          generalize ((w.alloc (Obj.cells #[.slice p.A s.tasks.length p.a, .slice p.B s.leaves.length p.b, .slice p.C s.lasts.length p.c, .slice p.D s.jobs.length p.d, .slice p.E s.log.length p.e] 41)).alloc (Obj.cells #[.int .i64 P, .int .i64 B] 23)).alloc (Obj.cells #[.int .i64 x.1, .int .i64 x.2.1, .int .i64 x.2.2.1, .slice D x.2.2.2.length d] 47) = w0 at *
          obtain ⟨Y, hY⟩ : ∃ Y, w.heap.size = Y := ⟨_, rfl⟩
          obtain ⟨F, hF⟩ : ∃ F, Y + 1 = F := ⟨_, rfl⟩
          obtain ⟨X, hX⟩ : ∃ X, Y + 1 + 1 = X := ⟨_, rfl⟩
          rw [hY] at YB HY
          rw [hF] at YB
          rw [show Y + 2 = X from hX] at YB
          rw [hF] at hX
          rw [hY, hF, hX]
          clear hX hF hY
          obtain ⟨_, f1, f2, z1, z2, z3, z4⟩ := YB.out
          obtain ⟨y0, y1, y2, y3, y4⟩ := HY.out
          go_wp2_with fail
          clear f1 f2 z1 z2 z3 z4 y0 y1 y2 y3 y4
          refine (rightR_s p s _ h1 _ HS.out).mono ?_
          rintro e w3 ⟨rfl, b3⟩
          have BW := Lib.hid (below_step B0.out b3)
          replace YB := Lib.hid (YB.out.below b3)
          replace HY := Lib.hid (HY.out.below b3)
          replace HS := Lib.hid (HS.out.below b3)
          replace HX2 := Lib.hid (HX2.out.below b3)
          clear b3
          obtain ⟨_, f1, f2, z1, z2, z3, z4⟩ := YB.out
          obtain ⟨y0, y1, y2, y3, y4⟩ := HY.out
          go_wp2_with fail
          clear f1 f2 z1 z2 z3 z4 y0 y1 y2 y3 y4
          refine (Sp.refRight_v P B _ h2 _).mono ?_
          rintro e w4 ⟨rfl, b3⟩
          have BW2 := Lib.hid (below_step BW.out b3)
          replace YB := Lib.hid (YB.out.below b3)
          replace HY := Lib.hid (HY.out.below b3)
          replace HX2 := Lib.hid (HX2.out.below b3)
          replace HS := Lib.hid (HS.out.below b3)
          clear b3
          obtain ⟨_, f1, f2, z1, z2, z3, z4⟩ := YB.out
          obtain ⟨y0, y1, y2, y3, y4⟩ := HY.out
          go_wp2_with fail
          clear f1 f2 z1 z2 z3 z4 y0 y1 y2 y3 y4
          refine (HTR.out _ HX2.out).mono ?_
          rintro e w5 ⟨rfl, b3⟩
          have BW3 := Lib.hid (below_step BW2.out b3)
          replace YB := Lib.hid (YB.out.below b3)
          replace HY := Lib.hid (HY.out.below b3)
          replace HX2 := Lib.hid (HX2.out.below b3)
          replace HS := Lib.hid (HS.out.below b3)
          clear b3
          obtain ⟨_, f1, f2, z1, z2, z3, z4⟩ := YB.out
          obtain ⟨y0, y1, y2, y3, y4⟩ := HY.out
          go_wp2_with fail
          clear f1 f2 z1 z2 z3 z4 y0 y1 y2 y3 y4
          go_ret
          exact ⟨rfl, BW3.out⟩
        · have i1 : ¬ (8 : Int) ≤ (s.tasks.length : Int) := by omega
          have HE1 := Lib.hid (fun hb => (admE_began ⟨h1, h2, h3⟩ h8 hb).symm.trans hv)
          have HE2 := Lib.hid (fun hb => (admE_fit ⟨h1, h2, h3⟩ h8 hb).symm.trans hv)
          clear hv
          go_enter Tryz.func16, Tryz.ntmps16
          go_upto_region 1 with fail
          generalize ((w.alloc (Obj.cells #[.slice p.A s.tasks.length p.a, .slice p.B s.leaves.length p.b, .slice p.C s.lasts.length p.c, .slice p.D s.jobs.length p.d, .slice p.E s.log.length p.e] 41)).alloc (Obj.cells #[.int .i64 P, .int .i64 B] 23)).alloc (Obj.cells #[.int .i64 x.1, .int .i64 x.2.1, .int .i64 x.2.2.1, .slice D x.2.2.2.length d] 47) = w0 at *
          obtain ⟨Y, hY⟩ : ∃ Y, w.heap.size = Y := ⟨_, rfl⟩
          obtain ⟨F, hF⟩ : ∃ F, Y + 1 = F := ⟨_, rfl⟩
          obtain ⟨X, hX⟩ : ∃ X, Y + 1 + 1 = X := ⟨_, rfl⟩
          rw [hY] at YB HY
          rw [hF] at YB
          rw [show Y + 2 = X from hX] at YB
          rw [hF] at hX
          rw [hY, hF, hX]
          clear hX hF hY
          obtain ⟨_, f1, f2, z1, z2, z3, z4⟩ := YB.out
          obtain ⟨y0, y1, y2, y3, y4⟩ := HY.out
          go_wp2_with fail
          clear f1 f2 z1 z2 z3 z4 y0 y1 y2 y3 y4
          refine (rightR_s p s _ h1 _ HS.out).mono ?_
          rintro e w3 ⟨rfl, b3⟩
          have BW := Lib.hid (below_step B0.out b3)
          replace YB := Lib.hid (YB.out.below b3)
          replace HY := Lib.hid (HY.out.below b3)
          replace HS := Lib.hid (HS.out.below b3)
          replace HX2 := Lib.hid (HX2.out.below b3)
          clear b3
          obtain ⟨_, f1, f2, z1, z2, z3, z4⟩ := YB.out
          obtain ⟨y0, y1, y2, y3, y4⟩ := HY.out
          go_wp2_with fail
          clear f1 f2 z1 z2 z3 z4 y0 y1 y2 y3 y4
          refine (Sp.refRight_v P B _ h2 _).mono ?_
          rintro e w4 ⟨rfl, b3⟩
          have BW2 := Lib.hid (below_step BW.out b3)
          replace YB := Lib.hid (YB.out.below b3)
          replace HY := Lib.hid (HY.out.below b3)
          replace HX2 := Lib.hid (HX2.out.below b3)
          replace HS := Lib.hid (HS.out.below b3)
          clear b3
          obtain ⟨_, f1, f2, z1, z2, z3, z4⟩ := YB.out
          obtain ⟨y0, y1, y2, y3, y4⟩ := HY.out
          go_wp2_with fail
          clear f1 f2 z1 z2 z3 z4 y0 y1 y2 y3 y4
          refine (HTR.out _ HX2.out).mono ?_
          rintro e w5 ⟨rfl, b3⟩
          have BW3 := Lib.hid (below_step BW2.out b3)
          replace YB := Lib.hid (YB.out.below b3)
          replace HY := Lib.hid (HY.out.below b3)
          replace HX2 := Lib.hid (HX2.out.below b3)
          replace HS := Lib.hid (HS.out.below b3)
          clear b3
          obtain ⟨_, f1, f2, z1, z2, z3, z4⟩ := YB.out
          obtain ⟨y0, y1, y2, y3, y4⟩ := HY.out
          go_wp2_with fail
          clear f1 f2 z1 z2 z3 z4 y0 y1 y2 y3 y4
          generalize w5 = u0 at *
          go_loopw [7] (fun i wr => ∃ k : Nat, i = .int .i64 k ∧ k ≤ s.jobs.length ∧ Hid (∀ j, j < k → begJ (at_ s.jobs j) = false) ∧ Hid (Below u0.heap.size u0 wr)) (fun i _ => s.jobs.length - (intOf i).toNat)
          case atStart => exact ⟨0, rfl, Nat.zero_le _, (fun j h => by omega), Below.refl _ _⟩
          case round =>
            obtain ⟨k, rfl, hk, HH, HB⟩ := hrel
            by_cases hlt : k < s.jobs.length
            · obtain ⟨b, off, e1, hc⟩ := job_at (HS.out.2.j.below HB.out) (by omega)
              have c5 := (hc k hlt).1.c5
              clear hc
              have y3 := cell_below HB.out HY.out.c3
              rw [e1] at y3
              clear e1
              have j1 : (0 : Int) ≤ (k : Int) := by omega
              have j2 : (k : Int) < (s.jobs.length : Int) := by omega
              cases hb : (at_ s.jobs k).2.2.2.2.2 with
              | true =>
                have e9 := HE1.out (began_yes hlt hb)
                subst e9
                rw [hb] at c5
                clear hb
                go_wp2_with fail
                go_ret
                exact ⟨rfl, below_step BW3.out HB.out⟩
              | false =>
                have HQ := Lib.hid hb
                have j3 : (s.jobs.length : Int) ≤ 100000 := by have := HS.out.1.j; omega
                rw [hb] at c5
                clear hb
                go_wp2_with fail
                go_roundw
                case rel =>
                  refine ⟨k + 1, by go_num, hlt, fun j hj => ?_, HB⟩
                  by_cases e : j = k
                  · subst e; exact HQ.out
                  · exact HH.out j (by omega)
                case measure => (simp [intOf] <;> omega)
            · have hn := HE2.out (began_no fun j hj => HH.out j (by omega))
              have hL8 : s.tasks.length ≤ 8 := by omega
              have HTS := Lib.hid (fun j hj => (show (at_ s.tasks j).2.2.2.length ≤ 100000 from HS.out.1.ts j hj))
              have HL8 := Lib.hid hL8
              replace YB := Lib.hid (YB.out.below HB.out)
              have HR2 : Hid (Rd wr p.A p.a s.tasks) := (HS.out.2.t.below HB.out)
              replace HX2 := Lib.hid (HX2.out.below HB.out)
              have y3 := cell_below HB.out HY.out.c3
              have BW4 := Lib.hid (below_step BW3.out HB.out)
              have HN2 := Lib.hid hn
              clear HY HS HH HB hn hL8 HE1 HE2
              go_upto_region 10 with fail
              clear y3
              generalize s.tasks = L at *
              obtain ⟨n, hn⟩ : ∃ n, L.length = n := ⟨_, rfl⟩
              have HN := Lib.hid hn
              have n8 : n ≤ 8 := by have := HL8.out; omega
              rw [hn] at YB ⊢
              have n1 : Hid (0 + n ≤ maxLen) := by show _ ≤ _; unfold maxLen; omega
              have n2 : Hid (n + 1 ≤ maxLen) := by show _ ≤ _; unfold maxLen; omega
              have m1 : Hid ((0 + n) * 48 ≤ 140737488355328) := by show _ ≤ _; omega
              have m2 : Hid ((n + 1) * 48 ≤ 140737488355328) := by show _ ≤ _; omega
              have HLM : Hid ((L ++ [x]).length = n + 1) := by show _ = _; rw [List.length_append, hn]; rfl
              have HTM : Hid (∀ W A c, Rd W A c (L ++ [x]) → TL W A c (L ++ [x])) := fun W A c h => ⟨by rw [HLM.out]; omega, fun j hj => by
                rw [HLM.out] at hj
                by_cases e : j < L.length
                · rw [at_left e]; have := HTS.out j e; omega
                · have e2 : j = L.length := by omega
                  subst e2
                  rw [at_right (Nat.le_refl _), Nat.sub_self]
                  have := HKB.out
                  show x.2.2.2.length ≤ _
                  omega, h⟩
              clear hn n8 HL8 HTS
              generalize wr = w2 at *
              have OA : Hid (OwN (w2.drew.alloc (Obj.cells #[] 47)) w2.heap.size 47 (some ⟨w2.heap.size, 0, none⟩) 0 ([] : List Tsk)) := own_lit0 w2.drew 47
              have OB := Lib.hid (OA.out.below (below_one _ (Obj.cells #[.int .i64 x.1, .int .i64 x.2.1, .int .i64 x.2.2.1, .slice D x.2.2.2.length d] 47)))
              have BR : Hid (Below w2.heap.size w2 w2.drew) := (Below.refl _ w2).drew
              have BA : Hid (Below w2.heap.size w2 (w2.drew.alloc (Obj.cells #[] 47))) := (Below.refl _ w2).drew.alloc (Nat.le_refl _) _
              have BX : Hid (Below w2.heap.size w2 (w2.drew.alloc (Obj.cells #[.int .i64 x.1, .int .i64 x.2.1, .int .i64 x.2.2.1, .slice D x.2.2.2.length d] 47))) := (Below.refl _ w2).drew.alloc (Nat.le_refl _) _
              have BB := Lib.hid (BA.out.alloc BA.out.size (Obj.cells #[.int .i64 x.1, .int .i64 x.2.1, .int .i64 x.2.2.1, .slice D x.2.2.2.length d] 47))
              have BC := Lib.hid (BX.out.alloc BX.out.size (Obj.cells #[] 47))
              have OC : Hid (OwN ((w2.drew.alloc (Obj.cells #[.int .i64 x.1, .int .i64 x.2.1, .int .i64 x.2.2.1, .slice D x.2.2.2.length d] 47)).alloc (Obj.cells #[] 47)) w2.heap.size 47 (some ⟨w2.heap.size + 1, 0, none⟩) 0 ([] : List Tsk)) := by
                have h := (own_lit0 (β := Tsk) (w2.drew.alloc (Obj.cells #[.int .i64 x.1, .int .i64 x.2.1, .int .i64 x.2.2.1, .slice D x.2.2.2.length d] 47)) 47).rebase (base' := w2.heap.size) BX.out.size
                rw [World.size_alloc] at h
                exact h
              have RA := Lib.hid (rd_else (A1 := some ⟨w2.heap.size, 0, none⟩) HR2.out BA.out (fun g hg => (OwN.new OA.out g hg).1))
              have RB := Lib.hid (rd_else (A1 := some ⟨w2.heap.size, 0, none⟩) HR2.out BB.out (fun g hg => (OwN.new OB.out g hg).1))
              have RC := Lib.hid (rd_else (A1 := some ⟨w2.heap.size + 1, 0, none⟩) HR2.out BC.out (fun g hg => (OwN.new OC.out g hg).1))
              have XB : Hid (Box ((w2.drew.alloc (Obj.cells #[] 47)).alloc (Obj.cells #[.int .i64 x.1, .int .i64 x.2.1, .int .i64 x.2.2.1, .slice D x.2.2.2.length d] 47)) (w2.heap.size + 1) x.1 x.2.1 x.2.2.1 D x.2.2.2.length d) := box_at _ _ _ _ _ _ _ _ (by simp)
              have XC : Hid (Box ((w2.drew.alloc (Obj.cells #[.int .i64 x.1, .int .i64 x.2.1, .int .i64 x.2.2.1, .slice D x.2.2.2.length d] 47)).alloc (Obj.cells #[] 47)) w2.heap.size x.1 x.2.1 x.2.2.1 D x.2.2.2.length d) := (box_at w2.drew _ _ _ _ _ _ w2.heap.size rfl).below (below_one _ _)
              have nB : Hid (∀ g, (some ⟨w2.heap.size, 0, none⟩ : Option Addr) = some ⟨g, 0, none⟩ ∨ g = ((w2.drew.alloc (Obj.cells #[] 47)).alloc (Obj.cells #[.int .i64 x.1, .int .i64 x.2.1, .int .i64 x.2.2.1, .slice D x.2.2.2.length d] 47)).heap.size → g ≠ w2.heap.size + 1) := fun g hg => by
                rcases hg with hg | hg
                · injection hg with hg; injection hg with hg; omega
                · rw [World.size_alloc, World.size_alloc] at hg; rw [hg]; show w2.heap.size + 1 + 1 ≠ _; omega
              have nC : Hid (∀ g, (some ⟨w2.heap.size + 1, 0, none⟩ : Option Addr) = some ⟨g, 0, none⟩ ∨ g = ((w2.drew.alloc (Obj.cells #[.int .i64 x.1, .int .i64 x.2.1, .int .i64 x.2.2.1, .slice D x.2.2.2.length d] 47)).alloc (Obj.cells #[] 47)).heap.size → g ≠ w2.heap.size) := fun g hg => by
                rcases hg with hg | hg
                · injection hg with hg; injection hg with hg; omega
                · rw [World.size_alloc, World.size_alloc] at hg; rw [hg]; show w2.heap.size + 1 + 1 ≠ _; omega
              have eB : Hid (some (w2.heap.size + 1) ≠ (Value.slice (some ⟨w2.heap.size, 0, none⟩) 0 0).ownBlock) := fun h => by
                have h' := Option.some.inj h
                simp only at h'
                omega
              have eC : Hid (some w2.heap.size ≠ (Value.slice (some ⟨w2.heap.size + 1, 0, none⟩) 0 0).ownBlock) := fun h => by
                have h' := Option.some.inj h
                simp only at h'
                omega
              go_region_held3 (fun w' => w'.cell? ⟨Y, 0, none⟩ = some (.slice p.A n p.a) ∧ w'.cell? ⟨F, 0, none⟩ = some (.int .i64 P) ∧ w'.cell? ⟨F, 1, none⟩ = some (.int .i64 B) ∧ w'.cell? ⟨X, 0, none⟩ = some (.int .i64 x.1) ∧ w'.cell? ⟨X, 1, none⟩ = some (.int .i64 x.2.1) ∧ w'.cell? ⟨X, 2, none⟩ = some (.int .i64 x.2.2.1) ∧ w'.cell? ⟨X, 3, none⟩ = some (.slice D x.2.2.2.length d))
                (first
                  | (exact Ld.below YB.out B7.out)
                  | (exact Ld.below YB.out Bz.out)
                  | (exact Ld.below YB.out (Ba.out.alloc Ba.out.size _))
                  | (exact Ld.below YB.out Ba.out)
                  | (exact Ld.below YB.out BB.out)
                  | (exact Ld.below YB.out BC.out)
                  | (exact Ld.below YB.out BA.out)
                  | (exact Ld.below YB.out BX.out)
                  | (exact Ld.below YB.out BR.out)
                  | (exact YB.out))
                (first
                  | (refine step_own_big slTaskB (by rfl) _ _ (by rfl) (base := w2.heap.size) (l := ([] : List Tsk)) (r := L) (n := 0) (m := n) rfl HN.out (by rfl) (by rfl) (by exact OA.out) (by exact RA.out) n1.out m1.out BA.out.size ?_
                     intro A5 c5 w5 k1 k2 k3
                     have Ba := Lib.hid (Below.grown (B := w2.heap.size) (a := w2) BA.out k2 BA.out.size (OwS.row OA.out))
                     have Oa : Hid (OwN w5 w2.heap.size 47 A5 c5 L) := k1
                     have O5 := Lib.hid (Oa.out.below (below_one w5 (Obj.cells #[.int .i64 x.1, .int .i64 x.2.1, .int .i64 x.2.2.1, .slice D x.2.2.2.length d] 47)))
                     have B5 := Lib.hid (Ba.out.alloc Ba.out.size (Obj.cells #[.int .i64 x.1, .int .i64 x.2.1, .int .i64 x.2.2.1, .slice D x.2.2.2.length d] 47))
                     have R5 := Lib.hid (lit_else F1.out F2.out F3.out (box_new w5 x.1 x.2.1 x.2.2.1 D x.2.2.2.length d) (fun h => absurd (OwN.new Oa.out _ h).2 (Nat.lt_irrefl _)) (rd_else HX2.out B5.out (fun g hg => (OwN.new Oa.out g hg).1)))
                     rw [Nat.zero_add]
                     clear k1 k2 k3)
                  | (refine step_own_big slTaskB (by rfl) _ _ (by rfl) (base := w2.heap.size) (l := ([] : List Tsk)) (r := L) (n := 0) (m := n) rfl HN.out (by rfl) (by rfl) (by exact OB.out) (by exact RB.out) n1.out m1.out BB.out.size ?_
                     intro A5 c5 w5 k1 k2 k3
                     have Ba := Lib.hid (Below.grown (B := w2.heap.size) (a := w2) BB.out k2 BB.out.size (OwS.row OB.out))
                     have B5 := Ba
                     have O5 : Hid (OwN w5 w2.heap.size 47 A5 c5 L) := k1
                     have R5 := Lib.hid (lit_else F1.out F2.out F3.out (Box.gb XB.out k2 eB.out) (fun h => nB.out _ (k3 _ h) rfl) (rd_else HX2.out B5.out (fun g hg => (OwN.new O5.out g hg).1)))
                     rw [Nat.zero_add]
                     clear k1 k2 k3)
                  | (refine step_own_big slTaskB (by rfl) _ _ (by rfl) (base := w2.heap.size) (l := ([] : List Tsk)) (r := L) (n := 0) (m := n) rfl HN.out (by rfl) (by rfl) (by exact OC.out) (by exact RC.out) n1.out m1.out BC.out.size ?_
                     intro A5 c5 w5 k1 k2 k3
                     have Ba := Lib.hid (Below.grown (B := w2.heap.size) (a := w2) BC.out k2 BC.out.size (OwS.row OC.out))
                     have B5 := Ba
                     have O5 : Hid (OwN w5 w2.heap.size 47 A5 c5 L) := k1
                     have R5 := Lib.hid (lit_else F1.out F2.out F3.out (Box.gb XC.out k2 eC.out) (fun h => nC.out _ (k3 _ h) rfl) (rd_else HX2.out B5.out (fun g hg => (OwN.new O5.out g hg).1)))
                     rw [Nat.zero_add]
                     clear k1 k2 k3)
                  | (refine step_own_big slTaskB (by rfl) _ _ (by rfl) (base := w2.heap.size) (l := L) (r := [x]) (n := n) (m := 1) HN.out rfl (by rfl) (by rfl) (by exact O5.out) (by exact R5.out) n2.out m2.out B5.out.size ?_
                     intro A6 c6 w6 k1 k2 k3
                     have Bz := Lib.hid (Below.grown (B := w2.heap.size) (a := w2) B5.out k2 B5.out.size (fun k hk => OwS.row O5.out k (by rw [HN.out]; exact hk)))
                     have R6 := Lib.hid k1.rd
                     clear k1 k2 k3)
                  | (go_at_call 31
                     refine (refFit_v A6 c6 (L ++ [x]) P B v (HN2.out) (n + 1) HLM.out _ (HTM.out _ _ _ R6.out)).mono ?_
                     rintro e w7 ⟨rfl, b7⟩
                     have B7 := Lib.hid (below_step Bz.out b7)
                     clear b7)
                  )
              all_goals
                go_wp2_with fail
                go_ret
                exact ⟨rfl, below_step BW4.out B7.out⟩

end Pm
end Go.Proofs.YtdjjdebnbaaihaaGreat

/-
  Layer 20: how great a state is that is looked at; the longer list.
-/
namespace Go.Proofs.YtdjjdebnbaaihaaGreat
open Go.RowKit Mm Tk
namespace Pm
theorem greatS_no {s : St} (h : greatS s = false) : Sz s := by
  unfold greatS at h
  simp only [Bool.or_eq_false_iff, decide_eq_false_iff_not] at h
  obtain ⟨h1, h2, h3, h4, h5⟩ := h
  obtain ⟨g1, g2⟩ := great_no h1
  exact ⟨by omega, fun j hj => by have := g2 j hj; omega, by omega, by omega, by omega, by omega⟩
theorem great20_v (A : Option Addr) (c : Nat) (L : List Tsk) (v : Bool) (hv : greatB L = v) (n : Nat) (hn : L.length = n) (w : World) (hr : Rd w A c L) :
    Calls Tryz.prog 6 #[.slice A n c] w fun e w' => e = .returned (.bool v) ∧ Below w.heap.size w w' := by
  subst hv; subst hn
  exact great_any A c L w hr
/-- the longer list, in new memory -/
def MoreV (w : World) (M : List Tsk) (n : Nat) (v : Value) (w' : World) : Prop := ∃ A c, v = .slice A n c ∧ Rd w' A c M ∧ Below w.heap.size w w'
end Pm
end Go.Proofs.YtdjjdebnbaaihaaGreat

