/-
  Merged texts: Law20More, Law20Began, Law20Great, Law20Part.
-/
import Derived.Test.YtdjjdebnbaaihaaGadmit
import Derived.Test.YtdjjdebnbaaihaaGtask
import Derived.Test.YtdjjdebnbaaihaaGlaw17
import Derived.Test.YtdjjdebnbaaihaaGpart
import Derived.Deep.DeepCutAuto
import Derived.Test.YtdjjdebnbaaihaaGlaw05
/-
  Layer 20: what a region loads that makes 'append(append([]api.Task{}, l...), t)': the caller's list, the task, the interface.
-/
namespace Go.Proofs.Ytdjjdebnbaaihaa
open Go.RowKit Mm Tk Vd
namespace Pm

/-- the state's tasks in block Y, the interface in block F, the task in block X -/
def Ld (Y F X : Nat) (A : Option Addr) (n a : Nat) (P B : Int) (x : Tsk) (D : Option Addr) (d : Nat) (w : World) : Prop :=
  w.cell? ⟨Y, 0, none⟩ = some (.slice A n a) ∧ w.cell? ⟨F, 0, none⟩ = some (.int .i64 P) ∧ w.cell? ⟨F, 1, none⟩ = some (.int .i64 B) ∧
  w.cell? ⟨X, 0, none⟩ = some (.int .i64 x.1) ∧ w.cell? ⟨X, 1, none⟩ = some (.int .i64 x.2.1) ∧ w.cell? ⟨X, 2, none⟩ = some (.int .i64 x.2.2.1) ∧ w.cell? ⟨X, 3, none⟩ = some (.slice D x.2.2.2.length d)
theorem Ld.below {Y F X : Nat} {A : Option Addr} {n a : Nat} {P B : Int} {x : Tsk} {D : Option Addr} {d : Nat} {w w' : World} (h : Ld Y F X A n a P B x D d w) (b : Below w.heap.size w w') : Ld Y F X A n a P B x D d w' :=
  ⟨cell_below b h.1, cell_below b h.2.1, cell_below b h.2.2.1, cell_below b h.2.2.2.1, cell_below b h.2.2.2.2.1, cell_below b h.2.2.2.2.2.1, cell_below b h.2.2.2.2.2.2⟩
theorem admE_bad {s : St} {P B : Int} {x : Tsk} (h : ¬ (rightS s = true ∧ Sp.rightB P B = true ∧ rightT x = true)) : admE s P B x = 1 := by unfold admE; rw [if_neg h]
theorem admE_full {s : St} {P B : Int} {x : Tsk} (h : rightS s = true ∧ Sp.rightB P B = true ∧ rightT x = true) (h8 : 8 ≤ s.tasks.length) : admE s P B x = 3 := by unfold admE; rw [if_pos h, if_pos h8]
theorem admE_began {s : St} {P B : Int} {x : Tsk} (h : rightS s = true ∧ Sp.rightB P B = true ∧ rightT x = true) (h8 : ¬ 8 ≤ s.tasks.length) (hb : (s.jobs.any fun j => begJ j) = true) : admE s P B x = 9 := by unfold admE; rw [if_pos h, if_neg h8, if_pos hb]
theorem admE_fit {s : St} {P B : Int} {x : Tsk} (h : rightS s = true ∧ Sp.rightB P B = true ∧ rightT x = true) (h8 : ¬ 8 ≤ s.tasks.length) (hb : (s.jobs.any fun j => begJ j) = false) : admE s P B x = fitE (s.tasks ++ [x]) P B := by rw [admE_parts, if_pos h, if_neg h8, hb]; rfl
theorem began_yes {l : List Jb} {k : Nat} (hk : k < l.length) (h : begJ (at_ l k) = true) : (l.any fun j => begJ j) = true := List.any_eq_true.2 ⟨_, at_mem hk, h⟩
theorem began_no {l : List Jb} (h : ∀ j, j < l.length → begJ (at_ l j) = false) : (l.any fun j => begJ j) = false := by
  cases e : l.any fun j => begJ j with
  | false => rfl
  | true =>
    obtain ⟨y, hy, hb⟩ := List.any_eq_true.1 e
    obtain ⟨j, hj, e2⟩ := mem_at hy
    rw [← e2, h j hj] at hb
    cases hb

end Pm
end Go.Proofs.Ytdjjdebnbaaihaa

/-
  Layer 20: the helper began: did a job begin?; a state that takes another one's tasks.
-/
namespace Go.Proofs.Ytdjjdebnbaaihaa
open Go.RowKit Mm Tk Vd
namespace Pm

set_option maxRecDepth 20000 in
set_option maxHeartbeats 1600000 in
theorem beganS_v (p : Pl) (s : St) (v : Bool) (hv : (s.jobs.any fun j => begJ j) = v) (w : World) (H : SR w p s) :
    Calls Try.prog 10 #[(.agg #[.slice p.A s.tasks.length p.a, .slice p.B s.leaves.length p.b, .slice p.C s.lasts.length p.c, .slice p.D s.jobs.length p.d, .slice p.E s.log.length p.e])] w fun e w' => e = .returned (.bool v) ∧ Below w.heap.size w w' := by
  have B0 := Lib.hid (below_one w (Obj.cells #[.slice p.A s.tasks.length p.a, .slice p.B s.leaves.length p.b, .slice p.C s.lasts.length p.c, .slice p.D s.jobs.length p.d, .slice p.E s.log.length p.e] 28))
  have HY := Lib.hid (cs_new w p s _ 28 rfl)
  have HS := Lib.hid (H.below B0.out)
  have HE := Lib.hid hv
  clear H hv
  go_enter Try.func10, Try.ntmps10
  go_upto_region 1 with fail
  generalize w.alloc (Obj.cells #[.slice p.A s.tasks.length p.a, .slice p.B s.leaves.length p.b, .slice p.C s.lasts.length p.c, .slice p.D s.jobs.length p.d, .slice p.E s.log.length p.e] 28) = w0 at *
  obtain ⟨Y, hY⟩ : ∃ Y, w.heap.size = Y := ⟨_, rfl⟩
  rw [hY] at HY
  rw [hY]
  clear hY
  go_wp2_with fail
  go_loopw [3] (fun i wr => ∃ k : Nat, i = .int .i64 k ∧ k ≤ s.jobs.length ∧ Hid (∀ j, j < k → begJ (at_ s.jobs j) = false) ∧ Hid (Below w0.heap.size w0 wr)) (fun i _ => s.jobs.length - (intOf i).toNat)
  case atStart => exact ⟨0, rfl, Nat.zero_le _, (fun j h => by omega), Below.refl _ _⟩
  case round =>
    obtain ⟨k, rfl, hk, HH, HB⟩ := hrel
    have y3 := cell_below HB.out HY.out.c3
    have j3 : (s.jobs.length : Int) ≤ 100000 := by have := HS.out.1.j; omega
    by_cases hlt : k < s.jobs.length
    · obtain ⟨b, off, e1, hc⟩ := job_at (HS.out.2.j.below HB.out) (by omega)
      have c5 := (hc k hlt).1.c5
      clear hc
      rw [e1] at y3
      clear e1
      have j1 : (0 : Int) ≤ (k : Int) := by omega
      have j2 : (k : Int) < (s.jobs.length : Int) := by omega
      cases hb : (at_ s.jobs k).2.2.2.2.2 with
      | true =>
        have e9 := HE.out.symm.trans (began_yes hlt hb)
        subst e9
        rw [hb] at c5
        clear hb
        go_wp2_with fail
        go_ret
        exact ⟨rfl, below_step B0.out HB.out⟩
      | false =>
        have HQ := Lib.hid hb
        rw [hb] at c5
        clear hb
        go_wp2_with fail
        go_roundw
        case rel =>
          refine ⟨k + 1, by go_num, hlt, fun j hj => ?_, HB⟩
          by_cases e : j = k
          · subst e; exact HQ.out
          · exact HH.out j (by omega)
        case measure => (simp [intOf] <;> omega)
    · have e9 := HE.out.symm.trans (began_no fun j hj => HH.out j (by omega))
      subst e9
      go_wp2_with fail
      go_ret
      exact ⟨rfl, below_step B0.out HB.out⟩

theorem Ld.gb {Y F X : Nat} {A : Option Addr} {n a : Nat} {P B : Int} {x : Tsk} {D : Option Addr} {d : Nat} {w w' : World} {row : Option Nat} (h : Ld Y F X A n a P B x D d w) (g : w.grownBy w' row) (h1 : some Y ≠ row) (h2 : some F ≠ row) (h3 : some X ≠ row) : Ld Y F X A n a P B x D d w' :=
  ⟨gb_cell g h.1 h1, gb_cell g h.2.1 h2, gb_cell g h.2.2.1 h2, gb_cell g h.2.2.2.1 h3, gb_cell g h.2.2.2.2.1 h3, gb_cell g h.2.2.2.2.2.1 h3, gb_cell g h.2.2.2.2.2.2 h3⟩
theorem CS.gb {w w' : World} {Y : Nat} {p : Pl} {s : St} {row : Option Nat} (h : CS w Y p s) (g : w.grownBy w' row) (hne : some Y ≠ row) : CS w' Y p s :=
  ⟨gb_cell g h.c0 hne, gb_cell g h.c1 hne, gb_cell g h.c2 hne, gb_cell g h.c3 hne, gb_cell g h.c4 hne⟩
/-- a state with another one's tasks -/
def tkP (q p : Pl) : Pl := { q with A := p.A, a := p.a }
def tkS (u s : St) : St := { u with tasks := s.tasks }
theorem Ys.takes {w : World} {Z : Nat} {q : Pl} {u : St} (h : Ys w Z q u) (p : Pl) (s : St) : Ys (w.setCell ⟨Z, 0, none⟩ (.slice p.A s.tasks.length p.a)) Z (tkP q p) (tkS u s) :=
  ⟨⟨cell_same _ h.c.c0, cell_set h.c.c1 (by omega), cell_set h.c.c2 (by omega), cell_set h.c.c3 (by omega), cell_set h.c.c4 (by omega)⟩, fun o => fr_set (h.f o)⟩
theorem Sz.takes {u s : St} (h : Sz u) (h2 : Sz s) : Sz (tkS u s) := ⟨h2.t, h2.ts, h.l, h.q, h.j, h.g⟩
theorem StS.takes {w : World} {S : Nat → Prop} {p q : Pl} {s u : St} (h : StS w S q u) (h2 : StS w S p s) : StS w S (tkP q p) (tkS u s) := ⟨h2.t, h.l, h.q, h.j, h.g⟩
/-- what is answered hangs on the tasks, and on whether a job began, alone -/
theorem adm_hangs {s u : St} (P B : Int) (x : Tsk) (h1 : rightS s = true) (h2 : rightS u = true) (ht : u.tasks = s.tasks) (hb : (s.jobs.any fun j => begJ j) = (u.jobs.any fun j => begJ j)) : admE u P B x = admE s P B x ∧ (admS u P B x).tasks = (admS s P B x).tasks := by
  have e : admE u P B x = admE s P B x := by
    unfold admE
    rw [h1, h2, ht, hb]
  refine ⟨e, ?_⟩
  unfold admS
  rw [e]
  split
  · show u.tasks ++ [x] = s.tasks ++ [x]
    rw [ht]
  · exact ht

end Pm
end Go.Proofs.Ytdjjdebnbaaihaa

/-
  Layer 20: how great a state is that is looked at; the longer list.
-/
namespace Go.Proofs.Ytdjjdebnbaaihaa
open Go.RowKit Mm Tk
namespace Pm
theorem greatS_no {s : St} (h : greatS s = false) : Sz s := by
  unfold greatS at h
  simp only [Bool.or_eq_false_iff, decide_eq_false_iff_not] at h
  obtain ⟨h1, h2, h3, h4, h5⟩ := h
  obtain ⟨g1, g2⟩ := great_no h1
  exact ⟨by omega, fun j hj => by have := g2 j hj; omega, by omega, by omega, by omega, by omega⟩
theorem great20_v (A : Option Addr) (c : Nat) (L : List Tsk) (v : Bool) (hv : greatB L = v) (n : Nat) (hn : L.length = n) (w : World) (hr : Rd w A c L) :
    Calls Try.prog 12 #[.slice A n c] w fun e w' => e = .returned (.bool v) ∧ Below w.heap.size w w' := by
  subst hv; subst hn
  exact great_any A c L w hr
/-- the longer list, in new memory -/
def MoreV (w : World) (M : List Tsk) (n : Nat) (v : Value) (w' : World) : Prop := ∃ A c, v = .slice A n c ∧ Rd w' A c M ∧ Below w.heap.size w w'
end Pm
end Go.Proofs.Ytdjjdebnbaaihaa

/-
  Layer 20: a partition in a box; Boot's error, in parts.
-/
namespace Go.Proofs.Ytdjjdebnbaaihaa
open Go.RowKit Mm Tk Vd
namespace Pm

theorem pt_new (w : World) (P B : Int) (A : Option Addr) (n c : Nat) : (w.alloc (Obj.cells #[.int .i64 P, .int .i64 B, .slice A n c] 47)).cell? ⟨w.heap.size, 0, none⟩ = some (.int .i64 P) ∧ (w.alloc (Obj.cells #[.int .i64 P, .int .i64 B, .slice A n c] 47)).cell? ⟨w.heap.size, 1, none⟩ = some (.int .i64 B) ∧ (w.alloc (Obj.cells #[.int .i64 P, .int .i64 B, .slice A n c] 47)).cell? ⟨w.heap.size, 2, none⟩ = some (.slice A n c) := by
  refine ⟨?_, ?_, ?_⟩ <;> simp
theorem bootE_face {L : List Tsk} {P B : Int} (h : Sp.rightB P B = false) : bootE L P B = 1 := by unfold bootE; rw [if_neg (by rw [h]; simp)]
theorem bootE_tasks {L : List Tsk} {P B : Int} (h : allB L = false) : bootE L P B = 1 := by unfold bootE; rw [if_neg (by rw [h]; simp)]
theorem bootE_fit {L : List Tsk} {P B : Int} (h : Sp.rightB P B = true) (h2 : allB L = true) : bootE L P B = fitE L P B := by unfold bootE; rw [if_pos ⟨h, h2⟩]

end Pm
end Go.Proofs.Ytdjjdebnbaaihaa

