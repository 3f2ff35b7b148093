/-
  For any state, any interface, any number and any task the statement AdmitChanges of layer 20 returns true (a task is let out, and changed, as the document says, or the error is told, and the state is as it was), and its arguments read as before. No condition.
-/
import Derived.Test.YtdjjdebnbaaihaaGreatGlaw05
import Derived.Test.YtdjjdebnbaaihaaGreatGlaw09
import Derived.Test.YtdjjdebnbaaihaaGreatGlaw17
import Derived.Test.YtdjjdebnbaaihaaGreatGlaw20
import Derived.Test.YtdjjdebnbaaihaaGreatGlaw20b
import Derived.Test.YtdjjdebnbaaihaaGreatGadmit
import Derived.Test.YtdjjdebnbaaihaaGreatGadmitb
import Derived.Test.YtdjjdebnbaaihaaGreatGpart
import Derived.Test.YtdjjdebnbaaihaaGreatGmem
import Derived.Deep.DeepCutAuto
namespace Go.Proofs.YtdjjdebnbaaihaaGreat.admitChanges
open Go.ChangeShapes Go.WideShapes Go.ChangeAt Go.RowKit
open Mm Tk Vd Pm

theorem chg_left {s : St} {P B : Int} {i : Int} {x : Tsk} {g : Nat} (h : leaveE s i = g) (h0 : g ≠ 0) : chgE s P B i x = g ∧ chgS s P B i x = s ∧ leaveS s i = s := by
  have e : chgE s P B i x = g := by unfold chgE; rw [h, if_pos h0]
  refine ⟨e, ?_, ?_⟩
  · unfold chgS; rw [e, if_neg h0]
  · unfold leaveS; rw [h, if_neg h0]
theorem chg_in {s : St} {P B : Int} {i : Int} {x : Tsk} (h : leaveE s i = 0) : chgE s P B i x = admE s P B x := by unfold chgE; rw [if_neg (by omega)]

set_option maxRecDepth 20000 in
set_option maxHeartbeats 4000000 in
theorem walk (p : Pl) (s : St) (P B i : Int) (D : Option Addr) (d : Nat) (x : Tsk) (w : World) (HS : StS w (fun _ => True) p s) (_ : Fit P) (_ : Fit B) (_ : Fit i) (fx1 : Fit x.1) (fx2 : Fit x.2.1) (fx3 : Fit x.2.2.1) (hx : Rd w D d x.2.2.2) (hz : s.tasks.length * 48 ≤ 140737488351232) :
    Calls Tryz.prog 5 #[(.agg #[.slice p.A s.tasks.length p.a, .slice p.B s.leaves.length p.b, .slice p.C s.lasts.length p.c, .slice p.D s.jobs.length p.d, .slice p.E s.log.length p.e]), .agg #[.int .i64 P, .int .i64 B], .int .i64 i, .agg #[.int .i64 x.1, .int .i64 x.2.1, .int .i64 x.2.2.1, .slice D x.2.2.2.length d]] w fun e w' => e = .returned (.bool true) ∧ Below w.heap.size w w' := by
  have B0 := Lib.hid (below_three w (Obj.cells #[.slice p.A s.tasks.length p.a, .slice p.B s.leaves.length p.b, .slice p.C s.lasts.length p.c, .slice p.D s.jobs.length p.d, .slice p.E s.log.length p.e] 35) (Obj.cells #[.int .i64 P, .int .i64 B] 23) (Obj.cells #[.int .i64 x.1, .int .i64 x.2.1, .int .i64 x.2.2.1, .slice D x.2.2.2.length d] 47))
  have HY := Lib.hid (((cs_new w p s _ 35 rfl).below (below_one _ (Obj.cells #[.int .i64 P, .int .i64 B] 23))).below (below_one _ (Obj.cells #[.int .i64 x.1, .int .i64 x.2.1, .int .i64 x.2.2.1, .slice D x.2.2.2.length d] 47)))
  have YB : Hid (Ld w.heap.size (w.heap.size + 1) (w.heap.size + 2) p.A s.tasks.length p.a P B x D d (((w.alloc (Obj.cells #[.slice p.A s.tasks.length p.a, .slice p.B s.leaves.length p.b, .slice p.C s.lasts.length p.c, .slice p.D s.jobs.length p.d, .slice p.E s.log.length p.e] 35)).alloc (Obj.cells #[.int .i64 P, .int .i64 B] 23)).alloc (Obj.cells #[.int .i64 x.1, .int .i64 x.2.1, .int .i64 x.2.2.1, .slice D x.2.2.2.length d] 47))) := by
    obtain ⟨t1, t2⟩ := Sp.fc_new (w.alloc (Obj.cells #[.slice p.A s.tasks.length p.a, .slice p.B s.leaves.length p.b, .slice p.C s.lasts.length p.c, .slice p.D s.jobs.length p.d, .slice p.E s.log.length p.e] 35)) P B
    rw [World.size_alloc] at t1 t2
    have b := below_one ((w.alloc (Obj.cells #[.slice p.A s.tasks.length p.a, .slice p.B s.leaves.length p.b, .slice p.C s.lasts.length p.c, .slice p.D s.jobs.length p.d, .slice p.E s.log.length p.e] 35)).alloc (Obj.cells #[.int .i64 P, .int .i64 B] 23)) (Obj.cells #[.int .i64 x.1, .int .i64 x.2.1, .int .i64 x.2.2.1, .slice D x.2.2.2.length d] 47)
    obtain ⟨z1, z2, z3, z4⟩ := box_at ((w.alloc (Obj.cells #[.slice p.A s.tasks.length p.a, .slice p.B s.leaves.length p.b, .slice p.C s.lasts.length p.c, .slice p.D s.jobs.length p.d, .slice p.E s.log.length p.e] 35)).alloc (Obj.cells #[.int .i64 P, .int .i64 B] 23)) x.1 x.2.1 x.2.2.1 D x.2.2.2.length d (w.heap.size + 2) (by simp)
    exact ⟨HY.out.c0, cell_below b t1, cell_below b t2, z1, z2, z3, z4⟩
  have HST := Lib.hid (HS.below B0.out)
  have HX2 := Lib.hid (hx.below B0.out)
  have F1 := Lib.hid fx1
  have F2 := Lib.hid fx2
  have F3 := Lib.hid fx3
  have n1 : Hid (0 + s.tasks.length ≤ maxLen) := by show _ ≤ _; unfold maxLen; omega
  have n2 : Hid (s.tasks.length + 1 ≤ maxLen) := by show _ ≤ _; unfold maxLen; omega
  have m1 : Hid ((0 + s.tasks.length) * 48 ≤ 140737488355328) := by show _ ≤ _; omega
  have m2 : Hid ((s.tasks.length + 1) * 48 ≤ 140737488355328) := by show _ ≤ _; omega
  clear HS hx fx1 fx2 fx3 hz
  go_enter Tryz.func5, Tryz.ntmps5
  go_upto_region 1 with fail
  generalize ((w.alloc (Obj.cells #[.slice p.A s.tasks.length p.a, .slice p.B s.leaves.length p.b, .slice p.C s.lasts.length p.c, .slice p.D s.jobs.length p.d, .slice p.E s.log.length p.e] 35)).alloc (Obj.cells #[.int .i64 P, .int .i64 B] 23)).alloc (Obj.cells #[.int .i64 x.1, .int .i64 x.2.1, .int .i64 x.2.2.1, .slice D x.2.2.2.length d] 47) = w2 at *
  obtain ⟨Y, hY⟩ : ∃ Y, w.heap.size = Y := ⟨_, rfl⟩
  obtain ⟨F, hF⟩ : ∃ F, Y + 1 = F := ⟨_, rfl⟩
  obtain ⟨X, hX⟩ : ∃ X, Y + 1 + 1 = X := ⟨_, rfl⟩
  rw [hY] at YB HY
  rw [hF] at YB
  rw [show Y + 2 = X from hX] at YB
  rw [hF] at hX
  rw [hY, hF, hX]
  clear hX hF hY
  obtain ⟨n, hn⟩ : ∃ n, s.tasks.length = n := ⟨_, rfl⟩
  have HN := Lib.hid hn
  rw [hn] at YB n1 n2 m1 m2 ⊢
  clear hn
  go_cut [9] (fun s7 wx => MoreV w2 (s.tasks ++ [x]) (n + 1) s7 wx)
  case first =>
    have HR2 : Hid (Rd w2 p.A p.a s.tasks) := HST.out.t
    clear HY HST
    generalize s.tasks = L at *
    have OA : Hid (OwN (w2.drew.alloc (Obj.cells #[] 47)) w2.heap.size 47 (some ⟨w2.heap.size, 0, none⟩) 0 ([] : List Tsk)) := own_lit0 w2.drew 47
    have OB := Lib.hid (OA.out.below (below_one _ (Obj.cells #[.int .i64 x.1, .int .i64 x.2.1, .int .i64 x.2.2.1, .slice D x.2.2.2.length d] 47)))
    have BR : Hid (Below w2.heap.size w2 w2.drew) := (Below.refl _ w2).drew
    have BA : Hid (Below w2.heap.size w2 (w2.drew.alloc (Obj.cells #[] 47))) := (Below.refl _ w2).drew.alloc (Nat.le_refl _) _
    have BX : Hid (Below w2.heap.size w2 (w2.drew.alloc (Obj.cells #[.int .i64 x.1, .int .i64 x.2.1, .int .i64 x.2.2.1, .slice D x.2.2.2.length d] 47))) := (Below.refl _ w2).drew.alloc (Nat.le_refl _) _
    have BB := Lib.hid (BA.out.alloc BA.out.size (Obj.cells #[.int .i64 x.1, .int .i64 x.2.1, .int .i64 x.2.2.1, .slice D x.2.2.2.length d] 47))
    have BC := Lib.hid (BX.out.alloc BX.out.size (Obj.cells #[] 47))
    have OC : Hid (OwN ((w2.drew.alloc (Obj.cells #[.int .i64 x.1, .int .i64 x.2.1, .int .i64 x.2.2.1, .slice D x.2.2.2.length d] 47)).alloc (Obj.cells #[] 47)) w2.heap.size 47 (some ⟨w2.heap.size + 1, 0, none⟩) 0 ([] : List Tsk)) := by
      have h := (own_lit0 (β := Tsk) (w2.drew.alloc (Obj.cells #[.int .i64 x.1, .int .i64 x.2.1, .int .i64 x.2.2.1, .slice D x.2.2.2.length d] 47)) 47).rebase (base' := w2.heap.size) BX.out.size
      rw [World.size_alloc] at h
      exact h
    have RA := Lib.hid (rd_else (A1 := some ⟨w2.heap.size, 0, none⟩) HR2.out BA.out (fun g hg => (OwN.new OA.out g hg).1))
    have RB := Lib.hid (rd_else (A1 := some ⟨w2.heap.size, 0, none⟩) HR2.out BB.out (fun g hg => (OwN.new OB.out g hg).1))
    have RC := Lib.hid (rd_else (A1 := some ⟨w2.heap.size + 1, 0, none⟩) HR2.out BC.out (fun g hg => (OwN.new OC.out g hg).1))
    have XB : Hid (Box ((w2.drew.alloc (Obj.cells #[] 47)).alloc (Obj.cells #[.int .i64 x.1, .int .i64 x.2.1, .int .i64 x.2.2.1, .slice D x.2.2.2.length d] 47)) (w2.heap.size + 1) x.1 x.2.1 x.2.2.1 D x.2.2.2.length d) := box_at _ _ _ _ _ _ _ _ (by simp)
    have XC : Hid (Box ((w2.drew.alloc (Obj.cells #[.int .i64 x.1, .int .i64 x.2.1, .int .i64 x.2.2.1, .slice D x.2.2.2.length d] 47)).alloc (Obj.cells #[] 47)) w2.heap.size x.1 x.2.1 x.2.2.1 D x.2.2.2.length d) := (box_at w2.drew _ _ _ _ _ _ w2.heap.size rfl).below (below_one _ _)
    have nB : Hid (∀ g, (some ⟨w2.heap.size, 0, none⟩ : Option Addr) = some ⟨g, 0, none⟩ ∨ g = ((w2.drew.alloc (Obj.cells #[] 47)).alloc (Obj.cells #[.int .i64 x.1, .int .i64 x.2.1, .int .i64 x.2.2.1, .slice D x.2.2.2.length d] 47)).heap.size → g ≠ w2.heap.size + 1) := fun g hg => by
      rcases hg with hg | hg
      · injection hg with hg; injection hg with hg; omega
      · rw [World.size_alloc, World.size_alloc] at hg; rw [hg]; show w2.heap.size + 1 + 1 ≠ _; omega
    have nC : Hid (∀ g, (some ⟨w2.heap.size + 1, 0, none⟩ : Option Addr) = some ⟨g, 0, none⟩ ∨ g = ((w2.drew.alloc (Obj.cells #[.int .i64 x.1, .int .i64 x.2.1, .int .i64 x.2.2.1, .slice D x.2.2.2.length d] 47)).alloc (Obj.cells #[] 47)).heap.size → g ≠ w2.heap.size) := fun g hg => by
      rcases hg with hg | hg
      · injection hg with hg; injection hg with hg; omega
      · rw [World.size_alloc, World.size_alloc] at hg; rw [hg]; show w2.heap.size + 1 + 1 ≠ _; omega
    have eB : Hid (some (w2.heap.size + 1) ≠ (Value.slice (some ⟨w2.heap.size, 0, none⟩) 0 0).ownBlock) := fun h => by
      have h' := Option.some.inj h
      simp only at h'
      omega
    have eC : Hid (some w2.heap.size ≠ (Value.slice (some ⟨w2.heap.size + 1, 0, none⟩) 0 0).ownBlock) := fun h => by
      have h' := Option.some.inj h
      simp only at h'
      omega
    go_region_held3 (fun w' => w'.cell? ⟨Y, 0, none⟩ = some (.slice p.A n p.a) ∧ w'.cell? ⟨F, 0, none⟩ = some (.int .i64 P) ∧ w'.cell? ⟨F, 1, none⟩ = some (.int .i64 B) ∧ w'.cell? ⟨X, 0, none⟩ = some (.int .i64 x.1) ∧ w'.cell? ⟨X, 1, none⟩ = some (.int .i64 x.2.1) ∧ w'.cell? ⟨X, 2, none⟩ = some (.int .i64 x.2.2.1) ∧ w'.cell? ⟨X, 3, none⟩ = some (.slice D x.2.2.2.length d))
      (first
        | (exact Ld.below YB.out Bz.out)
        | (exact Ld.below YB.out (Ba.out.alloc Ba.out.size _))
        | (exact Ld.below YB.out Ba.out)
        | (exact Ld.below YB.out BB.out)
        | (exact Ld.below YB.out BC.out)
        | (exact Ld.below YB.out BA.out)
        | (exact Ld.below YB.out BX.out)
        | (exact Ld.below YB.out BR.out)
        | (exact YB.out))
      (first
        | (refine step_own_big slTaskB (by rfl) _ _ (by rfl) (base := w2.heap.size) (l := ([] : List Tsk)) (r := L) (n := 0) (m := n) rfl HN.out (by rfl) (by rfl) (by exact OA.out) (by exact RA.out) n1.out m1.out BA.out.size ?_
           intro A5 c5 w5 k1 k2 k3
           have Ba := Lib.hid (Below.grown (B := w2.heap.size) (a := w2) BA.out k2 BA.out.size (OwS.row OA.out))
           have Oa : Hid (OwN w5 w2.heap.size 47 A5 c5 L) := k1
           have O5 := Lib.hid (Oa.out.below (below_one w5 (Obj.cells #[.int .i64 x.1, .int .i64 x.2.1, .int .i64 x.2.2.1, .slice D x.2.2.2.length d] 47)))
           have B5 := Lib.hid (Ba.out.alloc Ba.out.size (Obj.cells #[.int .i64 x.1, .int .i64 x.2.1, .int .i64 x.2.2.1, .slice D x.2.2.2.length d] 47))
           have R5 := Lib.hid (lit_else F1.out F2.out F3.out (box_new w5 x.1 x.2.1 x.2.2.1 D x.2.2.2.length d) (fun h => absurd (OwN.new Oa.out _ h).2 (Nat.lt_irrefl _)) (rd_else HX2.out B5.out (fun g hg => (OwN.new Oa.out g hg).1)))
           rw [Nat.zero_add]
           clear k1 k2 k3)
        | (refine step_own_big slTaskB (by rfl) _ _ (by rfl) (base := w2.heap.size) (l := ([] : List Tsk)) (r := L) (n := 0) (m := n) rfl HN.out (by rfl) (by rfl) (by exact OB.out) (by exact RB.out) n1.out m1.out BB.out.size ?_
           intro A5 c5 w5 k1 k2 k3
           have Ba := Lib.hid (Below.grown (B := w2.heap.size) (a := w2) BB.out k2 BB.out.size (OwS.row OB.out))
           have B5 := Ba
           have O5 : Hid (OwN w5 w2.heap.size 47 A5 c5 L) := k1
           have R5 := Lib.hid (lit_else F1.out F2.out F3.out (Box.gb XB.out k2 eB.out) (fun h => nB.out _ (k3 _ h) rfl) (rd_else HX2.out B5.out (fun g hg => (OwN.new O5.out g hg).1)))
           rw [Nat.zero_add]
           clear k1 k2 k3)
        | (refine step_own_big slTaskB (by rfl) _ _ (by rfl) (base := w2.heap.size) (l := ([] : List Tsk)) (r := L) (n := 0) (m := n) rfl HN.out (by rfl) (by rfl) (by exact OC.out) (by exact RC.out) n1.out m1.out BC.out.size ?_
           intro A5 c5 w5 k1 k2 k3
           have Ba := Lib.hid (Below.grown (B := w2.heap.size) (a := w2) BC.out k2 BC.out.size (OwS.row OC.out))
           have B5 := Ba
           have O5 : Hid (OwN w5 w2.heap.size 47 A5 c5 L) := k1
           have R5 := Lib.hid (lit_else F1.out F2.out F3.out (Box.gb XC.out k2 eC.out) (fun h => nC.out _ (k3 _ h) rfl) (rd_else HX2.out B5.out (fun g hg => (OwN.new O5.out g hg).1)))
           rw [Nat.zero_add]
           clear k1 k2 k3)
        | (refine step_own_big slTaskB (by rfl) _ _ (by rfl) (base := w2.heap.size) (l := L) (r := [x]) (n := n) (m := 1) HN.out rfl (by rfl) (by rfl) (by exact O5.out) (by exact R5.out) n2.out m2.out B5.out.size ?_
           intro A6 c6 w6 k1 k2 k3
           have Bz := Lib.hid (Below.grown (B := w2.heap.size) (a := w2) B5.out k2 B5.out.size (fun k hk => OwS.row O5.out k (by rw [HN.out]; exact hk)))
           have R6 := Lib.hid k1.rd
           clear k1 k2 k3))
    all_goals (go_wp2_with fail; go_meet; exact ⟨A6, c6, rfl, R6.out, Bz.out⟩)
  case rest =>
    obtain ⟨A7, c7, rfl, hr7, b7⟩ := hcut
    have hn := HN.out
    subst hn
    clear HN
    have HM := Lib.hid hr7
    have BW := Lib.hid (below_step B0.out b7)
    replace YB := Lib.hid (YB.out.below b7)
    replace HY := Lib.hid (HY.out.below b7)
    replace HST := Lib.hid (HST.out.below b7)
    replace HX2 := Lib.hid (HX2.out.below b7)
    clear hr7 b7 n1 n2 m1 m2 B0
    have HLM : Hid ((s.tasks ++ [x]).length = s.tasks.length + 1) := by show List.length _ = _; simp
    cases hg : greatS s with
    | true =>
      obtain ⟨_, f1, f2, z1, z2, z3, z4⟩ := YB.out
      obtain ⟨y0, y1, y2, y3, y4⟩ := HY.out
      go_wp2_with fail
      clear f1 f2 z1 z2 z3 z4 y0 y1 y2 y3 y4
      refine (great_s p s _ hg _ _ HST.out).mono ?_
      rintro e w3 ⟨rfl, b3⟩
      have B3 := Lib.hid (below_step BW.out b3)
      replace HM := Lib.hid (HM.out.below b3)
      replace YB := Lib.hid (YB.out.below b3)
      replace HY := Lib.hid (HY.out.below b3)
      replace HST := Lib.hid (HST.out.below b3)
      replace HX2 := Lib.hid (HX2.out.below b3)
      clear b3
      obtain ⟨_, f1, f2, z1, z2, z3, z4⟩ := YB.out
      obtain ⟨y0, y1, y2, y3, y4⟩ := HY.out
      go_wp2_with fail
      clear f1 f2 z1 z2 z3 z4 y0 y1 y2 y3 y4
      refine (knows20_any _).mono ?_
      rintro e w4 ⟨rfl, b4⟩
      have B4 := Lib.hid (below_step B3.out b4)
      clear b4
      go_wp2_with fail
      go_ret
      exact ⟨rfl, B4.out⟩
    | false =>
      have hz := greatS_no hg
      cases hg2 : greatB (s.tasks ++ [x]) with
      | true =>
        obtain ⟨_, f1, f2, z1, z2, z3, z4⟩ := YB.out
        obtain ⟨y0, y1, y2, y3, y4⟩ := HY.out
        go_wp2_with fail
        clear f1 f2 z1 z2 z3 z4 y0 y1 y2 y3 y4
        refine (great_s p s _ hg _ _ HST.out).mono ?_
        rintro e w3 ⟨rfl, b3⟩
        have B3 := Lib.hid (below_step BW.out b3)
        replace HM := Lib.hid (HM.out.below b3)
        replace YB := Lib.hid (YB.out.below b3)
        replace HY := Lib.hid (HY.out.below b3)
        replace HST := Lib.hid (HST.out.below b3)
        replace HX2 := Lib.hid (HX2.out.below b3)
        clear b3
        obtain ⟨_, f1, f2, z1, z2, z3, z4⟩ := YB.out
        obtain ⟨y0, y1, y2, y3, y4⟩ := HY.out
        go_wp2_with fail
        clear f1 f2 z1 z2 z3 z4 y0 y1 y2 y3 y4
        refine (great20_v A7 c7 (s.tasks ++ [x]) _ hg2 (s.tasks.length + 1) HLM.out _ HM.out).mono ?_
        rintro e w4 ⟨rfl, b3⟩
        have B4 := Lib.hid (below_step B3.out b3)
        replace HM := Lib.hid (HM.out.below b3)
        replace YB := Lib.hid (YB.out.below b3)
        replace HY := Lib.hid (HY.out.below b3)
        replace HST := Lib.hid (HST.out.below b3)
        replace HX2 := Lib.hid (HX2.out.below b3)
        clear b3
        obtain ⟨_, f1, f2, z1, z2, z3, z4⟩ := YB.out
        obtain ⟨y0, y1, y2, y3, y4⟩ := HY.out
        go_wp2_with fail
        clear f1 f2 z1 z2 z3 z4 y0 y1 y2 y3 y4
        refine (knows20_any _).mono ?_
        rintro e w5 ⟨rfl, b5⟩
        have B5 := Lib.hid (below_step B4.out b5)
        clear b5
        go_wp2_with fail
        go_ret
        exact ⟨rfl, B5.out⟩
      | false =>
        obtain ⟨hL, hin⟩ := great_no hg2
        have HTM : Hid (∀ W, Rd W A7 c7 (s.tasks ++ [x]) → TL W A7 c7 (s.tasks ++ [x])) := fun W h => ⟨by omega, fun j hj => by have := hin j hj; omega, h⟩
        cases hf : decide (300 < endZ (s.tasks ++ [x]) P B) with
        | true =>
          obtain ⟨_, f1, f2, z1, z2, z3, z4⟩ := YB.out
          obtain ⟨y0, y1, y2, y3, y4⟩ := HY.out
          go_wp2_with fail
          clear f1 f2 z1 z2 z3 z4 y0 y1 y2 y3 y4
          refine (great_s p s _ hg _ _ HST.out).mono ?_
          rintro e w3 ⟨rfl, b3⟩
          have B3 := Lib.hid (below_step BW.out b3)
          replace HM := Lib.hid (HM.out.below b3)
          replace YB := Lib.hid (YB.out.below b3)
          replace HY := Lib.hid (HY.out.below b3)
          replace HST := Lib.hid (HST.out.below b3)
          replace HX2 := Lib.hid (HX2.out.below b3)
          clear b3
          obtain ⟨_, f1, f2, z1, z2, z3, z4⟩ := YB.out
          obtain ⟨y0, y1, y2, y3, y4⟩ := HY.out
          go_wp2_with fail
          clear f1 f2 z1 z2 z3 z4 y0 y1 y2 y3 y4
          refine (great20_v A7 c7 (s.tasks ++ [x]) _ hg2 (s.tasks.length + 1) HLM.out _ HM.out).mono ?_
          rintro e w4 ⟨rfl, b3⟩
          have B4 := Lib.hid (below_step B3.out b3)
          replace HM := Lib.hid (HM.out.below b3)
          replace YB := Lib.hid (YB.out.below b3)
          replace HY := Lib.hid (HY.out.below b3)
          replace HST := Lib.hid (HST.out.below b3)
          replace HX2 := Lib.hid (HX2.out.below b3)
          clear b3
          obtain ⟨_, f1, f2, z1, z2, z3, z4⟩ := YB.out
          obtain ⟨y0, y1, y2, y3, y4⟩ := HY.out
          go_wp2_with fail
          clear f1 f2 z1 z2 z3 z4 y0 y1 y2 y3 y4
          refine (far_any P B A7 c7 (s.tasks ++ [x]) _ hf (s.tasks.length + 1) HLM.out _ (HTM.out _ HM.out)).mono ?_
          rintro e w5 ⟨rfl, b3⟩
          have B5 := Lib.hid (below_step B4.out b3)
          replace YB := Lib.hid (YB.out.below b3)
          replace HY := Lib.hid (HY.out.below b3)
          replace HST := Lib.hid (HST.out.below b3)
          replace HX2 := Lib.hid (HX2.out.below b3)
          clear b3
          obtain ⟨_, f1, f2, z1, z2, z3, z4⟩ := YB.out
          obtain ⟨y0, y1, y2, y3, y4⟩ := HY.out
          go_wp2_with fail
          clear f1 f2 z1 z2 z3 z4 y0 y1 y2 y3 y4
          refine (knows20_any _).mono ?_
          rintro e w6 ⟨rfl, b6⟩
          have B6 := Lib.hid (below_step B5.out b6)
          clear b6
          go_wp2_with fail
          go_ret
          exact ⟨rfl, B6.out⟩
        | false =>
          have hk20 : x.2.2.2.length ≤ 20 := by
            have := hin s.tasks.length (by rw [HLM.out]; omega)
            rw [at_right (Nat.le_refl _), Nat.sub_self] at this
            exact this
          obtain ⟨q, hq⟩ : ∃ q, leaveS s i = q := ⟨_, rfl⟩
          have HLS := Lib.hid hq
          obtain ⟨g, hgg⟩ : ∃ g, leaveE s i = g := ⟨_, rfl⟩
          have HK20 := Lib.hid hk20
          by_cases g0 : g = 0
          · subst g0
            obtain ⟨v, hv⟩ : ∃ v, admE s P B x = v := ⟨_, rfl⟩
            obtain ⟨r, hr⟩ : ∃ r, chgS s P B i x = r := ⟨_, rfl⟩
            have hcv : chgE s P B i x = v := by rw [chg_in hgg, hv]
            have HLE : Hid ((leaveE s i : Int) = 0) := by show _ = _; rw [hgg]; rfl
            have HCH := Lib.hid (fun S => chg_s S p s r i x D x.2.2.2.length d rfl (by omega) ⟨F1.out, F2.out, F3.out⟩ P B v hr hcv)
            have HRA := Lib.hid (refAdd_v p s x D x.2.2.2.length d rfl (by omega) ⟨F1.out, F2.out, F3.out⟩ P B v hv)
            have HZ := Lib.hid hz
            clear hz
            by_cases h0 : v = 0
            · subst h0
              have hvl : admE q P B x = 0 := by rw [← hq, admE_leave hgg, hv]
              have hrr : admS q P B x = r := by rw [← hr]; unfold admS chgS; rw [if_pos hvl, if_pos hcv, hq]
              have HAS := Lib.hid (addS_adm hrr hvl)
              have HAE := Lib.hid (addE_adm hvl)
              clear hr hv hL hin hq hgg hcv hvl hrr hk20
              obtain ⟨_, f1, f2, z1, z2, z3, z4⟩ := YB.out
              obtain ⟨y0, y1, y2, y3, y4⟩ := HY.out
              go_wp2_with fail
              clear f1 f2 z1 z2 z3 z4 y0 y1 y2 y3 y4
              refine (great_s p s _ hg _ _ HST.out).mono ?_
              rintro e w3 ⟨rfl, b3⟩
              have B3 := Lib.hid (below_step BW.out b3)
              replace HM := Lib.hid (HM.out.below b3)
              replace YB := Lib.hid (YB.out.below b3)
              replace HY := Lib.hid (HY.out.below b3)
              replace HST := Lib.hid (HST.out.below b3)
              replace HX2 := Lib.hid (HX2.out.below b3)
              clear b3
              obtain ⟨_, f1, f2, z1, z2, z3, z4⟩ := YB.out
              obtain ⟨y0, y1, y2, y3, y4⟩ := HY.out
              go_wp2_with fail
              clear f1 f2 z1 z2 z3 z4 y0 y1 y2 y3 y4
              refine (great20_v A7 c7 (s.tasks ++ [x]) _ hg2 (s.tasks.length + 1) HLM.out _ HM.out).mono ?_
              rintro e w4 ⟨rfl, b3⟩
              have B4 := Lib.hid (below_step B3.out b3)
              replace HM := Lib.hid (HM.out.below b3)
              replace YB := Lib.hid (YB.out.below b3)
              replace HY := Lib.hid (HY.out.below b3)
              replace HST := Lib.hid (HST.out.below b3)
              replace HX2 := Lib.hid (HX2.out.below b3)
              clear b3
              obtain ⟨_, f1, f2, z1, z2, z3, z4⟩ := YB.out
              obtain ⟨y0, y1, y2, y3, y4⟩ := HY.out
              go_wp2_with fail
              clear f1 f2 z1 z2 z3 z4 y0 y1 y2 y3 y4
              refine (far_any P B A7 c7 (s.tasks ++ [x]) _ hf (s.tasks.length + 1) HLM.out _ (HTM.out _ HM.out)).mono ?_
              rintro e w5 ⟨rfl, b3⟩
              have B5 := Lib.hid (below_step B4.out b3)
              replace YB := Lib.hid (YB.out.below b3)
              replace HY := Lib.hid (HY.out.below b3)
              replace HST := Lib.hid (HST.out.below b3)
              replace HX2 := Lib.hid (HX2.out.below b3)
              clear b3
              obtain ⟨_, f1, f2, z1, z2, z3, z4⟩ := YB.out
              obtain ⟨y0, y1, y2, y3, y4⟩ := HY.out
              go_wp2_with fail
              clear f1 f2 z1 z2 z3 z4 y0 y1 y2 y3 y4
              refine (drop_s (fun b => b < w5.heap.size) p s q i 0 HLS.out HLE.out _ (fun b h => h) HZ.out HST.out.old).mono ?_
              rintro e w6 ⟨p1, rfl, h3, b6⟩
              have HV := Lib.hid (Vs.made (below_step B5.out b6) h3)
              have bn := below_step b6 (below_one w6 (.cells #[.slice p1.A q.tasks.length p1.a, .slice p1.B q.leaves.length p1.b, .slice p1.C q.lasts.length p1.c, .slice p1.D q.jobs.length p1.d, .slice p1.E q.log.length p1.e] 35))
              replace YB := Lib.hid (YB.out.below bn)
              replace HY := Lib.hid (HY.out.below bn)
              replace HST := Lib.hid (HST.out.below bn)
              replace HX2 := Lib.hid (HX2.out.below bn)
              clear h3 b6 bn
              obtain ⟨_, f1, f2, z1, z2, z3, z4⟩ := YB.out
              obtain ⟨y0, y1, y2, y3, y4⟩ := HY.out
              go_wp2_with fail
              clear f1 f2 z1 z2 z3 z4 y0 y1 y2 y3 y4
              generalize w6.alloc (.cells #[.slice p1.A q.tasks.length p1.a, .slice p1.B q.leaves.length p1.b, .slice p1.C q.lasts.length p1.c, .slice p1.D q.jobs.length p1.d, .slice p1.E q.log.length p1.e] 35) = w7 at *
              generalize w6.heap.size = V at *
              refine (leave_s (fun b => b < w7.heap.size) p s q i 0 HLS.out HLE.out _ (fun b h => h) HZ.out HST.out.old).mono ?_
              rintro e w8 ⟨p2, rfl, h3, b6⟩
              replace HV := Lib.hid (HV.out.below b6)
              have HU := Lib.hid (Vs.made HV.out.b h3)
              have bn := below_one w8 (.cells #[.slice p2.A q.tasks.length p2.a, .slice p2.B q.leaves.length p2.b, .slice p2.C q.lasts.length p2.c, .slice p2.D q.jobs.length p2.d, .slice p2.E q.log.length p2.e] 35)
              replace HV := Lib.hid (HV.out.below bn)
              replace bn := below_step b6 bn
              replace YB := Lib.hid (YB.out.below bn)
              replace HY := Lib.hid (HY.out.below bn)
              replace HST := Lib.hid (HST.out.below bn)
              replace HX2 := Lib.hid (HX2.out.below bn)
              clear h3 b6 bn
              obtain ⟨_, f1, f2, z1, z2, z3, z4⟩ := YB.out
              obtain ⟨y0, y1, y2, y3, y4⟩ := HY.out
              go_wp2_with fail
              clear f1 f2 z1 z2 z3 z4 y0 y1 y2 y3 y4
              generalize w8.alloc (.cells #[.slice p2.A q.tasks.length p2.a, .slice p2.B q.leaves.length p2.b, .slice p2.C q.lasts.length p2.c, .slice p2.D q.jobs.length p2.d, .slice p2.E q.log.length p2.e] 35) = w9 at *
              generalize w8.heap.size = U at *
              refine (HCH.out (fun b => b < w9.heap.size) _ (fun b h => h) HZ.out HST.out.old HX2.out).mono ?_
              rintro e w10 ⟨p3, rfl, h3, b6⟩
              replace HV := Lib.hid (HV.out.below b6)
              replace HU := Lib.hid (HU.out.below b6)
              have HX := Lib.hid (Vs.made HV.out.b h3)
              have bn := below_one w10 (.cells #[.slice p3.A r.tasks.length p3.a, .slice p3.B r.leaves.length p3.b, .slice p3.C r.lasts.length p3.c, .slice p3.D r.jobs.length p3.d, .slice p3.E r.log.length p3.e] 35)
              replace HV := Lib.hid (HV.out.below bn)
              replace HU := Lib.hid (HU.out.below bn)
              replace bn := below_step b6 bn
              replace YB := Lib.hid (YB.out.below bn)
              replace HY := Lib.hid (HY.out.below bn)
              replace HST := Lib.hid (HST.out.below bn)
              replace HX2 := Lib.hid (HX2.out.below bn)
              clear h3 b6 bn
              go_upto_region 7 with fail
              generalize w10.alloc (.cells #[.slice p3.A r.tasks.length p3.a, .slice p3.B r.leaves.length p3.b, .slice p3.C r.lasts.length p3.c, .slice p3.D r.jobs.length p3.d, .slice p3.E r.log.length p3.e] 35) = w11 at *
              generalize w10.heap.size = C at *
              obtain ⟨y0, y1, y2, y3, y4⟩ := HV.out.y.c
              obtain ⟨x0, x1, x2, x3, x4⟩ := HU.out.y.c
              have hs := HV.out.sr
              have hw := HU.out.sr
              have HS := Lib.hid hs
              have HW := Lib.hid hw
              clear hs hw
              replace y0 := cell_bw y0
              replace y1 := cell_bw y1
              replace y2 := cell_bw y2
              replace y3 := cell_bw y3
              replace y4 := cell_bw y4
              replace x0 := cell_bw x0
              replace x1 := cell_bw x1
              replace x2 := cell_bw x2
              replace x3 := cell_bw x3
              replace x4 := cell_bw x4
              refine wp_region_bw (by kernel_rfl) (by kernel_rfl) ?_
              repeat
                (with_reducible refine wpQuiet_step (fun K hK => ?_)
                 go_simp
                 first
                   | (with_reducible refine hK _ ?_
                      clear hK K)
                   | (rw [if_neg]
                      rotate_left
                      focus (intro h; cases h; done)
                      with_reducible refine hK _ ?_
                      clear hK K)
                   | (apply Exists.intro
                      refine ⟨fun _ => ?_, hK _ ?_⟩
                      (first | (go_at_call 12; first | (with_reducible exact Calls.bw (as_s p1 q _)) | (with_reducible exact Calls.bw (as_s p2 q _))) | (go_at_call 11; exact Calls.bw (same_s p1 p2 q _ (HS.out.bw _) (HW.out.bw _))))
                      clear hK K))
              with_reducible refine wpQuiet_nil ?_
              intro wb hw'
              obtain ⟨⟨wb', lb⟩, hw''⟩ := hw'
              subst hw''
              clear HS HW y0 y1 y2 y3 y4 x0 x1 x2 x3 x4
              replace YB := Lib.hid (YB.out.below lb)
              replace HY := Lib.hid (HY.out.below lb)
              replace HST := Lib.hid (HST.out.below lb)
              replace HX2 := Lib.hid (HX2.out.below lb)
              replace HV := Lib.hid (HV.out.below lb)
              replace HU := Lib.hid (HU.out.below lb)
              replace HX := Lib.hid (HX.out.below lb)
              clear lb
              generalize wb = wc at *
              go_upto_region 11 with fail
              obtain ⟨_, f1, f2, z1, z2, z3, z4⟩ := YB.out
              obtain ⟨y0, y1, y2, y3, y4⟩ := HY.out
              have hs : SR _ p s := ⟨HZ.out, HST.out⟩
              have HS := Lib.hid hs
              clear hs
              replace f1 := cell_bw f1
              replace f2 := cell_bw f2
              replace z1 := cell_bw z1
              replace z2 := cell_bw z2
              replace z3 := cell_bw z3
              replace z4 := cell_bw z4
              replace y0 := cell_bw y0
              replace y1 := cell_bw y1
              replace y2 := cell_bw y2
              replace y3 := cell_bw y3
              replace y4 := cell_bw y4
              refine wp_region_bw (by kernel_rfl) (by kernel_rfl) ?_
              repeat
                (with_reducible refine wpQuiet_step (fun K hK => ?_)
                 go_simp
                 first
                   | (with_reducible refine hK _ ?_
                      clear hK K)
                   | (rw [if_neg]
                      rotate_left
                      focus (intro h; cases h; done)
                      with_reducible refine hK _ ?_
                      clear hK K)
                   | (apply Exists.intro
                      refine ⟨fun _ => ?_, hK _ ?_⟩
                      (first | (go_at_call 12; exact Calls.bw (as_s p s _)) | (go_at_call 16; exact Calls.bw (HRA.out _ (HS.out.bw _) (HX2.out.bw _))))
                      clear hK K))
              with_reducible refine wpQuiet_nil ?_
              intro wb hw'
              obtain ⟨⟨wb', lb⟩, hw''⟩ := hw'
              subst hw''
              clear HS
              clear f1 f2 z1 z2 z3 z4 y0 y1 y2 y3 y4
              replace YB := Lib.hid (YB.out.below lb)
              replace HY := Lib.hid (HY.out.below lb)
              replace HST := Lib.hid (HST.out.below lb)
              replace HX2 := Lib.hid (HX2.out.below lb)
              replace HV := Lib.hid (HV.out.below lb)
              replace HU := Lib.hid (HU.out.below lb)
              replace HX := Lib.hid (HX.out.below lb)
              clear lb
              obtain ⟨x0, x1, x2, x3, x4⟩ := HU.out.y.c
              obtain ⟨_, f1, f2, z1, z2, z3, z4⟩ := YB.out
              go_wp2_with fail
              clear x0 x1 x2 x3 x4 f1 f2 z1 z2 z3 z4
              refine (add_s (fun b => b < wb.heap.size) p2 q r x D x.2.2.2.length d rfl (by have := HK20.out; omega) ⟨F1.out, F2.out, F3.out⟩ 0 HAS.out HAE.out _ (fun b h => h) HU.out.z HU.out.r.old HX2.out).mono ?_
              rintro e w12 ⟨p8, rfl, h8, b8⟩
              replace HX := Lib.hid (HX.out.below b8)
              have HQ := Lib.hid (Vs.made HX.out.b h8)
              have bn := below_one w12 (.cells #[.slice p8.A r.tasks.length p8.a, .slice p8.B r.leaves.length p8.b, .slice p8.C r.lasts.length p8.c, .slice p8.D r.jobs.length p8.d, .slice p8.E r.log.length p8.e] 35)
              replace HX := Lib.hid (HX.out.below bn)
              clear h8 b8 bn YB HY HST HX2 HU HV
              go_upto_region 15 with fail
              generalize w12.alloc (.cells #[.slice p8.A r.tasks.length p8.a, .slice p8.B r.leaves.length p8.b, .slice p8.C r.lasts.length p8.c, .slice p8.D r.jobs.length p8.d, .slice p8.E r.log.length p8.e] 35) = w13 at *
              generalize w12.heap.size = W at *
              obtain ⟨y0, y1, y2, y3, y4⟩ := HX.out.y.c
              obtain ⟨x0, x1, x2, x3, x4⟩ := HQ.out.y.c
              have hw := HQ.out.sr
              have BQ := Lib.hid HX.out.b
              have hs := HX.out.sr
              have HS := Lib.hid hs
              have HW := Lib.hid hw
              clear hs hw
              replace y0 := cell_bw y0
              replace y1 := cell_bw y1
              replace y2 := cell_bw y2
              replace y3 := cell_bw y3
              replace y4 := cell_bw y4
              replace x0 := cell_bw x0
              replace x1 := cell_bw x1
              replace x2 := cell_bw x2
              replace x3 := cell_bw x3
              replace x4 := cell_bw x4
              refine wp_region_bw (by kernel_rfl) (by kernel_rfl) ?_
              repeat
                (with_reducible refine wpQuiet_step (fun K hK => ?_)
                 go_simp
                 first
                   | (with_reducible refine hK _ ?_
                      clear hK K)
                   | (rw [if_neg]
                      rotate_left
                      focus (intro h; cases h; done)
                      with_reducible refine hK _ ?_
                      clear hK K)
                   | (apply Exists.intro
                      refine ⟨fun _ => ?_, hK _ ?_⟩
                      (first | (go_at_call 12; first | (with_reducible exact Calls.bw (as_s p3 r _)) | (with_reducible exact Calls.bw (as_s p8 r _))) | (go_at_call 11; exact Calls.bw (same_s p3 p8 r _ (HS.out.bw _) (HW.out.bw _))) | (go_at_call 8; exact Calls.bw (knows20_any _)))
                      clear hK K))
              with_reducible refine wpQuiet_nil ?_
              intro wb hw'
              obtain ⟨⟨wb', lb⟩, hw''⟩ := hw'
              subst hw''
              have B20 := Lib.hid (below_step BQ.out lb)
              clear lb
              go_wp2_with fail
              go_ret
              exact ⟨rfl, B20.out⟩
            · have e1 : s = r := by rw [← hr]; unfold chgS; rw [hcv, if_neg h0]
              subst e1
              have i1 : ¬ (v : Int) = 0 := by omega
              have i2 : ((v : Int) == 0) = false := beq_eq_false_iff_ne.2 i1
              have i3 : ((v : Int) == (v : Int)) = true := by simp
              clear hr hv hL hin h0 hq hgg hcv hk20
              obtain ⟨_, f1, f2, z1, z2, z3, z4⟩ := YB.out
              obtain ⟨y0, y1, y2, y3, y4⟩ := HY.out
              go_wp2_with fail
              clear f1 f2 z1 z2 z3 z4 y0 y1 y2 y3 y4
              refine (great_s p s _ hg _ _ HST.out).mono ?_
              rintro e w3 ⟨rfl, b3⟩
              have B3 := Lib.hid (below_step BW.out b3)
              replace HM := Lib.hid (HM.out.below b3)
              replace YB := Lib.hid (YB.out.below b3)
              replace HY := Lib.hid (HY.out.below b3)
              replace HST := Lib.hid (HST.out.below b3)
              replace HX2 := Lib.hid (HX2.out.below b3)
              clear b3
              obtain ⟨_, f1, f2, z1, z2, z3, z4⟩ := YB.out
              obtain ⟨y0, y1, y2, y3, y4⟩ := HY.out
              go_wp2_with fail
              clear f1 f2 z1 z2 z3 z4 y0 y1 y2 y3 y4
              refine (great20_v A7 c7 (s.tasks ++ [x]) _ hg2 (s.tasks.length + 1) HLM.out _ HM.out).mono ?_
              rintro e w4 ⟨rfl, b3⟩
              have B4 := Lib.hid (below_step B3.out b3)
              replace HM := Lib.hid (HM.out.below b3)
              replace YB := Lib.hid (YB.out.below b3)
              replace HY := Lib.hid (HY.out.below b3)
              replace HST := Lib.hid (HST.out.below b3)
              replace HX2 := Lib.hid (HX2.out.below b3)
              clear b3
              obtain ⟨_, f1, f2, z1, z2, z3, z4⟩ := YB.out
              obtain ⟨y0, y1, y2, y3, y4⟩ := HY.out
              go_wp2_with fail
              clear f1 f2 z1 z2 z3 z4 y0 y1 y2 y3 y4
              refine (far_any P B A7 c7 (s.tasks ++ [x]) _ hf (s.tasks.length + 1) HLM.out _ (HTM.out _ HM.out)).mono ?_
              rintro e w5 ⟨rfl, b3⟩
              have B5 := Lib.hid (below_step B4.out b3)
              replace YB := Lib.hid (YB.out.below b3)
              replace HY := Lib.hid (HY.out.below b3)
              replace HST := Lib.hid (HST.out.below b3)
              replace HX2 := Lib.hid (HX2.out.below b3)
              clear b3
              obtain ⟨_, f1, f2, z1, z2, z3, z4⟩ := YB.out
              obtain ⟨y0, y1, y2, y3, y4⟩ := HY.out
              go_wp2_with fail
              clear f1 f2 z1 z2 z3 z4 y0 y1 y2 y3 y4
              refine (drop_s (fun b => b < w5.heap.size) p s q i 0 HLS.out HLE.out _ (fun b h => h) HZ.out HST.out.old).mono ?_
              rintro e w6 ⟨p1, rfl, h3, b6⟩
              have HV := Lib.hid (Vs.made (below_step B5.out b6) h3)
              have bn := below_step b6 (below_one w6 (.cells #[.slice p1.A q.tasks.length p1.a, .slice p1.B q.leaves.length p1.b, .slice p1.C q.lasts.length p1.c, .slice p1.D q.jobs.length p1.d, .slice p1.E q.log.length p1.e] 35))
              replace YB := Lib.hid (YB.out.below bn)
              replace HY := Lib.hid (HY.out.below bn)
              replace HST := Lib.hid (HST.out.below bn)
              replace HX2 := Lib.hid (HX2.out.below bn)
              clear h3 b6 bn
              obtain ⟨_, f1, f2, z1, z2, z3, z4⟩ := YB.out
              obtain ⟨y0, y1, y2, y3, y4⟩ := HY.out
              go_wp2_with fail
              clear f1 f2 z1 z2 z3 z4 y0 y1 y2 y3 y4
              generalize w6.alloc (.cells #[.slice p1.A q.tasks.length p1.a, .slice p1.B q.leaves.length p1.b, .slice p1.C q.lasts.length p1.c, .slice p1.D q.jobs.length p1.d, .slice p1.E q.log.length p1.e] 35) = w7 at *
              generalize w6.heap.size = V at *
              refine (leave_s (fun b => b < w7.heap.size) p s q i 0 HLS.out HLE.out _ (fun b h => h) HZ.out HST.out.old).mono ?_
              rintro e w8 ⟨p2, rfl, h3, b6⟩
              replace HV := Lib.hid (HV.out.below b6)
              have HU := Lib.hid (Vs.made HV.out.b h3)
              have bn := below_one w8 (.cells #[.slice p2.A q.tasks.length p2.a, .slice p2.B q.leaves.length p2.b, .slice p2.C q.lasts.length p2.c, .slice p2.D q.jobs.length p2.d, .slice p2.E q.log.length p2.e] 35)
              replace HV := Lib.hid (HV.out.below bn)
              replace bn := below_step b6 bn
              replace YB := Lib.hid (YB.out.below bn)
              replace HY := Lib.hid (HY.out.below bn)
              replace HST := Lib.hid (HST.out.below bn)
              replace HX2 := Lib.hid (HX2.out.below bn)
              clear h3 b6 bn
              obtain ⟨_, f1, f2, z1, z2, z3, z4⟩ := YB.out
              obtain ⟨y0, y1, y2, y3, y4⟩ := HY.out
              go_wp2_with fail
              clear f1 f2 z1 z2 z3 z4 y0 y1 y2 y3 y4
              generalize w8.alloc (.cells #[.slice p2.A q.tasks.length p2.a, .slice p2.B q.leaves.length p2.b, .slice p2.C q.lasts.length p2.c, .slice p2.D q.jobs.length p2.d, .slice p2.E q.log.length p2.e] 35) = w9 at *
              generalize w8.heap.size = U at *
              refine (HCH.out (fun b => b < w9.heap.size) _ (fun b h => h) HZ.out HST.out.old HX2.out).mono ?_
              rintro e w10 ⟨p3, rfl, h3, b6⟩
              replace HV := Lib.hid (HV.out.below b6)
              replace HU := Lib.hid (HU.out.below b6)
              have HX := Lib.hid (Vs.made HV.out.b h3)
              have bn := below_one w10 (.cells #[.slice p3.A s.tasks.length p3.a, .slice p3.B s.leaves.length p3.b, .slice p3.C s.lasts.length p3.c, .slice p3.D s.jobs.length p3.d, .slice p3.E s.log.length p3.e] 35)
              replace HV := Lib.hid (HV.out.below bn)
              replace HU := Lib.hid (HU.out.below bn)
              replace bn := below_step b6 bn
              replace YB := Lib.hid (YB.out.below bn)
              replace HY := Lib.hid (HY.out.below bn)
              replace HST := Lib.hid (HST.out.below bn)
              replace HX2 := Lib.hid (HX2.out.below bn)
              clear h3 b6 bn
              go_upto_region 7 with fail
              generalize w10.alloc (.cells #[.slice p3.A s.tasks.length p3.a, .slice p3.B s.leaves.length p3.b, .slice p3.C s.lasts.length p3.c, .slice p3.D s.jobs.length p3.d, .slice p3.E s.log.length p3.e] 35) = w11 at *
              generalize w10.heap.size = C at *
              obtain ⟨y0, y1, y2, y3, y4⟩ := HV.out.y.c
              obtain ⟨x0, x1, x2, x3, x4⟩ := HU.out.y.c
              have hs := HV.out.sr
              have hw := HU.out.sr
              have HS := Lib.hid hs
              have HW := Lib.hid hw
              clear hs hw
              replace y0 := cell_bw y0
              replace y1 := cell_bw y1
              replace y2 := cell_bw y2
              replace y3 := cell_bw y3
              replace y4 := cell_bw y4
              replace x0 := cell_bw x0
              replace x1 := cell_bw x1
              replace x2 := cell_bw x2
              replace x3 := cell_bw x3
              replace x4 := cell_bw x4
              refine wp_region_bw (by kernel_rfl) (by kernel_rfl) ?_
              repeat
                (with_reducible refine wpQuiet_step (fun K hK => ?_)
                 go_simp
                 first
                   | (with_reducible refine hK _ ?_
                      clear hK K)
                   | (rw [if_neg]
                      rotate_left
                      focus (intro h; cases h; done)
                      with_reducible refine hK _ ?_
                      clear hK K)
                   | (apply Exists.intro
                      refine ⟨fun _ => ?_, hK _ ?_⟩
                      (first | (go_at_call 12; first | (with_reducible exact Calls.bw (as_s p1 q _)) | (with_reducible exact Calls.bw (as_s p2 q _))) | (go_at_call 11; exact Calls.bw (same_s p1 p2 q _ (HS.out.bw _) (HW.out.bw _))))
                      clear hK K))
              with_reducible refine wpQuiet_nil ?_
              intro wb hw'
              obtain ⟨⟨wb', lb⟩, hw''⟩ := hw'
              subst hw''
              clear HS HW y0 y1 y2 y3 y4 x0 x1 x2 x3 x4
              replace YB := Lib.hid (YB.out.below lb)
              replace HY := Lib.hid (HY.out.below lb)
              replace HST := Lib.hid (HST.out.below lb)
              replace HX2 := Lib.hid (HX2.out.below lb)
              replace HV := Lib.hid (HV.out.below lb)
              replace HU := Lib.hid (HU.out.below lb)
              replace HX := Lib.hid (HX.out.below lb)
              clear lb
              generalize wb = wc at *
              go_upto_region 11 with fail
              obtain ⟨_, f1, f2, z1, z2, z3, z4⟩ := YB.out
              obtain ⟨y0, y1, y2, y3, y4⟩ := HY.out
              have hs : SR _ p s := ⟨HZ.out, HST.out⟩
              have HS := Lib.hid hs
              clear hs
              replace f1 := cell_bw f1
              replace f2 := cell_bw f2
              replace z1 := cell_bw z1
              replace z2 := cell_bw z2
              replace z3 := cell_bw z3
              replace z4 := cell_bw z4
              replace y0 := cell_bw y0
              replace y1 := cell_bw y1
              replace y2 := cell_bw y2
              replace y3 := cell_bw y3
              replace y4 := cell_bw y4
              refine wp_region_bw (by kernel_rfl) (by kernel_rfl) ?_
              repeat
                (with_reducible refine wpQuiet_step (fun K hK => ?_)
                 go_simp
                 first
                   | (with_reducible refine hK _ ?_
                      clear hK K)
                   | (rw [if_neg]
                      rotate_left
                      focus (intro h; cases h; done)
                      with_reducible refine hK _ ?_
                      clear hK K)
                   | (apply Exists.intro
                      refine ⟨fun _ => ?_, hK _ ?_⟩
                      (first | (go_at_call 12; exact Calls.bw (as_s p s _)) | (go_at_call 16; exact Calls.bw (HRA.out _ (HS.out.bw _) (HX2.out.bw _))))
                      clear hK K))
              with_reducible refine wpQuiet_nil ?_
              intro wb hw'
              obtain ⟨⟨wb', lb⟩, hw''⟩ := hw'
              subst hw''
              clear HS
              clear f1 f2 z1 z2 z3 z4 y0 y1 y2 y3 y4
              replace YB := Lib.hid (YB.out.below lb)
              replace HY := Lib.hid (HY.out.below lb)
              replace HST := Lib.hid (HST.out.below lb)
              replace HX2 := Lib.hid (HX2.out.below lb)
              replace HV := Lib.hid (HV.out.below lb)
              replace HU := Lib.hid (HU.out.below lb)
              replace HX := Lib.hid (HX.out.below lb)
              clear lb
              go_upto_region 13 with fail
              obtain ⟨y0, y1, y2, y3, y4⟩ := HX.out.y.c
              obtain ⟨x0, x1, x2, x3, x4⟩ := HY.out
              have hw : SR _ p s := ⟨HZ.out, HST.out⟩
              have BQ := Lib.hid HX.out.b
              clear YB HY HST HX2 HU HV
              have hs := HX.out.sr
              have HS := Lib.hid hs
              have HW := Lib.hid hw
              clear hs hw
              replace y0 := cell_bw y0
              replace y1 := cell_bw y1
              replace y2 := cell_bw y2
              replace y3 := cell_bw y3
              replace y4 := cell_bw y4
              replace x0 := cell_bw x0
              replace x1 := cell_bw x1
              replace x2 := cell_bw x2
              replace x3 := cell_bw x3
              replace x4 := cell_bw x4
              refine wp_region_bw (by kernel_rfl) (by kernel_rfl) ?_
              repeat
                (with_reducible refine wpQuiet_step (fun K hK => ?_)
                 go_simp
                 first
                   | (with_reducible refine hK _ ?_
                      clear hK K)
                   | (rw [if_neg]
                      rotate_left
                      focus (intro h; cases h; done)
                      with_reducible refine hK _ ?_
                      clear hK K)
                   | (apply Exists.intro
                      refine ⟨fun _ => ?_, hK _ ?_⟩
                      (first | (go_at_call 12; first | (with_reducible exact Calls.bw (as_s p3 s _)) | (with_reducible exact Calls.bw (as_s p s _))) | (go_at_call 11; exact Calls.bw (same_s p3 p s _ (HS.out.bw _) (HW.out.bw _))) | (go_at_call 8; exact Calls.bw (knows20_any _)))
                      clear hK K))
              with_reducible refine wpQuiet_nil ?_
              intro wb hw'
              obtain ⟨⟨wb', lb⟩, hw''⟩ := hw'
              subst hw''
              have B20 := Lib.hid (below_step BQ.out lb)
              clear lb
              go_wp2_with fail
              go_ret
              exact ⟨rfl, B20.out⟩
          · obtain ⟨c1, c2, c3⟩ := chg_left (P := P) (B := B) (x := x) hgg g0
            have e1 : s = q := by rw [← hq, c3]
            subst e1
            have HLE : Hid ((leaveE s i : Int) = (g : Int)) := by show _ = _; rw [hgg]
            have HCH := Lib.hid (fun S => chg_s S p s s i x D x.2.2.2.length d rfl (by omega) ⟨F1.out, F2.out, F3.out⟩ P B g c2 c1)
            have i1 : ¬ (g : Int) = 0 := by omega
            have i2 : ((g : Int) == 0) = false := beq_eq_false_iff_ne.2 i1
            have i3 : ((g : Int) == (g : Int)) = true := by simp
            have HZ := Lib.hid hz
            clear hz
            clear hL hin g0 hq hgg c1 c2 c3 hk20
            obtain ⟨_, f1, f2, z1, z2, z3, z4⟩ := YB.out
            obtain ⟨y0, y1, y2, y3, y4⟩ := HY.out
            go_wp2_with fail
            clear f1 f2 z1 z2 z3 z4 y0 y1 y2 y3 y4
            refine (great_s p s _ hg _ _ HST.out).mono ?_
            rintro e w3 ⟨rfl, b3⟩
            have B3 := Lib.hid (below_step BW.out b3)
            replace HM := Lib.hid (HM.out.below b3)
            replace YB := Lib.hid (YB.out.below b3)
            replace HY := Lib.hid (HY.out.below b3)
            replace HST := Lib.hid (HST.out.below b3)
            replace HX2 := Lib.hid (HX2.out.below b3)
            clear b3
            obtain ⟨_, f1, f2, z1, z2, z3, z4⟩ := YB.out
            obtain ⟨y0, y1, y2, y3, y4⟩ := HY.out
            go_wp2_with fail
            clear f1 f2 z1 z2 z3 z4 y0 y1 y2 y3 y4
            refine (great20_v A7 c7 (s.tasks ++ [x]) _ hg2 (s.tasks.length + 1) HLM.out _ HM.out).mono ?_
            rintro e w4 ⟨rfl, b3⟩
            have B4 := Lib.hid (below_step B3.out b3)
            replace HM := Lib.hid (HM.out.below b3)
            replace YB := Lib.hid (YB.out.below b3)
            replace HY := Lib.hid (HY.out.below b3)
            replace HST := Lib.hid (HST.out.below b3)
            replace HX2 := Lib.hid (HX2.out.below b3)
            clear b3
            obtain ⟨_, f1, f2, z1, z2, z3, z4⟩ := YB.out
            obtain ⟨y0, y1, y2, y3, y4⟩ := HY.out
            go_wp2_with fail
            clear f1 f2 z1 z2 z3 z4 y0 y1 y2 y3 y4
            refine (far_any P B A7 c7 (s.tasks ++ [x]) _ hf (s.tasks.length + 1) HLM.out _ (HTM.out _ HM.out)).mono ?_
            rintro e w5 ⟨rfl, b3⟩
            have B5 := Lib.hid (below_step B4.out b3)
            replace YB := Lib.hid (YB.out.below b3)
            replace HY := Lib.hid (HY.out.below b3)
            replace HST := Lib.hid (HST.out.below b3)
            replace HX2 := Lib.hid (HX2.out.below b3)
            clear b3
            obtain ⟨_, f1, f2, z1, z2, z3, z4⟩ := YB.out
            obtain ⟨y0, y1, y2, y3, y4⟩ := HY.out
            go_wp2_with fail
            clear f1 f2 z1 z2 z3 z4 y0 y1 y2 y3 y4
            refine (drop_s (fun b => b < w5.heap.size) p s s i g HLS.out HLE.out _ (fun b h => h) HZ.out HST.out.old).mono ?_
            rintro e w6 ⟨p1, rfl, h3, b6⟩
            have HV := Lib.hid (Vs.made (below_step B5.out b6) h3)
            have bn := below_step b6 (below_one w6 (.cells #[.slice p1.A s.tasks.length p1.a, .slice p1.B s.leaves.length p1.b, .slice p1.C s.lasts.length p1.c, .slice p1.D s.jobs.length p1.d, .slice p1.E s.log.length p1.e] 35))
            replace YB := Lib.hid (YB.out.below bn)
            replace HY := Lib.hid (HY.out.below bn)
            replace HST := Lib.hid (HST.out.below bn)
            replace HX2 := Lib.hid (HX2.out.below bn)
            clear h3 b6 bn
            obtain ⟨_, f1, f2, z1, z2, z3, z4⟩ := YB.out
            obtain ⟨y0, y1, y2, y3, y4⟩ := HY.out
            go_wp2_with fail
            clear f1 f2 z1 z2 z3 z4 y0 y1 y2 y3 y4
            generalize w6.alloc (.cells #[.slice p1.A s.tasks.length p1.a, .slice p1.B s.leaves.length p1.b, .slice p1.C s.lasts.length p1.c, .slice p1.D s.jobs.length p1.d, .slice p1.E s.log.length p1.e] 35) = w7 at *
            generalize w6.heap.size = V at *
            refine (leave_s (fun b => b < w7.heap.size) p s s i g HLS.out HLE.out _ (fun b h => h) HZ.out HST.out.old).mono ?_
            rintro e w8 ⟨p2, rfl, h3, b6⟩
            replace HV := Lib.hid (HV.out.below b6)
            have HU := Lib.hid (Vs.made HV.out.b h3)
            have bn := below_one w8 (.cells #[.slice p2.A s.tasks.length p2.a, .slice p2.B s.leaves.length p2.b, .slice p2.C s.lasts.length p2.c, .slice p2.D s.jobs.length p2.d, .slice p2.E s.log.length p2.e] 35)
            replace HV := Lib.hid (HV.out.below bn)
            replace bn := below_step b6 bn
            replace YB := Lib.hid (YB.out.below bn)
            replace HY := Lib.hid (HY.out.below bn)
            replace HST := Lib.hid (HST.out.below bn)
            replace HX2 := Lib.hid (HX2.out.below bn)
            clear h3 b6 bn
            obtain ⟨_, f1, f2, z1, z2, z3, z4⟩ := YB.out
            obtain ⟨y0, y1, y2, y3, y4⟩ := HY.out
            go_wp2_with fail
            clear f1 f2 z1 z2 z3 z4 y0 y1 y2 y3 y4
            generalize w8.alloc (.cells #[.slice p2.A s.tasks.length p2.a, .slice p2.B s.leaves.length p2.b, .slice p2.C s.lasts.length p2.c, .slice p2.D s.jobs.length p2.d, .slice p2.E s.log.length p2.e] 35) = w9 at *
            generalize w8.heap.size = U at *
            refine (HCH.out (fun b => b < w9.heap.size) _ (fun b h => h) HZ.out HST.out.old HX2.out).mono ?_
            rintro e w10 ⟨p3, rfl, h3, b6⟩
            replace HV := Lib.hid (HV.out.below b6)
            replace HU := Lib.hid (HU.out.below b6)
            have HX := Lib.hid (Vs.made HV.out.b h3)
            have bn := below_one w10 (.cells #[.slice p3.A s.tasks.length p3.a, .slice p3.B s.leaves.length p3.b, .slice p3.C s.lasts.length p3.c, .slice p3.D s.jobs.length p3.d, .slice p3.E s.log.length p3.e] 35)
            replace HV := Lib.hid (HV.out.below bn)
            replace HU := Lib.hid (HU.out.below bn)
            replace bn := below_step b6 bn
            replace YB := Lib.hid (YB.out.below bn)
            replace HY := Lib.hid (HY.out.below bn)
            replace HST := Lib.hid (HST.out.below bn)
            replace HX2 := Lib.hid (HX2.out.below bn)
            clear h3 b6 bn
            go_upto_region 7 with fail
            generalize w10.alloc (.cells #[.slice p3.A s.tasks.length p3.a, .slice p3.B s.leaves.length p3.b, .slice p3.C s.lasts.length p3.c, .slice p3.D s.jobs.length p3.d, .slice p3.E s.log.length p3.e] 35) = w11 at *
            generalize w10.heap.size = C at *
            obtain ⟨y0, y1, y2, y3, y4⟩ := HV.out.y.c
            obtain ⟨x0, x1, x2, x3, x4⟩ := HU.out.y.c
            have hs := HV.out.sr
            have hw := HU.out.sr
            have HS := Lib.hid hs
            have HW := Lib.hid hw
            clear hs hw
            replace y0 := cell_bw y0
            replace y1 := cell_bw y1
            replace y2 := cell_bw y2
            replace y3 := cell_bw y3
            replace y4 := cell_bw y4
            replace x0 := cell_bw x0
            replace x1 := cell_bw x1
            replace x2 := cell_bw x2
            replace x3 := cell_bw x3
            replace x4 := cell_bw x4
            refine wp_region_bw (by kernel_rfl) (by kernel_rfl) ?_
            repeat
              (with_reducible refine wpQuiet_step (fun K hK => ?_)
               go_simp
               first
                 | (with_reducible refine hK _ ?_
                    clear hK K)
                 | (rw [if_neg]
                    rotate_left
                    focus (intro h; cases h; done)
                    with_reducible refine hK _ ?_
                    clear hK K)
                 | (apply Exists.intro
                    refine ⟨fun _ => ?_, hK _ ?_⟩
                    (first | (go_at_call 12; first | (with_reducible exact Calls.bw (as_s p1 s _)) | (with_reducible exact Calls.bw (as_s p2 s _))) | (go_at_call 11; exact Calls.bw (same_s p1 p2 s _ (HS.out.bw _) (HW.out.bw _))))
                    clear hK K))
            with_reducible refine wpQuiet_nil ?_
            intro wb hw'
            obtain ⟨⟨wb', lb⟩, hw''⟩ := hw'
            subst hw''
            clear HS HW y0 y1 y2 y3 y4 x0 x1 x2 x3 x4
            replace YB := Lib.hid (YB.out.below lb)
            replace HY := Lib.hid (HY.out.below lb)
            replace HST := Lib.hid (HST.out.below lb)
            replace HX2 := Lib.hid (HX2.out.below lb)
            replace HV := Lib.hid (HV.out.below lb)
            replace HU := Lib.hid (HU.out.below lb)
            replace HX := Lib.hid (HX.out.below lb)
            clear lb
            generalize wb = wc at *
            go_upto_region 10 with fail
            obtain ⟨y0, y1, y2, y3, y4⟩ := HX.out.y.c
            obtain ⟨x0, x1, x2, x3, x4⟩ := HY.out
            have hw : SR _ p s := ⟨HZ.out, HST.out⟩
            have BQ := Lib.hid HX.out.b
            clear YB HY HST HX2 HU HV
            have hs := HX.out.sr
            have HS := Lib.hid hs
            have HW := Lib.hid hw
            clear hs hw
            replace y0 := cell_bw y0
            replace y1 := cell_bw y1
            replace y2 := cell_bw y2
            replace y3 := cell_bw y3
            replace y4 := cell_bw y4
            replace x0 := cell_bw x0
            replace x1 := cell_bw x1
            replace x2 := cell_bw x2
            replace x3 := cell_bw x3
            replace x4 := cell_bw x4
            refine wp_region_bw (by kernel_rfl) (by kernel_rfl) ?_
            repeat
              (with_reducible refine wpQuiet_step (fun K hK => ?_)
               go_simp
               first
                 | (with_reducible refine hK _ ?_
                    clear hK K)
                 | (rw [if_neg]
                    rotate_left
                    focus (intro h; cases h; done)
                    with_reducible refine hK _ ?_
                    clear hK K)
                 | (apply Exists.intro
                    refine ⟨fun _ => ?_, hK _ ?_⟩
                    (first | (go_at_call 12; first | (with_reducible exact Calls.bw (as_s p3 s _)) | (with_reducible exact Calls.bw (as_s p s _))) | (go_at_call 11; exact Calls.bw (same_s p3 p s _ (HS.out.bw _) (HW.out.bw _))) | (go_at_call 8; exact Calls.bw (knows20_any _)))
                    clear hK K))
            with_reducible refine wpQuiet_nil ?_
            intro wb hw'
            obtain ⟨⟨wb', lb⟩, hw''⟩ := hw'
            subst hw''
            have B20 := Lib.hid (below_step BQ.out lb)
            clear lb
            go_wp2_with fail
            go_ret
            exact ⟨rfl, B20.out⟩

set_option maxRecDepth 100000 in
theorem lifted (os : Os) (started : os.Started) (H : Type) (enc : TypeId × Value → H) :
    ReturnsInHanded {} Tryz.checked os 5 .any (Rows.admitChangesSpec.pre6 enc Tryz.prog Tryz.f5 Rows.admitChangesRow.domain false) (Rows.admitChangesSpec.post enc Tryz.prog Tryz.f5 false true false false) := by
  refine returnsInHanded_of_change_sized (C := Tryz.checked) own started (by kernel_rfl) Tryz.func5
    (ChangeSpec.witness6 (enc := enc) (C := Tryz.checked) false ⟨#[], #[.agg #[.slice none 0 0, .slice none 0 0, .slice none 0 0, .slice none 0 0, .slice none 0 0], .agg #[.int .i64 0, .int .i64 0], .int .i64 0, .agg #[.int .i64 0, .int .i64 0, .int .i64 0, .slice none 0 0]], []⟩ 8 (by kernel_rfl) (by kernel_rfl) (by kernel_rfl) (by kernel_rfl)) ?_
  intro W base args ds gs before hval0 hW hcnd hsz0 _
  have hval : ∀ (j : Nat) t v, Tryz.f5.params[j]? = some t → args[j]? = some v → Value.okWide Tryz.prog W .any base t v := hval0
  have hW' := hW
  obtain ⟨p, q, hA0, hV, rfl, hfz, hnd⟩ := hW
  have hA : DataW.TrodAll enc Tryz.prog W 0 (fun _ => true) true Tryz.f5.params.toList args.toList ds p := hA0
  have hsz : (DataW.weightsEach Tryz.prog (Tryz.f5.params.toList ++ Rows.admitChangesSpec.plain.varTypes Tryz.prog) (ds ++ gs)).all (· ≤ reachBytes) = true := hsz0
  rw [Tryz.params5] at hA hval hsz
  obtain ⟨v0, v1, v2, v3, d0, d1, d2, d3, p0, p1, p2, p3, rfl, rfl, rfl, h0, h1, h2, h3⟩ := trodAll_four' hA
  obtain ⟨rfl, rfl⟩ := trodVars_none hV
  obtain ⟨q0, s0, rfl, hr0⟩ := Pm.open_state (hval 0 35 v0 rfl rfl) h0
  obtain ⟨P1, B1, rfl, fp1, fb1⟩ := Sp.open_face (hval 1 23 v1 rfl rfl) h1
  obtain ⟨n2, rfl, f2⟩ := Mm.open_num' Tryz.underlying3 (hval 2 3 v2 rfl rfl) h2
  obtain ⟨A3, c3, x3, rfl, fa3, fb3, fc3, hr3⟩ := Tk.open_task (hval 3 47 v3 rfl rfl) h3
  have hz : s0.tasks.length * 48 ≤ 140737488351232 := by
    have h9 := Mm.sized_field hsz (j := 0) (t := 35) (e := 47) rfl rfl Tryz.underlying35 rfl rfl (by kernel_rfl) Tryz.underlying24 h0 rfl
    rw [show Tryz.prog.bytesOf 47 = 48 from by kernel_rfl] at h9
    simpa [reachBytes] using h9
  clear hA0 hval0
  refine (walk q0 s0 P1 B1 n2 A3 c3 x3 W hr0 fp1 fb1 f2 fa3 fb3 fc3 hr3 hz).mono fun e W' ⟨he, bel⟩ => ?_
  subst he
  have hlt0 : ∀ x ∈ p0, x.block < W.heap.size := fun x hx => hW'.lt x (by simp [hx])
  have hlt1 : ∀ x ∈ p1, x.block < W.heap.size := fun x hx => hW'.lt x (by simp [hx])
  have hlt2 : ∀ x ∈ p2, x.block < W.heap.size := fun x hx => hW'.lt x (by simp [hx])
  have hlt3 : ∀ x ∈ p3, x.block < W.heap.size := fun x hx => hW'.lt x (by simp [hx])
  exact ⟨_, rfl, _, _, _, [], _, [], hW', trodAll_mk1 (shut_bool Tryz.underlying4 _), trodAll_mk4 (Below.trod laidOut (by kernel_rfl) (of_decide_eq_true (by kernel_rfl)) h0 bel hlt0) (Below.trod laidOut (by kernel_rfl) (of_decide_eq_true (by kernel_rfl)) h1 bel hlt1) (Below.trod laidOut (by kernel_rfl) (of_decide_eq_true (by kernel_rfl)) h2 bel hlt2) (Below.trod laidOut (by kernel_rfl) (of_decide_eq_true (by kernel_rfl)) h3 bel hlt3), rfl, bel.frame _, fun h => by cases h⟩

/-- The statement. -/
theorem proved : Rows.AdmitChangesSaid :=
  OpenClaim.holds_of_wide 5 Tryz.f5 rfl rfl rfl rfl rfl rfl rfl ⟨rfl, rfl, rfl, rfl, rfl⟩ rfl rfl rfl rfl rfl (by kernel_rfl) Tryz.func5 (by kernel_rfl)
    (of_decide_eq_true (by kernel_rfl)) (by unfold Func.isWrapper; first | (rw [if_pos (by decide +kernel)]; kernel_rfl) | (rw [if_neg (by decide +kernel)]; exact ⟨rfl, rfl⟩))
    (fun os started H enc _ => lifted os started H enc)
#print axioms proved

end Go.Proofs.YtdjjdebnbaaihaaGreat.admitChanges
