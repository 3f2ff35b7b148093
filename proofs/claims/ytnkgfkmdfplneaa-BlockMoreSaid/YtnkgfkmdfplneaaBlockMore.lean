/-
  For all tasks, any task more and any number the statement BlockMore of layer 8 returns true (with a task more the blocking is not less; and it is the length of a section, or 0), and its arguments read as before. No condition.
-/
import Derived.Test.YtnkgfkmdfplneaaLaw05Args
import Derived.Test.YtnkgfkmdfplneaaLaw08Knows
import Derived.Test.YtnkgfkmdfplneaaTaskOwn
import Derived.Test.YtnkgfkmdfplneaaMemSized
import Derived.Deep.DeepCutAuto
namespace Go.Proofs.Ytnkgfkmdfplneaa.blockMore
open Go.ChangeShapes Go.WideShapes Go.ChangeAt Go.RowKit
open Mm Tk Bk

/-- the longer list, in new memory -/
def More (w : World) (M : List Tsk) (n : Nat) (v : Value) (w' : World) : Prop := ∃ A c, v = .slice A n c ∧ Rd w' A c M ∧ Below w.heap.size w w'
theorem great_v (A : Option Addr) (c : Nat) (L : List Tsk) (v : Bool) (hv : greatB L = v) (n : Nat) (hn : L.length = n) (w : World) (hr : Rd w A c L) :
    Calls Try.prog 7 #[.slice A n c] w fun e w' => e = .returned (.bool v) ∧ Below w.heap.size w w' := by
  subst hv; subst hn
  exact great_any A c L w hr
theorem all_front {L : List Tsk} {x : Tsk} (h : allB (L ++ [x]) = true) : allB L = true := by
  unfold allB at h ⊢
  rw [Bool.and_eq_true, decide_eq_true_eq, List.length_append, List.all_append, Bool.and_eq_true] at h
  rw [Bool.and_eq_true, decide_eq_true_eq]
  exact ⟨by omega, h.2.1⟩

/-- was the length found among the first i tasks' sections -/
def hasLen (l : List Sc) (v : Int) (k : Nat) : Bool := (l.take k).any fun s => decide (s.2.2 = v)
def fnd (M : List Tsk) (v : Int) (i : Nat) : Bool := decide (v = 0) || (M.take i).any fun y => hasLen y.2.2.2 v y.2.2.2.length
theorem hasLen_succ {l : List Sc} {v : Int} {k : Nat} (h : k < l.length) : hasLen l v (k + 1) = (hasLen l v k || decide ((at_ l k).2.2 = v)) := by
  unfold hasLen
  rw [take_succ_at h, List.any_append]
  simp
theorem fnd_succ {M : List Tsk} {v : Int} {i : Nat} (h : i < M.length) : fnd M v (i + 1) = (fnd M v i || hasLen (at_ M i).2.2.2 v (at_ M i).2.2.2.length) := by
  unfold fnd
  rw [take_succ_at h, List.any_append, ← Bool.or_assoc]
  simp
theorem fnd_all {M : List Tsk} (h : allB M = true) (t : Int) : fnd M ((blk M t : Nat) : Int) M.length = true := by
  unfold fnd
  rcases blk_is (L := M) (t := t) with e | ⟨y, hy, s, hs, e⟩
  · rw [e]; rfl
  · rw [Bool.or_eq_true]
    right
    rw [List.take_length, List.any_eq_true]
    refine ⟨y, hy, ?_⟩
    unfold hasLen
    rw [List.take_length, List.any_eq_true]
    refine ⟨s, hs, ?_⟩
    rw [decide_eq_true_eq, e]
    unfold allB at h
    rw [Bool.and_eq_true, List.all_eq_true] at h
    have := right_sec (h.2 y hy) hs
    omega

set_option maxRecDepth 20000 in
set_option maxHeartbeats 4000000 in
theorem walk (A : Option Addr) (c : Nat) (L : List Tsk) (B : Option Addr) (d : Nat) (x : Tsk) (t : Int) (w : World) (hr : Rd w A c L) (f1 : Fit x.1) (f2 : Fit x.2.1) (f3 : Fit x.2.2.1) (hx : Rd w B d x.2.2.2) (ft : Fit t) (hz : L.length * 48 ≤ 140737488351232) :
    Calls Try.prog 5 #[.slice A L.length c, .agg #[.int .i64 x.1, .int .i64 x.2.1, .int .i64 x.2.2.1, .slice B x.2.2.2.length d], .int .i64 t] w fun e w' => e = .returned (.bool true) ∧ Below w.heap.size w w' := by
  obtain ⟨y1, y2, y3, y4⟩ := box_new w x.1 x.2.1 x.2.2.1 B x.2.2.2.length d
  have b0 := below_one w (Obj.cells #[.int .i64 x.1, .int .i64 x.2.1, .int .i64 x.2.2.1, .slice B x.2.2.2.length d] 37)
  have n1 : Hid (0 + L.length ≤ maxLen) := by show _ ≤ _; unfold maxLen; omega
  have n2 : Hid (L.length + 1 ≤ maxLen) := by show _ ≤ _; unfold maxLen; omega
  have m1 : Hid ((0 + L.length) * 48 ≤ 140737488355328) := by show _ ≤ _; omega
  have m2 : Hid ((L.length + 1) * 48 ≤ 140737488355328) := by show _ ≤ _; omega
  have HR := Lib.hid hr
  have HX := Lib.hid hx
  have F1 := Lib.hid f1
  have F2 := Lib.hid f2
  have F3 := Lib.hid f3
  have FT := Lib.hid ft
  have B0 := Lib.hid b0
  have HZ := Lib.hid hz
  clear hr hx f1 f2 f3 ft b0 hz
  go_enter Try.func5, Try.ntmps5
  go_upto_region 1 with fail
  have HR2 := Lib.hid (HR.out.below B0.out)
  have HX2 := Lib.hid (HX.out.below B0.out)
  generalize w.alloc (Obj.cells #[.int .i64 x.1, .int .i64 x.2.1, .int .i64 x.2.2.1, .slice B x.2.2.2.length d] 37) = w2 at *
  go_cut [7] (fun s7 wx => More w2 (L ++ [x]) (L.length + 1) s7 wx)
  case first =>
    have YB : Hid (Box w2 w.heap.size x.1 x.2.1 x.2.2.1 B x.2.2.2.length d) := ⟨y1, y2, y3, y4⟩
    generalize w.heap.size = X at *
    have OA : Hid (OwN (w2.drew.alloc (Obj.cells #[] 37)) w2.heap.size 37 (some ⟨w2.heap.size, 0, none⟩) 0 ([] : List Tsk)) := own_lit0 w2.drew 37
    have OB := Lib.hid (OA.out.below (below_one _ (Obj.cells #[.int .i64 x.1, .int .i64 x.2.1, .int .i64 x.2.2.1, .slice B x.2.2.2.length d] 37)))
    have BA : Hid (Below w2.heap.size w2 (w2.drew.alloc (Obj.cells #[] 37))) := (Below.refl _ w2).drew.alloc (Nat.le_refl _) _
    have BX : Hid (Below w2.heap.size w2 (w2.drew.alloc (Obj.cells #[.int .i64 x.1, .int .i64 x.2.1, .int .i64 x.2.2.1, .slice B x.2.2.2.length d] 37))) := (Below.refl _ w2).drew.alloc (Nat.le_refl _) _
    have BB := Lib.hid (BA.out.alloc BA.out.size (Obj.cells #[.int .i64 x.1, .int .i64 x.2.1, .int .i64 x.2.2.1, .slice B x.2.2.2.length d] 37))
    have BC := Lib.hid (BX.out.alloc BX.out.size (Obj.cells #[] 37))
    have OC : Hid (OwN ((w2.drew.alloc (Obj.cells #[.int .i64 x.1, .int .i64 x.2.1, .int .i64 x.2.2.1, .slice B x.2.2.2.length d] 37)).alloc (Obj.cells #[] 37)) w2.heap.size 37 (some ⟨w2.heap.size + 1, 0, none⟩) 0 ([] : List Tsk)) := by
      have h := (own_lit0 (β := Tsk) (w2.drew.alloc (Obj.cells #[.int .i64 x.1, .int .i64 x.2.1, .int .i64 x.2.2.1, .slice B x.2.2.2.length d] 37)) 37).rebase (base' := w2.heap.size) BX.out.size
      rw [World.size_alloc] at h
      exact h
    have RA := Lib.hid (rd_else (A1 := some ⟨w2.heap.size, 0, none⟩) HR2.out BA.out (fun g hg => (OwN.new OA.out g hg).1))
    have RB := Lib.hid (rd_else (A1 := some ⟨w2.heap.size, 0, none⟩) HR2.out BB.out (fun g hg => (OwN.new OB.out g hg).1))
    have RC := Lib.hid (rd_else (A1 := some ⟨w2.heap.size + 1, 0, none⟩) HR2.out BC.out (fun g hg => (OwN.new OC.out g hg).1))
    have XB : Hid (Box ((w2.drew.alloc (Obj.cells #[] 37)).alloc (Obj.cells #[.int .i64 x.1, .int .i64 x.2.1, .int .i64 x.2.2.1, .slice B x.2.2.2.length d] 37)) (w2.heap.size + 1) x.1 x.2.1 x.2.2.1 B x.2.2.2.length d) := box_at _ _ _ _ _ _ _ _ (by simp)
    have XC : Hid (Box ((w2.drew.alloc (Obj.cells #[.int .i64 x.1, .int .i64 x.2.1, .int .i64 x.2.2.1, .slice B x.2.2.2.length d] 37)).alloc (Obj.cells #[] 37)) w2.heap.size x.1 x.2.1 x.2.2.1 B x.2.2.2.length d) := (box_at w2.drew _ _ _ _ _ _ w2.heap.size rfl).below (below_one _ _)
    have nB : Hid (∀ g, (some ⟨w2.heap.size, 0, none⟩ : Option Addr) = some ⟨g, 0, none⟩ ∨ g = ((w2.drew.alloc (Obj.cells #[] 37)).alloc (Obj.cells #[.int .i64 x.1, .int .i64 x.2.1, .int .i64 x.2.2.1, .slice B x.2.2.2.length d] 37)).heap.size → g ≠ w2.heap.size + 1) := fun g hg => by
      rcases hg with hg | hg
      · injection hg with hg; injection hg with hg; omega
      · rw [World.size_alloc, World.size_alloc] at hg; rw [hg]; show w2.heap.size + 1 + 1 ≠ _; omega
    have nC : Hid (∀ g, (some ⟨w2.heap.size + 1, 0, none⟩ : Option Addr) = some ⟨g, 0, none⟩ ∨ g = ((w2.drew.alloc (Obj.cells #[.int .i64 x.1, .int .i64 x.2.1, .int .i64 x.2.2.1, .slice B x.2.2.2.length d] 37)).alloc (Obj.cells #[] 37)).heap.size → g ≠ w2.heap.size) := fun g hg => by
      rcases hg with hg | hg
      · injection hg with hg; injection hg with hg; omega
      · rw [World.size_alloc, World.size_alloc] at hg; rw [hg]; show w2.heap.size + 1 + 1 ≠ _; omega
    have eB : Hid (some (w2.heap.size + 1) ≠ (Value.slice (some ⟨w2.heap.size, 0, none⟩) 0 0).ownBlock) := fun h => by
      have h' := Option.some.inj h
      simp only at h'
      omega
    have eC : Hid (some w2.heap.size ≠ (Value.slice (some ⟨w2.heap.size + 1, 0, none⟩) 0 0).ownBlock) := fun h => by
      have h' := Option.some.inj h
      simp only at h'
      omega
    go_region_held3 (fun w' => w'.cell? ⟨X, 0, none⟩ = some (.int .i64 x.1) ∧ w'.cell? ⟨X, 1, none⟩ = some (.int .i64 x.2.1) ∧ w'.cell? ⟨X, 2, none⟩ = some (.int .i64 x.2.2.1) ∧ w'.cell? ⟨X, 3, none⟩ = some (.slice B x.2.2.2.length d))
      (first
        | (exact Box.below YB.out Bz.out)
        | (exact Box.below YB.out (Ba.out.alloc Ba.out.size _))
        | (exact Box.below YB.out Ba.out)
        | (exact Box.below YB.out BB.out)
        | (exact Box.below YB.out BC.out)
        | (exact Box.below YB.out BA.out)
        | (exact Box.below YB.out BX.out)
        | (exact Box.below YB.out (Below.refl _ w2).drew))
      (first
        | (refine step_own_big slTaskB (by rfl) _ _ (by rfl) (base := w2.heap.size) (l := ([] : List Tsk)) (r := L) (n := 0) (m := L.length) rfl rfl (by rfl) (by rfl) (by exact OA.out) (by exact RA.out) n1.out m1.out BA.out.size ?_
           intro A5 c5 w5 k1 k2 k3
           have Ba := Lib.hid (Below.grown (B := w2.heap.size) (a := w2) BA.out k2 BA.out.size (OwS.row OA.out))
           have Oa : Hid (OwN w5 w2.heap.size 37 A5 c5 L) := k1
           have O5 := Lib.hid (Oa.out.below (below_one w5 (Obj.cells #[.int .i64 x.1, .int .i64 x.2.1, .int .i64 x.2.2.1, .slice B x.2.2.2.length d] 37)))
           have B5 := Lib.hid (Ba.out.alloc Ba.out.size (Obj.cells #[.int .i64 x.1, .int .i64 x.2.1, .int .i64 x.2.2.1, .slice B x.2.2.2.length d] 37))
           have R5 := Lib.hid (lit_else F1.out F2.out F3.out (box_new w5 x.1 x.2.1 x.2.2.1 B x.2.2.2.length d) (fun h => absurd (OwN.new Oa.out _ h).2 (Nat.lt_irrefl _)) (rd_else HX2.out B5.out (fun g hg => (OwN.new Oa.out g hg).1)))
           rw [Nat.zero_add]
           clear k1 k2 k3)
        | (refine step_own_big slTaskB (by rfl) _ _ (by rfl) (base := w2.heap.size) (l := ([] : List Tsk)) (r := L) (n := 0) (m := L.length) rfl rfl (by rfl) (by rfl) (by exact OB.out) (by exact RB.out) n1.out m1.out BB.out.size ?_
           intro A5 c5 w5 k1 k2 k3
           have Ba := Lib.hid (Below.grown (B := w2.heap.size) (a := w2) BB.out k2 BB.out.size (OwS.row OB.out))
           have B5 := Ba
           have O5 : Hid (OwN w5 w2.heap.size 37 A5 c5 L) := k1
           have R5 := Lib.hid (lit_else F1.out F2.out F3.out (Box.gb XB.out k2 eB.out) (fun h => nB.out _ (k3 _ h) rfl) (rd_else HX2.out B5.out (fun g hg => (OwN.new O5.out g hg).1)))
           rw [Nat.zero_add]
           clear k1 k2 k3)
        | (refine step_own_big slTaskB (by rfl) _ _ (by rfl) (base := w2.heap.size) (l := ([] : List Tsk)) (r := L) (n := 0) (m := L.length) rfl rfl (by rfl) (by rfl) (by exact OC.out) (by exact RC.out) n1.out m1.out BC.out.size ?_
           intro A5 c5 w5 k1 k2 k3
           have Ba := Lib.hid (Below.grown (B := w2.heap.size) (a := w2) BC.out k2 BC.out.size (OwS.row OC.out))
           have B5 := Ba
           have O5 : Hid (OwN w5 w2.heap.size 37 A5 c5 L) := k1
           have R5 := Lib.hid (lit_else F1.out F2.out F3.out (Box.gb XC.out k2 eC.out) (fun h => nC.out _ (k3 _ h) rfl) (rd_else HX2.out B5.out (fun g hg => (OwN.new O5.out g hg).1)))
           rw [Nat.zero_add]
           clear k1 k2 k3)
        | (refine step_own_big slTaskB (by rfl) _ _ (by rfl) (base := w2.heap.size) (l := L) (r := [x]) (n := L.length) (m := 1) rfl rfl (by rfl) (by rfl) (by exact O5.out) (by exact R5.out) n2.out m2.out B5.out.size ?_
           intro A6 c6 w6 k1 k2 k3
           have Bz := Lib.hid (Below.grown (B := w2.heap.size) (a := w2) B5.out k2 B5.out.size (OwS.row O5.out))
           have R6 := Lib.hid k1.rd
           clear k1 k2 k3))
    all_goals (go_wp2_with fail; go_meet; exact ⟨A6, c6, rfl, R6.out, Bz.out⟩)
  case rest =>
    obtain ⟨A7, c7, rfl, hr7, b7⟩ := hcut
    have HM := Lib.hid hr7
    have B7 := Lib.hid (below_step B0.out b7)
    clear hr7 b7 y1 y2 y3 y4
    have HLM : Hid ((L ++ [x]).length = L.length + 1) := by show List.length _ = _; simp
    cases hg : greatB (L ++ [x]) with
    | true =>
      have HG := Lib.hid hg
      clear hg
      go_wp2_with fail
      refine (great_v A7 c7 (L ++ [x]) true HG.out (L.length + 1) HLM.out _ HM.out).mono ?_
      rintro e w8 ⟨rfl, b8⟩
      have B8 := Lib.hid (below_step B7.out b8)
      clear b8
      go_wp2_with fail
      refine (knows8_any _).mono ?_
      rintro e w9 ⟨rfl, b9⟩
      have B9 := Lib.hid (below_step B8.out b9)
      clear b9
      go_wp2_with fail
      go_ret
      exact ⟨rfl, B9.out⟩
    | false =>
      obtain ⟨hL, hin⟩ := great_no hg
      have hL' := HLM.out
      have hL20 : L.length ≤ 20 := by omega
      have HT : Hid (TL w A c L) := ⟨by omega, fun j hj => by
        have := hin j (by omega)
        rw [at_left hj] at this
        omega, HR.out⟩
      have HTM := Lib.hid (show TL _ A7 c7 (L ++ [x]) from ⟨by omega, fun j hj => by have := hin j hj; omega, HM.out⟩)
      replace HT := Lib.hid (HT.out.below B7.out)
      have HG := Lib.hid hg
      clear hg
      clear hin hL hL'
      cases hv : allB (L ++ [x]) with
      | false =>
        have HV := Lib.hid hv
        clear hv
        go_wp2_with fail
        refine (great_v A7 c7 (L ++ [x]) false HG.out (L.length + 1) HLM.out _ HM.out).mono ?_
        rintro e w8 ⟨rfl, b8⟩
        have B8 := Lib.hid (below_step B7.out b8)
        replace HTM := Lib.hid (HTM.out.below b8)
        clear b8
        go_wp2_with fail
        refine (refAll_v A7 c7 (L ++ [x]) false HV.out (L.length + 1) HLM.out _ HTM.out).mono ?_
        rintro e w9 ⟨rfl, b9⟩
        have B9 := Lib.hid (below_step B8.out b9)
        clear b9
        go_wp2_with fail
        refine (knows8_any _).mono ?_
        rintro e w10 ⟨rfl, b10⟩
        have B10 := Lib.hid (below_step B9.out b10)
        clear b10
        go_wp2_with fail
        go_ret
        exact ⟨rfl, B10.out⟩
      | true =>
        obtain ⟨z1, z2, _⟩ := of_good (all_front hv) t
        obtain ⟨u1, u2, _⟩ := of_good hv t
        have hle := blk_more (L := L) (M := L ++ [x]) (t := t) (fun y hy => List.mem_append.2 (.inl hy))
        have hfa := fnd_all hv t
        have hm20 : (L ++ [x]).length ≤ 1000000 := by rw [HLM.out]; omega
        obtain ⟨M, hMe⟩ : ∃ M, L ++ [x] = M := ⟨_, rfl⟩
        obtain ⟨N, hNe⟩ : ∃ N, L.length + 1 = N := ⟨_, rfl⟩
        rw [hMe] at u1 u2 hle hfa hv hm20
        rw [hMe] at HG HLM HM HTM
        rw [hNe] at HLM ⊢
        obtain ⟨v, hvv⟩ : ∃ v, ((blk L t : Nat) : Int) = v := ⟨_, rfl⟩
        obtain ⟨u, huu⟩ : ∃ u, ((blk M t : Nat) : Int) = u := ⟨_, rfl⟩
        rw [hvv] at z1
        rw [huu] at u1 hfa
        have hle' : v ≤ u := by rw [← hvv, ← huu]; exact Int.ofNat_le.2 hle
        have HLM2 := HLM.out
        have hN : N ≤ 1000000 := by omega
        have HV := Lib.hid hv
        have Z1 := Lib.hid z1
        have Z2 := Lib.hid z2
        have U1 := Lib.hid u1
        have U2 := Lib.hid u2
        have HVV := Lib.hid hvv
        have HUU := Lib.hid huu
        have HFA := Lib.hid hfa
        have HME := Lib.hid hMe
        have HNE := Lib.hid hNe
        clear hv z1 z2 u1 u2 hvv huu hfa hMe hNe
        clear hle hm20 hL20 HLM2
        go_wp2_with fail
        refine (great_v A7 c7 M false HG.out N HLM.out _ HM.out).mono ?_
        rintro e w8 ⟨rfl, b8⟩
        have B8 := Lib.hid (below_step B7.out b8)
        replace HTM := Lib.hid (HTM.out.below b8)
        replace HT := Lib.hid (HT.out.below b8)
        clear b8
        go_wp2_with fail
        refine (refAll_v A7 c7 M true HV.out N HLM.out _ HTM.out).mono ?_
        rintro e w9 ⟨rfl, b9⟩
        have B9 := Lib.hid (below_step B8.out b9)
        replace HTM := Lib.hid (HTM.out.below b9)
        replace HT := Lib.hid (HT.out.below b9)
        clear b9
        go_wp2_with fail
        refine (of_v A c L t v 0 Z1.out Z2.out _ rfl _ HT.out).mono ?_
        rintro e w10 ⟨rfl, b10⟩
        have B10 := Lib.hid (below_step B9.out b10)
        replace HTM := Lib.hid (HTM.out.below b10)
        clear b10
        go_wp2_with fail
        refine (of_v A7 c7 M t u 0 U1.out U2.out N HLM.out _ HTM.out).mono ?_
        rintro e w11 ⟨rfl, b11⟩
        have B11 := Lib.hid (below_step B10.out b11)
        replace HTM := Lib.hid (HTM.out.below b11)
        clear b11
        go_wp2_with fail
        have HFN : Hid (fnd M u N = true) := by show _ = _; rw [← HLM.out]; exact HFA.out
        go_loop [12, 13] (fun fv iv => ∃ (i : Nat) (fb : Bool), iv = .int .i64 i ∧ fv = .bool fb ∧ i ≤ N ∧ Hid (fb = fnd M u i)) (fun _ iv => N - (intOf iv).toNat)
        case atStart => exact ⟨0, _, rfl, rfl, Nat.zero_le _, by show (u == 0) = _; unfold fnd; simp only [List.take_zero, List.any_nil, Bool.or_false]; rw [Bool.eq_iff_iff]; simp⟩
        case round =>
          obtain ⟨i, fb, rfl, rfl, hi, HF⟩ := hrel
          by_cases hil : i < N
          · obtain ⟨bb, off, rfl, hc⟩ := task_at HTM.out.2.2 (by have := HLM.out; omega)
            obtain ⟨E, f, _, _, _, x4, _, _, _, r⟩ := hc i (by have := HLM.out; omega)
            have RS := Lib.hid r.rd
            have hys := HTM.out.2.1 i (by have := HLM.out; omega)
            have HF2 : Hid (fnd M u (i + 1) = (fb || hasLen (at_ M i).2.2.2 u (at_ M i).2.2.2.length)) := by show _ = _; rw [fnd_succ (by have := HLM.out; omega), HF.out]
            clear hc r HF
            generalize at_ M i = y at *
            go_wp2_with fail
            go_loop [12, 14] (fun fv kv => ∃ (k : Nat) (gb : Bool), kv = .int .i64 k ∧ fv = .bool gb ∧ k ≤ y.2.2.2.length ∧ Hid (gb = (fb || hasLen y.2.2.2 u k))) (fun _ kv => y.2.2.2.length - (intOf kv).toNat)
            case atStart => exact ⟨0, fb, rfl, rfl, Nat.zero_le _, by show fb = _; unfold hasLen; simp⟩
            case round =>
              obtain ⟨k, gb, rfl, rfl, hk, HG2⟩ := hrel
              by_cases hkl : k < y.2.2.2.length
              · obtain ⟨b3, off3, rfl, hc⟩ := sec_at RS.out (by omega)
                obtain ⟨_, _, s3, _, _, _⟩ := hc k hkl
                have HS : Hid ((fb || hasLen y.2.2.2 u (k + 1)) = (gb || decide ((at_ y.2.2.2 k).2.2 = u))) := by show _ = _; rw [hasLen_succ hkl, ← Bool.or_assoc, HG2.out]
                clear hc HG2
                generalize at_ y.2.2.2 k = s at *
                cases gb with
                | true =>
                  have HC : Hid (true = (fb || hasLen y.2.2.2 u (k + 1))) := by show _ = _; rw [HS.out, Bool.true_or]
                  go_wp2_with fail
                  go_round
                  case rel => exact ⟨k + 1, true, by go_num, rfl, hkl, HC⟩
                  case measure => simp [intOf]; omega
                | false =>
                  by_cases he : s.2.2 = u
                  · have HC : Hid (true = (fb || hasLen y.2.2.2 u (k + 1))) := by show _ = _; rw [HS.out, decide_eq_true he]; rfl
                    have hbe : (s.2.2 == u) = true := by simp [he]
                    go_wp2_with fail
                    go_round
                    case rel => exact ⟨k + 1, true, by go_num, by first | rfl | rw [hbe], hkl, HC⟩
                    case measure => simp [intOf]; omega
                  · have HC : Hid (false = (fb || hasLen y.2.2.2 u (k + 1))) := by show _ = _; rw [HS.out, decide_eq_false he]; rfl
                    have hbe : (s.2.2 == u) = false := by simp [he]
                    go_wp2_with fail
                    go_round
                    case rel => exact ⟨k + 1, false, by go_num, by first | rfl | rw [hbe], hkl, HC⟩
                    case measure => simp [intOf]; omega
              · have hkl' : k = y.2.2.2.length := by omega
                subst hkl'
                have HC : Hid (gb = fnd M u (i + 1)) := by show _ = _; rw [HF2.out]; exact HG2.out
                go_wp2_with fail
                go_round
                case rel => exact ⟨i + 1, gb, by go_num, rfl, hil, HC⟩
                case measure => simp [intOf]; omega
          · have hiN : i = N := by omega
            subst hiN
            have hfb : fb = true := by rw [HF.out]; exact HFN.out
            subst hfb
            go_wp2_with fail
            refine (knows8_any _).mono ?_
            rintro e w12 ⟨rfl, b12⟩
            have B12 := Lib.hid (below_step B11.out b12)
            clear b12
            go_wp2_with fail
            go_ret
            exact ⟨rfl, B12.out⟩

set_option maxRecDepth 100000 in
theorem lifted (os : Os) (started : os.Started) (H : Type) (enc : TypeId × Value → H) :
    ReturnsInHanded {} Try.checked os 5 .any (Rows.blockMoreSpec.pre6 enc Try.prog Try.f5 Rows.blockMoreRow.domain false) (Rows.blockMoreSpec.post enc Try.prog Try.f5 false true false false) := by
  refine returnsInHanded_of_change_sized (C := Try.checked) own started (by kernel_rfl) Try.func5
    (ChangeSpec.witness6 (enc := enc) (C := Try.checked) false ⟨#[], #[.slice none 0 0, .agg #[.int .i64 0, .int .i64 0, .int .i64 0, .slice none 0 0], .int .i64 0], []⟩ 8 (by kernel_rfl) (by kernel_rfl) (by kernel_rfl) (by kernel_rfl)) ?_
  intro W base args ds gs before hval0 hW hcnd hsz0 _
  have hval : ∀ (j : Nat) t v, Try.f5.params[j]? = some t → args[j]? = some v → Value.okWide Try.prog W .any base t v := hval0
  have hW' := hW
  obtain ⟨p, q, hA0, hV, rfl, hfz, hnd⟩ := hW
  have hA : DataW.TrodAll enc Try.prog W 0 (fun _ => true) true Try.f5.params.toList args.toList ds p := hA0
  have hsz : (DataW.weightsEach Try.prog (Try.f5.params.toList ++ Rows.blockMoreSpec.plain.varTypes Try.prog) (ds ++ gs)).all (· ≤ reachBytes) = true := hsz0
  rw [Try.params5] at hA hval hsz
  obtain ⟨v0, v1, v2, d0, d1, d2, p0, p1, p2, rfl, rfl, rfl, h0, h1, h2⟩ := trodAll_three hA
  obtain ⟨rfl, rfl⟩ := trodVars_none hV
  obtain ⟨A0, c0, l0, rfl, hr0⟩ := Mm.open_list (α := Tk.Tsk) Try.underlying22 Tk.opTasks (hval 0 22 v0 rfl rfl) h0
  obtain ⟨A1, c1, x1, rfl, fa1, fb1, fc1, hr1⟩ := Tk.open_task (hval 1 37 v1 rfl rfl) h1
  obtain ⟨n2, rfl, f2⟩ := Mm.open_num' Try.underlying3 (hval 2 3 v2 rfl rfl) h2
  have hz : l0.length * 48 ≤ 140737488351232 := by
    have h9 := Mm.sized_list hsz (j := 0) (t := 22) (e := 37) rfl rfl Try.underlying22 h0 rfl
    rw [show Try.prog.bytesOf 37 = 48 from by kernel_rfl] at h9
    simpa [reachBytes] using h9
  clear hA0 hval0
  refine (walk A0 c0 l0 A1 c1 x1 n2 W hr0 fa1 fb1 fc1 hr1 f2 hz).mono fun e W' ⟨he, bel⟩ => ?_
  subst he
  have hlt0 : ∀ x ∈ p0, x.block < W.heap.size := fun x hx => hW'.lt x (by simp [hx])
  have hlt1 : ∀ x ∈ p1, x.block < W.heap.size := fun x hx => hW'.lt x (by simp [hx])
  have hlt2 : ∀ x ∈ p2, x.block < W.heap.size := fun x hx => hW'.lt x (by simp [hx])
  exact ⟨_, rfl, _, _, _, [], _, [], hW', trodAll_mk1 (shut_bool Try.underlying4 _), trodAll_mk3 (Below.trod laidOut (by kernel_rfl) (of_decide_eq_true (by kernel_rfl)) h0 bel hlt0) (Below.trod laidOut (by kernel_rfl) (of_decide_eq_true (by kernel_rfl)) h1 bel hlt1) (Below.trod laidOut (by kernel_rfl) (of_decide_eq_true (by kernel_rfl)) h2 bel hlt2), rfl, bel.frame _, fun h => by cases h⟩

/-- The statement. -/
theorem proved : Rows.BlockMoreSaid :=
  OpenClaim.holds_of_wide 5 Try.f5 rfl rfl rfl rfl rfl rfl rfl ⟨rfl, rfl, rfl, rfl, rfl⟩ rfl rfl rfl rfl rfl (by kernel_rfl) Try.func5 (by kernel_rfl)
    (of_decide_eq_true (by kernel_rfl)) (by unfold Func.isWrapper; first | (rw [if_pos (by decide +kernel)]; kernel_rfl) | (rw [if_neg (by decide +kernel)]; exact ⟨rfl, rfl⟩))
    (fun os started H enc _ => lifted os started H enc)
#print axioms proved

end Go.Proofs.Ytnkgfkmdfplneaa.blockMore
