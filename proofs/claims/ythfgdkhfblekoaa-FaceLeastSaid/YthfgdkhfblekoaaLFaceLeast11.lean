/-
  For all tasks and every period the statement FaceLeast of layer 11 returns true (the least interface of a period is what the document says, or the error is told), and its arguments read as before. No condition.
-/
import Derived.Test.YthfgdkhfblekoaaGlaw05
import Derived.Test.YthfgdkhfblekoaaGlaw11
import Derived.Test.YthfgdkhfblekoaaGmem
namespace Go.Proofs.Ythfgdkhfblekoaa.faceLeast
open Go.ChangeShapes Go.WideShapes Go.ChangeAt Go.RowKit
open Mm Tk Vd Fa
attribute [local go_sem ↓] buildFaceP buildFace0 eqFace

set_option maxRecDepth 20000 in
set_option maxHeartbeats 3200000 in
theorem walk (A : Option Addr) (c : Nat) (L : List Tsk) (P : Int) (w : World) (hr : Rd w A c L) (_ : Fit P) :
    Calls Try.prog 3 #[.slice A L.length c, .int .i64 P] w fun e w' => e = .returned (.bool true) ∧ Below w.heap.size w w' := by
  cases hg : greatP L P with
  | true =>
    have HR := Lib.hid hr
    have HG := Lib.hid hg
    clear hr hg
    go_enter Try.func3, Try.ntmps3
    go_wp2_with fail
    refine (greatP_any A c L P _ HR.out).mono ?_
    rintro e' w1 ⟨rfl, b1⟩
    rw [HG.out]
    have B1 := Lib.hid b1
    clear b1
    go_wp2_with fail
    refine (knows11_any _).mono ?_
    rintro e w2 ⟨rfl, b2⟩
    have B2 := Lib.hid (below_step B1.out b2)
    clear b2
    go_wp2_with fail
    go_ret
    exact ⟨rfl, B2.out⟩
  | false =>
    obtain ⟨hL, hin⟩ := great_no (greatP_no hg)
    have HT : Hid (TL w A c L) := ⟨by omega, fun j hj => by have := hin j hj; omega, hr⟩
    clear hL hin
    have HR := Lib.hid hr
    have HG := Lib.hid hg
    clear hr hg
    obtain ⟨e, he⟩ : ∃ e, lstE L P = e := ⟨_, rfl⟩
    by_cases h0 : e = 0
    · subst h0
      obtain ⟨b, hb⟩ : ∃ b, lstB L P = b := ⟨_, rfl⟩
      have HC := Lib.hid (least_v A c L P P b 0 (by unfold lstP; rw [he, if_pos rfl]) (by rw [hb]) (by rw [he]; rfl) L.length rfl)
      have HD := Lib.hid (refLeast_v A c L P b 0 (by rw [hb]) (by rw [he]; rfl) L.length rfl)
      clear he hb
      go_enter Try.func3, Try.ntmps3
      go_wp2_with fail
      refine (greatP_any A c L P _ HR.out).mono ?_
      rintro e' w1 ⟨rfl, b1⟩
      rw [HG.out]
      have B1 := Lib.hid b1
      clear b1
      go_wp2_with fail
      have HT1 := Lib.hid (HT.out.below B1.out)
      refine (HC.out _ HT1.out).mono ?_
      rintro e' w2 ⟨rfl, b2⟩
      have bz := below_one w2 (Obj.cells #[.int .i64 P, .int .i64 (b : Int)] 26)
      have u0 : (w2.alloc (Obj.cells #[.int .i64 P, .int .i64 (b : Int)] 26)).cell? ⟨w2.heap.size, 0, none⟩ = some (.int .i64 P) := by simp
      have u1 : (w2.alloc (Obj.cells #[.int .i64 P, .int .i64 (b : Int)] 26)).cell? ⟨w2.heap.size, 1, none⟩ = some (.int .i64 (b : Int)) := by simp
      have B2 := Lib.hid (below_step (below_step B1.out b2) bz)
      have HT2 := Lib.hid (HT.out.below B2.out)
      clear b2 bz
      go_wp2_with fail
      refine (HD.out _ HT2.out).mono ?_
      rintro e w3 ⟨rfl, b3⟩
      replace u0 := cell_below b3 u0
      replace u1 := cell_below b3 u1
      have B3 := Lib.hid (below_step B2.out b3)
      clear b3
      go_wp2_with fail
      refine (knows11_any _).mono ?_
      rintro e w4 ⟨rfl, b4⟩
      have B4 := Lib.hid (below_step B3.out b4)
      clear b4
      go_wp2_with fail
      go_ret
      exact ⟨rfl, B4.out⟩
    · have hb : lstB L P = 0 := by unfold lstB; rw [he, if_neg h0]
      have h0' : ¬ (e : Int) = 0 := by omega
      have HC := Lib.hid (least_v A c L P 0 0 e (by unfold lstP; rw [he, if_neg h0]) (by rw [hb]; rfl) (by rw [he]) L.length rfl)
      have HD := Lib.hid (refLeast_v A c L P 0 e (by rw [hb]; rfl) (by rw [he]) L.length rfl)
      clear he hb
      go_enter Try.func3, Try.ntmps3
      go_wp2_with fail
      refine (greatP_any A c L P _ HR.out).mono ?_
      rintro e' w1 ⟨rfl, b1⟩
      rw [HG.out]
      have B1 := Lib.hid b1
      clear b1
      go_wp2_with fail
      have HT1 := Lib.hid (HT.out.below B1.out)
      refine (HC.out _ HT1.out).mono ?_
      rintro e' w2 ⟨rfl, b2⟩
      have bz := below_one w2 (Obj.cells #[.int .i64 0, .int .i64 0] 26)
      have u0 : (w2.alloc (Obj.cells #[.int .i64 0, .int .i64 0] 26)).cell? ⟨w2.heap.size, 0, none⟩ = some (.int .i64 0) := by simp
      have u1 : (w2.alloc (Obj.cells #[.int .i64 0, .int .i64 0] 26)).cell? ⟨w2.heap.size, 1, none⟩ = some (.int .i64 0) := by simp
      have B2 := Lib.hid (below_step (below_step B1.out b2) bz)
      have HT2 := Lib.hid (HT.out.below B2.out)
      clear b2 bz
      go_wp2_with fail
      refine (HD.out _ HT2.out).mono ?_
      rintro e w3 ⟨rfl, b3⟩
      replace u0 := cell_below b3 u0
      replace u1 := cell_below b3 u1
      have B3 := Lib.hid (below_step B2.out b3)
      clear b3
      go_wp2_with fail
      refine (knows11_any _).mono ?_
      rintro e w4 ⟨rfl, b4⟩
      have B4 := Lib.hid (below_step B3.out b4)
      clear b4
      go_wp2_with fail
      go_ret
      exact ⟨rfl, B4.out⟩

set_option maxRecDepth 100000 in
theorem lifted (os : Os) (started : os.Started) (H : Type) (enc : TypeId × Value → H) :
    ReturnsInHanded {} Try.checked os 3 .any (Rows.faceLeastSpec.pre6 enc Try.prog Try.f3 Rows.faceLeastRow.domain false) (Rows.faceLeastSpec.post enc Try.prog Try.f3 false true false false) := by
  refine returnsInHanded_of_change (C := Try.checked) own started (by kernel_rfl) Try.func3
    (ChangeSpec.witness6 (enc := enc) (C := Try.checked) false ⟨#[], #[.slice none 0 0, .int .i64 0], []⟩ 8 (by kernel_rfl) (by kernel_rfl) (by kernel_rfl) (by kernel_rfl)) ?_
  intro W base args ds gs before hval0 hW hcnd _
  have hval : ∀ (j : Nat) t v, Try.f3.params[j]? = some t → args[j]? = some v → Value.okWide Try.prog W .any base t v := hval0
  have hW' := hW
  obtain ⟨p, q, hA0, hV, rfl, hfz, hnd⟩ := hW
  have hA : DataW.TrodAll enc Try.prog W 0 (fun _ => true) true Try.f3.params.toList args.toList ds p := hA0
  rw [Try.params3] at hA hval
  obtain ⟨v0, v1, d0, d1, p0, p1, rfl, rfl, rfl, h0, h1⟩ := trodAll_two hA
  obtain ⟨rfl, rfl⟩ := trodVars_none hV
  obtain ⟨A0, c0, l0, rfl, hr0⟩ := Mm.open_list (α := Tk.Tsk) Try.underlying22 Tk.opTasks (hval 0 22 v0 rfl rfl) h0
  obtain ⟨n1, rfl, f1⟩ := Mm.open_num' Try.underlying3 (hval 1 3 v1 rfl rfl) h1
  clear hA0 hval0
  refine (walk A0 c0 l0 n1 W hr0 f1).mono fun e W' ⟨he, bel⟩ => ?_
  subst he
  have hlt0 : ∀ x ∈ p0, x.block < W.heap.size := fun x hx => hW'.lt x (by simp [hx])
  have hlt1 : ∀ x ∈ p1, x.block < W.heap.size := fun x hx => hW'.lt x (by simp [hx])
  exact ⟨_, rfl, _, _, _, [], _, [], hW', trodAll_mk1 (shut_bool Try.underlying4 _), trodAll_mk2 (Below.trod laidOut (by kernel_rfl) (of_decide_eq_true (by kernel_rfl)) h0 bel hlt0) (Below.trod laidOut (by kernel_rfl) (of_decide_eq_true (by kernel_rfl)) h1 bel hlt1), rfl, bel.frame _, fun h => by cases h⟩

/-- The statement. -/
theorem proved : Rows.FaceLeastSaid :=
  OpenClaim.holds_of_wide 3 Try.f3 rfl rfl rfl rfl rfl rfl rfl ⟨rfl, rfl, rfl, rfl, rfl⟩ rfl rfl rfl rfl rfl (by kernel_rfl) Try.func3 (by kernel_rfl)
    (of_decide_eq_true (by kernel_rfl)) (by unfold Func.isWrapper; first | (rw [if_pos (by decide +kernel)]; kernel_rfl) | (rw [if_neg (by decide +kernel)]; exact ⟨rfl, rfl⟩))
    (fun os started H enc _ => lifted os started H enc)
#print axioms proved

end Go.Proofs.Ythfgdkhfblekoaa.faceLeast
