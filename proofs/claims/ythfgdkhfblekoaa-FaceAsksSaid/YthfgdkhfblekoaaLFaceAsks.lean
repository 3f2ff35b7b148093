/-
  For every task and every period the statement FaceAsks of layer 11 returns true (of one task alone the interface gives not less than it asks for), and its arguments read as before. No condition.
-/
import Derived.Test.YthfgdkhfblekoaaGlaw05
import Derived.Test.YthfgdkhfblekoaaGlaw11
import Derived.Test.YthfgdkhfblekoaaGmem
import Derived.Test.YthfgdkhfblekoaaGtask
namespace Go.Proofs.Ythfgdkhfblekoaa.faceAsks
open Go.ChangeShapes Go.WideShapes Go.ChangeAt Go.RowKit
open Mm Tk Vd Fa
attribute [local go_sem ↓] buildFaceP buildFace0 eqFace

/-- of a task alone -/
theorem asks_one {x : Tsk} {p : Int} (h : lstE [x] p = 0) : ∃ b q : Nat, p = q ∧ lstB [x] p = b ∧ b ≤ 200 ∧ q ≤ 200 ∧ (1 ≤ x.1 ∧ x.1 ≤ 200) ∧ (1 ≤ x.2.2.1 ∧ x.2.2.1 ≤ 200) ∧ x.1 * q ≤ b * x.2.2.1 := by
  obtain ⟨q, b, rfl, hb, ha, h1, h2, hk, hl, hbq⟩ := lst_zero h
  have hx := Dm.right_T (Dm.all_right ha 0 (by simp))
  have e : at_ [x] 0 = x := rfl
  rw [e] at hx
  exact ⟨b, q, rfl, hb, by omega, h2, by omega, by omega, asks (hl.yes hbq)⟩
theorem mul_in {a b : Int} (ha : 1 ≤ a ∧ a ≤ 200) (hb : 0 ≤ b ∧ b ≤ 200) : IntKind.i64.wrap (a * b) = a * b := by
  have h1 : 0 ≤ a * b := Int.mul_nonneg (by omega) hb.1
  have h2 : a * b ≤ 200 * 200 := Int.mul_le_mul ha.2 hb.2 hb.1 (by omega)
  exact IntWalk.i64_in _ (by omega)

theorem one_len {x : Tsk} : ([x] : List Tsk).length = 1 := rfl
set_option maxRecDepth 20000 in
set_option maxHeartbeats 3200000 in
theorem walk (A : Option Addr) (c : Nat) (x : Tsk) (P : Int) (w : World) (fa : Fit x.1) (fb : Fit x.2.1) (fc : Fit x.2.2.1) (hr : Rd w A c x.2.2.2) (_ : Fit P) :
    Calls Try.prog 6 #[.agg #[.int .i64 x.1, .int .i64 x.2.1, .int .i64 x.2.2.1, .slice A x.2.2.2.length c], .int .i64 P] w fun e w' => e = .returned (.bool true) ∧ Below w.heap.size w w' := by
  obtain ⟨t1, t2, t3, t4⟩ := box_new w x.1 x.2.1 x.2.2.1 A x.2.2.2.length c
  have B0 := Lib.hid (below_two w (Obj.cells #[.int .i64 x.1, .int .i64 x.2.1, .int .i64 x.2.2.1, .slice A x.2.2.2.length c] 38) (Obj.cells #[.int .i64 x.1, .int .i64 x.2.1, .int .i64 x.2.2.1, .slice A x.2.2.2.length c] 38))
  have hl := rd_lit (w.alloc (Obj.cells #[.int .i64 x.1, .int .i64 x.2.1, .int .i64 x.2.2.1, .slice A x.2.2.2.length c] 38)) [x] 1 rfl #[.int .i64 x.1, .int .i64 x.2.1, .int .i64 x.2.2.1, .slice A x.2.2.2.length c] 38 (by decide) (rows_task x rfl fa fb fc (hr.below B0.out) rows_none)
  rw [World.size_alloc] at hl
  have HL := Lib.hid hl
  have b1 := below_one (w.alloc (Obj.cells #[.int .i64 x.1, .int .i64 x.2.1, .int .i64 x.2.2.1, .slice A x.2.2.2.length c] 38)) (Obj.cells #[.int .i64 x.1, .int .i64 x.2.1, .int .i64 x.2.2.1, .slice A x.2.2.2.length c] 38)
  have q4 := t4
  replace t1 := (cell_below b1) t1
  replace t3 := (cell_below b1) t3
  clear hl hr b1
  cases hg : greatB [x] with
  | true =>
    have HG := Lib.hid hg
    clear hg
    go_enter Try.func6, Try.ntmps6
    go_wp2_with fail
    generalize (w.alloc (Obj.cells #[.int .i64 x.1, .int .i64 x.2.1, .int .i64 x.2.2.1, .slice A x.2.2.2.length c] 38)).alloc (Obj.cells #[.int .i64 x.1, .int .i64 x.2.1, .int .i64 x.2.2.1, .slice A x.2.2.2.length c] 38) = w0 at *
    refine (great_any _ 1 [x] _ HL.out).mono ?_
    rintro e' w1 ⟨rfl, b1⟩
    rw [HG.out]
    replace t1 := (cell_below b1) t1
    replace t3 := (cell_below b1) t3
    have B1 := Lib.hid (below_step B0.out b1)
    replace HL := Lib.hid (HL.out.below b1)
    clear b1
    go_wp2_with fail
    refine (knows11_any _).mono ?_
    rintro e w2 ⟨rfl, b2⟩
    have B2 := Lib.hid (below_step B1.out b2)
    clear b2
    go_wp2_with fail
    go_ret
    exact ⟨rfl, B2.out⟩
  | false =>
    obtain ⟨_, hin⟩ := great_no hg
    have HS : Hid (∀ j, j < [x].length → (at_ [x] j).2.2.2.length ≤ 1000000) := fun j hj => by have := hin j hj; omega
    clear hin
    have HG := Lib.hid hg
    clear hg
    obtain ⟨e, he⟩ : ∃ e, lstE [x] P = e := ⟨_, rfl⟩
    by_cases h0 : e = 0
    · subst h0
      obtain ⟨b, q, rfl, hb, hb2, hq2, hx1, hx3, hle⟩ := asks_one he
      have HC := Lib.hid (least_v (some ⟨w.heap.size + 1, 0, none⟩) 1 [x] q q b 0 (by unfold lstP; rw [he, if_pos rfl]) (by rw [hb]) (by rw [he]; rfl) 1 rfl)
      have i1 := mul_in hx3 (b := (b : Int)) ⟨by omega, by omega⟩
      rw [Int.mul_comm] at i1
      have i2 := mul_in hx1 (b := (q : Int)) ⟨by omega, by omega⟩
      have HLE := Lib.hid hle
      clear hle
      clear he hb hb2 hq2 hx1 hx3
      go_enter Try.func6, Try.ntmps6
      go_wp2_with fail
      generalize (w.alloc (Obj.cells #[.int .i64 x.1, .int .i64 x.2.1, .int .i64 x.2.2.1, .slice A x.2.2.2.length c] 38)).alloc (Obj.cells #[.int .i64 x.1, .int .i64 x.2.1, .int .i64 x.2.2.1, .slice A x.2.2.2.length c] 38) = w0 at *
      refine (great_any _ 1 [x] _ HL.out).mono ?_
      rintro e' w1 ⟨rfl, b1⟩
      rw [HG.out]
      replace t1 := (cell_below b1) t1
      replace t3 := (cell_below b1) t3
      have B1 := Lib.hid (below_step B0.out b1)
      replace HL := Lib.hid (HL.out.below b1)
      clear b1
      go_wp2_with fail
      refine (HC.out _ ⟨by simp, HS.out, HL.out⟩).mono ?_
      rintro e' w2 ⟨rfl, b2⟩
      have bz := below_one w2 (Obj.cells #[.int .i64 (q : Int), .int .i64 (b : Int)] 26)
      have u0 : (w2.alloc (Obj.cells #[.int .i64 (q : Int), .int .i64 (b : Int)] 26)).cell? ⟨w2.heap.size, 0, none⟩ = some (.int .i64 (q : Int)) := by simp
      have u1 : (w2.alloc (Obj.cells #[.int .i64 (q : Int), .int .i64 (b : Int)] 26)).cell? ⟨w2.heap.size, 1, none⟩ = some (.int .i64 (b : Int)) := by simp
      replace t1 := (cell_below (below_step b2 bz)) t1
      replace t3 := (cell_below (below_step b2 bz)) t3
      have B2 := Lib.hid (below_step (below_step B1.out b2) bz)
      clear b2 bz
      go_wp2_with fail
      refine (knows11_any _).mono ?_
      rintro e w3 ⟨rfl, b3⟩
      have B3 := Lib.hid (below_step B2.out b3)
      clear b3
      go_wp2_with fail
      go_ret
      exact ⟨rfl, B3.out⟩
    · have hb : lstB [x] P = 0 := by unfold lstB; rw [he, if_neg h0]
      have h0' : ¬ (e : Int) = 0 := by omega
      have HC := Lib.hid (least_v (some ⟨w.heap.size + 1, 0, none⟩) 1 [x] P 0 0 e (by unfold lstP; rw [he, if_neg h0]) (by rw [hb]; rfl) (by rw [he]) 1 rfl)
      clear he hb
      go_enter Try.func6, Try.ntmps6
      go_wp2_with fail
      generalize (w.alloc (Obj.cells #[.int .i64 x.1, .int .i64 x.2.1, .int .i64 x.2.2.1, .slice A x.2.2.2.length c] 38)).alloc (Obj.cells #[.int .i64 x.1, .int .i64 x.2.1, .int .i64 x.2.2.1, .slice A x.2.2.2.length c] 38) = w0 at *
      refine (great_any _ 1 [x] _ HL.out).mono ?_
      rintro e' w1 ⟨rfl, b1⟩
      rw [HG.out]
      replace t1 := (cell_below b1) t1
      replace t3 := (cell_below b1) t3
      have B1 := Lib.hid (below_step B0.out b1)
      replace HL := Lib.hid (HL.out.below b1)
      clear b1
      go_wp2_with fail
      refine (HC.out _ ⟨by simp, HS.out, HL.out⟩).mono ?_
      rintro e' w2 ⟨rfl, b2⟩
      have bz := below_one w2 (Obj.cells #[.int .i64 0, .int .i64 0] 26)
      have u0 : (w2.alloc (Obj.cells #[.int .i64 0, .int .i64 0] 26)).cell? ⟨w2.heap.size, 0, none⟩ = some (.int .i64 0) := by simp
      have u1 : (w2.alloc (Obj.cells #[.int .i64 0, .int .i64 0] 26)).cell? ⟨w2.heap.size, 1, none⟩ = some (.int .i64 0) := by simp
      replace t1 := (cell_below (below_step b2 bz)) t1
      replace t3 := (cell_below (below_step b2 bz)) t3
      have B2 := Lib.hid (below_step (below_step B1.out b2) bz)
      clear b2 bz
      go_wp2_with fail
      refine (knows11_any _).mono ?_
      rintro e w3 ⟨rfl, b3⟩
      have B3 := Lib.hid (below_step B2.out b3)
      clear b3
      go_wp2_with fail
      go_ret
      exact ⟨rfl, B3.out⟩

set_option maxRecDepth 100000 in
theorem lifted (os : Os) (started : os.Started) (H : Type) (enc : TypeId × Value → H) :
    ReturnsInHanded {} Try.checked os 6 .any (Rows.faceAsksSpec.pre6 enc Try.prog Try.f6 Rows.faceAsksRow.domain false) (Rows.faceAsksSpec.post enc Try.prog Try.f6 false true false false) := by
  refine returnsInHanded_of_change (C := Try.checked) own started (by kernel_rfl) Try.func6
    (ChangeSpec.witness6 (enc := enc) (C := Try.checked) false ⟨#[], #[.agg #[.int .i64 0, .int .i64 0, .int .i64 0, .slice none 0 0], .int .i64 0], []⟩ 8 (by kernel_rfl) (by kernel_rfl) (by kernel_rfl) (by kernel_rfl)) ?_
  intro W base args ds gs before hval0 hW hcnd _
  have hval : ∀ (j : Nat) t v, Try.f6.params[j]? = some t → args[j]? = some v → Value.okWide Try.prog W .any base t v := hval0
  have hW' := hW
  obtain ⟨p, q, hA0, hV, rfl, hfz, hnd⟩ := hW
  have hA : DataW.TrodAll enc Try.prog W 0 (fun _ => true) true Try.f6.params.toList args.toList ds p := hA0
  rw [Try.params6] at hA hval
  obtain ⟨v0, v1, d0, d1, p0, p1, rfl, rfl, rfl, h0, h1⟩ := trodAll_two hA
  obtain ⟨rfl, rfl⟩ := trodVars_none hV
  obtain ⟨A0, c0, x0, rfl, fa0, fb0, fc0, hr0⟩ := Tk.open_task (hval 0 38 v0 rfl rfl) h0
  obtain ⟨n1, rfl, f1⟩ := Mm.open_num' Try.underlying3 (hval 1 3 v1 rfl rfl) h1
  clear hA0 hval0
  refine (walk A0 c0 x0 n1 W fa0 fb0 fc0 hr0 f1).mono fun e W' ⟨he, bel⟩ => ?_
  subst he
  have hlt0 : ∀ x ∈ p0, x.block < W.heap.size := fun x hx => hW'.lt x (by simp [hx])
  have hlt1 : ∀ x ∈ p1, x.block < W.heap.size := fun x hx => hW'.lt x (by simp [hx])
  exact ⟨_, rfl, _, _, _, [], _, [], hW', trodAll_mk1 (shut_bool Try.underlying4 _), trodAll_mk2 (Below.trod laidOut (by kernel_rfl) (of_decide_eq_true (by kernel_rfl)) h0 bel hlt0) (Below.trod laidOut (by kernel_rfl) (of_decide_eq_true (by kernel_rfl)) h1 bel hlt1), rfl, bel.frame _, fun h => by cases h⟩

/-- The statement. -/
theorem proved : Rows.FaceAsksSaid :=
  OpenClaim.holds_of_wide 6 Try.f6 rfl rfl rfl rfl rfl rfl rfl ⟨rfl, rfl, rfl, rfl, rfl⟩ rfl rfl rfl rfl rfl (by kernel_rfl) Try.func6 (by kernel_rfl)
    (of_decide_eq_true (by kernel_rfl)) (by unfold Func.isWrapper; first | (rw [if_pos (by decide +kernel)]; kernel_rfl) | (rw [if_neg (by decide +kernel)]; exact ⟨rfl, rfl⟩))
    (fun os started H enc _ => lifted os started H enc)
#print axioms proved

end Go.Proofs.Ythfgdkhfblekoaa.faceAsks
