/-
  For every list of items and every item the statement HeapMakes of layer 2 returns true (a heap that is made, or pushed to, is one, and has just these items), and its arguments read as before. No condition.
-/
import Derived.Test.YteadcjfbmckgpaaLaw02Args
import Derived.Deep.RegionHeld3
import Derived.Deep.DeepCutAuto
namespace Go.Proofs.Yteadcjfbmckgpaa.heapMakes
open Go.ChangeShapes Go.WideShapes Go.ChangeAt Go.RowKit
open Hp
attribute [local go_sem ↓] Go.wp_at_zero Go.wp_at_succ

theorem few (A : Option Addr) (c : Nat) (l : List It) (x : It) (w : World) (hbig : 100 < l.length) :
    Calls Try.prog 3 #[.slice A l.length c, .agg #[.int .i64 x.1, .int .i64 x.2]] w fun e w' => e = .returned (.bool true) ∧ Below w.heap.size w w' := by
  have h1 : (100 : Int) < (l.length : Int) := by omega
  go_enter Try.func3, Try.ntmps3
  go_wp2_with fail
  refine (knows_any _).mono ?_
  rintro e w1 ⟨rfl, b1⟩
  have B1 := Lib.hid (((Below.refl w.heap.size w).alloc (Nat.le_refl _) _).trans (b1.mono (by simp)))
  clear b1
  go_wp2_with fail
  go_ret
  exact ⟨rfl, B1.out⟩

/-- what the row 'more' holds -/
def More (w3 : World) (l : List It) (x : It) (s : Value) (wx : World) : Prop :=
  ∃ (A' : Option Addr) (c' : Nat), s = .slice A' (l.length + 1) c' ∧ Rd wx A' c' (l ++ [x]) ∧ Below w3.heap.size w3 wx

theorem alike_n (n m : Nat) (A B : Option Addr) (c d : Nat) (a b : List It) (w : World) (hn : a.length = n) (hm : b.length = m) (ha : a.length ≤ 900000) (hb : b.length ≤ 900000) (hra : Rd w A c a) (hrb : Rd w B d b) :
    Calls Try.prog 14 #[.slice A n c, .slice B m d] w fun e w' => e = .returned (.bool (decide (srt a = srt b))) ∧ Below w.heap.size w w' := by
  subst hn
  subst hm
  exact alike_any A B c d a b w ha hb hra hrb

set_option maxHeartbeats 6400000 in
set_option maxRecDepth 100000 in
theorem some_ (A : Option Addr) (c : Nat) (l : List It) (x : It) (w : World) (hbig : l.length ≤ 100) (hr : Rd w A c l) :
    Calls Try.prog 3 #[.slice A l.length c, .agg #[.int .i64 x.1, .int .i64 x.2]] w fun e w' => e = .returned (.bool true) ∧ Below w.heap.size w w' := by
  have h1 : (l.length : Int) ≤ 100 := by omega
  have B0 : Hid (Below w.heap.size w (w.alloc (.cells #[.int .i64 x.1, .int .i64 x.2] 24))) := (Below.refl _ _).alloc (Nat.le_refl _) _
  have HR : Hid (Rd (w.alloc (.cells #[.int .i64 x.1, .int .i64 x.2] 24)) A c l) := hr.alloc _
  have x1 : (w.alloc (.cells #[.int .i64 x.1, .int .i64 x.2] 24)).cell? ⟨w.heap.size, 0, none⟩ = some (.int .i64 x.1) := by go_simp
  have x2 : (w.alloc (.cells #[.int .i64 x.1, .int .i64 x.2] 24)).cell? ⟨w.heap.size, 1, none⟩ = some (.int .i64 x.2) := by go_simp
  clear hr
  have HX : ∃ X, Hid (w.heap.size = X) := ⟨_, rfl⟩
  obtain ⟨X, HX⟩ := HX
  go_enter Try.func3, Try.ntmps3
  go_wp2_with fail
  rw [HX.out] at x1 x2 ⊢
  generalize w.alloc (.cells #[.int .i64 x.1, .int .i64 x.2] 24) = w0 at *
  go_region_held3 (fun w' => w'.cell? ⟨X, 0, none⟩ = some (.int .i64 x.1) ∧ w'.cell? ⟨X, 1, none⟩ = some (.int .i64 x.2) ∧ Hid (Below w0.heap.size w0 w'))
    (first
      | (go_split_ands; exact ⟨cell_below bX (by assumption), cell_below bX (by assumption), below_step (Hid.out (by assumption)) bX⟩)
      | (exact ⟨x1, x2, (Below.refl _ w0).drew⟩))
    (first
      | (go_at_call 9; refine (make_any A c l _ (by omega) (by go_split_ands; exact HR.out.below (Hid.out (by assumption)))).mono ?_; rintro e w1 ⟨A1, c1, m1, rfl, p1, i1, o1, bX⟩; have O1 := Lib.hid o1.rd; have P1 := Lib.hid p1; have I1 := Lib.hid i1; clear o1 p1 i1)
      | (go_at_call 10; refine (push_any A c l x _ (by omega) (by go_split_ands; exact HR.out.below (Hid.out (by assumption)))).mono ?_; rintro e w2 ⟨A2, c2, m2, rfl, p2, i2, o2, bX⟩; have O2 := Lib.hid o2.rd; have O12 := Lib.hid (O1.out.below bX); have P2 := Lib.hid p2; have I2 := Lib.hid i2; clear o2 p2 i2))
  go_split_ands
  have y1 : w2.cell? ⟨X, 0, none⟩ = some (.int .i64 x.1) := by assumption
  have y2 : w2.cell? ⟨X, 1, none⟩ = some (.int .i64 x.2) := by assumption
  have HB2 : Hid (Below w0.heap.size w0 w2) := by assumption
  have B2 := Lib.hid (B0.out.trans (HB2.out.mono B0.out.size))
  have HR2 := Lib.hid (HR.out.below HB2.out)
  have hXw : X < w2.heap.size := lt_of_cell y1
  have n1 : Hid (m1.length = l.length) := P1.out.length_eq
  have n2 : Hid (m2.length = l.length + 1) := by show m2.length = _; rw [P2.out.length_eq]; simp
  clear x1 x2 HB2 B0 HR O1
  go_upto_region 4 with fail
  go_cut [7] (fun s7 wx => More w2 l x s7 wx)
  case first =>
    go_region_held3 (fun w' => w'.cell? ⟨X, 0, none⟩ = some (.int .i64 x.1) ∧ w'.cell? ⟨X, 1, none⟩ = some (.int .i64 x.2) ∧ Hid (Below w2.heap.size w2 w'))
      (first
        | (exact ⟨(HB6.out.cell (p := ⟨X, 0, none⟩) hXw).trans y1, (HB6.out.cell (p := ⟨X, 1, none⟩) hXw).trans y2, HB6.out⟩)
        | (exact ⟨(HB5.out.cell (p := ⟨X, 0, none⟩) hXw).trans y1, (HB5.out.cell (p := ⟨X, 1, none⟩) hXw).trans y2, HB5.out⟩)
        | (exact ⟨cell_new ((HB5.out.cell (p := ⟨X, 0, none⟩) hXw).trans y1) _, cell_new ((HB5.out.cell (p := ⟨X, 1, none⟩) hXw).trans y2) _, HB5.out.alloc HB5.out.size _⟩)
        | (exact ⟨y1, y2, (Below.refl _ w2).drew⟩)
        | (exact ⟨cell_new y1 _, cell_new y2 _, (below_one w2 _).drew⟩)
        | (exact ⟨cell_new (cell_new y1 _) _, cell_new (cell_new y2 _) _, (below_two w2 _ _).drew⟩))
      (first
        | (refine step_app_it (by rfl) _ _ (by rfl) (base := w2.heap.size) (l := []) (r := l) (by rfl) (by rfl) (by first | exact own_lit w2 _ _ (Nat.le_refl _) | exact (own_lit w2 _ _ (Nat.le_refl _)).alloc _ | exact own_lit2 w2 _ _ _ (Nat.le_refl _))
            (by go_split_ands; exact HR2.out.below (Hid.out (by assumption))) (by simp; omega) (by go_split_ands; exact Below.size (Hid.out (by assumption))) ?_
           intro A5 c5 w5 k1 k2 k3
           go_split_ands
           have HB5 := Lib.hid (Below.grown (B := w2.heap.size) (a := w2) (Hid.out (by assumption)) k2 (Below.size (Hid.out (by assumption))) (fun k hk => by simp [Value.ownBlock] at hk; omega))
           have HO5 := Lib.hid k1
           have HG5 := Lib.hid k2
           rw [show ([] : List It).length + l.length = l.length from Nat.zero_add _]
           clear k1 k2 k3)
        | (refine step_app_it (by rfl) _ _ (by rfl) (base := w2.heap.size) (l := l) (r := [x]) (by rfl) (by rfl) (by first | exact HO5.out.alloc _ | exact HO5.out)
            (by first | ((refine rd_one ?_ ?_) <;> (go_simp; done)) | ((refine rd_one ?_ ?_) <;> (refine gb_cell HG5.out ?_ ?_) <;> (first | (go_simp; done) | (simp [Value.ownBlock]; done)))) (by simp; omega) (by go_split_ands; exact Below.size (Hid.out (by assumption))) ?_
           intro A6 c6 w6 k1 k2 k3
           go_split_ands
           have HB6 := Lib.hid (Below.grown (B := w2.heap.size) (a := w2) (Hid.out (by assumption)) k2 (Below.size (Hid.out (by assumption))) (fun k hk => HO5.out.row k hk))
           have HO6 := Lib.hid k1.rd
           clear k1 k2 k3))
    all_goals (go_wp2_with fail; go_meet; exact ⟨A6, c6, rfl, HO6.out, HB6.out⟩)
  case rest =>
    obtain ⟨A7, c7, rfl, hr7, hb7⟩ := hcut
    have L0 := Lib.hid (HR2.out.below hb7)
    have H0 := Lib.hid (O12.out.below hb7)
    have K0 := Lib.hid (O2.out.below hb7)
    have M0 := Lib.hid hr7
    have C0 := Lib.hid (B2.out.trans (hb7.mono B2.out.size))
    have T1 : Hid (rightB m1 = true) := rightB_iff.2 I1.out
    have T2 : Hid (rightB m2 = true) := rightB_iff.2 I2.out
    have S1 : Hid (srt m1 = srt l) := srt_of_perm P1.out
    have S2 : Hid (srt m2 = srt (l ++ [x])) := srt_of_perm P2.out
    have e1 : m1.length ≤ 100 := by have := n1.out; omega
    have e2 : m2.length ≤ 101 := by have := n2.out; omega
    clear hr7 hb7 HR2 O12 O2 B2 y1 y2
    go_wp2_with fail
    refine (right_any A c l _ (by omega) L0.out).mono ?_
    rintro e v1 ⟨rfl, b1⟩
    have L1 := Lib.hid (L0.out.below b1)
    have H1 := Lib.hid (H0.out.below b1)
    have K1 := Lib.hid (K0.out.below b1)
    have M1 := Lib.hid (M0.out.below b1)
    have C1 := Lib.hid (C0.out.trans (b1.mono C0.out.size))
    clear b1 C0 L0 H0 K0 M0
    generalize hbb : rightB l = bb
    have HBB := Lib.hid hbb
    clear hbb
    go_wp2_with fail
    refine (as_any A c l _ (by omega) L1.out).mono ?_
    rintro e v2 ⟨A8, c8, rfl, o2, b2⟩
    have L2 := Lib.hid (L1.out.below b2)
    have H2 := Lib.hid (H1.out.below b2)
    have K2 := Lib.hid (K1.out.below b2)
    have M2 := Lib.hid (M1.out.below b2)
    have Z2 := Lib.hid o2.rd
    clear o2
    have C2 := Lib.hid (C1.out.trans (b2.mono C1.out.size))
    clear b2 C1 L1 H1 K1 M1
    go_wp2_with fail
    refine (refRight_any A8 c8 l _ (by omega) Z2.out).mono ?_
    rintro e v3 ⟨rfl, b3⟩
    have L3 := Lib.hid (L2.out.below b3)
    have H3 := Lib.hid (H2.out.below b3)
    have K3 := Lib.hid (K2.out.below b3)
    have M3 := Lib.hid (M2.out.below b3)
    clear Z2
    have C3 := Lib.hid (C2.out.trans (b3.mono C2.out.size))
    clear b3 C2 L2 H2 K2 M2
    rw [HBB.out]
    have hbe : (bb == bb) = true := by simp
    go_wp2_with fail
    refine (as_any A1 c1 m1 _ (by omega) H3.out).mono ?_
    rintro e v4 ⟨A9, c9, rfl, o4, b4⟩
    have L4 := Lib.hid (L3.out.below b4)
    have H4 := Lib.hid (H3.out.below b4)
    have K4 := Lib.hid (K3.out.below b4)
    have M4 := Lib.hid (M3.out.below b4)
    have Z4 := Lib.hid o4.rd
    clear o4
    have C4 := Lib.hid (C3.out.trans (b4.mono C3.out.size))
    clear b4 C3 L3 H3 K3 M3
    go_wp2_with fail
    refine (refRight_any A9 c9 m1 _ (by omega) Z4.out).mono ?_
    rintro e v5 ⟨rfl, b5⟩
    have L5 := Lib.hid (L4.out.below b5)
    have H5 := Lib.hid (H4.out.below b5)
    have K5 := Lib.hid (K4.out.below b5)
    have M5 := Lib.hid (M4.out.below b5)
    clear Z4
    have C5 := Lib.hid (C4.out.trans (b5.mono C4.out.size))
    clear b5 C4 L4 H4 K4 M4
    rw [T1.out]
    go_wp2_with fail
    refine (alike_any A1 A c1 c m1 l _ (by omega) (by omega) H5.out L5.out).mono ?_
    rintro e v6 ⟨rfl, b6⟩
    have L6 := Lib.hid (L5.out.below b6)
    have H6 := Lib.hid (H5.out.below b6)
    have K6 := Lib.hid (K5.out.below b6)
    have M6 := Lib.hid (M5.out.below b6)
    have C6 := Lib.hid (C5.out.trans (b6.mono C5.out.size))
    clear b6 C5 L5 H5 K5 M5
    rw [decide_eq_true S1.out]
    go_wp2_with fail
    refine (as_any A2 c2 m2 _ (by omega) K6.out).mono ?_
    rintro e v7 ⟨A10, c10, rfl, o7, b7⟩
    have L7 := Lib.hid (L6.out.below b7)
    have H7 := Lib.hid (H6.out.below b7)
    have K7 := Lib.hid (K6.out.below b7)
    have M7 := Lib.hid (M6.out.below b7)
    have Z7 := Lib.hid o7.rd
    clear o7
    have C7 := Lib.hid (C6.out.trans (b7.mono C6.out.size))
    clear b7 C6 L6 H6 K6 M6
    go_wp2_with fail
    refine (refRight_any A10 c10 m2 _ (by omega) Z7.out).mono ?_
    rintro e v8 ⟨rfl, b8⟩
    have L8 := Lib.hid (L7.out.below b8)
    have H8 := Lib.hid (H7.out.below b8)
    have K8 := Lib.hid (K7.out.below b8)
    have M8 := Lib.hid (M7.out.below b8)
    clear Z7
    have C8 := Lib.hid (C7.out.trans (b8.mono C7.out.size))
    clear b8 C7 L7 H7 K7 M7
    rw [T2.out]
    go_wp2_with fail
    refine (alike_n m2.length (l.length + 1) A2 A7 c2 c7 m2 (l ++ [x]) _ rfl (by simp) (by omega) (by simp; omega) K8.out M8.out).mono ?_
    rintro e v9 ⟨rfl, b9⟩
    have C9 := Lib.hid (C8.out.trans (b9.mono C8.out.size))
    clear b9 C8
    rw [decide_eq_true S2.out]
    go_wp2_with fail
    refine (knows_any _).mono ?_
    rintro e v10 ⟨rfl, b10⟩
    have C10 := Lib.hid (C9.out.trans (b10.mono C9.out.size))
    clear b10 C9
    go_wp2_with fail
    go_ret
    exact ⟨rfl, C10.out⟩

theorem walk (A : Option Addr) (c : Nat) (l : List It) (x : It) (w : World) (_hlc : l.length ≤ c) (_hcm : c ≤ maxLen) (hr : Rd w A c l) :
    Calls Try.prog 3 #[.slice A l.length c, .agg #[.int .i64 x.1, .int .i64 x.2]] w fun e w' => e = .returned (.bool true) ∧ Below w.heap.size w w' := by
  by_cases hbig : 100 < l.length
  · exact few A c l x w hbig
  · exact some_ A c l x w (by omega) hr

set_option maxRecDepth 100000 in
theorem lifted (os : Os) (started : os.Started) (H : Type) (enc : TypeId × Value → H) :
    ReturnsInHanded {} Try.checked os 3 .any (Rows.heapMakesSpec.pre6 enc Try.prog Try.f3 Rows.heapMakesRow.domain false) (Rows.heapMakesSpec.post enc Try.prog Try.f3 false true false false) := by
  refine returnsInHanded_of_change (C := Try.checked) own started (by kernel_rfl) Try.func3
    (ChangeSpec.witness6 (enc := enc) (C := Try.checked) false ⟨#[], #[.slice none 0 0, .agg #[.int .i64 0, .int .i64 0]], []⟩ 8 (by kernel_rfl) (by kernel_rfl) (by kernel_rfl) (by kernel_rfl)) ?_
  intro W base args ds gs before hval0 hW hcnd _
  have hval : ∀ (j : Nat) t v, Try.f3.params[j]? = some t → args[j]? = some v → Value.okWide Try.prog W .any base t v := hval0
  have hW' := hW
  obtain ⟨p, q, hA0, hV, rfl, hfz, hnd⟩ := hW
  have hA : DataW.TrodAll enc Try.prog W 0 (fun _ => true) true Try.f3.params.toList args.toList ds p := hA0
  rw [Try.params3] at hA hval
  obtain ⟨v0, v1, d0, d1, p0, p1, rfl, rfl, rfl, h0, h1⟩ := trodAll_two hA
  obtain ⟨rfl, rfl⟩ := trodVars_none hV
  obtain ⟨A0, c0, l0, rfl, hlc0, hcm0, hr0⟩ := open_items (hval 0 22 v0 rfl rfl) h0
  obtain ⟨x1, rfl⟩ := open_item (hval 1 24 v1 rfl rfl) h1
  clear hA0 hval0
  refine (walk A0 c0 l0 x1 W hlc0 hcm0 hr0 ).mono fun e W' ⟨he, bel⟩ => ?_
  subst he
  have hlt0 : ∀ x ∈ p0, x.block < W.heap.size := fun x hx => hW'.lt x (by simp [hx])
  have hlt1 : ∀ x ∈ p1, x.block < W.heap.size := fun x hx => hW'.lt x (by simp [hx])
  exact ⟨_, rfl, _, _, _, [], _, [], hW', trodAll_mk1 (shut_bool Try.underlying4 _), trodAll_mk2 (Below.trod laidOut (by kernel_rfl) (of_decide_eq_true (by kernel_rfl)) h0 bel hlt0) (Below.trod laidOut (by kernel_rfl) (of_decide_eq_true (by kernel_rfl)) h1 bel hlt1), rfl, bel.frame _, fun h => by cases h⟩

/-- The statement. -/
theorem proved : Rows.HeapMakesSaid :=
  OpenClaim.holds_of_wide 3 Try.f3 rfl rfl rfl rfl rfl rfl rfl ⟨rfl, rfl, rfl, rfl, rfl⟩ rfl rfl rfl rfl rfl (by kernel_rfl) Try.func3 (by kernel_rfl)
    (of_decide_eq_true (by kernel_rfl)) (by unfold Func.isWrapper; first | (rw [if_pos (by decide +kernel)]; kernel_rfl) | (rw [if_neg (by decide +kernel)]; exact ⟨rfl, rfl⟩))
    (fun os started H enc _ => lifted os started H enc)
#print axioms proved


end Go.Proofs.Yteadcjfbmckgpaa.heapMakes
