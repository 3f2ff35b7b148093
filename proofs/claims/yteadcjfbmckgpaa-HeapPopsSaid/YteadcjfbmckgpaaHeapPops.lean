/-
  For every list of items the statement HeapPops of layer 2 returns true (the lowest item, and what is left, a heap of all others, is told; or that there is none), and its argument reads as before. No condition.
-/
import Derived.Test.YteadcjfbmckgpaaLaw02Args
import Derived.Deep.RegionHeld3
namespace Go.Proofs.Yteadcjfbmckgpaa.heapPops
open Go.ChangeShapes Go.WideShapes Go.ChangeAt Go.RowKit
open Hp
attribute [local go_sem ↓] Go.wp_at_zero Go.wp_at_succ

theorem few (A : Option Addr) (c : Nat) (l : List It) (w : World) (hbig : 100 < l.length) :
    Calls Try.prog 4 #[.slice A l.length c] w fun e w' => e = .returned (.bool true) ∧ Below w.heap.size w w' := by
  have h1 : (100 : Int) < (l.length : Int) := by omega
  go_enter Try.func4, Try.ntmps4
  go_wp2_with fail
  refine (knows_any _).mono ?_
  rintro e w1 ⟨rfl, b1⟩
  have B1 := Lib.hid b1
  clear b1
  go_wp2_with fail
  go_ret
  exact ⟨rfl, B1.out⟩

theorem no (A : Option Addr) (c : Nat) (w : World) :
    Calls Try.prog 4 #[.slice A 0 c] w fun e w' => e = .returned (.bool true) ∧ Below w.heap.size w w' := by
  go_enter Try.func4, Try.ntmps4
  go_wp2_with fail
  refine (min_none A c _).mono ?_
  rintro e w1 ⟨rfl, b1⟩
  have B1 := Lib.hid b1
  clear b1
  go_wp2_with fail
  refine (pop_none A c _).mono ?_
  rintro e w2 ⟨rfl, b2⟩
  have B2 := Lib.hid ((B1.out.alloc B1.out.size (.cells #[.int .i64 0, .int .i64 0] 24)).trans (b2.mono (by have := B1.out.size; simp; omega)))
  have k1 : w2.cell? ⟨w1.heap.size, 0, none⟩ = some (.int .i64 0) := (b2.cell (p := ⟨w1.heap.size, 0, none⟩) (by simp)).trans (by go_simp)
  have k2 : w2.cell? ⟨w1.heap.size, 1, none⟩ = some (.int .i64 0) := (b2.cell (p := ⟨w1.heap.size, 1, none⟩) (by simp)).trans (by go_simp)
  have c1 := cell_new k1 (.cells #[.int .i64 0, .int .i64 0] 24)
  have c2 := cell_new k2 (.cells #[.int .i64 0, .int .i64 0] 24)
  clear b2
  go_wp2_with fail
  refine (knows_any _).mono ?_
  rintro e w3 ⟨rfl, b3⟩
  have B3 := Lib.hid ((B2.out.alloc B2.out.size (.cells #[.int .i64 0, .int .i64 0] 24)).trans (b3.mono (by have := B2.out.size; simp; omega)))
  clear b3 k1 k2 c1 c2
  go_wp2_with fail
  go_ret
  exact ⟨rfl, B3.out⟩

set_option maxHeartbeats 6400000 in
set_option maxRecDepth 100000 in
theorem some_ (A : Option Addr) (c : Nat) (l : List It) (w : World) (h0 : 0 < l.length) (hbig : l.length ≤ 100) (hr : Rd w A c l) :
    Calls Try.prog 4 #[.slice A l.length c] w fun e w' => e = .returned (.bool true) ∧ Below w.heap.size w w' := by
  have HR := Lib.hid hr
  clear hr
  have h1 : (l.length : Int) ≤ 100 := by omega
  have h2 : ((l.length : Int) == 0) = false := beq_eq_false_iff_ne.2 (by omega)
  go_enter Try.func4, Try.ntmps4
  go_wp2_with fail
  refine (min_some A c l _ (by omega) h0 HR.out).mono ?_
  rintro e w1 ⟨x, r, rfl, hs1, b1⟩
  have HS1 := Lib.hid hs1
  have B1 := Lib.hid b1
  clear hs1 b1
  go_wp2_with fail
  have Bx := Lib.hid (B1.out.alloc B1.out.size (.cells #[.int .i64 x.1, .int .i64 x.2] 24))
  have x1 : (w1.alloc (.cells #[.int .i64 x.1, .int .i64 x.2] 24)).cell? ⟨w1.heap.size, 0, none⟩ = some (.int .i64 x.1) := by go_simp
  have x2 : (w1.alloc (.cells #[.int .i64 x.1, .int .i64 x.2] 24)).cell? ⟨w1.heap.size, 1, none⟩ = some (.int .i64 x.2) := by go_simp
  generalize w1.heap.size = X at *
  generalize w1.alloc (.cells #[.int .i64 x.1, .int .i64 x.2] 24) = wx at *
  refine (pop_some A c l _ (by omega) h0 (HR.out.below Bx.out)).mono ?_
  rintro e w2 ⟨y, A2, c2, m, rfl, hs2, hi2, hl2, o2, b2⟩
  have hyx : y = x ∧ srt m = r := by have := hs2.symm.trans HS1.out; injection this with e1 e2; exact ⟨e1, e2⟩
  obtain ⟨rfl, rfl⟩ := hyx
  have x1' := cell_below b2 x1
  have x2' := cell_below b2 x2
  have B2 := Lib.hid (Bx.out.trans (b2.mono Bx.out.size))
  have HI2 := Lib.hid hi2
  have HL2 := Lib.hid hl2
  have O2 := Lib.hid o2.rd
  clear hs2 hi2 hl2 o2 b2 x1 x2 Bx B1
  go_wp2_with fail
  have By := Lib.hid (B2.out.alloc B2.out.size (.cells #[.int .i64 y.1, .int .i64 y.2] 24))
  have y1 : (w2.alloc (.cells #[.int .i64 y.1, .int .i64 y.2] 24)).cell? ⟨w2.heap.size, 0, none⟩ = some (.int .i64 y.1) := by go_simp
  have y2 : (w2.alloc (.cells #[.int .i64 y.1, .int .i64 y.2] 24)).cell? ⟨w2.heap.size, 1, none⟩ = some (.int .i64 y.2) := by go_simp
  have x1 := cell_new x1' (.cells #[.int .i64 y.1, .int .i64 y.2] 24)
  have x2 := cell_new x2' (.cells #[.int .i64 y.1, .int .i64 y.2] 24)
  have Oy := Lib.hid (O2.out.alloc (.cells #[.int .i64 y.1, .int .i64 y.2] 24))
  clear x1' x2' B2 O2
  generalize w2.heap.size = Y at *
  generalize w2.alloc (.cells #[.int .i64 y.1, .int .i64 y.2] 24) = wy at *
  refine (as_any A c l _ (by omega) (HR.out.below By.out)).mono ?_
  rintro e w3 ⟨A3, c3, rfl, o3, b3⟩
  have O3 := Lib.hid o3.rd
  have B3 := Lib.hid (By.out.trans (b3.mono By.out.size))
  have x1' := cell_below b3 x1
  have x2' := cell_below b3 x2
  have y1' := cell_below b3 y1
  have y2' := cell_below b3 y2
  have Om3 := Lib.hid (Oy.out.below b3)
  clear x1 x2 y1 y2 o3 b3 By Oy
  go_wp2_with fail
  refine (refSort_any A3 c3 l _ (by omega) O3.out).mono ?_
  rintro e w4 ⟨A4, c4, rfl, o4, b4⟩
  have x1 := cell_below b4 x1'
  have x2 := cell_below b4 x2'
  have y1 := cell_below b4 y1'
  have y2 := cell_below b4 y2'
  have B4 := Lib.hid (B3.out.trans (b4.mono B3.out.size))
  have Om4 := Lib.hid (Om3.out.below b4)
  obtain ⟨g, rfl, _, _, hgc⟩ := o4.form (by rw [srt_length]; exact h0)
  rw [srt_length] at hgc
  have hat : at_ (srt l) 0 = y := by rw [HS1.out]; rfl
  obtain ⟨s1, s2⟩ := o4.cell 0 (by rw [srt_length]; exact h0)
  rw [hat] at s1 s2
  simp only [Nat.zero_mul, Nat.zero_add] at s1 s2
  have Hdrop : Hid ((srt l).drop 1 = srt m) := by show List.drop _ _ = _; rw [HS1.out]; rfl
  have Os : Hid (Rd w4 (some ⟨g, 1 * 2, none⟩) (c4 - 1) (srt m)) := by have := Rd.back o4.rd 1 (c4 - 1); rw [Hdrop.out] at this; exact this
  clear x1' x2' y1' y2' o4 b4 B3 Om3 O3 hat
  have p1 : (0 : Int) < (l.length : Int) := by omega
  have p2 : (1 : Int) ≤ (l.length : Int) := by omega
  have p3 : (l.length : Int) ≤ (c4 : Int) := by omega
  have p4 : (1 : Int) ≤ (c4 : Int) := by omega
  have hm : m.length ≤ 100 := by have := HL2.out; omega
  have hlm : Hid ((srt m).length = l.length - 1) := by show List.length _ = _; rw [srt_length]; have := HL2.out; omega
  by_cases hc1 : c4 = 1
  · subst hc1
    have hm0 : srt m = [] := List.eq_nil_of_length_eq_zero (by rw [hlm.out]; omega)
    have Oe : Hid (Rd w4 (some ⟨g, 0, none⟩) 0 (srt m)) := by show Rd _ _ _ _; rw [hm0]; exact Rd.none_ (fun h => by cases h)
    have hm1 := Lib.hid hm0
    clear Os hm0
    go_wp2_with fail
    go_region_held3 (fun w' => w'.cell? ⟨X, 0, none⟩ = some (.int .i64 y.1) ∧ w'.cell? ⟨X, 1, none⟩ = some (.int .i64 y.2) ∧ w'.cell? ⟨Y, 0, none⟩ = some (.int .i64 y.1) ∧ w'.cell? ⟨Y, 1, none⟩ = some (.int .i64 y.2) ∧ w'.cell? ⟨g, 0, none⟩ = some (.int .i64 y.1) ∧ w'.cell? ⟨g, 1, none⟩ = some (.int .i64 y.2) ∧ Hid (Below w4.heap.size w4 w'))
      (first
        | (go_split_ands; exact ⟨cell_below bX (by assumption), cell_below bX (by assumption), cell_below bX (by assumption), cell_below bX (by assumption), cell_below bX (by assumption), cell_below bX (by assumption), below_step (Hid.out (by assumption)) bX⟩)
        | (exact ⟨x1, x2, y1, y2, s1, s2, (Below.refl _ w4).drew⟩))
      (first
        | (go_at_call 13; refine (as_any A2 c2 m _ (by omega) (by go_split_ands; exact Om4.out.below (Hid.out (by assumption)))).mono ?_; rintro e w5 ⟨A5, c5, rfl, o5, bX⟩; have O5 := Lib.hid o5.rd; clear o5)
        | (go_at_call 12; refine (refRight_any A5 c5 m _ (by omega) (by exact O5.out)).mono ?_; rintro e w6 ⟨rfl, bX⟩; rw [rightB_iff.2 HI2.out])
        | (go_at_call 17; refine (refSort_any A5 c5 m _ (by omega) (by exact O5.out)).mono ?_; rintro e w7 ⟨A7, c7, rfl, o7, bX⟩; have O7 := Lib.hid o7.rd; clear o7)
        | (go_at_call 18; refine (same_n m.length 0 A7 _ c7 _ (srt m) (srt m) _ (srt_length _) (by rw [hm1.out]; rfl) (by rw [srt_length]; omega) (by exact O7.out) (by go_split_ands; exact Oe.out.below (Hid.out (by assumption)))).mono ?_; rintro e w8 ⟨rfl, bX⟩; rw [decide_eq_true rfl])
        | (go_at_call 8; refine (knows_any _).mono ?_; rintro e w9 ⟨rfl, bX⟩))
    go_split_ands
    have HBf : Hid (Below w4.heap.size w4 w9) := by assumption
    go_wp2_with fail
    go_ret
    exact ⟨rfl, B4.out.trans (HBf.out.mono B4.out.size)⟩
  · go_wp2_with fail
    go_region_held3 (fun w' => w'.cell? ⟨X, 0, none⟩ = some (.int .i64 y.1) ∧ w'.cell? ⟨X, 1, none⟩ = some (.int .i64 y.2) ∧ w'.cell? ⟨Y, 0, none⟩ = some (.int .i64 y.1) ∧ w'.cell? ⟨Y, 1, none⟩ = some (.int .i64 y.2) ∧ w'.cell? ⟨g, 0, none⟩ = some (.int .i64 y.1) ∧ w'.cell? ⟨g, 1, none⟩ = some (.int .i64 y.2) ∧ Hid (Below w4.heap.size w4 w'))
      (first
        | (go_split_ands; exact ⟨cell_below bX (by assumption), cell_below bX (by assumption), cell_below bX (by assumption), cell_below bX (by assumption), cell_below bX (by assumption), cell_below bX (by assumption), below_step (Hid.out (by assumption)) bX⟩)
        | (exact ⟨x1, x2, y1, y2, s1, s2, (Below.refl _ w4).drew⟩))
      (first
        | (go_at_call 13; refine (as_any A2 c2 m _ (by omega) (by go_split_ands; exact Om4.out.below (Hid.out (by assumption)))).mono ?_; rintro e w5 ⟨A5, c5, rfl, o5, bX⟩; have O5 := Lib.hid o5.rd; clear o5)
        | (go_at_call 12; refine (refRight_any A5 c5 m _ (by omega) (by exact O5.out)).mono ?_; rintro e w6 ⟨rfl, bX⟩; rw [rightB_iff.2 HI2.out])
        | (go_at_call 17; refine (refSort_any A5 c5 m _ (by omega) (by exact O5.out)).mono ?_; rintro e w7 ⟨A7, c7, rfl, o7, bX⟩; have O7 := Lib.hid o7.rd; clear o7)
        | (go_at_call 18; refine (same_n m.length (l.length - 1) A7 _ c7 _ (srt m) (srt m) _ (srt_length _) hlm.out (by rw [srt_length]; omega) (by exact O7.out) (by go_split_ands; exact Os.out.below (Hid.out (by assumption)))).mono ?_; rintro e w8 ⟨rfl, bX⟩; rw [decide_eq_true rfl])
        | (go_at_call 8; refine (knows_any _).mono ?_; rintro e w9 ⟨rfl, bX⟩))
    go_split_ands
    have HBf : Hid (Below w4.heap.size w4 w9) := by assumption
    go_wp2_with fail
    go_ret
    exact ⟨rfl, B4.out.trans (HBf.out.mono B4.out.size)⟩

theorem walk (A : Option Addr) (c : Nat) (l : List It) (w : World) (_hlc : l.length ≤ c) (_hcm : c ≤ maxLen) (hr : Rd w A c l) :
    Calls Try.prog 4 #[.slice A l.length c] w fun e w' => e = .returned (.bool true) ∧ Below w.heap.size w w' := by
  by_cases hbig : 100 < l.length
  · exact few A c l w hbig
  · rcases l with _ | ⟨p, r⟩
    · exact no A c w
    · exact some_ A c _ w (by simp) (by omega) hr

set_option maxRecDepth 100000 in
theorem lifted (os : Os) (started : os.Started) (H : Type) (enc : TypeId × Value → H) :
    ReturnsInHanded {} Try.checked os 4 .any (Rows.heapPopsSpec.pre6 enc Try.prog Try.f4 Rows.heapPopsRow.domain false) (Rows.heapPopsSpec.post enc Try.prog Try.f4 false true false false) := by
  refine returnsInHanded_of_change (C := Try.checked) own started (by kernel_rfl) Try.func4
    (ChangeSpec.witness6 (enc := enc) (C := Try.checked) false ⟨#[], #[.slice none 0 0], []⟩ 8 (by kernel_rfl) (by kernel_rfl) (by kernel_rfl) (by kernel_rfl)) ?_
  intro W base args ds gs before hval0 hW hcnd _
  have hval : ∀ (j : Nat) t v, Try.f4.params[j]? = some t → args[j]? = some v → Value.okWide Try.prog W .any base t v := hval0
  have hW' := hW
  obtain ⟨p, q, hA0, hV, rfl, hfz, hnd⟩ := hW
  have hA : DataW.TrodAll enc Try.prog W 0 (fun _ => true) true Try.f4.params.toList args.toList ds p := hA0
  rw [Try.params4] at hA hval
  obtain ⟨v0, d0, rfl, rfl, h0⟩ := trodAll_one hA
  obtain ⟨rfl, rfl⟩ := trodVars_none hV
  obtain ⟨A0, c0, l0, rfl, hlc0, hcm0, hr0⟩ := open_items (hval 0 22 v0 rfl rfl) h0
  clear hA0 hval0
  refine (walk A0 c0 l0 W hlc0 hcm0 hr0).mono fun e W' ⟨he, bel⟩ => ?_
  subst he
  have hlt0 : ∀ x ∈ p, x.block < W.heap.size := fun x hx => hW'.lt x (by simpa using hx)
  exact ⟨_, rfl, _, _, _, [], _, [], hW', trodAll_mk1 (shut_bool Try.underlying4 _), trodAll_mk1 (Below.trod laidOut (by kernel_rfl) (of_decide_eq_true (by kernel_rfl)) h0 bel hlt0), rfl, bel.frame _, fun h => by cases h⟩

/-- The statement. -/
theorem proved : Rows.HeapPopsSaid :=
  OpenClaim.holds_of_wide 4 Try.f4 rfl rfl rfl rfl rfl rfl rfl ⟨rfl, rfl, rfl, rfl, rfl⟩ rfl rfl rfl rfl rfl (by kernel_rfl) Try.func4 (by kernel_rfl)
    (of_decide_eq_true (by kernel_rfl)) (by unfold Func.isWrapper; first | (rw [if_pos (by decide +kernel)]; kernel_rfl) | (rw [if_neg (by decide +kernel)]; exact ⟨rfl, rfl⟩))
    (fun os started H enc _ => lifted os started H enc)
#print axioms proved


end Go.Proofs.Yteadcjfbmckgpaa.heapPops
