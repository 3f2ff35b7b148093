/-
  For every list of items and every turn the statement HeapAgain of layer 2 returns true (to sort again changes nothing; the lowest one is the first of the sorted ones; and the order of items makes no difference), and its arguments read as before. No condition.
-/
import Derived.Test.YteadcjfbmckgpaaLaw02Args
import Derived.Deep.RegionHeld3
namespace Go.Proofs.Yteadcjfbmckgpaa.heapAgain
open Go.ChangeShapes Go.WideShapes Go.ChangeAt Go.RowKit
open Hp
attribute [local go_sem ↓] Go.wp_at_zero Go.wp_at_succ

theorem frontAt {w : World} {b off d : Nat} {s : List It} (h : Rd w (some ⟨b, off, none⟩) d s) (k : Nat) (c : Nat) : Rd w (some ⟨b, off, none⟩) c (s.take k) := by
  refine ⟨fun e => (by cases e), fun h0 => ?_⟩
  have h0' : 0 < s.length := by simp at h0; omega
  obtain ⟨b', off', e, hc⟩ := h.2 h0'
  refine ⟨b', off', e, fun j hj => ?_⟩
  have hj' : j < k ∧ j < s.length := by simp at hj; omega
  have e1 : at_ (s.take k) j = at_ s j := by simp [at_, List.getD_eq_getElem?_getD, hj'.1]
  rw [e1]
  exact hc j hj'.2
theorem backAt {w : World} {b off d : Nat} {s : List It} (h : Rd w (some ⟨b, off, none⟩) d s) (k c : Nat) : Rd w (some ⟨b, off + k * 2, none⟩) c (s.drop k) := by
  refine ⟨fun e => (by cases e), fun h0 => ?_⟩
  have h0' : k < s.length := by simp at h0; omega
  obtain ⟨b', off', e, hc⟩ := h.2 (by omega)
  injection e with e
  injection e with e1 e2
  subst e1
  subst e2
  refine ⟨b, off + k * 2, rfl, fun j hj => ?_⟩
  have hj' : k + j < s.length := by simp at hj; omega
  have e1 : at_ (s.drop k) j = at_ s (k + j) := by simp [at_, List.getD_eq_getElem?_getD, List.getElem?_drop]
  obtain ⟨c1, c2⟩ := hc (k + j) hj'
  rw [e1]
  exact ⟨by rw [show off + k * 2 + j * 2 = off + (k + j) * 2 from by omega]; exact c1, by rw [show off + k * 2 + j * 2 + 1 = off + (k + j) * 2 + 1 from by omega]; exact c2⟩

theorem sort_n (n : Nat) (A : Option Addr) (c : Nat) (l : List It) (w : World) (hn : l.length = n) (hbig : l.length ≤ 900000) (hr : Rd w A c l) :
    Calls Try.prog 19 #[.slice A n c] w (SortOf w l) := by
  subst hn
  exact sort_any A c l w hbig hr

set_option maxHeartbeats 1600000 in
theorem few (A : Option Addr) (c : Nat) (n : Nat) (l : List It) (w : World) (hbig : 100 < l.length ∨ l.length = 0) (hA : A = none → c = 0) :
    Calls Try.prog 7 #[.slice A l.length c, .int .u8 n] w fun e w' => e = .returned (.bool true) ∧ Below w.heap.size w w' := by
  have HA := Lib.hid hA
  clear hA
  have hor : ((100 : Int) < (l.length : Int)) ∨ ((l.length : Int) ≤ 100 ∧ ((l.length : Int) == 0) = true) := by
    rcases hbig with h | h
    · exact .inl (by omega)
    · exact .inr ⟨by omega, beq_iff_eq.2 (by omega)⟩
  clear hbig
  have hc0 : (0 : Int) ≤ (c : Int) := by omega
  have HS : Hid ((srt ([] : List It)).length = 0) := rfl
  rcases A with _ | a
  · have hc := HA.out rfl
    subst hc
    rcases hor with h | ⟨h, h'⟩
    all_goals
      go_enter Try.func7, Try.ntmps7
      go_wp2_with fail
      refine (sort_any none 0 [] _ (by simp) (Rd.nil _)).mono ?_
      rintro e w1 ⟨A1, c1, rfl, o1, b1⟩
      have B1 := Lib.hid b1
      clear b1 o1
      rw [HS.out]
      go_wp2_with fail
      refine (knows_any _).mono ?_
      rintro e w2 ⟨rfl, b2⟩
      have B2 := Lib.hid (B1.out.trans (b2.mono B1.out.size))
      clear b2 B1
      go_wp2_with fail
      go_ret
      exact ⟨rfl, B2.out⟩
  · rcases hor with h | ⟨h, h'⟩
    all_goals
      go_enter Try.func7, Try.ntmps7
      go_wp2_with fail
      refine (sort_any (some a) c [] _ (by simp) (Rd.none_ (fun h => by cases h))).mono ?_
      rintro e w1 ⟨A1, c1, rfl, o1, b1⟩
      have B1 := Lib.hid b1
      clear b1 o1
      rw [HS.out]
      go_wp2_with fail
      refine (knows_any _).mono ?_
      rintro e w2 ⟨rfl, b2⟩
      have B2 := Lib.hid (B1.out.trans (b2.mono B1.out.size))
      clear b2 B1
      go_wp2_with fail
      go_ret
      exact ⟨rfl, B2.out⟩

set_option maxHeartbeats 6400000 in
set_option maxRecDepth 100000 in
theorem some_ (b off c n : Nat) (l : List It) (w : World) (hbig : l.length ≤ 100) (h0 : 0 < l.length) (hlc : l.length ≤ c) (hcm : c ≤ maxLen) (hn : n < 256) (hr : Rd w (some ⟨b, off, none⟩) c l) :
    Calls Try.prog 7 #[.slice (some ⟨b, off, none⟩) l.length c, .int .u8 n] w fun e w' => e = .returned (.bool true) ∧ Below w.heap.size w w' := by
  have HR := Lib.hid hr
  clear hr
  unfold maxLen at hcm
  have h1 : (l.length : Int) ≤ 100 := by omega
  have h2 : ((l.length : Int) == 0) = false := beq_eq_false_iff_ne.2 (by omega)
  have h3 : (0 : Int) < (l.length : Int) := by omega
  go_enter Try.func7, Try.ntmps7
  go_wp2_with fail
  rw [show ((n : Int) % (l.length : Int)) = ((n % l.length : Nat) : Int) from (Int.natCast_emod n l.length).symm]
  have hk : n % l.length < l.length := Nat.mod_lt _ h0
  generalize n % l.length = k at *
  refine (sort_any (some ⟨b, off, none⟩) c l _ (by omega) HR.out).mono ?_
  rintro e w1 ⟨A1, c1, rfl, o1, b1⟩
  have O1 := Lib.hid o1
  have B1 := Lib.hid b1
  clear o1 b1
  have R1 := Lib.hid (HR.out.below B1.out)
  have hkl : (k : Int) ≤ (l.length : Int) := by omega
  have hk0 : (0 : Int) ≤ (k : Int) := by omega
  have hlc' : (l.length : Int) ≤ (c : Int) := by omega
  have hkc : (k : Int) ≤ (c : Int) := by omega
  have hck : ¬ c = k := by omega
  have HD : Hid ((l.drop k).length = l.length - k) := by show List.length _ = _; simp
  have HT : Hid ((l.take k).length = k) := by show List.length _ = _; simp; omega
  have RD : Hid (Rd w1 (some ⟨b, off + k * 2, none⟩) (c - k) (l.drop k)) := backAt R1.out k _
  have RT : Hid (Rd w1 (some ⟨b, off, none⟩) c (l.take k)) := frontAt R1.out k _
  have HP : Hid (srt (l.drop k ++ l.take k) = srt l) := srt_of_perm (by have := List.perm_append_comm (l₁ := l.drop k) (l₂ := l.take k); rwa [List.take_append_drop] at this)
  generalize l.drop k = ld at *
  generalize l.take k = lt at *
  go_wp2_with fail
  go_region_held3 (fun w' => Hid (Below w1.heap.size w1 w'))
    (first
      | (exact HB7.out)
      | (exact HB6.out)
      | (exact HB5.out)
      | (exact (below_one w1 _).drew)
      | (exact (Below.refl _ w1).drew))
    (first
      | (refine step_app_it (by rfl) _ _ (by rfl) (base := w1.heap.size) (l := []) (r := ld) (by rfl) (by rw [HD.out]; rfl) (by exact own_lit w1 _ _ (Nat.le_refl _)) (by exact RD.out.alloc _) (by have := HD.out; simp; omega) (by simp) ?_
         intro A5 c5 w5 k1 k2 k3
         have HB5 := Lib.hid (Below.grown (B := w1.heap.size) (a := w1) (by exact (below_one w1 _).drew) k2 (by simp) (fun k hk => by simp [Value.ownBlock] at hk; omega))
         have HO5 := Lib.hid k1
         rw [show ([] : List It).length + ld.length = ld.length from Nat.zero_add _]
         clear k1 k2 k3)
      | (refine step_app_it (by rfl) _ _ (by rfl) (base := w1.heap.size) (l := ld) (r := lt) (by rfl) (by rw [HT.out]; rfl) (by exact HO5.out) (by exact RT.out.below HB5.out) (by have := HD.out; have := HT.out; omega) (by exact HB5.out.size) ?_
         intro A6 c6 w6 k1 k2 k3
         have HB6 := Lib.hid (Below.grown (B := w1.heap.size) (a := w1) HB5.out k2 HB5.out.size (fun k hk => HO5.out.row k hk))
         have HO6 := Lib.hid k1
         clear k1 k2 k3)
      | (go_at_call 19; refine (sort_n (ld.length + lt.length) A6 c6 (ld ++ lt) _ (by simp) (by have := HD.out; have := HT.out; simp; omega) (by exact HO6.out.rd)).mono ?_
         rintro e w7 ⟨A7, c7, rfl, o7, b7⟩
         rw [HP.out] at o7 ⊢
         have HB7 := Lib.hid (HB6.out.trans (b7.mono HB6.out.size))
         have HO7 := Lib.hid o7.rd
         clear o7 b7))
  have Q1 := Lib.hid (O1.out.rd.below HB7.out)
  have Q7 := Lib.hid HO7.out
  have QL := Lib.hid (R1.out.below HB7.out)
  have B7 := Lib.hid (B1.out.trans (HB7.out.mono B1.out.size))
  have SL : Hid ((srt l).length = l.length) := srt_length l
  have SS : Hid (srt (srt l) = srt l) := srt_of_sorted (srt_sorted l)
  have SR : Hid (rightB (srt l) = true) := rightB_iff.2 (IsHeap.sorted (srt_sorted l))
  obtain ⟨g, rfl, _⟩ := O1.out.form (by rw [SL.out]; exact h0)
  have G1 := Lib.hid ((O1.out.below HB7.out (Nat.le_refl _)).cell 0 (by rw [SL.out]; exact h0))
  clear HO7 HB7 RD RT HP HD HT HO6 HB6 HO5 HB5 O1 R1 B1
  go_wp2_with fail
  refine (min_some (some ⟨b, off, none⟩) c l _ (by omega) h0 QL.out).mono ?_
  rintro e w8 ⟨x, r, rfl, hx, b8⟩
  have hat : at_ (srt l) 0 = x := by rw [hx]; rfl
  obtain ⟨g1, g2⟩ := G1.out
  rw [hat] at g1 g2
  simp only [Nat.zero_mul, Nat.zero_add] at g1 g2
  have g1' := cell_below b8 g1
  have g2' := cell_below b8 g2
  have P1 := Lib.hid (Q1.out.below b8)
  have P7 := Lib.hid (Q7.out.below b8)
  have B8 := Lib.hid (B7.out.trans (b8.mono B7.out.size))
  clear g1 g2 G1 hat hx b8 Q1 Q7 QL B7
  go_wp2_with fail
  have x1 : (w8.alloc (.cells #[.int .i64 x.1, .int .i64 x.2] 24)).cell? ⟨w8.heap.size, 0, none⟩ = some (.int .i64 x.1) := by go_simp
  have x2 : (w8.alloc (.cells #[.int .i64 x.1, .int .i64 x.2] 24)).cell? ⟨w8.heap.size, 1, none⟩ = some (.int .i64 x.2) := by go_simp
  have g1 := cell_new g1' (.cells #[.int .i64 x.1, .int .i64 x.2] 24)
  have g2 := cell_new g2' (.cells #[.int .i64 x.1, .int .i64 x.2] 24)
  have R1 := Lib.hid (P1.out.alloc (.cells #[.int .i64 x.1, .int .i64 x.2] 24))
  have R7 := Lib.hid (P7.out.alloc (.cells #[.int .i64 x.1, .int .i64 x.2] 24))
  have B9 := Lib.hid (B8.out.alloc B8.out.size (.cells #[.int .i64 x.1, .int .i64 x.2] 24))
  clear g1' g2' P1 P7 B8
  generalize w8.heap.size = X at *
  generalize w8.alloc (.cells #[.int .i64 x.1, .int .i64 x.2] 24) = w9 at *
  have hs0 : 0 < (srt l).length := by rw [SL.out]; exact h0
  have hsb : (srt l).length ≤ 100 := by rw [SL.out]; exact hbig
  generalize srt l = s at *
  have hs0' : (0 : Int) < (s.length : Int) := by omega
  have hll : ((s.length : Int) == (l.length : Int)) = true := by rw [SL.out]; simp
  have O5 : ∃ (A5 : Option Addr) (c5 : Nat), Hid (Rd w9 A5 c5 s) := ⟨_, _, R1⟩
  obtain ⟨A5, c5, O5⟩ := O5
  go_region_held3 (fun w' => w'.cell? ⟨X, 0, none⟩ = some (.int .i64 x.1) ∧ w'.cell? ⟨X, 1, none⟩ = some (.int .i64 x.2) ∧ w'.cell? ⟨g, 0, none⟩ = some (.int .i64 x.1) ∧ w'.cell? ⟨g, 1, none⟩ = some (.int .i64 x.2) ∧ Hid (Below w9.heap.size w9 w'))
    (first
      | (go_split_ands; exact ⟨cell_below bX (by assumption), cell_below bX (by assumption), cell_below bX (by assumption), cell_below bX (by assumption), below_step (Hid.out (by assumption)) bX⟩)
      | (exact ⟨x1, x2, g1, g2, (Below.refl _ w9).drew⟩))
    (first
      | (go_at_call 19; refine (sort_any (some ⟨g, 0, none⟩) c1 s _ (by omega) (by go_split_ands; exact R1.out.below (Hid.out (by assumption)))).mono ?_
         rintro e wa ⟨A6, c6, rfl, o6, bX⟩
         rw [SS.out] at o6 ⊢
         have O6 := Lib.hid o6.rd
         have O5 := Lib.hid (Rd.below (by exact O5.out) bX)
         clear o6)
      | (go_at_call 13; refine (as_any _ _ s _ (by omega) (by go_split_ands; first | exact O6.out | exact R1.out.below (Hid.out (by assumption)) | exact R7.out.below (Hid.out (by assumption)))).mono ?_
         rintro e wb ⟨A8, c8, rfl, o8, bX⟩
         have O4 := Lib.hid (Rd.below (by exact O5.out) bX)
         have O5 := Lib.hid o8.rd
         clear o8)
      | (go_at_call 18; refine (same_any _ _ _ _ s s _ (by omega) (by exact O4.out) (by exact O5.out)).mono ?_
         rintro e wd ⟨rfl, bX⟩
         rw [decide_eq_true rfl]
         have O5 := Lib.hid (Rd.below (by exact O5.out) bX))
      | (go_at_call 11; refine (right_any _ _ s _ (by omega) (by go_split_ands; exact R1.out.below (Hid.out (by assumption)))).mono ?_
         rintro e wf ⟨rfl, bX⟩
         rw [SR.out])
      | (go_at_call 8; refine (knows_any _).mono ?_
         rintro e wz ⟨rfl, bX⟩))
  go_split_ands
  have HBf : Hid (Below w9.heap.size w9 wz) := by assumption
  go_wp2_with fail
  go_ret
  exact ⟨rfl, B9.out.trans (HBf.out.mono B9.out.size)⟩

theorem walk (A : Option Addr) (c : Nat) (l : List It) (n : Nat) (w : World) (hlc : l.length ≤ c) (hcm : c ≤ maxLen) (hr : Rd w A c l) (hn : n < 256) :
    Calls Try.prog 7 #[.slice A l.length c, .int .u8 n] w fun e w' => e = .returned (.bool true) ∧ Below w.heap.size w w' := by
  by_cases hbig : 100 < l.length ∨ l.length = 0
  · exact few A c n l w hbig hr.1
  · have h0 : 0 < l.length := by omega
    obtain ⟨b, off, rfl, _⟩ := hr.2 h0
    exact some_ b off c n l w (by omega) h0 hlc hcm hn hr

set_option maxRecDepth 100000 in
theorem lifted (os : Os) (started : os.Started) (H : Type) (enc : TypeId × Value → H) :
    ReturnsInHanded {} Try.checked os 7 .any (Rows.heapAgainSpec.pre6 enc Try.prog Try.f7 Rows.heapAgainRow.domain false) (Rows.heapAgainSpec.post enc Try.prog Try.f7 false true false false) := by
  refine returnsInHanded_of_change (C := Try.checked) own started (by kernel_rfl) Try.func7
    (ChangeSpec.witness6 (enc := enc) (C := Try.checked) false ⟨#[], #[.slice none 0 0, .int .u8 0], []⟩ 8 (by kernel_rfl) (by kernel_rfl) (by kernel_rfl) (by kernel_rfl)) ?_
  intro W base args ds gs before hval0 hW hcnd _
  have hval : ∀ (j : Nat) t v, Try.f7.params[j]? = some t → args[j]? = some v → Value.okWide Try.prog W .any base t v := hval0
  have hW' := hW
  obtain ⟨p, q, hA0, hV, rfl, hfz, hnd⟩ := hW
  have hA : DataW.TrodAll enc Try.prog W 0 (fun _ => true) true Try.f7.params.toList args.toList ds p := hA0
  rw [Try.params7] at hA hval
  obtain ⟨v0, v1, d0, d1, p0, p1, rfl, rfl, rfl, h0, h1⟩ := trodAll_two hA
  obtain ⟨rfl, rfl⟩ := trodVars_none hV
  obtain ⟨A0, c0, l0, rfl, hlc0, hcm0, hr0⟩ := open_items (hval 0 22 v0 rfl rfl) h0
  obtain ⟨n1, rfl, hn1⟩ := open_u8 (hval 1 5 v1 rfl rfl) h1
  clear hA0 hval0
  refine (walk A0 c0 l0 n1 W hlc0 hcm0 hr0 hn1).mono fun e W' ⟨he, bel⟩ => ?_
  subst he
  have hlt0 : ∀ x ∈ p0, x.block < W.heap.size := fun x hx => hW'.lt x (by simp [hx])
  have hlt1 : ∀ x ∈ p1, x.block < W.heap.size := fun x hx => hW'.lt x (by simp [hx])
  exact ⟨_, rfl, _, _, _, [], _, [], hW', trodAll_mk1 (shut_bool Try.underlying4 _), trodAll_mk2 (Below.trod laidOut (by kernel_rfl) (of_decide_eq_true (by kernel_rfl)) h0 bel hlt0) (Below.trod laidOut (by kernel_rfl) (of_decide_eq_true (by kernel_rfl)) h1 bel hlt1), rfl, bel.frame _, fun h => by cases h⟩

/-- The statement. -/
theorem proved : Rows.HeapAgainSaid :=
  OpenClaim.holds_of_wide 7 Try.f7 rfl rfl rfl rfl rfl rfl rfl ⟨rfl, rfl, rfl, rfl, rfl⟩ rfl rfl rfl rfl rfl (by kernel_rfl) Try.func7 (by kernel_rfl)
    (of_decide_eq_true (by kernel_rfl)) (by unfold Func.isWrapper; first | (rw [if_pos (by decide +kernel)]; kernel_rfl) | (rw [if_neg (by decide +kernel)]; exact ⟨rfl, rfl⟩))
    (fun os started H enc _ => lifted os started H enc)
#print axioms proved


end Go.Proofs.Yteadcjfbmckgpaa.heapAgain
