/-
  For every list of items and every list of bools the statement HeapRows of layer 2 returns true (what is popped between pushes is always the lowest of what is there: pushes and pops, as they are told, come to what a sorted row comes to), and its arguments read as before. No condition.
-/
import Derived.Test.YteadcjfbmckgpaaLaw02Args
import Derived.Deep.RegionHeld3
import Derived.IntWalk
namespace Go.Proofs.Yteadcjfbmckgpaa.heapRows
open Go.ChangeShapes Go.WideShapes Go.ChangeAt Go.RowKit
open Hp
attribute [local go_sem ↓] Go.wp_at_zero Go.wp_at_succ

theorem frontAt {w : World} {b off d : Nat} {s : List It} (h : Rd w (some ⟨b, off, none⟩) d s) (k : Nat) (c : Nat) : Rd w (some ⟨b, off, none⟩) c (s.take k) := by
  refine ⟨fun e => (by cases e), fun h0 => ?_⟩
  have h0' : 0 < s.length := by simp at h0; omega
  obtain ⟨b', off', e, hc⟩ := h.2 h0'
  refine ⟨b', off', e, fun j hj => ?_⟩
  have hj' : j < k ∧ j < s.length := by simp at hj; omega
  have e1 : at_ (s.take k) j = at_ s j := by simp [at_, List.getD_eq_getElem?_getD, hj'.1]
  rw [e1]
  exact hc j hj'.2
theorem backAt {w : World} {b off d : Nat} {s : List It} (h : Rd w (some ⟨b, off, none⟩) d s) (k c : Nat) : Rd w (some ⟨b, off + k * 2, none⟩) c (s.drop k) := by
  refine ⟨fun e => (by cases e), fun h0 => ?_⟩
  have h0' : k < s.length := by simp at h0; omega
  obtain ⟨b', off', e, hc⟩ := h.2 (by omega)
  injection e with e
  injection e with e1 e2
  subst e1
  subst e2
  refine ⟨b, off + k * 2, rfl, fun j hj => ?_⟩
  have hj' : k + j < s.length := by simp at hj; omega
  have e1 : at_ (s.drop k) j = at_ s (k + j) := by simp [at_, List.getD_eq_getElem?_getD, List.getElem?_drop]
  obtain ⟨c1, c2⟩ := hc (k + j) hj'
  rw [e1]
  exact ⟨by rw [show off + k * 2 + j * 2 = off + (k + j) * 2 from by omega]; exact c1, by rw [show off + k * 2 + j * 2 + 1 = off + (k + j) * 2 + 1 from by omega]; exact c2⟩

/-- the loop: what is in the heap, and the sorted row -/
def RowsRel (w : World) (i : Nat) (A B : Option Addr) (c d : Nat) (m s : List It) (wr : World) : Prop :=
  m.length ≤ i ∧ s = srt m ∧ s.length ≤ d ∧ Rd wr A c m ∧ Rd wr B d s ∧ Below w.heap.size w wr

theorem as_n (n : Nat) (A : Option Addr) (c : Nat) (l : List It) (w : World) (hn : l.length = n) (hbig : l.length ≤ 900000) (hr : Rd w A c l) :
    Calls Try.prog 13 #[.slice A n c] w (AsOf w l) := by
  subst hn
  exact as_any A c l w hbig hr
theorem refSort_n (n : Nat) (A : Option Addr) (c : Nat) (l : List It) (w : World) (hn : l.length = n) (hbig : l.length ≤ 900000) (hr : Rd w A c l) :
    Calls Try.prog 17 #[.slice A n c] w (RsOf w l) := by
  subst hn
  exact refSort_any A c l w hbig hr

theorem one_of {w : World} {b off c : Nat} {l : List It} (h : Rd w (some ⟨b, off, none⟩) c l) (i d : Nat) (hi : i < l.length) : Rd w (some ⟨b, off + i * 2, none⟩) d [at_ l i] := by
  obtain ⟨b', off', e, hc⟩ := h.2 (by omega)
  injection e with e
  injection e with e1 e2
  subst e1
  subst e2
  refine ⟨fun e => (by cases e), fun _ => ⟨b, off + i * 2, rfl, fun j hj => ?_⟩⟩
  have : j = 0 := by simpa using hj
  subst this
  exact ⟨by simpa [at_] using (hc i hi).1, by simpa [at_] using (hc i hi).2⟩

set_option maxHeartbeats 12800000 in
set_option maxRecDepth 100000 in
theorem walk (A0 : Option Addr) (c0 : Nat) (l : List It) (A1 : Option Addr) (c1 : Nat) (ps : List Bool) (w : World) (hlc : l.length ≤ c0) (_hcm : c0 ≤ maxLen) (hr : Rd w A0 c0 l) (hp : RdB w A1 ps) :
    Calls Try.prog 6 #[.slice A0 l.length c0, .slice A1 ps.length c1] w fun e w' => e = .returned (.bool true) ∧ Below w.heap.size w w' := by
  have HR := Lib.hid hr
  have HPs := Lib.hid hp
  clear hr hp
  go_enter Try.func6, Try.ntmps6
  go_wp2_with fail
  go_loopw [5, 6, 7] (fun h r i wr => ∃ (k : Nat) (A B : Option Addr) (c d : Nat) (m s : List It), i = .int .i64 k ∧ h = .slice A m.length c ∧ r = .slice B s.length d ∧ k ≤ 60 ∧ RowsRel w k A B c d m s wr) (fun _ _ i _ => 60 - (intOf i).toNat)
  case atStart => exact ⟨0, none, none, 0, 0, [], [], rfl, rfl, rfl, by omega, by simp, rfl, by simp, Rd.nil _, Rd.nil _, Below.refl _ _⟩
  case round =>
    obtain ⟨k, A, B, c, d, m, s, rfl, rfl, rfl, hk, hm, hs, hsd, ha, hb, hB⟩ := hrel
    have HA := Lib.hid ha
    have HBd := Lib.hid hb
    have HS := Lib.hid hs
    have HB := Lib.hid hB
    have hsl : s.length ≤ 60 := by rw [hs, srt_length]; omega
    clear ha hb hs hB
    by_cases hgo : k < l.length ∧ k < ps.length ∧ k < 60
    · obtain ⟨hg1, hg2, hg3⟩ := hgo
      obtain ⟨b, off, rfl, hc⟩ := (HR.out.below HB.out).2 (by omega)
      obtain ⟨pb, po, rfl, hpc⟩ := (HPs.out.below HB.out) (by omega)
      obtain ⟨x1, x2⟩ := hc k hg1
      have p1 := hpc k hg2
      clear hc hpc
      have q1 : (0 : Int) ≤ (k : Int) := by omega
      have q2 : (k : Int) < (l.length : Int) := by omega
      have q3 : (k : Int) < (ps.length : Int) := by omega
      have q4 : (k : Int) < 60 := by omega
      cases hpp : ps.getD k false with
      | false =>
        rw [hpp] at p1
        clear hpp
        have R0 := Lib.hid (HR.out.below HB.out)
        generalize hx : at_ l k = x at *
        have HX := Lib.hid hx
        clear hx
        go_wp2_with fail
        refine (push_any A c m x _ (by omega) HA.out).mono ?_
        rintro e w4 ⟨A4, c4, m4, rfl, p4, i4, o4, b4⟩
        have S4 := Lib.hid (HBd.out.below b4)
        have O4 := Lib.hid o4.rd
        have P4 := Lib.hid p4
        have B4 := Lib.hid (HB.out.trans (b4.mono HB.out.size))
        have R4 : Hid (Rd w4 (some ⟨b, off + k * 2, none⟩) (c0 - k) [x]) := by have := one_of (R0.out.below b4) k (c0 - k) hg1; rw [HX.out] at this; exact this
        have hck : ¬ c0 = k := by omega
        have q5 : (k : Int) + 1 ≤ (c0 : Int) := by omega
        have q6 : (0 : Int) ≤ (k : Int) + 1 := by omega
        have q7 : (k : Int) ≤ (k : Int) + 1 := by omega
        have q8 : ((k : Int) + 1).toNat = k + 1 := by omega
        clear o4 p4 i4 b4 x1 x2 p1 R0
        go_wp2_with fail
        have e1 : IntKind.i64.wrap ((k : Int) + 1) = (k : Int) + 1 := IntWalk.i64_in _ (by omega)
        go_region_held3 (fun w' => Hid (Below w4.heap.size w4 w'))
          (first
            | (exact HBx.out)
            | (exact (below_one w4 _).drew)
            | (exact (Below.refl _ w4).drew))
          (first
            | (refine step_app_rf (by rfl) _ _ (by rfl) (base := w4.heap.size) (l := []) (r := s) (by rfl) (by rfl) (by exact own_lit w4 _ _ (Nat.le_refl _)) (by exact S4.out.alloc _) (by simp; omega) (by simp) ?_
               intro A5 c5 w5 k1 k2 k3
               have HBx := Lib.hid (Below.grown (B := w4.heap.size) (a := w4) (by exact (below_one w4 _).drew) k2 (by simp) (fun k hk => by simp [Value.ownBlock] at hk; omega))
               have HO5 := Lib.hid k1
               rw [show ([] : List It).length + s.length = s.length from Nat.zero_add _]
               clear k1 k2 k3)
            | (go_at_call 13; refine (as_n _ _ _ [x] _ (by simp) (by simp) (by exact R4.out.below HBx.out)).mono ?_
               rintro e w8 ⟨A8, c8, rfl, o8, b8⟩
               have O8 := Lib.hid o8.rd
               have HO5 := Lib.hid (HO5.out.below b8 (Nat.le_refl _))
               have HBx := Lib.hid (HBx.out.trans (b8.mono HBx.out.size))
               clear o8 b8)
            | (refine step_app_rf (by rfl) _ _ (by rfl) (base := w4.heap.size) (l := s) (r := [x]) (by rfl) (by rfl) (by exact HO5.out) (by exact O8.out) (by simp; omega) (by exact HBx.out.size) ?_
               intro A6 c6 w6 k1 k2 k3
               have HBx := Lib.hid (Below.grown (B := w4.heap.size) (a := w4) HBx.out k2 HBx.out.size (fun k hk => HO5.out.row k hk))
               have HO6 := Lib.hid k1.rd
               clear k1 k2 k3)
            | (go_at_call 17; refine (refSort_n _ A6 c6 (s ++ [x]) _ (by simp) (by simp; omega) (by exact HO6.out)).mono ?_
               rintro e w7 ⟨A7, c7, rfl, o7, b7⟩
               have O7 := Lib.hid o7
               have HBx := Lib.hid (HBx.out.trans (b7.mono HBx.out.size))
               clear o7 b7))
        have HS7 : Hid (srt (s ++ [x]) = srt m4) := by
          show srt _ = srt _
          rw [HS.out]
          exact srt_of_perm (((srt_perm m).append_right [x]).trans P4.out.symm)
        have HL7 : Hid ((srt (s ++ [x])).length = s.length + 1) := by show List.length _ = _; rw [srt_length]; simp
        have hc7 : Hid ((srt (s ++ [x])).length ≤ c7) := by
          obtain ⟨_, _, _, _, h⟩ := O7.out.form (by rw [HL7.out]; omega)
          exact h
        have B7 := Lib.hid (B4.out.trans (HBx.out.mono B4.out.size))
        have R7 := Lib.hid O7.out.rd
        have M7 := Lib.hid (O4.out.below HBx.out)
        have hm4 : m4.length ≤ k + 1 := by have := P4.out.length_eq; simp at this; omega
        clear e1 HBx O7 HO6 HO5 O8
        generalize srt (s ++ [x]) = s' at *
        go_wp2_with fail
        go_roundw
        case rel => exact ⟨k + 1, A4, A7, c4, c7, m4, s', by go_num, rfl, by rw [HL7.out], by omega, hm4, HS7.out, hc7.out, M7.out, R7.out, B7.out⟩
        case measure => simp [intOf]; omega
      | true =>
        rw [hpp] at p1
        clear hpp x1 x2
        by_cases hm0 : m.length = 0
        · have hm1 := List.eq_nil_of_length_eq_zero hm0
          subst hm1
          have hs0 : s = [] := HS.out
          subst hs0
          go_wp2_with fail
          refine (pop_none A c _).mono ?_
          rintro e w4 ⟨rfl, b4⟩
          have B4 := Lib.hid (HB.out.trans (b4.mono HB.out.size))
          have S4 := Lib.hid ((HBd.out.below b4).alloc (.cells #[.int .i64 0, .int .i64 0] 24))
          have M4 := Lib.hid ((HA.out.below b4).alloc (.cells #[.int .i64 0, .int .i64 0] 24))
          have C4 := Lib.hid (B4.out.alloc B4.out.size (.cells #[.int .i64 0, .int .i64 0] 24))
          clear b4 p1
          go_wp2_with fail
          go_roundw
          case rel => exact ⟨k + 1, A, B, c, d, [], [], by go_num, rfl, rfl, by omega, by simp, rfl, by simp, M4.out, S4.out, C4.out⟩
          case measure => simp [intOf]; omega
        · have hs0 : 0 < s.length := by rw [HS.out, srt_length]; omega
          have h1 : ((s.length : Int) == 0) = false := beq_eq_false_iff_ne.2 (by omega)
          have h2 : (0 : Int) < (s.length : Int) := by omega
          have h3 : (1 : Int) ≤ (s.length : Int) := by omega
          have h4 : (s.length : Int) ≤ (d : Int) := by omega
          have h5 : (1 : Int) ≤ (d : Int) := by omega
          obtain ⟨g, o, rfl, _⟩ := HBd.out.2 hs0
          go_wp2_with fail
          refine (pop_some A c m _ (by omega) (by omega) HA.out).mono ?_
          rintro e w4 ⟨x, A4, c4, m4, rfl, t1, t2, t3, o4, b4⟩
          have S4 := Lib.hid ((HBd.out.below b4).alloc (.cells #[.int .i64 x.1, .int .i64 x.2] 24))
          have M4 := Lib.hid (o4.rd.alloc (.cells #[.int .i64 x.1, .int .i64 x.2] 24))
          have B4 := Lib.hid (HB.out.trans (b4.mono HB.out.size))
          have C4 := Lib.hid (B4.out.alloc B4.out.size (.cells #[.int .i64 x.1, .int .i64 x.2] 24))
          have x1 : (w4.alloc (.cells #[.int .i64 x.1, .int .i64 x.2] 24)).cell? ⟨w4.heap.size, 0, none⟩ = some (.int .i64 x.1) := by go_simp
          have x2 : (w4.alloc (.cells #[.int .i64 x.1, .int .i64 x.2] 24)).cell? ⟨w4.heap.size, 1, none⟩ = some (.int .i64 x.2) := by go_simp
          have hsx : s = x :: srt m4 := HS.out.trans t1
          have hat : at_ s 0 = x := by rw [hsx]; rfl
          obtain ⟨g', o', eg, hgc⟩ := S4.out.2 hs0
          injection eg with eg
          injection eg with eg1 eg2
          subst eg1
          subst eg2
          obtain ⟨g1, g2⟩ := hgc 0 hs0
          rw [hat] at g1 g2
          simp only [Nat.zero_mul, Nat.add_zero] at g1 g2
          have HD : Hid (s.drop 1 = srt m4) := by show List.drop _ _ = _; rw [hsx]; rfl
          have HL : Hid ((srt m4).length = s.length - 1) := by show List.length _ = _; rw [hsx]; rfl
          have HM4 : Hid ((m4.length : Int) = (s.length : Int) - 1) := by
            show (m4.length : Int) = (s.length : Int) - 1
            have := congrArg List.length hsx
            rw [List.length_cons, srt_length] at this
            omega
          have hm4 : m4.length ≤ k + 1 := by omega
          have h6 : ((m4.length : Int) != (s.length : Int) - 1) = false := by rw [HM4.out]; simp
          clear b4 o4 t1 t2 t3 p1 hsx hat hgc HB HA HBd
          go_wp2_with fail
          generalize w4.heap.size = X at *
          generalize w4.alloc (.cells #[.int .i64 x.1, .int .i64 x.2] 24) = wx at *
          have e1 : IntKind.i64.wrap ((s.length : Int) - 1) = (s.length : Int) - 1 := IntWalk.i64_in _ (by omega)
          go_quiet (fail)
          clear e1 h6
          by_cases hd1 : d = 1
          · subst hd1
            have hse : srt m4 = [] := List.eq_nil_of_length_eq_zero (by rw [HL.out]; omega)
            have HSE := Lib.hid hse
            clear hse
            go_wp2_with fail
            go_roundw
            case rel => exact ⟨k + 1, A4, some ⟨g, o, none⟩, c4, 0, m4, [], by go_num, rfl, rfl, by omega, hm4, HSE.out.symm, by simp, M4.out, Rd.none_ (fun h => by cases h), ⟨C4.out.os, C4.out.tape, C4.out.output, C4.out.size, C4.out.block⟩⟩
            case measure => simp [intOf]; omega
          · go_wp2_with fail
            go_roundw
            case rel => exact ⟨k + 1, A4, some ⟨g, o + 2, none⟩, c4, d - 1, m4, srt m4, by go_num, rfl, by rw [HL.out], by omega, hm4, rfl, by rw [HL.out]; omega, M4.out, by have := backAt S4.out 1 (d - 1); rw [HD.out] at this; exact this, ⟨C4.out.os, C4.out.tape, C4.out.output, C4.out.size, C4.out.block⟩⟩
            case measure => simp [intOf]; omega
    · have hd : (l.length : Int) ≤ (k : Int) ∨ ((k : Int) < (l.length : Int) ∧ (ps.length : Int) ≤ (k : Int)) ∨ ((k : Int) < (l.length : Int) ∧ (k : Int) < (ps.length : Int) ∧ (60 : Int) ≤ (k : Int)) := by omega
      clear hgo
      rcases hd with h | ⟨h1, h⟩ | ⟨h1, h2, h⟩
      all_goals
        go_wp2_with fail
        refine (knows_any _).mono ?_
        rintro e w2 ⟨rfl, b2⟩
        have B2 := Lib.hid (HB.out.trans (b2.mono HB.out.size))
        clear b2
        go_wp2_with fail
        go_ret
        exact ⟨rfl, B2.out⟩

set_option maxRecDepth 100000 in
theorem lifted (os : Os) (started : os.Started) (H : Type) (enc : TypeId × Value → H) :
    ReturnsInHanded {} Try.checked os 6 .any (Rows.heapRowsSpec.pre6 enc Try.prog Try.f6 Rows.heapRowsRow.domain false) (Rows.heapRowsSpec.post enc Try.prog Try.f6 false true false false) := by
  refine returnsInHanded_of_change (C := Try.checked) own started (by kernel_rfl) Try.func6
    (ChangeSpec.witness6 (enc := enc) (C := Try.checked) false ⟨#[], #[.slice none 0 0, .slice none 0 0], []⟩ 8 (by kernel_rfl) (by kernel_rfl) (by kernel_rfl) (by kernel_rfl)) ?_
  intro W base args ds gs before hval0 hW hcnd _
  have hval : ∀ (j : Nat) t v, Try.f6.params[j]? = some t → args[j]? = some v → Value.okWide Try.prog W .any base t v := hval0
  have hW' := hW
  obtain ⟨p, q, hA0, hV, rfl, hfz, hnd⟩ := hW
  have hA : DataW.TrodAll enc Try.prog W 0 (fun _ => true) true Try.f6.params.toList args.toList ds p := hA0
  rw [Try.params6] at hA hval
  obtain ⟨v0, v1, d0, d1, p0, p1, rfl, rfl, rfl, h0, h1⟩ := trodAll_two hA
  obtain ⟨rfl, rfl⟩ := trodVars_none hV
  obtain ⟨A0, c0, l0, rfl, hlc0, hcm0, hr0⟩ := open_items (hval 0 22 v0 rfl rfl) h0
  obtain ⟨A1, c1, l1, rfl, hr1⟩ := open_flags (hval 1 42 v1 rfl rfl) h1
  clear hA0 hval0
  refine (walk A0 c0 l0 A1 c1 l1 W hlc0 hcm0 hr0 hr1).mono fun e W' ⟨he, bel⟩ => ?_
  subst he
  have hlt0 : ∀ x ∈ p0, x.block < W.heap.size := fun x hx => hW'.lt x (by simp [hx])
  have hlt1 : ∀ x ∈ p1, x.block < W.heap.size := fun x hx => hW'.lt x (by simp [hx])
  exact ⟨_, rfl, _, _, _, [], _, [], hW', trodAll_mk1 (shut_bool Try.underlying4 _), trodAll_mk2 (Below.trod laidOut (by kernel_rfl) (of_decide_eq_true (by kernel_rfl)) h0 bel hlt0) (Below.trod laidOut (by kernel_rfl) (of_decide_eq_true (by kernel_rfl)) h1 bel hlt1), rfl, bel.frame _, fun h => by cases h⟩

/-- The statement. -/
theorem proved : Rows.HeapRowsSaid :=
  OpenClaim.holds_of_wide 6 Try.f6 rfl rfl rfl rfl rfl rfl rfl ⟨rfl, rfl, rfl, rfl, rfl⟩ rfl rfl rfl rfl rfl (by kernel_rfl) Try.func6 (by kernel_rfl)
    (of_decide_eq_true (by kernel_rfl)) (by unfold Func.isWrapper; first | (rw [if_pos (by decide +kernel)]; kernel_rfl) | (rw [if_neg (by decide +kernel)]; exact ⟨rfl, rfl⟩))
    (fun os started H enc _ => lifted os started H enc)
#print axioms proved


end Go.Proofs.Yteadcjfbmckgpaa.heapRows
