/-
  Layer 6: the document's answers Uses, Of, Ceiling, Held; the helper great.
-/
import Derived.Test.YtlgfbodmaocibaaLaw05Refs
import Derived.Test.YtlgfbodmaocibaaLevelCeil
import Derived.Test.YtlgfbodmaocibaaMemInts
namespace Go.Proofs.Ytlgfbodmaocibaa
open Go.RowKit Mm Tk
namespace Lv

/-- tasks as an argument: as many as may be, each of as many sections as may be -/
def TL (w : World) (A : Option Addr) (c : Nat) (L : List Tsk) : Prop := L.length ≤ 1000000 ∧ (∀ j, j < L.length → (at_ L j).2.2.2.length ≤ 1000000) ∧ Rd w A c L
theorem TL.below {w w' : World} {A : Option Addr} {c : Nat} {L : List Tsk} (H : TL w A c L) (b : Below w.heap.size w w') : TL w' A c L := ⟨H.1, H.2.1, H.2.2.below b⟩
theorem TL.bw {w : World} {A : Option Addr} {c : Nat} {L : List Tsk} (H : TL w A c L) (p : BW w) : TL p.to A c L := H.below p.low

/-- how many sections, of the first k, are of the resource -/
def secTo (l : List Sc) (r : Int) (k : Nat) : Nat := ((l.take k).filter fun x => decide (x.1 = r)).length
theorem secTo_yes {l : List Sc} {r : Int} {k : Nat} (h : k < l.length) (hd : (at_ l k).1 = r) : secTo l r (k + 1) = secTo l r k + 1 := by
  unfold secTo
  rw [take_succ_at h, List.filter_append, List.length_append]
  simp [hd]
theorem secTo_no {l : List Sc} {r : Int} {k : Nat} (h : k < l.length) (hd : ¬ (at_ l k).1 = r) : secTo l r (k + 1) = secTo l r k := by
  unfold secTo
  rw [take_succ_at h, List.filter_append, List.length_append]
  simp [hd]
theorem secTo_any (l : List Sc) (r : Int) : decide (0 < secTo l r l.length) = l.any fun x => decide (x.1 = r) := by
  unfold secTo
  rw [List.take_length, Bool.eq_iff_iff, decide_eq_true_eq, List.length_pos_iff_exists_mem, List.any_eq_true]
  constructor
  · rintro ⟨x, hx⟩
    exact ⟨x, (List.mem_filter.1 hx).1, (List.mem_filter.1 hx).2⟩
  · rintro ⟨x, hx, h⟩
    exact ⟨x, List.mem_filter.2 ⟨hx, h⟩⟩

set_option maxHeartbeats 800000 in
theorem refUses_any (C D T : Int) (A : Option Addr) (c : Nat) (l : List Sc) (r : Int) (w : World) (hbig : l.length ≤ 1000000) (hr : Rd w A c l) :
    Calls Try.prog 17 #[.agg #[.int .i64 C, .int .i64 D, .int .i64 T, .slice A l.length c], .int .i64 r] w fun e w' => e = .returned (.bool (l.any fun x => decide (x.1 = r))) ∧ Below w.heap.size w w' := by
  obtain ⟨t1, t2, t3, t4⟩ := box_new w C D T A l.length c
  have b0 := below_one w (Obj.cells #[.int .i64 C, .int .i64 D, .int .i64 T, .slice A l.length c] 33)
  have HA := Lib.hid (secTo_any l r)
  go_enter Try.func17, Try.ntmps17
  go_wp2_with fail
  have HR := Lib.hid hr
  have B0 := Lib.hid b0
  clear hr b0
  generalize w.alloc (Obj.cells #[.int .i64 C, .int .i64 D, .int .i64 T, .slice A l.length c] 33) = w0 at *
  clear t1 t2 t3
  go_loopw [5, 6] (fun n i wr => ∃ k q : Nat, i = .int .i64 k ∧ n = .int .i64 q ∧ k ≤ l.length ∧ q ≤ k ∧ Hid (q = secTo l r k) ∧ Hid (Below w0.heap.size w0 wr)) (fun _ i _ => l.length - (intOf i).toNat)
  case atStart => exact ⟨0, 0, rfl, rfl, Nat.zero_le _, Nat.le_refl _, rfl, Below.refl _ _⟩
  case round =>
    obtain ⟨k, q, rfl, rfl, hk, hqk, HQ, HB⟩ := hrel
    replace t4 := cell_below HB.out t4
    by_cases hlt : k < l.length
    · obtain ⟨b, off, rfl, hc⟩ := sec_at (HR.out.below (below_step B0.out HB.out)) (by omega)
      obtain ⟨x1, x2, x3, _, _, _⟩ := hc k hlt
      clear hc x2 x3
      have HY : Hid ((at_ l k).1 = r → q + 1 = secTo l r (k + 1)) := fun h => by rw [secTo_yes hlt h, ← HQ.out]
      have HN : Hid (¬ (at_ l k).1 = r → q = secTo l r (k + 1)) := fun h => by rw [secTo_no hlt h, ← HQ.out]
      generalize at_ l k = x at *
      by_cases he : x.1 = r
      · have HC := Lib.hid (HY.out he)
        go_wp2_with fail
        go_roundw
        case rel => exact ⟨k + 1, q + 1, by go_num, by go_num, hlt, by omega, HC, HB⟩
        case measure => simp [intOf]; omega
      · have HC := Lib.hid (HN.out he)
        go_wp2_with fail
        go_roundw
        case rel => exact ⟨k + 1, q, by go_num, rfl, hlt, by omega, HC, HB⟩
        case measure => simp [intOf]; omega
    · have hkl : k = l.length := by omega
      subst hkl
      have HF : Hid (decide (0 < q) = l.any fun x => decide (x.1 = r)) := by show _ = _; rw [← HA.out, HQ.out]
      go_wp2_with fail
      go_ret
      exact ⟨ret_bool (by rw [← HF.out]), below_step B0.out HB.out⟩

set_option maxHeartbeats 800000 in
theorem refOf_any (A : Option Addr) (c : Nat) (L : List Tsk) (i : Nat) (w : World) (hi : i < L.length) (H : TL w A c L) :
    Calls Try.prog 16 #[.slice A L.length c, .int .i64 i] w fun e w' => e = .returned (.int .i64 (lvl L i : Nat)) ∧ Below w.heap.size w w' := by
  obtain ⟨hbig, hin, hr⟩ := H
  have HR := Lib.hid hr
  have HIN := Lib.hid hin
  clear hr hin
  obtain ⟨D, hD⟩ : ∃ D, (at_ L i).2.1 = D := ⟨_, rfl⟩
  have hl : lvl L i = moreTo L D L.length + 1 := by unfold lvl; rw [hD, more_eq]
  have HL := Lib.hid hl
  clear hl
  go_enter Try.func16, Try.ntmps16
  go_wp2_with fail
  go_loopw [5, 6] (fun n i' wr => ∃ k q : Nat, i' = .int .i64 k ∧ n = .int .i64 q ∧ k ≤ L.length ∧ q ≤ k ∧ Hid (q = moreTo L D k) ∧ Hid (Below w.heap.size w wr)) (fun _ i _ => L.length - (intOf i).toNat)
  case atStart => exact ⟨0, 0, rfl, rfl, Nat.zero_le _, Nat.le_refl _, rfl, Below.refl _ _⟩
  case round =>
    obtain ⟨k, q, rfl, rfl, hk, hqk, HQ, HB⟩ := hrel
    by_cases hlt : k < L.length
    · obtain ⟨b, off, rfl, hc⟩ := task_at (HR.out.below HB.out) (by omega)
      obtain ⟨_, _, _, x2, _, _, _, _, _, _⟩ := hc k hlt
      obtain ⟨_, _, _, y2, _, _, _, _, _, _⟩ := hc i hi
      clear hc
      have i1 : (0 : Int) ≤ (k : Int) := by omega
      have i2 : (k : Int) < (L.length : Int) := by omega
      have i3 : (0 : Int) ≤ (i : Int) := by omega
      have i4 : (i : Int) < (L.length : Int) := by omega
      rw [hD] at y2
      have HY : Hid (D < (at_ L k).2.1 → q + 1 = moreTo L D (k + 1)) := fun h => by rw [moreTo_yes hlt h, ← HQ.out]
      have HN : Hid (¬ D < (at_ L k).2.1 → q = moreTo L D (k + 1)) := fun h => by rw [moreTo_no hlt h, ← HQ.out]
      have HD := Lib.hid hD
      clear hD
      generalize at_ L k = x at *
      go_wp2_with fail
      replace x2 := cell_bw x2
      replace y2 := cell_bw y2
      refine wp_region_bw (by kernel_rfl) (by kernel_rfl) ?_
      repeat
        (with_reducible refine wpQuiet_step (fun K hK => ?_)
         go_simp
         first
           | (with_reducible refine hK _ ?_
              clear hK K)
           | (rw [if_neg]
              rotate_left
              focus (intro h; cases h; done)
              with_reducible refine hK _ ?_
              clear hK K)
           | (apply Exists.intro
              refine ⟨fun _ => ?_, hK _ ?_⟩
              (fail)
              clear hK K))
      with_reducible refine wpQuiet_nil ?_
      intro wb hw'
      obtain ⟨⟨wb', lb⟩, hw''⟩ := hw'
      subst hw''
      have HB2 := Lib.hid (below_step HB.out lb)
      clear lb
      by_cases he : D < x.2.1
      · have HC := Lib.hid (HY.out he)
        go_wp2_with fail
        go_roundw
        case rel => exact ⟨k + 1, q + 1, by go_num, by go_num, hlt, by omega, HC, HB2⟩
        case measure => simp [intOf]; omega
      · have HC := Lib.hid (HN.out (by omega))
        go_wp2_with fail
        go_roundw
        case rel => exact ⟨k + 1, q, by go_num, rfl, hlt, by omega, HC, HB2⟩
        case measure => simp [intOf]; omega
    · have hkl : k = L.length := by omega
      subst hkl
      have HF : Hid (lvl L i = q + 1) := by show _ = _; rw [HL.out, HQ.out]
      go_wp2_with fail
      go_ret
      exact ⟨ret_int (by rw [HF.out]; go_num), HB.out⟩

theorem refOf_v (A : Option Addr) (c : Nat) (L : List Tsk) (i v : Nat) (h : lvl L i = v) (w : World) (hi : i < L.length) (H : TL w A c L) :
    Calls Try.prog 16 #[.slice A L.length c, .int .i64 i] w fun e w' => e = .returned (.int .i64 v) ∧ Below w.heap.size w w' := by
  subst h
  exact refOf_any A c L i w hi H

set_option maxHeartbeats 800000 in
theorem refCeil_any (A : Option Addr) (c : Nat) (L : List Tsk) (r : Int) (w : World) (H : TL w A c L) :
    Calls Try.prog 15 #[.slice A L.length c, .int .i64 r] w fun e w' => e = .returned (.int .i64 (ceil L r : Nat)) ∧ Below w.heap.size w w' := by
  have hbig := H.1
  have HT := Lib.hid H
  clear H
  go_enter Try.func15, Try.ntmps15
  go_wp2_with fail
  go_loopw [5, 6] (fun n i' wr => ∃ k q : Nat, i' = .int .i64 k ∧ n = .int .i64 q ∧ k ≤ L.length ∧ Hid (q = ceilTo L r k) ∧ Hid (Below w.heap.size w wr)) (fun _ i _ => L.length - (intOf i).toNat)
  case atStart => exact ⟨0, 0, rfl, rfl, Nat.zero_le _, rfl, Below.refl _ _⟩
  case round =>
    obtain ⟨k, q, rfl, rfl, hk, HQ, HB⟩ := hrel
    by_cases hlt : k < L.length
    · have HT1 := Lib.hid (HT.out.below HB.out)
      obtain ⟨b, off, rfl, hc⟩ := task_at HT1.out.2.2 (by omega)
      obtain ⟨B, d, x1, x2, x3, x4, _, _, _, r4⟩ := hc k hlt
      have R4 := Lib.hid r4.rd
      have HL := Lib.hid (HT.out.2.1 k hlt)
      clear hc r4
      have HY : Hid (usesT (at_ L k) r = true → max q (lvl L k) = ceilTo L r (k + 1)) := fun h => by rw [ceilTo, if_pos h, ← HQ.out]
      have HN : Hid (usesT (at_ L k) r = false → q = ceilTo L r (k + 1)) := fun h => by rw [ceilTo, if_neg (by rw [h]; simp), ← HQ.out]
      generalize at_ L k = x at *
      cases hu : usesT x r with
      | false =>
        have HC := Lib.hid (HN.out hu)
        have HU : Hid ((x.2.2.2.any fun s => decide (s.1 = r)) = false) := hu
        clear hu
        go_wp2_with fail
        refine (refUses_any x.1 x.2.1 x.2.2.1 B d x.2.2.2 r _ HL.out R4.out).mono ?_
        rintro e w1 ⟨rfl, b1⟩
        have B1 := Lib.hid (below_step HB.out b1)
        clear b1
        rw [HU.out]
        go_wp2_with fail
        go_roundw
        case rel => exact ⟨k + 1, q, by go_num, rfl, hlt, HC, B1⟩
        case measure => simp [intOf]; omega
      | true =>
        have HC := Lib.hid (HY.out hu)
        have HU : Hid ((x.2.2.2.any fun s => decide (s.1 = r)) = true) := hu
        clear hu
        go_wp2_with fail
        refine (refUses_any x.1 x.2.1 x.2.2.1 B d x.2.2.2 r _ HL.out R4.out).mono ?_
        rintro e w1 ⟨rfl, b1⟩
        have B1 := Lib.hid (below_step HB.out b1)
        replace HT1 := Lib.hid (HT1.out.below b1)
        clear b1
        rw [HU.out]
        go_wp2_with fail
        obtain ⟨y, hy⟩ : ∃ y, lvl L k = y := ⟨_, rfl⟩
        rw [hy] at HC
        have HY := Lib.hid hy
        clear hy
        by_cases hy : q < y
        · have e1 : max q y = y := by omega
          rw [e1] at HC
          clear e1
          refine (refOf_v _ c L k y HY.out _ hlt HT1.out).mono ?_
          rintro e w2 ⟨rfl, b2⟩
          have B2 := Lib.hid (below_step B1.out b2)
          replace HT1 := Lib.hid (HT1.out.below b2)
          clear b2
          go_wp2_with fail
          refine (refOf_v _ c L k y HY.out _ hlt HT1.out).mono ?_
          rintro e w3 ⟨rfl, b3⟩
          have B3 := Lib.hid (below_step B2.out b3)
          replace HT1 := Lib.hid (HT1.out.below b3)
          clear b3
          go_wp2_with fail
          go_roundw
          case rel => exact ⟨k + 1, y, by go_num, rfl, hlt, HC, B3⟩
          case measure => simp [intOf]; omega
        · have e1 : max q y = q := by omega
          rw [e1] at HC
          clear e1
          refine (refOf_v _ c L k y HY.out _ hlt HT1.out).mono ?_
          rintro e w2 ⟨rfl, b2⟩
          have B2 := Lib.hid (below_step B1.out b2)
          replace HT1 := Lib.hid (HT1.out.below b2)
          clear b2
          go_wp2_with fail
          go_roundw
          case rel => exact ⟨k + 1, q, by go_num, rfl, hlt, HC, B2⟩
          case measure => simp [intOf]; omega
    · have hkl : k = L.length := by omega
      subst hkl
      have HF : Hid (ceil L r = q) := by show _ = _; unfold ceil; rw [HQ.out]
      go_wp2_with fail
      go_ret
      exact ⟨ret_int (by rw [HF.out]), HB.out⟩

theorem refCeil_v (A : Option Addr) (c : Nat) (L : List Tsk) (r : Int) (v : Nat) (h : ceil L r = v) (w : World) (H : TL w A c L) :
    Calls Try.prog 15 #[.slice A L.length c, .int .i64 r] w fun e w' => e = .returned (.int .i64 v) ∧ Below w.heap.size w w' := by
  subst h
  exact refCeil_any A c L r w H

set_option maxHeartbeats 800000 in
theorem refHeld_any (A : Option Addr) (c : Nat) (L : List Tsk) (A2 : Option Addr) (c2 : Nat) (h : List Int) (w : World) (H : TL w A c L) (H2 : IL w A2 c2 h) :
    Calls Try.prog 14 #[.slice A L.length c, .slice A2 h.length c2] w fun e w' => e = .returned (.int .i64 (heldC L h : Nat)) ∧ Below w.heap.size w w' := by
  have hbig2 := H2.1
  have HT := Lib.hid H
  have HI := Lib.hid H2
  clear H H2
  go_enter Try.func14, Try.ntmps14
  go_wp2_with fail
  go_loopw [5, 6] (fun n i' wr => ∃ k q : Nat, i' = .int .i64 k ∧ n = .int .i64 q ∧ k ≤ h.length ∧ Hid (q = heldTo L h k) ∧ Hid (Below w.heap.size w wr)) (fun _ i _ => h.length - (intOf i).toNat)
  case atStart => exact ⟨0, 0, rfl, rfl, Nat.zero_le _, rfl, Below.refl _ _⟩
  case round =>
    obtain ⟨k, q, rfl, rfl, hk, HQ, HB⟩ := hrel
    by_cases hlt : k < h.length
    · have HT1 := Lib.hid (HT.out.below HB.out)
      obtain ⟨b, off, rfl, hc⟩ := (HI.out.below HB.out).2.int (by omega)
      obtain ⟨x1, _⟩ := hc k hlt
      have HCE := Lib.hid fun j hj => (hc j hj).1
      clear hc
      have HC : Hid (max q (ceil L (at_ h k)) = heldTo L h (k + 1)) := by show _ = _; rw [heldTo, ← HQ.out]
      generalize hx : at_ h k = x at *
      obtain ⟨y, hy⟩ : ∃ y, ceil L x = y := ⟨_, rfl⟩
      rw [hy] at HC
      have HY := Lib.hid hy
      have HX := Lib.hid hx
      clear hy hx
      by_cases hy : q < y
      · have e1 : max q y = y := by omega
        rw [e1] at HC
        clear e1
        go_wp2_with fail
        refine (refCeil_v _ c L x y HY.out _ HT1.out).mono ?_
        rintro e w1 ⟨rfl, b1⟩
        replace x1 := cell_below b1 x1
        have B1 := Lib.hid b1
        replace HT1 := Lib.hid (HT1.out.below b1)
        clear b1
        go_wp2_with fail
        refine (refCeil_v _ c L x y HY.out _ HT1.out).mono ?_
        rintro e w2 ⟨rfl, b2⟩
        have B2 := Lib.hid (below_step B1.out b2)
        replace HT1 := Lib.hid (HT1.out.below b2)
        clear b2
        go_wp2_with fail
        go_roundw
        case rel => exact ⟨k + 1, y, by go_num, rfl, hlt, HC, below_step HB.out B2.out⟩
        case measure => simp [intOf]; omega
      · have e1 : max q y = q := by omega
        rw [e1] at HC
        clear e1
        go_wp2_with fail
        refine (refCeil_v _ c L x y HY.out _ HT1.out).mono ?_
        rintro e w1 ⟨rfl, b1⟩
        have B1 := Lib.hid b1
        replace HT1 := Lib.hid (HT1.out.below b1)
        clear b1
        go_wp2_with fail
        go_roundw
        case rel => exact ⟨k + 1, q, by go_num, rfl, hlt, HC, below_step HB.out B1.out⟩
        case measure => simp [intOf]; omega
    · have hkl : k = h.length := by omega
      subst hkl
      have HF : Hid (heldC L h = q) := by show _ = _; rw [HQ.out, heldTo_eq (Nat.le_refl _), List.take_length]
      go_wp2_with fail
      go_ret
      exact ⟨ret_int (by rw [HF.out]), HB.out⟩

theorem refHeld_v (A : Option Addr) (c : Nat) (L : List Tsk) (A2 : Option Addr) (c2 : Nat) (h : List Int) (v : Nat) (hv : heldC L h = v) (w : World) (H : TL w A c L) (H2 : IL w A2 c2 h) :
    Calls Try.prog 14 #[.slice A L.length c, .slice A2 h.length c2] w fun e w' => e = .returned (.int .i64 v) ∧ Below w.heap.size w w' := by
  subst hv
  exact refHeld_any A c L A2 c2 h w H H2

/-- more than is looked at -/
def greatB6 (L : List Tsk) (h : List Int) : Bool := greatB L || decide (50 < h.length)
theorem great6_no {L : List Tsk} {h : List Int} (hg : greatB6 L h = false) : L.length ≤ 20 ∧ (∀ j, j < L.length → (at_ L j).2.2.2.length ≤ 20) ∧ h.length ≤ 50 := by
  unfold greatB6 at hg
  rw [Bool.or_eq_false_iff, decide_eq_false_iff_not] at hg
  obtain ⟨h1, h2⟩ := great_no hg.1
  exact ⟨h1, h2, by omega⟩
theorem great6_any (A : Option Addr) (c : Nat) (L : List Tsk) (A2 : Option Addr) (c2 : Nat) (h : List Int) (w : World) (hr : Rd w A c L) (hm : h.length ≤ maxLen) :
    Calls Try.prog 7 #[.slice A L.length c, .slice A2 h.length c2] w fun e w' => e = .returned (.bool (greatB6 L h)) ∧ Below w.heap.size w w' := by
  unfold maxLen at hm
  have HR := Lib.hid hr
  clear hr
  cases hg : greatB L with
  | true =>
    have HF : Hid (greatB6 L h = true) := by show _ = _; simp [greatB6, hg]
    go_enter Try.func7, Try.ntmps7
    go_wp2_with fail
    refine (great_any A c L _ HR.out).mono ?_
    rintro e w1 ⟨rfl, b1⟩
    have B1 := Lib.hid b1
    clear b1
    go_wp2_with fail
    go_ret
    exact ⟨ret_bool HF.out.symm, B1.out⟩
  | false =>
    have HF : Hid (greatB6 L h = decide (50 < h.length)) := by show _ = _; simp [greatB6, hg]
    go_enter Try.func7, Try.ntmps7
    go_wp2_with fail
    refine (great_any A c L _ HR.out).mono ?_
    rintro e w1 ⟨rfl, b1⟩
    have B1 := Lib.hid b1
    clear b1
    go_wp2_with fail
    go_ret
    exact ⟨ret_bool (by rw [HF.out, decide_eq_decide]; omega), B1.out⟩

end Lv
end Go.Proofs.Ytlgfbodmaocibaa
