/-
  Layer 2 (heap): 'rise', and 'sink' of no items.
-/
import Derived.Test.YteadcjfbmckgpaaHeapMoves
namespace Go.Proofs.Yteadcjfbmckgpaa
open Go.RowKit
namespace Hp

set_option maxHeartbeats 800000 in
theorem sink_none (g c : Nat) (w : World) :
    Calls Try.prog 21 #[.slice (some ⟨g, 0, none⟩) 0 c, .int .i64 0] w fun e w' => e = .returned (.tuple #[]) ∧ Below w.heap.size w w' := by
  go_enter Try.func21, Try.ntmps21
  go_wp2_with fail
  refine (exchange_any _ _ _ _).mono ?_
  rintro e w1 ⟨rfl, rfl⟩
  have B1 : Hid (Below w.heap.size w (w.alloc (.cells #[.slice (some ⟨g, 0, none⟩) 0 c] 22))) := (Below.refl _ _).alloc (Nat.le_refl _) _
  generalize w.alloc (.cells #[.slice (some ⟨g, 0, none⟩) 0 c] 22) = w1 at *
  go_wp2_with fail
  refine (below_len 0 g 0 c 0 [] _ rfl (by omega) (fun j hj => by simp at hj)).mono ?_
  rintro e w2 ⟨rfl, b2⟩
  have B2 := Lib.hid b2
  clear b2
  rw [show ((below [] 0 : Nat) : Int) = 1 from rfl]
  have HS : Hid (w.heap.size ≤ w1.heap.size) := B1.out.size
  go_wp2_with fail
  go_loopw [1, 5] (fun _ nx wr => nx = .int .i64 1 ∧ Below w1.heap.size w1 wr) (fun _ _ _ => 0)
  case atStart => exact ⟨rfl, B2.out⟩
  case round =>
    obtain ⟨rfl, hb⟩ := hrel
    have HB := Lib.hid hb
    clear hb
    go_wp2_with fail
    go_quiet (fail)
    go_wp2_with fail
    go_end0
    exact ⟨rfl, B1.out.trans ⟨HB.out.os, HB.out.tape, HB.out.output, HB.out.size, fun k hk => HB.out.block k (by have := HS.out; omega)⟩⟩

/-- what 'rise' leaves -/
def RisesTo (w : World) (base g c : Nat) (l : List It) (e : Ending) (w' : World) : Prop :=
  e = .returned (.tuple #[]) ∧ ∃ l' : List It, l'.length = l.length ∧ l'.Perm l ∧ IsHeap l' ∧ Ow w' base 24 (some ⟨g, 0, none⟩) c l' ∧ w.grownBy w' (some g)
/-- the loop of 'rise' -/
def RiseRel (w1 : World) (base g c : Nat) (l : List It) (p : Nat) (l' : List It) (wr : World) : Prop :=
  l'.length = l.length ∧ l'.Perm l ∧ Rises p l' ∧ Ow wr base 24 (some ⟨g, 0, none⟩) c l' ∧ w1.grownBy wr (some g)

set_option maxHeartbeats 1600000 in
theorem rise_any (base g c : Nat) (l : List It) (w : World) (hbig : l.length ≤ 1000000) (hk : 0 < l.length) (hf : Rises (l.length - 1) l) (h : Ow w base 24 (some ⟨g, 0, none⟩) c l) :
    Calls Try.prog 23 #[.slice (some ⟨g, 0, none⟩) l.length c] w (RisesTo w base g c l) := by
  have hgw : g < w.heap.size := by
    obtain ⟨g', e, _, hlt, _⟩ := h.form (by omega)
    injection e with e; injection e with e; omega
  have HK : Hid (w.grownBy (w.alloc (.cells #[.slice (some ⟨g, 0, none⟩) l.length c] 22)) (some g)) := World.grownBy_alloc _ _ _
  have HO : Hid (Ow (w.alloc (.cells #[.slice (some ⟨g, 0, none⟩) l.length c] 22)) base 24 (some ⟨g, 0, none⟩) c l) := h.below ((Below.refl _ _).alloc (Nat.le_refl _) _) (Nat.le_refl _)
  have HP : Hid ((w.alloc (.cells #[.slice (some ⟨g, 0, none⟩) l.length c] 22)).cell? ⟨w.heap.size, 0, none⟩ = some (.slice (some ⟨g, 0, none⟩) l.length c)) := by show World.cell? _ _ = _; go_simp
  have HF := Lib.hid hf
  clear hf h
  have hne : Hid (some w.heap.size ≠ some g) := fun e => by injection e with e; omega
  go_enter Try.func23, Try.ntmps23
  go_wp2_with fail
  refine (exchange_any _ _ _ _).mono ?_
  rintro e w1 ⟨rfl, rfl⟩
  generalize w.heap.size = P at *
  generalize w.alloc (.cells #[.slice (some ⟨g, 0, none⟩) l.length c] 22) = w1 at *
  go_wp2_with fail
  go_loopw [3] (fun i wr => ∃ (p : Nat) (l' : List It), i = .int .i64 p ∧ RiseRel w1 base g c l p l' wr) (fun i _ => (intOf i).toNat)
  case atStart => exact ⟨l.length - 1, l, by rw [show ((l.length - 1 : Nat) : Int) = (l.length : Int) - 1 from by omega], rfl, .refl _, HF.out, HO.out, gb_refl _ _⟩
  case round =>
    clear HO HF
    obtain ⟨p, l', rfl, hlen, hperm, hs, ho, hg⟩ := hrel
    have hp : p < l.length := by have := hs.pl; omega
    have HS := Lib.hid hs
    have HL := Lib.hid hlen
    have HM := Lib.hid hperm
    have HO := Lib.hid ho
    have HG := Lib.hid hg
    have hbox := gb_cell hg HP.out hne.out
    clear hs hlen hperm hg hk
    by_cases h0 : 0 < p
    · obtain ⟨x1, x2⟩ := ho.cell p (by rw [HL.out]; exact hp)
      obtain ⟨y1, y2⟩ := ho.cell ((p - 1) / 2) (by rw [HL.out]; omega)
      clear ho
      have q1 : (0 : Int) ≤ ((p : Int) - 1) / 2 := by omega
      have q2 : ((p : Int) - 1) / 2 < (l.length : Int) := by omega
      have q3 : (((p : Int) - 1) / 2).toNat = (p - 1) / 2 := by omega
      cases hl : low (at_ l' p) (at_ l' ((p - 1) / 2)) with
      | true =>
        have hord := ord_low hl
        have HLow := Lib.hid hl
        clear hl
        go_wp2_with fail
        go_still_tail 12, (by kernel_rfl)
        still_call ((above_any p _ (by omega) (by omega)).mono fun _ _ h => ⟨h.1, h.2.symm⟩)
        repeat still_step
        refine wpStill_nil ?_
        go_wp2_with fail
        refine (order_any _ _ _).mono ?_
        rintro e w3 ⟨rfl, b3⟩
        have HG3 := Lib.hid (gb_trans (gb_drew HG.out) (gb_below b3 (Nat.le_refl _) (some g)))
        have HO3 : Hid (Ow w3 base 24 (some ⟨g, 0, none⟩) c l') := Ow.below (w := wr.drew) HO.out b3 (Nat.le_refl _)
        clear b3 x1 x2 y1 y2 hbox
        go_wp2_with fail
        refine (above_any p _ (by omega) (by omega)).mono ?_
        rintro e w4 ⟨rfl, rfl⟩
        rw [half_nat p h0]
        go_wp2_with fail
        refine (swap_own P base g c p ((p - 1) / 2) l' _ (by rw [HL.out]; exact hp) (by rw [HL.out]; omega) (by rw [HL.out]; exact gb_cell HG3.out HP.out hne.out) (fun e => hne.out (by rw [e])) HO3.out (by omega)).mono ?_
        rintro e w5 ⟨rfl, o5, g5⟩
        have HG5 := Lib.hid (gb_trans HG3.out g5)
        have HO5 := Lib.hid o5
        have HS5 := Lib.hid (HS.out.step h0 HLow.out)
        have HM5 : Hid ((swp l' p ((p - 1) / 2)).Perm l) := (swp_perm (by rw [HL.out]; exact hp) (by rw [HL.out]; omega)).trans HM.out
        have HL5 : Hid ((swp l' p ((p - 1) / 2)).length = l.length) := (swp_length _ _ _).trans HL.out
        clear o5 g5 HG3 HO3 HS HM HL HLow HO HG
        generalize swp l' p ((p - 1) / 2) = m at *
        go_wp2_with fail
        refine (above_any p _ (by omega) (by omega)).mono ?_
        rintro e w6 ⟨rfl, rfl⟩
        rw [half_nat p h0]
        go_wp2_with fail
        go_roundw
        case rel => exact ⟨(p - 1) / 2, m, rfl, HL5.out, HM5.out, HS5.out, HO5.out, HG5.out⟩
        case measure => simp [intOf]; omega
      | false =>
        have hord := ord_not hl
        have HLow := Lib.hid hl
        clear hl
        go_wp2_with fail
        go_still_tail 12, (by kernel_rfl)
        still_call ((above_any p _ (by omega) (by omega)).mono fun _ _ h => ⟨h.1, h.2.symm⟩)
        repeat still_step
        refine wpStill_nil ?_
        go_wp2_with fail
        refine (order_any _ _ _).mono ?_
        rintro e w3 ⟨rfl, b3⟩
        have HG3 := Lib.hid (gb_trans (gb_drew HG.out) (gb_below b3 (Nat.le_refl _) (some g)))
        have HO3 : Hid (Ow w3 base 24 (some ⟨g, 0, none⟩) c l') := Ow.below (w := wr.drew) HO.out b3 (Nat.le_refl _)
        clear b3 x1 x2 y1 y2 hbox
        go_wp2_with fail
        go_end0
        exact ⟨rfl, l', HL.out, HM.out, HS.out.done (.inr HLow.out), HO3.out, gb_trans HK.out HG3.out⟩
    · have hp0 : p = 0 := by omega
      subst hp0
      clear ho h0
      go_wp2_with fail
      go_quiet (fail)
      go_wp2_with fail
      go_end0
      exact ⟨rfl, l', HL.out, HM.out, HS.out.done (.inl rfl), HO.out, gb_trans HK.out ⟨HG.out.os, HG.out.tape, HG.out.output, HG.out.size, HG.out.block⟩⟩

end Hp
end Go.Proofs.Yteadcjfbmckgpaa
