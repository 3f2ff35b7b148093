/-
  Layer 2 (heap): what the small calls answer.
-/
import Derived.Test.YteadcjfbmckgpaaRows
import Derived.Test.YteadcjfbmckgpaaHeapMem
import Derived.WalkKit
import Derived.WalkSpells
import Derived.Lib.Hide
import Derived.Below
import Derived.StillTailTactics
import Derived.Deep.QuietTactic
import Derived.BigQuiet
import Derived.Maps.AppendAt
import Derived.Laws.OwnMore
import Derived.WideShapes
namespace Go.Proofs.Yteadcjfbmckgpaa
open Go.RowKit
namespace Hp


/-- an item as a value -/
abbrev itv (p : It) : Value := .agg #[.int .i64 p.1, .int .i64 p.2]

/-- what 'order' answers -/
def ord (a b : It) : Int := if a = b then 0 else if low a b = true then -1 else 1
theorem ord_low {a b : It} (h : low a b = true) : ord a b < 0 := by
  unfold ord
  rw [if_neg, if_pos h]
  · omega
  · rintro rfl; have := le_refl a; unfold le at this; rw [this] at h; cases h
theorem ord_not {a b : It} (h : low a b = false) : 0 ≤ ord a b := by
  unfold ord
  rw [h]
  split <;> simp

set_option maxHeartbeats 400000 in
theorem order_any (a b : It) (w : World) :
    Calls Try.prog 24 #[.agg #[.int .i64 a.1, .int .i64 a.2], .agg #[.int .i64 b.1, .int .i64 b.2]] w fun e w' => e = .returned (.int .i64 (ord a b)) ∧ Below w.heap.size w w' := by
  obtain ⟨a1, a2⟩ := a
  obtain ⟨b1, b2⟩ := b
  go_enter Try.func24, Try.ntmps24
  go_wp2
  all_goals
    go_ret
    refine ⟨ret_int ?_, ((Below.refl _ _).alloc (Nat.le_refl _) _).alloc (by simp) _⟩
    simp only [ord, low_iff, Prod.mk.injEq]
    split <;> first | omega | (split <;> omega)

theorem above_any (i : Int) (w : World) (h1 : 1 ≤ i) (h2 : i ≤ 1000000000) :
    Calls Try.prog 25 #[.int .i64 i] w fun e w' => e = .returned (.int .i64 ((i - 1) / 2)) ∧ w = w' := by
  go_enter Try.func25, Try.ntmps25
  go_wp2
  go_ret
  simp


theorem half_nat (k : Nat) (h : 1 ≤ k) : ((k : Int) - 1) / 2 = (((k - 1) / 2 : Nat) : Int) := by omega

set_option maxHeartbeats 400000 in
theorem right_any (A : Option Addr) (c : Nat) (l : List It) (w : World) (hbig : l.length ≤ 1000000) (hr : Rd w A c l) :
    Calls Try.prog 11 #[.slice A l.length c] w fun e w' => e = .returned (.bool (rightB l)) ∧ Below w.heap.size w w' := by
  have HR := Lib.hid hr
  clear hr
  go_enter Try.func11, Try.ntmps11
  go_wp2
  go_loopw [3] (fun i wr => ∃ k : Nat, 1 ≤ k ∧ i = .int .i64 k ∧ Hid (∀ j, 0 < j → j < k → j < l.length → le (at_ l ((j - 1) / 2)) (at_ l j)) ∧ Hid (Below w.heap.size w wr)) (fun i _ => l.length - (intOf i).toNat)
  case atStart => exact ⟨1, Nat.le_refl _, rfl, (fun j h1 h2 => by omega), Below.refl _ _⟩
  case round =>
    obtain ⟨k, hk, rfl, HH, HB⟩ := hrel
    by_cases hlt : k < l.length
    · obtain ⟨b, off, rfl, hc⟩ := (HR.out.below HB.out).2 (by omega)
      obtain ⟨x1, x2⟩ := hc k hlt
      obtain ⟨y1, y2⟩ := hc ((k - 1) / 2) (by omega)
      have HL : Hid (low (at_ l k) (at_ l ((k - 1) / 2)) = true → rightB l = false) := rightB_no (by omega) hlt
      clear hc
      have q1 : (0 : Int) ≤ ((k : Int) - 1) / 2 := by omega
      have q2 : ((k : Int) - 1) / 2 < (l.length : Int) := by omega
      have q3 : (((k : Int) - 1) / 2).toNat = (k - 1) / 2 := by omega
      cases hl : low (at_ l k) (at_ l ((k - 1) / 2)) with
      | true =>
        have ho := ord_low hl
        have HF := Lib.hid (HL.out hl)
        clear HL hl
        go_wp2_with fail
        go_still_tail 9, (by kernel_rfl)
        still_call ((above_any k _ (by omega) (by omega)).mono fun _ _ h => ⟨h.1, h.2.symm⟩)
        repeat still_step
        refine wpStill_nil ?_
        go_wp2_with fail
        refine (order_any _ _ _).mono ?_
        rintro e w1 ⟨rfl, b1⟩
        have B1 := Lib.hid (HB.out.drew.trans (b1.mono HB.out.size))
        clear b1
        go_wp2_with fail
        go_ret
        exact ⟨ret_bool HF.out.symm, B1.out⟩
      | false =>
        have ho := ord_not hl
        have HF := Lib.hid hl
        clear HL hl
        go_wp2_with fail
        go_still_tail 9, (by kernel_rfl)
        still_call ((above_any k _ (by omega) (by omega)).mono fun _ _ h => ⟨h.1, h.2.symm⟩)
        repeat still_step
        refine wpStill_nil ?_
        go_wp2_with fail
        refine (order_any _ _ _).mono ?_
        rintro e w1 ⟨rfl, b1⟩
        have B1 := Lib.hid (HB.out.drew.trans (b1.mono HB.out.size))
        clear b1
        go_wp2_with fail
        go_roundw
        case rel =>
          refine ⟨k + 1, by omega, by go_num, ?_, B1⟩
          intro j h0 hj hjl
          by_cases e : j = k
          · subst e; exact HF.out
          · exact HH.out j h0 (by omega) hjl
        case measure => simp [intOf]; omega
    · go_wp2
      go_ret
      exact ⟨ret_bool (by rw [eq_comm, rightB_iff]; exact fun j h0 hj _ => HH.out j h0 (by omega) hj), HB.out⟩

end Hp
end Go.Proofs.Yteadcjfbmckgpaa
