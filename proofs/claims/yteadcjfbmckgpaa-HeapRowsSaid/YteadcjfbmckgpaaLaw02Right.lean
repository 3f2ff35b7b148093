/-
  Layer 2, the reference of 'Right'.
-/
import Derived.Test.YteadcjfbmckgpaaLaw02Refs
import Derived.IntWalk
namespace Go.Proofs.Yteadcjfbmckgpaa
open Go.RowKit
namespace Hp

def RrOut (l : List It) (i : Nat) : Prop := ∀ j, 0 < j → j < l.length → (j - 1) / 2 < i → le (at_ l ((j - 1) / 2)) (at_ l j)
def RrIn (l : List It) (i k : Nat) : Prop := RrOut l i ∧ ∀ j, 0 < j → j < l.length → (j - 1) / 2 = i → j < k → le (at_ l i) (at_ l j)
theorem RrIn.next {l : List It} {i k : Nat} (h : RrIn l i k) (hk : k = 2 * i + 1 ∨ k = 2 * i + 2 → low (at_ l k) (at_ l i) = false) : RrIn l i (k + 1) :=
  ⟨h.1, fun j h0 hj hi hjk => by
    by_cases e : j = k
    · subst e; exact hk (by omega)
    · exact h.2 j h0 hj hi (by omega)⟩
theorem RrIn.done {l : List It} {i k : Nat} (h : RrIn l i k) (hk : l.length ≤ k) : RrOut l (i + 1) := fun j h0 hj hi => by
  by_cases e : (j - 1) / 2 = i
  · rw [e]; exact h.2 j h0 hj e (by omega)
  · exact h.1 j h0 hj (by omega)

set_option maxHeartbeats 3200000 in
theorem refRight_any (A : Option Addr) (c : Nat) (l : List It) (w : World) (hbig : l.length ≤ 1000000) (hr : Rd w A c l) :
    Calls Try.prog 12 #[.slice A l.length c] w fun e w' => e = .returned (.bool (rightB l)) ∧ Below w.heap.size w w' := by
  have HR := Lib.hid hr
  clear hr
  go_enter Try.func12, Try.ntmps12
  go_wp2_with fail
  go_loopw [3] (fun i wr => ∃ p : Nat, p ≤ l.length ∧ i = .int .i64 p ∧ Hid (RrOut l p) ∧ Hid (Below w.heap.size w wr)) (fun i _ => l.length - (intOf i).toNat)
  case atStart => exact ⟨0, Nat.zero_le _, rfl, (fun j h0 hj hi => by omega), Below.refl _ _⟩
  case round =>
    obtain ⟨p, hp, rfl, HH, HB⟩ := hrel
    by_cases hlt : p < l.length
    · go_wp2_with fail
      go_loopw [4] (fun i wr => ∃ k : Nat, k ≤ l.length ∧ i = .int .i64 k ∧ Hid (RrIn l p k) ∧ Hid (Below w.heap.size w wr)) (fun i _ => l.length - (intOf i).toNat)
      case atStart => exact ⟨0, Nat.zero_le _, rfl, ⟨HH.out, fun j h0 hj hi hk => by omega⟩, HB⟩
      case round =>
        clear HH HB
        obtain ⟨k, hk, rfl, HH, HB⟩ := hrel
        by_cases hkl : k < l.length
        · obtain ⟨b, off, rfl, hc⟩ := (HR.out.below HB.out).2 (by omega)
          obtain ⟨x1, x2⟩ := hc k hkl
          obtain ⟨y1, y2⟩ := hc p hlt
          clear hc
          have q1 : (0 : Int) ≤ (k : Int) := by omega
          have q2 : (k : Int) < (l.length : Int) := by omega
          have q3 : (0 : Int) ≤ (p : Int) := by omega
          have q4 : (p : Int) < (l.length : Int) := by omega
          by_cases hw : k = 2 * p + 1 ∨ k = 2 * p + 2
          · have HW : Hid (low (at_ l k) (at_ l p) = true → rightB l = false) := fun h => rightB_no (i := k) (by omega) hkl (by rw [show (k - 1) / 2 = p from by omega]; exact h)
            have hg : ((k : Int) == 2 * (p : Int) + 1) = true ∨ (((k : Int) == 2 * (p : Int) + 1) = false ∧ ((k : Int) == 2 * (p : Int) + 2) = true) := by
              rcases hw with e | e
              · exact .inl (beq_iff_eq.2 (by omega))
              · exact .inr ⟨beq_eq_false_iff_ne.2 (by omega), beq_iff_eq.2 (by omega)⟩
            clear hw
            cases hl : low (at_ l k) (at_ l p) with
            | true =>
              have HL := Lib.hid hl
              have HF := Lib.hid (HW.out hl)
              clear hl
              rcases hg with g1 | ⟨g1, g2⟩
              all_goals
                go_wp2_with fail
                have e1 : IntKind.i64.wrap (2 * (p : Int)) = 2 * (p : Int) := IntWalk.i64_in _ (by omega)
                have e2 : IntKind.i64.wrap (2 * (p : Int) + 1) = 2 * (p : Int) + 1 := IntWalk.i64_in _ (by omega)
                have e3 : IntKind.i64.wrap (2 * (p : Int) + 2) = 2 * (p : Int) + 2 := IntWalk.i64_in _ (by omega)
                go_still_tail 21, (by kernel_rfl)
                clear e1 e2 e3
                go_wp2_with fail
                refine (lower_any _ _ _).mono ?_
                rintro e w1 ⟨rfl, b1⟩
                have B1 := Lib.hid (HB.out.drew.trans (b1.mono HB.out.size))
                clear b1
                rw [HL.out]
                go_wp2_with fail
                go_ret
                exact ⟨ret_bool HF.out.symm, B1.out⟩
            | false =>
              have HL := Lib.hid hl
              clear hl
              rcases hg with g1 | ⟨g1, g2⟩
              all_goals
                go_wp2_with fail
                have e1 : IntKind.i64.wrap (2 * (p : Int)) = 2 * (p : Int) := IntWalk.i64_in _ (by omega)
                have e2 : IntKind.i64.wrap (2 * (p : Int) + 1) = 2 * (p : Int) + 1 := IntWalk.i64_in _ (by omega)
                have e3 : IntKind.i64.wrap (2 * (p : Int) + 2) = 2 * (p : Int) + 2 := IntWalk.i64_in _ (by omega)
                go_still_tail 21, (by kernel_rfl)
                clear e1 e2 e3
                go_wp2_with fail
                refine (lower_any _ _ _).mono ?_
                rintro e w1 ⟨rfl, b1⟩
                have B1 := Lib.hid (HB.out.drew.trans (b1.mono HB.out.size))
                clear b1
                rw [HL.out]
                go_wp2_with fail
                go_roundw
                case rel => exact ⟨k + 1, by omega, by go_num, HH.out.next (fun _ => HL.out), B1⟩
                case measure => simp [intOf]; omega
          · have g1 : ((k : Int) == 2 * (p : Int) + 1) = false := beq_eq_false_iff_ne.2 (by omega)
            have g2 : ((k : Int) == 2 * (p : Int) + 2) = false := beq_eq_false_iff_ne.2 (by omega)
            have HW : Hid (¬ (k = 2 * p + 1 ∨ k = 2 * p + 2)) := hw
            clear hw
            go_wp2_with fail
            have e1 : IntKind.i64.wrap (2 * (p : Int)) = 2 * (p : Int) := IntWalk.i64_in _ (by omega)
            have e2 : IntKind.i64.wrap (2 * (p : Int) + 1) = 2 * (p : Int) + 1 := IntWalk.i64_in _ (by omega)
            have e3 : IntKind.i64.wrap (2 * (p : Int) + 2) = 2 * (p : Int) + 2 := IntWalk.i64_in _ (by omega)
            go_quiet (fail)
            clear e1 e2 e3
            go_wp2_with fail
            go_roundw
            case rel => exact ⟨k + 1, by omega, by go_num, HH.out.next (fun h => (HW.out h).elim), ⟨HB.out.os, HB.out.tape, HB.out.output, HB.out.size, HB.out.block⟩⟩
            case measure => simp [intOf]; omega
        · go_wp2_with fail
          go_roundw
          case rel => exact ⟨p + 1, by omega, by go_num, HH.out.done (by omega), HB⟩
          case measure => simp [intOf]; omega
    · go_wp2_with fail
      go_ret
      exact ⟨ret_bool (by rw [eq_comm, rightB_iff]; exact fun j h0 hj _ => HH.out j h0 hj (by omega)), HB.out⟩

end Hp
end Go.Proofs.Yteadcjfbmckgpaa
