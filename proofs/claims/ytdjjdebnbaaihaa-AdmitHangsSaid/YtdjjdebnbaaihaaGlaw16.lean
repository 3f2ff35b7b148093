/-
  Merged texts: Law16Right.
-/
import Derived.Test.YtdjjdebnbaaihaaGpolice
import Derived.Test.YtdjjdebnbaaihaaGlaw05
/-
  Layer 16: the references of the statements: Right.
-/
namespace Go.Proofs.Ytdjjdebnbaaihaa
open Go.RowKit Mm Tk Dm
namespace Pc

set_option maxHeartbeats 800000 in
theorem refRight_any (A : Option Addr) (c : Nat) (L : List Tsk) (A2 : Option Addr) (c2 : Nat) (s : List Int) (w : World) (H : TL w A c L) (H2 : IL w A2 c2 s) :
    Calls Try.prog 17 #[.slice A L.length c, .slice A2 s.length c2] w fun e w' => e = .returned (.bool (lastsB L s)) ∧ Below w.heap.size w w' := by
  have hb1 := H.1
  have hb2 := H2.1
  have HT := Lib.hid H
  have HL := Lib.hid H2
  clear H H2
  by_cases hn : s.length = L.length
  · have hn1 : ((s.length : Int) == (L.length : Int)) = true := by simp [hn]
    have hn2 : ((s.length : Int) != (L.length : Int)) = false := by simp [hn]
    have HN := Lib.hid hn
    clear hn
    cases ha : allB L with
    | false =>
      have HF : Hid (lastsB L s = false) := by show _ = _; simp [lastsB, ha]
      go_enter Try.func17, Try.ntmps17
      go_wp2_with fail
      refine (refAll_any A c L _ hb1 HT.out.2.1 HT.out.2.2).mono ?_
      rintro e w1 ⟨rfl, b1⟩
      rw [ha]
      go_wp2_with fail
      go_ret
      exact ⟨ret_bool HF.out.symm, b1⟩
    | true =>
      have HA := Lib.hid ha
      go_enter Try.func17, Try.ntmps17
      go_wp2_with fail
      refine (refAll_any A c L _ hb1 HT.out.2.1 HT.out.2.2).mono ?_
      rintro e w1 ⟨rfl, b1⟩
      rw [ha]
      replace HL := Lib.hid (HL.out.below b1)
      have B1 := Lib.hid b1
      clear b1
      clear ha
      go_wp2_with fail
      go_loop [5] (fun i => ∃ k : Nat, i = .int .i64 k ∧ k ≤ s.length ∧ Hid (∀ j, j < k → -1 ≤ at_ s j ∧ at_ s j ≤ 4611686018427387903)) (fun i => s.length - (intOf i).toNat)
      case atStart => exact ⟨0, rfl, Nat.zero_le _, fun j h => by omega⟩
      case round =>
        obtain ⟨k, rfl, hk, HH⟩ := hrel
        by_cases hlt : k < s.length
        · obtain ⟨b, off, rfl, hc⟩ := HL.out.2.int (by omega)
          obtain ⟨x1, f1⟩ := hc k hlt
          have HB : Hid (¬ (-1 ≤ at_ s k ∧ at_ s k ≤ 4611686018427387903) → lastsB L s = false) := fun h => by
            rw [← Bool.not_eq_true, lastsB_iff]
            exact fun hh => h (hh.2.2 k hlt)
          have HS : Hid (-1 ≤ at_ s k ∧ at_ s k ≤ 4611686018427387903 → ∀ j, j < k + 1 → -1 ≤ at_ s j ∧ at_ s j ≤ 4611686018427387903) := fun h j hj => by
            by_cases e : j = k
            · subst e; exact h
            · exact HH.out j (by omega)
          clear hc f1
          generalize at_ s k = x at *
          by_cases h1 : x < -1
          · have HF := Lib.hid (HB.out (by omega))
            go_wp2_with fail
            go_ret
            exact ⟨ret_bool HF.out.symm, B1.out⟩
          · by_cases h2 : 4611686018427387903 < x
            · have HF := Lib.hid (HB.out (by omega))
              go_wp2_with fail
              go_ret
              exact ⟨ret_bool HF.out.symm, B1.out⟩
            · have HS2 := Lib.hid (HS.out (by omega))
              go_wp2_with fail
              go_round
              case rel => exact ⟨k + 1, by go_num, hlt, HS2⟩
              case measure => simp [intOf]; omega
        · have hkl : k = s.length := by omega
          subst hkl
          have HF := Lib.hid (lastsB_iff.2 ⟨HA.out, HN.out, HH.out⟩)
          go_wp2_with fail
          go_ret
          exact ⟨ret_bool HF.out.symm, B1.out⟩
  · have HF : Hid (lastsB L s = false) := by show _ = _; simp [lastsB, hn]
    have hn1 : ((s.length : Int) == (L.length : Int)) = false := by simp; omega
    have hn2 : ((s.length : Int) != (L.length : Int)) = true := by simp; omega
    have HN := Lib.hid hn
    clear hn
    go_enter Try.func17, Try.ntmps17
    go_wp2_with fail
    go_ret
    exact ⟨ret_bool HF.out.symm, Below.refl _ _⟩


end Pc
end Go.Proofs.Ytdjjdebnbaaihaa

