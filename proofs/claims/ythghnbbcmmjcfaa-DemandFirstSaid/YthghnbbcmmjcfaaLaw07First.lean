/-
  Layer 7: the document's answer First: the pattern in which all tasks are released at 0, and as soon as may be.
-/
import Derived.Test.YthghnbbcmmjcfaaMemNest
import Derived.Test.YthghnbbcmmjcfaaDemandFirstMath
import Derived.Test.YthghnbbcmmjcfaaTaskList
import Derived.Test.YthghnbbcmmjcfaaMost
import Derived.WalkSmall
namespace Go.Proofs.Ythghnbbcmmjcfaa
open Go.RowKit Mm Tk
namespace Dm

/-- it answers a slice that reads as this pattern -/
def FirstOf (w : World) (R : List (List Int)) (e : Ending) (w' : World) : Prop := ∃ A c, e = .returned (.slice A R.length c) ∧ Rd w' A c R ∧ Below w.heap.size w w'

set_option maxRecDepth 20000 in
set_option maxHeartbeats 1600000 in
theorem refFirst_any (A : Option Addr) (c : Nat) (L : List Tsk) (t : Int) (w : World) (ha : allB L = true) (ht : 0 ≤ t ∧ t ≤ 900) (H : TL w A c L) :
    Calls Try.prog 19 #[.slice A L.length c, .int .i64 t] w (FirstOf w (firstR L t)) := by
  have hb1 := H.1
  have HT := Lib.hid H
  have HA := Lib.hid ha
  have H8 := Lib.hid (all_len ha)
  clear H ha
  go_enter Try.func19, Try.ntmps19
  go_wp2_with fail
  go_loopw [5, 6] (fun out i wr => ∃ (k : Nat) (A1 : Option Addr) (c1 : Nat), i = .int .i64 k ∧ out = .slice A1 k c1 ∧ k ≤ L.length ∧ Hid (OwN wr w.heap.size 41 A1 c1 (firstR (L.take k) t)) ∧ Hid (Below w.heap.size w wr)) (fun _ i _ => L.length - (intOf i).toNat)
  case atStart => exact ⟨0, none, 0, rfl, rfl, Nat.zero_le _, own_nil _ _ _, Below.refl _ _⟩
  case round =>
    obtain ⟨k, A1, c1, rfl, rfl, hk, HO, HB⟩ := hrel
    by_cases hlt : k < L.length
    · obtain ⟨bb, off, rfl, hc⟩ := task_at (HT.out.below HB.out).2.2 (by omega)
      obtain ⟨B, d, _, _, x3, _, _, _, _, _⟩ := hc k hlt
      have hr := all_right HA.out k hlt
      have hT := right_T hr
      obtain ⟨hn, hne⟩ := firstN_le hr ht.1 ht.2
      have i1 : (0 : Int) ≤ (k : Int) := by omega
      have i3 : (k : Int) < (L.length : Int) := by omega
      have HE := Lib.hid (firstR_step (t := t) hlt)
      have HK : Hid (k ≤ 8) := by show k ≤ 8; have := H8.out; omega
      clear hc hr
      generalize at_ L k = x at *
      generalize hN : firstN t x = N at *
      have HJ : Hid (∀ j : Nat, (j : Int) * x.2.2.1 ≤ t ↔ j < N) := fun j => by
        have := lt_njobs (D := 0) (T := x.2.2.1) (t := t) (by omega) (j : Int) (by omega)
        rw [← hne] at this
        omega
      have HNL := Lib.hid hn
      clear hn hne hN
      go_wp2_with fail
      generalize wr = wi at *
      have HX3 := Lib.hid x3
      go_loopw [7, 8] (fun row u wz => ∃ (j : Nat) (A2 : Option Addr) (c2 : Nat) (d : Int), u = .int .i64 d ∧ row = .slice A2 j c2 ∧ 0 ≤ d ∧ d ≤ 1100 ∧ Hid (j ≤ N) ∧ Hid (d = j * x.2.2.1) ∧ Hid (Ow wz wi.heap.size 3 A2 c2 (early x.2.2.1 j)) ∧ Hid (Below wi.heap.size wi wz)) (fun _ u _ => (1101 - intOf u).toNat)
      case atStart => exact ⟨0, none, 0, 0, rfl, rfl, by omega, by omega, Nat.zero_le _, by show _ = _; simp, ow_none _ _ _, Below.refl _ _⟩
      case round =>
        obtain ⟨j, A2, c2, d, rfl, rfl, hd0, hd1, HJN, HD, HR, HZ⟩ := hrel
        replace x3 := cell_below HZ.out x3
        have hj1 : decide ((j : Int) < 1000) = true := decide_eq_true (by have := HJN.out; have := HNL.out; omega)
        by_cases hdt : d ≤ t
        · have HJ1 : Hid (j + 1 ≤ N) := by
            show j + 1 ≤ N
            exact (HJ.out j).1 (by rw [← HD.out]; exact hdt)
          have HD2 : Hid (d + x.2.2.1 = ((j + 1 : Nat) : Int) * x.2.2.1) := by
            show _ = _
            rw [HD.out, show ((j + 1 : Nat) : Int) = (j : Int) + 1 from by omega, Int.add_mul, Int.one_mul]
          have HE2 : Hid (early x.2.2.1 (j + 1) = early x.2.2.1 j ++ [d]) := by show _ = _; rw [early_succ, ← HD.out]
          have bA := below_one wr (Obj.cells #[.int .i64 d] 3)
          have HDA := Lib.hid (rd_new1 wr 3 d (by exact ⟨by omega, by omega⟩))
          have HRA := Lib.hid (HR.out.alloc (Obj.cells #[.int .i64 d] 3))
          have ZA := Lib.hid (below_step HZ.out bA)
          have HZS : Hid (wi.heap.size ≤ wr.heap.size) := HZ.out.size
          replace x3 := cell_below bA x3
          clear bA
          have hjl : (early x.2.2.1 j).length = j := early_len _ _
          have HJL := Lib.hid hjl
          clear hjl
          have HJ2 : Hid (j + 1 ≤ 1000000) := by show j + 1 ≤ 1000000; have := HJN.out; have := HNL.out; omega
          go_wp2_with (at_builtin
                       refine list_app_n slI rfl _ _ rfl (base := wi.heap.size) (l := early x.2.2.1 j) (r := [d]) (n := j) (m := 1) HJL.out rfl rfl rfl HRA.out HDA.out HJ2.out (by have := HZS.out; simp; omega) ?_
                       intro A3 c3 w3 k1 k2 k3
                       have O3 := Lib.hid k1
                       have B3 := Lib.hid (ZA.out.trans k2)
                       have y3 := cell_below B3.out HX3.out
                       clear k1 k2 k3)
          go_roundw
          case rel => exact ⟨j + 1, A3, c3, _, rfl, rfl, by omega, by omega, HJ1, HD2, by show Ow _ _ _ _ _ _; rw [HE2.out]; exact O3.out, B3⟩
          case measure => simp [intOf]; omega
        · have hjN : j = N := by
            have h1 : ¬ j < N := fun e => hdt (by rw [HD.out]; exact (HJ.out j).2 e)
            have h2 := HJN.out
            omega
          have HEN : Hid (firstR (L.take (k + 1)) t = firstR (L.take k) t ++ [early x.2.2.1 j]) := by show _ = _; rw [HE.out, hjN]
          have HOz := Lib.hid (HO.out.below HZ.out)
          have HRz := Lib.hid (Ow.else_ HO.out HR.out)
          have HLZ := Lib.hid (else_one_n (e := 41) j (early_len x.2.2.1 j) HOz.out HRz.out)
          have HOA := Lib.hid (HOz.out.below (below_one wr (.cells #[.slice A2 j c2] 41)))
          have BA := Lib.hid (below_step HB.out (below_step HZ.out (below_one wr (.cells #[.slice A2 j c2] 41))))
          have HKL : Hid ((firstR (L.take k) t).length = k) := by show _ = _; rw [firstR_len, List.length_take]; omega
          have HJ2 : Hid (k + 1 ≤ 1000000) := by show k + 1 ≤ 1000000; have := HK.out; omega
          have HSZ : Hid (w.heap.size ≤ (wr.alloc (.cells #[.slice A2 j c2] 41)).heap.size) := BA.out.size
          clear hjN
          go_wp2_with (at_builtin
                       refine list_own_n slL rfl _ _ rfl (base := w.heap.size) (l := firstR (L.take k) t) (r := [early x.2.2.1 j]) (n := k) (m := 1) HKL.out rfl rfl rfl HOA.out HLZ.out HJ2.out HSZ.out ?_
                       intro A3 c3 w3 k1 k2
                       have O3 := Lib.hid k1
                       have B3 := Lib.hid (BA.out.trans k2)
                       clear k1 k2)
          go_roundw
          case rel => exact ⟨k + 1, A3, c3, by go_num, rfl, hlt, by show OwN _ _ _ _ _ _; rw [HEN.out]; exact O3.out, B3⟩
          case measure => simp [intOf]; omega
    · have hkl : k = L.length := by omega
      subst hkl
      have HF : Hid (firstR (L.take L.length) t = firstR L t) := by show _ = _; rw [List.take_length]
      have HL : Hid ((firstR L t).length = L.length) := firstR_len L t
      go_wp2_with fail
      go_ret
      exact ⟨A1, c1, by rw [HL.out]; rfl, by have := HO.out.rd; rwa [HF.out] at this, HB.out⟩

end Dm
end Go.Proofs.Ythghnbbcmmjcfaa
