/-
  For all tasks, all last releases, any two numbers and any more the statement PoliceLater of layer 16 returns true (what may be at a tick may be later; and each task may release its first job at any tick), and its arguments read as before. No condition.
-/
import Derived.Test.YtfhifmpkdnnpmaaGlaw16
import Derived.Test.YtfhifmpkdnnpmaaGlaw05
namespace Go.Proofs.Ytfhifmpkdnnpmaa.policeLater
open Go.ChangeShapes Go.WideShapes Go.ChangeAt Go.RowKit
open Mm Tk Pc

theorem all_v (A : Option Addr) (c : Nat) (L : List Tsk) (v : Bool) (hv : allB L = v) (w : World) (H : TL w A c L) :
    Calls Try.prog 15 #[.slice A L.length c] w fun e w' => e = .returned (.bool v) ∧ Below w.heap.size w w' := by
  subst hv
  exact refAll_any A c L w H.1 H.2.1 H.2.2
theorem later_zero {L : List Tsk} {s : List Int} {i t u : Int} (h : mayE L s i t = 0) (h1 : t ≤ u) (h2 : u ≤ 4611686018427387703) : mayE L s i u = 0 := may_zero.2 (may_later (may_zero.1 h) h1 h2)
theorem zero_in {L : List Tsk} {s : List Int} {i t : Int} (h : mayE L s i t = 0) : allB L = true ∧ 0 ≤ i ∧ i < L.length := by
  have hb := may_zero.1 h
  obtain ⟨h1, h2, h3, _⟩ := argB_iff.1 (Bool.and_eq_true _ _ ▸ hb).1
  exact ⟨(lastsB_iff.1 h1).1, h2, h3⟩
theorem may_three (L : List Tsk) (s : List Int) (i t : Int) : mayE L s i t = 0 ∨ mayE L s i t = 1 ∨ mayE L s i t = 6 := by
  unfold mayE
  split
  · split <;> simp
  · simp
theorem bad_one {L : List Tsk} {s : List Int} {i t : Int} (h : allB L = false ∨ i < 0 ∨ (L.length : Int) ≤ i) : mayE L s i t = 1 := may_arg (by
  rcases h with h | h | h
  · left; simp [lastsB, h]
  · right; left; exact h
  · right; right; left; exact h)
theorem none_zero {L : List Tsk} (h : allB L = true) {i t : Int} (h0 : 0 ≤ i) (h1 : i < L.length) (h2 : 0 ≤ t) (h3 : t ≤ 4611686018427387703) : mayE L (List.replicate L.length (-1)) i t = 0 := may_zero.2 (may_first h h0 h1 h2 h3)

set_option maxRecDepth 20000 in
set_option maxHeartbeats 800000 in
theorem walk (A : Option Addr) (c : Nat) (L : List Tsk) (A2 : Option Addr) (c2 : Nat) (s : List Int) (i t : Int) (m : Nat) (w : World) (hr : Rd w A c L) (hs : Rd w A2 c2 s) (_fi : Fit i) (_ft : Fit t) (hm8 : m < 256) :
    Calls Try.prog 6 #[.slice A L.length c, .slice A2 s.length c2, .int .i64 i, .int .i64 t, .int .u8 m] w fun e w' => e = .returned (.bool true) ∧ Below w.heap.size w w' := by
  have hm := Nat.le_trans hs.le hs.max
  unfold maxLen at hm
  have HR := Lib.hid hr
  have HS := Lib.hid hs
  clear hr hs
  cases hg : greatB L with
  | true =>
    skip
    go_enter Try.func6, Try.ntmps6
    go_wp2_with fail
    refine (great_any A c L _ HR.out).mono ?_
    rintro e w1 ⟨rfl, b1⟩
    have B1 := Lib.hid b1
    clear b1
    go_wp2_with fail
    refine (knows_any _).mono ?_
    rintro e w2 ⟨rfl, b2⟩
    have B2 := Lib.hid (below_step B1.out b2)
    clear b2
    go_wp2_with fail
    go_ret
    exact ⟨rfl, B2.out⟩
  | false =>
    obtain ⟨hL, hin⟩ := great_no hg
    by_cases h50 : (50 : Int) < (s.length : Int)
    · skip
      go_enter Try.func6, Try.ntmps6
      go_wp2_with fail
      refine (great_any A c L _ HR.out).mono ?_
      rintro e w1 ⟨rfl, b1⟩
      have B1 := Lib.hid b1
      clear b1
      go_wp2_with fail
      refine (knows_any _).mono ?_
      rintro e w2 ⟨rfl, b2⟩
      have B2 := Lib.hid (below_step B1.out b2)
      clear b2
      go_wp2_with fail
      go_ret
      exact ⟨rfl, B2.out⟩
    · by_cases h51 : (4611686018427386903 : Int) < t
      · skip
        go_enter Try.func6, Try.ntmps6
        go_wp2_with fail
        refine (great_any A c L _ HR.out).mono ?_
        rintro e w1 ⟨rfl, b1⟩
        have B1 := Lib.hid b1
        clear b1
        go_wp2_with fail
        refine (knows_any _).mono ?_
        rintro e w2 ⟨rfl, b2⟩
        have B2 := Lib.hid (below_step B1.out b2)
        clear b2
        go_wp2_with fail
        go_ret
        exact ⟨rfl, B2.out⟩
      · by_cases h52 : t < 0
        · skip
          go_enter Try.func6, Try.ntmps6
          go_wp2_with fail
          refine (great_any A c L _ HR.out).mono ?_
          rintro e w1 ⟨rfl, b1⟩
          have B1 := Lib.hid b1
          clear b1
          go_wp2_with fail
          refine (knows_any _).mono ?_
          rintro e w2 ⟨rfl, b2⟩
          have B2 := Lib.hid (below_step B1.out b2)
          clear b2
          go_wp2_with fail
          go_ret
          exact ⟨rfl, B2.out⟩
        · have HT : Hid (TL w A c L) := ⟨by omega, fun j hj => by have := hin j hj; omega, HR.out⟩
          have HI : Hid (IL w A2 c2 s) := ⟨by omega, HS.out⟩
          clear hin
          obtain ⟨n, hn⟩ : ∃ n, s.length = n := ⟨_, rfl⟩
          have HN := Lib.hid hn
          rw [hn] at h50 hm
          have d50 : decide ((50 : Int) < (n : Int)) = false := decide_eq_false h50
          rw [hn]
          clear hn
          have e1 : IntKind.i64.wrap (m : Int) = (m : Int) := IntWalk.i64_in _ (by omega)
          have e2 : IntKind.i64.wrap (t + (m : Int)) = t + (m : Int) := IntWalk.i64_in _ (by omega)
          by_cases hall : allB L = true ∧ 0 ≤ i ∧ i < L.length
          · obtain ⟨ha, h0, hl⟩ := hall
            have HA := Lib.hid ha
            have HZ := Lib.hid (none_zero ha h0 hl (t := t) (by omega) (by omega))
            have h3 : ¬ i < 0 := by omega
            clear ha
            rcases may_three L s i t with hv | hv | hv
            · have HV := Lib.hid hv
              have HV2 := Lib.hid (later_zero hv (u := t + m) (by omega) (by omega))
              clear hv
              go_enter Try.func6, Try.ntmps6
              go_wp2_with fail
              refine (great_any A c L _ HR.out).mono ?_
              rintro e w1 ⟨rfl, b1⟩
              have B1 := Lib.hid b1
              clear b1
              go_wp2_with fail
              replace HT := Lib.hid (HT.out.below B1.out)
              replace HI := Lib.hid (HI.out.below B1.out)
              refine (may_v A c L A2 c2 s i t _ n rfl HN.out 0 HV.out _ HT.out HI.out).mono ?_
              rintro e w2 ⟨rfl, b2⟩
              have B2 := Lib.hid (below_step B1.out b2)
              replace HT := Lib.hid (HT.out.below b2)
              replace HI := Lib.hid (HI.out.below b2)
              clear b2
              go_wp2_with fail
              refine (may_v A c L A2 c2 s i (t + m) _ n rfl HN.out 0 HV2.out _ HT.out HI.out).mono ?_
              rintro e w3 ⟨rfl, b3⟩
              have B3 := Lib.hid (below_step B2.out b3)
              replace HT := Lib.hid (HT.out.below b3)
              replace HI := Lib.hid (HI.out.below b3)
              clear b3
              go_wp2_with fail
              refine (all_v A c L true HA.out _ HT.out).mono ?_
              rintro e w4 ⟨rfl, b4⟩
              have B4 := Lib.hid (below_step B3.out b4)
              replace HT := Lib.hid (HT.out.below b4)
              replace HI := Lib.hid (HI.out.below b4)
              clear b4
              go_wp2_with fail
              go_loopw [11, 12] (fun a x wr => ∃ (k : Nat) (A3 : Option Addr) (c3 : Nat), a = .slice A3 k c3 ∧ x = .int .i64 k ∧ k ≤ L.length ∧ Hid (Ow wr w4.heap.size 3 A3 c3 (List.replicate k (-1))) ∧ Hid (Below w4.heap.size w4 wr)) (fun _ x _ => L.length - (intOf x).toNat)
              case atStart => exact ⟨0, none, 0, rfl, rfl, Nat.zero_le _, ow_none _ _ _, Below.refl _ _⟩
              case round =>
                obtain ⟨k, A3, c3, rfl, rfl, hk, HOW, HB⟩ := hrel
                by_cases hlt : k < L.length
                · have bA := below_one wr (Obj.cells #[.int .i64 (-1)] 3)
                  have HD := Lib.hid (rd_new1 wr 3 (-1) ⟨by omega, by omega⟩)
                  have HO := Lib.hid (HOW.out.alloc (Obj.cells #[.int .i64 (-1)] 3))
                  have BA := Lib.hid (below_step HB.out bA)
                  have HKL : Hid ((List.replicate k (-1 : Int)).length = k) := List.length_replicate ..
                  have HK1 : Hid (k + 1 ≤ 1000000) := by show _ ≤ _; omega
                  clear bA
                  go_wp2_with (at_builtin
                               refine list_app_n slI rfl _ _ rfl (base := w4.heap.size) (l := List.replicate k (-1)) (r := [-1]) (n := k) (m := 1) HKL.out rfl rfl rfl HO.out HD.out HK1.out (by have := BA.out.size; exact this) ?_
                               intro A4 c4 w5 k1 k2 k3
                               have O5 := Lib.hid k1
                               have B5 := Lib.hid (BA.out.trans k2)
                               clear k1 k2 k3)
                  go_roundw
                  case rel => exact ⟨k + 1, A4, c4, rfl, by go_num, hlt, by show Ow _ _ _ _ _ _; rw [List.replicate_succ']; exact O5.out, B5⟩
                  case measure => (simp [intOf] <;> omega)
                · have hkl : k = L.length := by omega
                  subst hkl
                  have B5 := Lib.hid (below_step B4.out HB.out)
                  have HI5 : Hid (IL wr A3 c3 (List.replicate L.length (-1))) := ⟨by rw [List.length_replicate]; omega, HOW.out.rd⟩
                  have HLR : Hid ((List.replicate L.length (-1 : Int)).length = L.length) := List.length_replicate ..
                  replace HT := Lib.hid (HT.out.below HB.out)
                  go_wp2_with fail
                  refine (may_v A c L A3 c3 _ i t _ L.length rfl HLR.out 0 HZ.out _ HT.out HI5.out).mono ?_
                  rintro e w6 ⟨rfl, b6⟩
                  have B6 := Lib.hid (below_step B5.out b6)
                  clear b6
                  go_wp2_with fail
                  refine (knows_any _).mono ?_
                  rintro e w7 ⟨rfl, b7⟩
                  have B7 := Lib.hid (below_step B6.out b7)
                  clear b7
                  go_wp2_with fail
                  go_ret
                  exact ⟨rfl, B7.out⟩
            · have HV := Lib.hid hv
              clear hv
              go_enter Try.func6, Try.ntmps6
              go_wp2_with fail
              refine (great_any A c L _ HR.out).mono ?_
              rintro e w1 ⟨rfl, b1⟩
              have B1 := Lib.hid b1
              clear b1
              go_wp2_with fail
              replace HT := Lib.hid (HT.out.below B1.out)
              replace HI := Lib.hid (HI.out.below B1.out)
              refine (may_v A c L A2 c2 s i t _ n rfl HN.out 1 HV.out _ HT.out HI.out).mono ?_
              rintro e w2 ⟨rfl, b2⟩
              have B2 := Lib.hid (below_step B1.out b2)
              replace HT := Lib.hid (HT.out.below b2)
              replace HI := Lib.hid (HI.out.below b2)
              clear b2
              go_wp2_with fail
              refine (all_v A c L true HA.out _ HT.out).mono ?_
              rintro e w4 ⟨rfl, b4⟩
              have B4 := Lib.hid (below_step B2.out b4)
              replace HT := Lib.hid (HT.out.below b4)
              replace HI := Lib.hid (HI.out.below b4)
              clear b4
              go_wp2_with fail
              go_loopw [11, 12] (fun a x wr => ∃ (k : Nat) (A3 : Option Addr) (c3 : Nat), a = .slice A3 k c3 ∧ x = .int .i64 k ∧ k ≤ L.length ∧ Hid (Ow wr w4.heap.size 3 A3 c3 (List.replicate k (-1))) ∧ Hid (Below w4.heap.size w4 wr)) (fun _ x _ => L.length - (intOf x).toNat)
              case atStart => exact ⟨0, none, 0, rfl, rfl, Nat.zero_le _, ow_none _ _ _, Below.refl _ _⟩
              case round =>
                obtain ⟨k, A3, c3, rfl, rfl, hk, HOW, HB⟩ := hrel
                by_cases hlt : k < L.length
                · have bA := below_one wr (Obj.cells #[.int .i64 (-1)] 3)
                  have HD := Lib.hid (rd_new1 wr 3 (-1) ⟨by omega, by omega⟩)
                  have HO := Lib.hid (HOW.out.alloc (Obj.cells #[.int .i64 (-1)] 3))
                  have BA := Lib.hid (below_step HB.out bA)
                  have HKL : Hid ((List.replicate k (-1 : Int)).length = k) := List.length_replicate ..
                  have HK1 : Hid (k + 1 ≤ 1000000) := by show _ ≤ _; omega
                  clear bA
                  go_wp2_with (at_builtin
                               refine list_app_n slI rfl _ _ rfl (base := w4.heap.size) (l := List.replicate k (-1)) (r := [-1]) (n := k) (m := 1) HKL.out rfl rfl rfl HO.out HD.out HK1.out (by have := BA.out.size; exact this) ?_
                               intro A4 c4 w5 k1 k2 k3
                               have O5 := Lib.hid k1
                               have B5 := Lib.hid (BA.out.trans k2)
                               clear k1 k2 k3)
                  go_roundw
                  case rel => exact ⟨k + 1, A4, c4, rfl, by go_num, hlt, by show Ow _ _ _ _ _ _; rw [List.replicate_succ']; exact O5.out, B5⟩
                  case measure => (simp [intOf] <;> omega)
                · have hkl : k = L.length := by omega
                  subst hkl
                  have B5 := Lib.hid (below_step B4.out HB.out)
                  have HI5 : Hid (IL wr A3 c3 (List.replicate L.length (-1))) := ⟨by rw [List.length_replicate]; omega, HOW.out.rd⟩
                  have HLR : Hid ((List.replicate L.length (-1 : Int)).length = L.length) := List.length_replicate ..
                  replace HT := Lib.hid (HT.out.below HB.out)
                  go_wp2_with fail
                  refine (may_v A c L A3 c3 _ i t _ L.length rfl HLR.out 0 HZ.out _ HT.out HI5.out).mono ?_
                  rintro e w6 ⟨rfl, b6⟩
                  have B6 := Lib.hid (below_step B5.out b6)
                  clear b6
                  go_wp2_with fail
                  refine (knows_any _).mono ?_
                  rintro e w7 ⟨rfl, b7⟩
                  have B7 := Lib.hid (below_step B6.out b7)
                  clear b7
                  go_wp2_with fail
                  go_ret
                  exact ⟨rfl, B7.out⟩
            · have HV := Lib.hid hv
              clear hv
              go_enter Try.func6, Try.ntmps6
              go_wp2_with fail
              refine (great_any A c L _ HR.out).mono ?_
              rintro e w1 ⟨rfl, b1⟩
              have B1 := Lib.hid b1
              clear b1
              go_wp2_with fail
              replace HT := Lib.hid (HT.out.below B1.out)
              replace HI := Lib.hid (HI.out.below B1.out)
              refine (may_v A c L A2 c2 s i t _ n rfl HN.out 6 HV.out _ HT.out HI.out).mono ?_
              rintro e w2 ⟨rfl, b2⟩
              have B2 := Lib.hid (below_step B1.out b2)
              replace HT := Lib.hid (HT.out.below b2)
              replace HI := Lib.hid (HI.out.below b2)
              clear b2
              go_wp2_with fail
              refine (all_v A c L true HA.out _ HT.out).mono ?_
              rintro e w4 ⟨rfl, b4⟩
              have B4 := Lib.hid (below_step B2.out b4)
              replace HT := Lib.hid (HT.out.below b4)
              replace HI := Lib.hid (HI.out.below b4)
              clear b4
              go_wp2_with fail
              go_loopw [11, 12] (fun a x wr => ∃ (k : Nat) (A3 : Option Addr) (c3 : Nat), a = .slice A3 k c3 ∧ x = .int .i64 k ∧ k ≤ L.length ∧ Hid (Ow wr w4.heap.size 3 A3 c3 (List.replicate k (-1))) ∧ Hid (Below w4.heap.size w4 wr)) (fun _ x _ => L.length - (intOf x).toNat)
              case atStart => exact ⟨0, none, 0, rfl, rfl, Nat.zero_le _, ow_none _ _ _, Below.refl _ _⟩
              case round =>
                obtain ⟨k, A3, c3, rfl, rfl, hk, HOW, HB⟩ := hrel
                by_cases hlt : k < L.length
                · have bA := below_one wr (Obj.cells #[.int .i64 (-1)] 3)
                  have HD := Lib.hid (rd_new1 wr 3 (-1) ⟨by omega, by omega⟩)
                  have HO := Lib.hid (HOW.out.alloc (Obj.cells #[.int .i64 (-1)] 3))
                  have BA := Lib.hid (below_step HB.out bA)
                  have HKL : Hid ((List.replicate k (-1 : Int)).length = k) := List.length_replicate ..
                  have HK1 : Hid (k + 1 ≤ 1000000) := by show _ ≤ _; omega
                  clear bA
                  go_wp2_with (at_builtin
                               refine list_app_n slI rfl _ _ rfl (base := w4.heap.size) (l := List.replicate k (-1)) (r := [-1]) (n := k) (m := 1) HKL.out rfl rfl rfl HO.out HD.out HK1.out (by have := BA.out.size; exact this) ?_
                               intro A4 c4 w5 k1 k2 k3
                               have O5 := Lib.hid k1
                               have B5 := Lib.hid (BA.out.trans k2)
                               clear k1 k2 k3)
                  go_roundw
                  case rel => exact ⟨k + 1, A4, c4, rfl, by go_num, hlt, by show Ow _ _ _ _ _ _; rw [List.replicate_succ']; exact O5.out, B5⟩
                  case measure => (simp [intOf] <;> omega)
                · have hkl : k = L.length := by omega
                  subst hkl
                  have B5 := Lib.hid (below_step B4.out HB.out)
                  have HI5 : Hid (IL wr A3 c3 (List.replicate L.length (-1))) := ⟨by rw [List.length_replicate]; omega, HOW.out.rd⟩
                  have HLR : Hid ((List.replicate L.length (-1 : Int)).length = L.length) := List.length_replicate ..
                  replace HT := Lib.hid (HT.out.below HB.out)
                  go_wp2_with fail
                  refine (may_v A c L A3 c3 _ i t _ L.length rfl HLR.out 0 HZ.out _ HT.out HI5.out).mono ?_
                  rintro e w6 ⟨rfl, b6⟩
                  have B6 := Lib.hid (below_step B5.out b6)
                  clear b6
                  go_wp2_with fail
                  refine (knows_any _).mono ?_
                  rintro e w7 ⟨rfl, b7⟩
                  have B7 := Lib.hid (below_step B6.out b7)
                  clear b7
                  go_wp2_with fail
                  go_ret
                  exact ⟨rfl, B7.out⟩
          · cases ha : allB L with
            | false =>
              have HA := Lib.hid ha
              have HV := Lib.hid (bad_one (s := s) (i := i) (t := t) (.inl ha))
              clear ha hall
              go_enter Try.func6, Try.ntmps6
              go_wp2_with fail
              refine (great_any A c L _ HR.out).mono ?_
              rintro e w1 ⟨rfl, b1⟩
              have B1 := Lib.hid b1
              clear b1
              go_wp2_with fail
              replace HT := Lib.hid (HT.out.below B1.out)
              replace HI := Lib.hid (HI.out.below B1.out)
              refine (may_v A c L A2 c2 s i t _ n rfl HN.out 1 HV.out _ HT.out HI.out).mono ?_
              rintro e w2 ⟨rfl, b2⟩
              have B2 := Lib.hid (below_step B1.out b2)
              replace HT := Lib.hid (HT.out.below b2)
              replace HI := Lib.hid (HI.out.below b2)
              clear b2
              go_wp2_with fail
              refine (all_v A c L false HA.out _ HT.out).mono ?_
              rintro e w3 ⟨rfl, b3⟩
              have B3 := Lib.hid (below_step B2.out b3)
              replace HT := Lib.hid (HT.out.below b3)
              replace HI := Lib.hid (HI.out.below b3)
              clear b3
              go_wp2_with fail
              refine (may_v A c L A2 c2 s i t _ n rfl HN.out 1 HV.out _ HT.out HI.out).mono ?_
              rintro e w4 ⟨rfl, b4⟩
              have B4 := Lib.hid (below_step B3.out b4)
              clear b4
              go_wp2_with fail
              refine (knows_any _).mono ?_
              rintro e w5 ⟨rfl, b5⟩
              have B5 := Lib.hid (below_step B4.out b5)
              clear b5
              go_wp2_with fail
              go_ret
              exact ⟨rfl, B5.out⟩
            | true =>
              have HA := Lib.hid ha
              by_cases h0 : i < 0
              · have HV := Lib.hid (bad_one (L := L) (s := s) (i := i) (t := t) (.inr (.inl h0)))
                clear ha hall
                go_enter Try.func6, Try.ntmps6
                go_wp2_with fail
                refine (great_any A c L _ HR.out).mono ?_
                rintro e w1 ⟨rfl, b1⟩
                have B1 := Lib.hid b1
                clear b1
                go_wp2_with fail
                replace HT := Lib.hid (HT.out.below B1.out)
                replace HI := Lib.hid (HI.out.below B1.out)
                refine (may_v A c L A2 c2 s i t _ n rfl HN.out 1 HV.out _ HT.out HI.out).mono ?_
                rintro e w2 ⟨rfl, b2⟩
                have B2 := Lib.hid (below_step B1.out b2)
                replace HT := Lib.hid (HT.out.below b2)
                replace HI := Lib.hid (HI.out.below b2)
                clear b2
                go_wp2_with fail
                refine (all_v A c L true HA.out _ HT.out).mono ?_
                rintro e w3 ⟨rfl, b3⟩
                have B3 := Lib.hid (below_step B2.out b3)
                replace HT := Lib.hid (HT.out.below b3)
                replace HI := Lib.hid (HI.out.below b3)
                clear b3
                go_wp2_with fail
                refine (may_v A c L A2 c2 s i t _ n rfl HN.out 1 HV.out _ HT.out HI.out).mono ?_
                rintro e w4 ⟨rfl, b4⟩
                have B4 := Lib.hid (below_step B3.out b4)
                clear b4
                go_wp2_with fail
                refine (knows_any _).mono ?_
                rintro e w5 ⟨rfl, b5⟩
                have B5 := Lib.hid (below_step B4.out b5)
                clear b5
                go_wp2_with fail
                go_ret
                exact ⟨rfl, B5.out⟩
              · have hl : (L.length : Int) ≤ i := by
                  rcases Int.lt_or_le i (L.length : Int) with h | h
                  · exact absurd ⟨ha, by omega, h⟩ hall
                  · exact h
                have HV := Lib.hid (bad_one (L := L) (s := s) (i := i) (t := t) (.inr (.inr hl)))
                clear ha hall
                go_enter Try.func6, Try.ntmps6
                go_wp2_with fail
                refine (great_any A c L _ HR.out).mono ?_
                rintro e w1 ⟨rfl, b1⟩
                have B1 := Lib.hid b1
                clear b1
                go_wp2_with fail
                replace HT := Lib.hid (HT.out.below B1.out)
                replace HI := Lib.hid (HI.out.below B1.out)
                refine (may_v A c L A2 c2 s i t _ n rfl HN.out 1 HV.out _ HT.out HI.out).mono ?_
                rintro e w2 ⟨rfl, b2⟩
                have B2 := Lib.hid (below_step B1.out b2)
                replace HT := Lib.hid (HT.out.below b2)
                replace HI := Lib.hid (HI.out.below b2)
                clear b2
                go_wp2_with fail
                refine (all_v A c L true HA.out _ HT.out).mono ?_
                rintro e w3 ⟨rfl, b3⟩
                have B3 := Lib.hid (below_step B2.out b3)
                replace HT := Lib.hid (HT.out.below b3)
                replace HI := Lib.hid (HI.out.below b3)
                clear b3
                go_wp2_with fail
                refine (may_v A c L A2 c2 s i t _ n rfl HN.out 1 HV.out _ HT.out HI.out).mono ?_
                rintro e w4 ⟨rfl, b4⟩
                have B4 := Lib.hid (below_step B3.out b4)
                clear b4
                go_wp2_with fail
                refine (knows_any _).mono ?_
                rintro e w5 ⟨rfl, b5⟩
                have B5 := Lib.hid (below_step B4.out b5)
                clear b5
                go_wp2_with fail
                go_ret
                exact ⟨rfl, B5.out⟩

set_option maxRecDepth 100000 in
theorem lifted (os : Os) (started : os.Started) (H : Type) (enc : TypeId × Value → H) :
    ReturnsInHanded {} Try.checked os 6 .any (Rows.policeLaterSpec.pre6 enc Try.prog Try.f6 Rows.policeLaterRow.domain false) (Rows.policeLaterSpec.post enc Try.prog Try.f6 false true false false) := by
  refine returnsInHanded_of_change (C := Try.checked) own started (by kernel_rfl) Try.func6
    (ChangeSpec.witness6 (enc := enc) (C := Try.checked) false ⟨#[], #[.slice none 0 0, .slice none 0 0, .int .i64 0, .int .i64 0, .int .u8 0], []⟩ 8 (by kernel_rfl) (by kernel_rfl) (by kernel_rfl) (by kernel_rfl)) ?_
  intro W base args ds gs before hval0 hW hcnd _
  have hval : ∀ (j : Nat) t v, Try.f6.params[j]? = some t → args[j]? = some v → Value.okWide Try.prog W .any base t v := hval0
  have hW' := hW
  obtain ⟨p, q, hA0, hV, rfl, hfz, hnd⟩ := hW
  have hA : DataW.TrodAll enc Try.prog W 0 (fun _ => true) true Try.f6.params.toList args.toList ds p := hA0
  rw [Try.params6] at hA hval
  obtain ⟨v0, v1, v2, v3, v4, d0, d1, d2, d3, d4, p0, p1, p2, p3, p4, rfl, rfl, rfl, h0, h1, h2, h3, h4⟩ := trodAll_five hA
  obtain ⟨rfl, rfl⟩ := trodVars_none hV
  obtain ⟨A0, c0, l0, rfl, hr0⟩ := Mm.open_list (α := Tk.Tsk) Try.underlying22 Tk.opTasks (hval 0 22 v0 rfl rfl) h0
  obtain ⟨A1, c1, l1, rfl, hr1⟩ := Mm.open_list (α := Int) Try.underlying23 Mm.opInts (hval 1 23 v1 rfl rfl) h1
  obtain ⟨n2, rfl, f2⟩ := Mm.open_num' Try.underlying3 (hval 2 3 v2 rfl rfl) h2
  obtain ⟨n3, rfl, f3⟩ := Mm.open_num' Try.underlying3 (hval 3 3 v3 rfl rfl) h3
  obtain ⟨n4, rfl, f4⟩ := Mm.open_u8' Try.underlying5 (hval 4 5 v4 rfl rfl) h4
  clear hA0 hval0
  refine (walk A0 c0 l0 A1 c1 l1 n2 n3 n4 W hr0 hr1 f2 f3 f4).mono fun e W' ⟨he, bel⟩ => ?_
  subst he
  have hlt0 : ∀ x ∈ p0, x.block < W.heap.size := fun x hx => hW'.lt x (by simp [hx])
  have hlt1 : ∀ x ∈ p1, x.block < W.heap.size := fun x hx => hW'.lt x (by simp [hx])
  have hlt2 : ∀ x ∈ p2, x.block < W.heap.size := fun x hx => hW'.lt x (by simp [hx])
  have hlt3 : ∀ x ∈ p3, x.block < W.heap.size := fun x hx => hW'.lt x (by simp [hx])
  have hlt4 : ∀ x ∈ p4, x.block < W.heap.size := fun x hx => hW'.lt x (by simp [hx])
  exact ⟨_, rfl, _, _, _, [], _, [], hW', trodAll_mk1 (shut_bool Try.underlying4 _), trodAll_mk5 (Below.trod laidOut (by kernel_rfl) (of_decide_eq_true (by kernel_rfl)) h0 bel hlt0) (Below.trod laidOut (by kernel_rfl) (of_decide_eq_true (by kernel_rfl)) h1 bel hlt1) (Below.trod laidOut (by kernel_rfl) (of_decide_eq_true (by kernel_rfl)) h2 bel hlt2) (Below.trod laidOut (by kernel_rfl) (of_decide_eq_true (by kernel_rfl)) h3 bel hlt3) (Below.trod laidOut (by kernel_rfl) (of_decide_eq_true (by kernel_rfl)) h4 bel hlt4), rfl, bel.frame _, fun h => by cases h⟩

/-- The statement. -/
theorem proved : Rows.PoliceLaterSaid :=
  OpenClaim.holds_of_wide 6 Try.f6 rfl rfl rfl rfl rfl rfl rfl ⟨rfl, rfl, rfl, rfl, rfl⟩ rfl rfl rfl rfl rfl (by kernel_rfl) Try.func6 (by kernel_rfl)
    (of_decide_eq_true (by kernel_rfl)) (by unfold Func.isWrapper; first | (rw [if_pos (by decide +kernel)]; kernel_rfl) | (rw [if_neg (by decide +kernel)]; exact ⟨rfl, rfl⟩))
    (fun os started H enc _ => lifted os started H enc)
#print axioms proved

end Go.Proofs.Ytfhifmpkdnnpmaa.policeLater
