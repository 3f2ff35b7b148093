/-
  Layer 8: the document's answers Steps, SameInts.
-/
import Derived.Test.YtnkgfkmdfplneaaLaw05Refs
import Derived.Test.YtnkgfkmdfplneaaMemInts
import Derived.Test.YtnkgfkmdfplneaaTaskList
import Derived.Test.YtnkgfkmdfplneaaBlockMath
namespace Go.Proofs.Ytnkgfkmdfplneaa
open Go.RowKit Mm Tk
namespace Bk

/-- the D below m, rising, each once -/
def Sd (L : List Tsk) (m : Nat) (s : List Int) : Prop := s.Pairwise (· < ·) ∧ (∀ d, d ∈ s ↔ d < (m : Int) ∧ ∃ x ∈ L, x.2.1 = d) ∧ s.length < m
def hasD (L : List Tsk) (m : Int) (k : Nat) : Bool := (L.take k).any fun x => decide (x.2.1 = m)
theorem hasD_succ {L : List Tsk} {m : Int} {k : Nat} (h : k < L.length) : hasD L m (k + 1) = (hasD L m k || decide ((at_ L k).2.1 = m)) := by
  unfold hasD
  rw [take_succ_at h, List.any_append]
  simp
theorem hasD_yes {L : List Tsk} {m : Int} (h : hasD L m L.length = true) : ∃ x ∈ L, x.2.1 = m := by
  unfold hasD at h
  rw [List.take_length, List.any_eq_true] at h
  obtain ⟨x, hx, e⟩ := h
  exact ⟨x, hx, of_decide_eq_true e⟩
theorem hasD_no {L : List Tsk} {m : Int} (h : hasD L m L.length = false) : ¬ ∃ x ∈ L, x.2.1 = m := by
  rintro ⟨x, hx, e⟩
  unfold hasD at h
  rw [List.take_length, List.any_eq_false] at h
  exact h x hx (decide_eq_true e)
theorem all_D {L : List Tsk} (h : allB L = true) : ∀ x ∈ L, 1 ≤ x.2.1 ∧ x.2.1 ≤ 200 := fun x hx => by
  unfold allB at h
  rw [Bool.and_eq_true, List.all_eq_true] at h
  have := times_iff.1 (rightB_iff.1 (h.2 x hx)).1
  omega
theorem sd_start {L : List Tsk} (h : allB L = true) : Sd L 1 [] := ⟨List.Pairwise.nil, fun d => by
  constructor
  · intro h; simp at h
  · rintro ⟨h1, x, hx, rfl⟩
    have := all_D h x hx
    omega, Nat.zero_lt_one⟩
theorem sd_yes {L : List Tsk} {m : Nat} {s : List Int} (h : Sd L m s) (hm : ∃ x ∈ L, x.2.1 = (m : Int)) : Sd L (m + 1) (s ++ [(m : Int)]) := by
  refine ⟨?_, fun d => ?_, by have := h.2.2; simp; omega⟩
  · rw [List.pairwise_append]
    refine ⟨h.1, List.pairwise_singleton _ _, fun a ha b hb => ?_⟩
    rw [List.mem_singleton.1 hb]
    exact ((h.2.1 a).1 ha).1
  · rw [List.mem_append, h.2.1, List.mem_singleton]
    constructor
    · rintro (⟨h1, h2⟩ | rfl)
      · exact ⟨by omega, h2⟩
      · exact ⟨by omega, hm⟩
    · rintro ⟨h1, h2⟩
      by_cases e : d = (m : Int)
      · exact .inr e
      · exact .inl ⟨by omega, h2⟩
theorem sd_no {L : List Tsk} {m : Nat} {s : List Int} (h : Sd L m s) (hm : ¬ ∃ x ∈ L, x.2.1 = (m : Int)) : Sd L (m + 1) s := by
  refine ⟨h.1, fun d => ?_, by have := h.2.2; omega⟩
  rw [h.2.1]
  constructor
  · rintro ⟨h1, h2⟩; exact ⟨by omega, h2⟩
  · rintro ⟨h1, h2⟩
    by_cases e : d = (m : Int)
    · rw [e] at h2; exact absurd h2 hm
    · exact ⟨by omega, h2⟩
theorem sd_end {L : List Tsk} {s : List Int} (ha : allB L = true) (h : Sd L 201 s) : s = steps L := steps_unique ha h.1 fun d => by
  rw [h.2.1]
  constructor
  · exact fun h => h.2
  · rintro ⟨x, hx, rfl⟩
    have := all_D ha x hx
    exact ⟨by omega, x, hx, rfl⟩

def RefTo (w : World) (L : List Tsk) (e : Ending) (w' : World) : Prop := ∃ A' c', e = .returned (.slice A' (steps L).length c') ∧ Rd w' A' c' (steps L) ∧ Below w.heap.size w w'

set_option maxRecDepth 20000 in
set_option maxHeartbeats 1600000 in
theorem refSteps_any (A : Option Addr) (c : Nat) (L : List Tsk) (w : World) (ha : allB L = true) (H : TL w A c L) :
    Calls Try.prog 14 #[.slice A L.length c] w (RefTo w L) := by
  have hb1 := H.1
  have HT := Lib.hid H
  have HS := Lib.hid (sd_start ha)
  have HA := Lib.hid ha
  clear H ha
  go_enter Try.func14, Try.ntmps14
  go_wp2_with fail
  go_loopw [3, 4] (fun out dv wr => ∃ (m : Nat) (B : Option Addr) (n cp : Nat) (s : List Int), dv = .int .i64 m ∧ out = .slice B n cp ∧ m ≤ 201 ∧ Hid (s.length = n) ∧ Hid (Sd L m s) ∧ Hid (Ow wr w.heap.size 3 B cp s) ∧ Hid (Below w.heap.size w wr)) (fun _ i _ => 201 - (intOf i).toNat)
  case atStart => exact ⟨1, none, 0, 0, [], rfl, rfl, by omega, rfl, HS.out, ow_none _ _ _, Below.refl _ _⟩
  case round =>
    obtain ⟨m, B, n, cp, s, rfl, rfl, hm, HN, HD, HO, HB⟩ := hrel
    clear HS
    by_cases hlt : (m : Int) ≤ 200
    · go_wp2_with fail
      go_loop [5, 6] (fun is i => ∃ (k : Nat) (bv : Bool), i = .int .i64 k ∧ is = .bool bv ∧ k ≤ L.length ∧ Hid (bv = hasD L m k)) (fun _ i => L.length - (intOf i).toNat)
      case atStart => exact ⟨0, false, rfl, rfl, Nat.zero_le _, rfl⟩
      case round =>
        obtain ⟨k, bv, rfl, rfl, hk, HV⟩ := hrel
        by_cases hkl : k < L.length
        · obtain ⟨b, off, rfl, hc⟩ := task_at (HT.out.below HB.out).2.2 (by omega)
          obtain ⟨_, _, _, x2, _, _, _, _, _, _⟩ := hc k hkl
          have HV2 : Hid (hasD L m (k + 1) = (bv || decide ((at_ L k).2.1 = (m : Int)))) := by show _ = _; rw [hasD_succ hkl, ← HV.out]
          clear hc
          generalize at_ L k = x at *
          cases bv with
          | true =>
            have HC : Hid (true = hasD L m (k + 1)) := by show _ = _; rw [HV2.out]; rfl
            go_wp2_with fail
            go_round
            case rel => exact ⟨k + 1, true, by go_num, rfl, hkl, HC⟩
            case measure => simp [intOf]; omega
          | false =>
            by_cases he : x.2.1 = (m : Int)
            · have HC : Hid (true = hasD L m (k + 1)) := by show _ = _; rw [HV2.out, decide_eq_true he]; rfl
              have hbe : (x.2.1 == (m : Int)) = true := by simp [he]
              go_wp2_with fail
              go_round
              case rel => exact ⟨k + 1, true, by go_num, by first | rfl | rw [hbe], hkl, HC⟩
              case measure => simp [intOf]; omega
            · have HC : Hid (false = hasD L m (k + 1)) := by show _ = _; rw [HV2.out, decide_eq_false he]; rfl
              have hbe : (x.2.1 == (m : Int)) = false := by simp [he]
              go_wp2_with fail
              go_round
              case rel => exact ⟨k + 1, false, by go_num, by first | rfl | rw [hbe], hkl, HC⟩
              case measure => simp [intOf]; omega
        · have hkl' : k = L.length := by omega
          subst hkl'
          cases bv with
          | true =>
            have HD2 := Lib.hid (sd_yes HD.out (hasD_yes HV.out.symm))
            have bA := below_one wr (Obj.cells #[.int .i64 m] 3)
            have HDA := Lib.hid (rd_new1 wr 3 (m : Int) (by exact ⟨by omega, by omega⟩))
            have HRA := Lib.hid (HO.out.alloc (Obj.cells #[.int .i64 m] 3))
            have BA := Lib.hid (below_step HB.out bA)
            have HJ2 : Hid (n + 1 ≤ 1000000) := by have := HD.out.2.2; have := HN.out; show _ ≤ _; omega
            have HN2 : Hid ((s ++ [(m : Int)]).length = n + 1) := by show List.length _ = _; rw [List.length_append, HN.out]; rfl
            clear bA
            go_wp2_with (at_builtin
                         refine list_app_n slI rfl _ _ rfl (base := w.heap.size) (l := s) (r := [(m : Int)]) (n := n) (m := 1) HN.out rfl rfl rfl HRA.out HDA.out HJ2.out (by have := BA.out.size; exact this) ?_
                         intro A3 c3 w3 k1 k2 k3
                         have O3 := Lib.hid k1
                         have B3 := Lib.hid (BA.out.trans k2)
                         clear k1 k2 k3)
            go_roundw
            case rel => exact ⟨m + 1, A3, n + 1, c3, _, by go_num, rfl, by omega, HN2, HD2, O3, B3⟩
            case measure => simp [intOf]; omega
          | false =>
            have HD2 := Lib.hid (sd_no HD.out (hasD_no HV.out.symm))
            go_wp2_with fail
            go_roundw
            case rel => exact ⟨m + 1, B, n, cp, s, by go_num, rfl, by omega, HN, HD2, HO, HB⟩
            case measure => simp [intOf]; omega
    · have hm1 : m = 201 := by omega
      subst hm1
      have HE := Lib.hid (sd_end HA.out HD.out)
      go_wp2_with fail
      go_ret
      exact ⟨B, cp, by rw [← HE.out, HN.out]; rfl, by rw [← HE.out]; exact HO.out.rd, HB.out⟩

set_option maxRecDepth 20000 in
set_option maxHeartbeats 1600000 in
theorem sameInts_one (A B : Option Addr) (c d : Nat) (l : List Int) (n : Nat) (hn : l.length = n) (w : World) (hbig : n ≤ 1000000) (hr : Rd w A c l) (hs : Rd w B d l) :
    Calls Try.prog 13 #[.slice A n c, .slice B n d] w fun e w' => e = .returned (.bool true) ∧ Below w.heap.size w w' := by
  subst hn
  have HR := Lib.hid hr
  have HS := Lib.hid hs
  clear hr hs
  go_enter Try.func13, Try.ntmps13
  go_wp2_with fail
  go_loopw [5] (fun i wr => ∃ k : Nat, i = .int .i64 k ∧ k ≤ l.length ∧ Hid (Below w.heap.size w wr)) (fun i _ => l.length - (intOf i).toNat)
  case atStart => exact ⟨0, rfl, Nat.zero_le _, Below.refl _ _⟩
  case round =>
    obtain ⟨k, rfl, hk, HB⟩ := hrel
    by_cases hlt : k < l.length
    · obtain ⟨b, off, rfl, hc⟩ := (HR.out.below HB.out).int (by omega)
      obtain ⟨x1, _⟩ := hc k hlt
      clear hc
      obtain ⟨b2, off2, rfl, hc⟩ := (HS.out.below HB.out).int (by omega)
      obtain ⟨y1, _⟩ := hc k hlt
      clear hc
      generalize at_ l k = x at *
      have i1 : (0 : Int) ≤ (k : Int) := by omega
      have i2 : (k : Int) < (l.length : Int) := by omega
      go_wp2_with fail
      replace x1 := cell_bw x1
      replace y1 := cell_bw y1
      refine wp_region_bw (by kernel_rfl) (by kernel_rfl) ?_
      repeat
        (with_reducible refine wpQuiet_step (fun K hK => ?_)
         go_simp
         first
           | (with_reducible refine hK _ ?_
              clear hK K)
           | (rw [if_neg]
              rotate_left
              focus (intro h; cases h; done)
              with_reducible refine hK _ ?_
              clear hK K)
           | (apply Exists.intro
              refine ⟨fun _ => ?_, hK _ ?_⟩
              (fail)
              clear hK K))
      with_reducible refine wpQuiet_nil ?_
      intro wb hw'
      obtain ⟨⟨wb', lb⟩, hw''⟩ := hw'
      subst hw''
      have HB2 := Lib.hid (below_step HB.out lb)
      clear lb
      go_wp2_with fail
      go_roundw
      case rel => exact ⟨k + 1, by go_num, hlt, HB2⟩
      case measure => simp [intOf]; omega
    · go_wp2_with fail
      go_ret
      exact ⟨rfl, HB.out⟩

end Bk
end Go.Proofs.Ytnkgfkmdfplneaa
