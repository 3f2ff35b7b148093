/-
  Layer 8 (block): Steps.
-/
import Derived.Test.YtnkgfkmdfplneaaBlockInsert
import Derived.Test.YtnkgfkmdfplneaaBlockOf
namespace Go.Proofs.Ytnkgfkmdfplneaa
open Go.RowKit Mm Tk
namespace Bk

/-- what Steps answers -/
def stpB (L : List Tsk) : List Int := if allB L = true then steps L else []
def StepsTo (w : World) (L : List Tsk) (e : Ending) (w' : World) : Prop := ∃ A' c', e = .returned (.tuple #[.slice A' (stpB L).length c', .int .i64 (errB L : Nat)]) ∧ Rd w' A' c' (stpB L) ∧ Below w.heap.size w w'

/-- the D of some tasks, rising, each once -/
def Ds (L : List Tsk) (s : List Int) : Prop := s.Pairwise (· < ·) ∧ (∀ d, d ∈ s ↔ ∃ x ∈ L, x.2.1 = d) ∧ s.length ≤ L.length
theorem ds_nil : Ds [] [] := ⟨List.Pairwise.nil, fun d => by simp, Nat.le_refl _⟩
theorem ds_step {L : List Tsk} {s s' : List Int} {k : Nat} (hk : k < L.length) (h : Ds (L.take k) s) (hi : Ins s (at_ L k).2.1 s') : Ds (L.take (k + 1)) s' := by
  refine ⟨hi.1, fun d => ?_, ?_⟩
  · rw [hi.2.1, h.2.1, take_succ_at hk]
    constructor
    · rintro (rfl | ⟨x, hx, rfl⟩)
      · exact ⟨_, List.mem_append.2 (.inr (List.mem_singleton.2 rfl)), rfl⟩
      · exact ⟨x, List.mem_append.2 (.inl hx), rfl⟩
    · rintro ⟨x, hx, rfl⟩
      rcases List.mem_append.1 hx with hx | hx
      · exact .inr ⟨x, hx, rfl⟩
      · rw [List.mem_singleton.1 hx]; exact .inl rfl
  · have h1 := hi.2.2
    have h2 := h.2.2
    rw [List.length_take] at h2 ⊢
    omega

set_option maxHeartbeats 1600000 in
theorem steps_any (A : Option Addr) (c : Nat) (L : List Tsk) (w : World) (H : TL w A c L) :
    Calls Try.prog 10 #[.slice A L.length c] w (StepsTo w L) := by
  have hb1 := H.1
  have HT := Lib.hid H
  clear H
  cases ha : allB L with
  | false =>
    have HZ : Hid (stpB L = [] ∧ errB L = 1) := by show _ ∧ _; simp [stpB, errB, ha]
    go_enter Try.func10, Try.ntmps10
    go_wp2_with fail
    refine (all_any A c L _ hb1 HT.out.2.1 HT.out.2.2).mono ?_
    rintro e w1 ⟨rfl, b1⟩
    rw [ha]
    have B1 := Lib.hid b1
    clear b1
    go_wp2_with fail
    go_ret2
    exact ⟨none, 0, by rw [HZ.out.1, HZ.out.2]; rfl, by rw [HZ.out.1]; exact rd_nil (fun _ => rfl) (Nat.zero_le _), B1.out⟩
  | true =>
    have HZ : Hid (stpB L = steps L ∧ errB L = 0) := by show _ ∧ _; rw [stpB, errB, if_pos ha, if_pos ha]; exact ⟨rfl, rfl⟩
    have HU : Hid (∀ s, Ds L s → s = steps L) := fun s hs => steps_unique ha hs.1 hs.2.1
    have hL8 : L.length ≤ 8 := by unfold allB at ha; rw [Bool.and_eq_true, decide_eq_true_eq] at ha; exact ha.1
    have HL8 := Lib.hid hL8
    clear hL8
    go_enter Try.func10, Try.ntmps10
    go_wp2_with fail
    refine (all_any A c L _ hb1 HT.out.2.1 HT.out.2.2).mono ?_
    rintro e w1 ⟨rfl, b1⟩
    rw [ha]
    have B1 := Lib.hid b1
    clear b1 ha
    go_wp2_with fail
    go_loopw [4, 12] (fun st i wr => ∃ (k : Nat) (B : Option Addr) (n d : Nat) (s : List Int), i = .int .i64 k ∧ st = .slice B n d ∧ k ≤ L.length ∧ Hid (s.length = n) ∧ Hid (Ds (L.take k) s) ∧ Hid (Ow wr w.heap.size 3 B d s) ∧ Hid (Below w.heap.size w wr)) (fun _ i _ => L.length - (intOf i).toNat)
    case atStart => exact ⟨0, none, 0, 0, [], rfl, rfl, Nat.zero_le _, rfl, ds_nil, ow_none _ _ _, B1.out⟩
    case round =>
      obtain ⟨k, B, n, d, s, rfl, rfl, hk, HN, HD, HO, HB⟩ := hrel
      by_cases hlt : k < L.length
      · obtain ⟨bb, off, rfl, hc⟩ := task_at (HT.out.below HB.out).2.2 (by omega)
        obtain ⟨E, f, x1, x2, x3, x4, _, f2, _, _⟩ := hc k hlt
        have HS : Hid (∀ s', Ins s (at_ L k).2.1 s' → Ds (L.take (k + 1)) s') := fun s' hi => ds_step hlt HD.out hi
        have HF := Lib.hid f2
        clear hc f2
        generalize at_ L k = x at *
        have bw := below_one wr (Obj.cells #[.int .i64 x.1, .int .i64 x.2.1, .int .i64 x.2.2.1, .slice E x.2.2.2.length f] 37)
        have B2 := Lib.hid (below_step HB.out bw)
        have HO2 := Lib.hid (HO.out.below bw (Nat.le_refl _))
        clear bw
        go_wp2_with fail
        generalize wr.alloc (Obj.cells #[.int .i64 x.1, .int .i64 x.2.1, .int .i64 x.2.2.1, .slice E x.2.2.2.length f] 37) = w2 at *
        have hn := HN.out
        subst hn
        refine (insert_any w.heap.size B d s x.2.1 _ B2.out.size (by have := HD.out.2.2; rw [List.length_take] at this; have := HL8.out; omega) HF.out HD.out.1 HO2.out).mono ?_
        rintro e w3 ⟨A', c', l', rfl, k1, k2, k3⟩
        have O3 := Lib.hid k1
        have D3 := Lib.hid (HS.out l' k2)
        have B3 := Lib.hid (B2.out.trans k3)
        clear k1 k2 k3
        go_wp2_with fail
        go_roundw
        case rel => exact ⟨k + 1, A', _, c', l', by go_num, rfl, hlt, rfl, D3, O3, B3⟩
        case measure => simp [intOf]; omega
      · have hkl : k = L.length := by omega
        subst hkl
        have HE : Hid (s = steps L) := by have := HD.out; rw [List.take_length] at this; exact HU.out s this
        go_wp2_with fail
        go_ret2
        exact ⟨B, d, by rw [HZ.out.1, HZ.out.2, ← HE.out, HN.out]; rfl, by rw [HZ.out.1, ← HE.out]; exact HO.out.rd, HB.out⟩

end Bk
end Go.Proofs.Ytnkgfkmdfplneaa
