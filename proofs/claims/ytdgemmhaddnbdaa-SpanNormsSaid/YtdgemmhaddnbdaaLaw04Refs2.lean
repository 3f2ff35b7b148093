/-
  Layer 4: the document's answers: Same, edge.
-/
import Derived.Test.YtdgemmhaddnbdaaLaw04Refs
namespace Go.Proofs.Ytdgemmhaddnbdaa
open Go.RowKit Go.Sort
namespace Hp

theorem at_eq_of {a b : List It} (hl : a.length = b.length) (h : ∀ i, i < a.length → at_ a i = at_ b i) : a = b := by
  apply List.ext_getElem hl
  intro i h1 h2
  have := h i h1
  simpa [at_, List.getD_eq_getElem?_getD, h1, h2] using this

theorem same_apart (n m : Nat) (A B : Option Addr) (c d : Nat) (w : World) (hne : n ≠ m) :
    Calls Try.prog 12 #[.slice A n c, .slice B m d] w fun e w' => e = .returned (.bool false) ∧ Below w.heap.size w w' := by
  have hb : ((n : Int) != (m : Int)) = true := by rw [bne_iff_ne]; omega
  have hb2 : ((n : Int) == (m : Int)) = false := beq_eq_false_iff_ne.2 (by omega)
  go_enter Try.func12, Try.ntmps12
  go_wp2
  go_ret
  exact ⟨rfl, Below.refl _ _⟩

set_option maxHeartbeats 1600000 in
theorem same_len (A B : Option Addr) (c d : Nat) (a b : List It) (w : World) (hbig : a.length ≤ 1000000) (hl : a.length = b.length) (ha : Rd w A c a) (hb : Rd w B d b) :
    Calls Try.prog 12 #[.slice A a.length c, .slice B a.length d] w fun e w' => e = .returned (.bool (decide (a = b))) ∧ Below w.heap.size w w' := by
  have HA := Lib.hid ha
  have HBb := Lib.hid hb
  have HL := Lib.hid hl
  clear ha hb hl
  go_enter Try.func12, Try.ntmps12
  go_wp2_with fail
  go_loopw [5] (fun i wr => ∃ k : Nat, k ≤ a.length ∧ i = .int .i64 k ∧ Hid (∀ j, j < k → at_ a j = at_ b j) ∧ Hid (Below w.heap.size w wr)) (fun i _ => a.length - (intOf i).toNat)
  case atStart => exact ⟨0, Nat.zero_le _, rfl, (fun j hj => by omega), Below.refl _ _⟩
  case round =>
    obtain ⟨k, hk, rfl, HH, HB⟩ := hrel
    by_cases hlt : k < a.length
    · obtain ⟨ab, ao, rfl, hca⟩ := (HA.out.below HB.out).2 (by omega)
      obtain ⟨bb, bo, rfl, hcb⟩ := (HBb.out.below HB.out).2 (by have := HL.out; omega)
      obtain ⟨x1, x2⟩ := hca k hlt
      obtain ⟨y1, y2⟩ := hcb k (by have := HL.out; omega)
      clear hca hcb
      have q1 : (0 : Int) ≤ (k : Int) := by omega
      have q2 : (k : Int) < (a.length : Int) := by omega
      by_cases he : at_ a k = at_ b k
      · have HE := Lib.hid he
        rw [← he] at y1 y2
        clear he
        go_wp2_with fail
        go_quiet (fail)
        go_wp2_with fail
        go_roundw
        case rel =>
          refine ⟨k + 1, by omega, by go_num, ?_, ⟨HB.out.os, HB.out.tape, HB.out.output, HB.out.size, HB.out.block⟩⟩
          intro j hj
          by_cases e : j = k
          · subst e; exact HE.out
          · exact HH.out j (by omega)
        case measure => simp [intOf]; omega
      · have HN : Hid (decide (a = b) = false) := decide_eq_false (fun e => he (by rw [e]))
        generalize at_ a k = x at *
        generalize at_ b k = y at *
        obtain ⟨xa, xb⟩ := x
        obtain ⟨ya, yb⟩ := y
        simp only [Prod.mk.injEq] at he
        simp only at x1 x2 y1 y2
        by_cases h1 : xa = ya
        · subst h1
          have h2 : ¬ xb = yb := fun e => he ⟨rfl, e⟩
          have hb2 : (xb == yb) = false := beq_eq_false_iff_ne.2 h2
          clear he
          go_wp2_with fail
          go_quiet (fail)
          go_wp2_with fail
          go_ret
          exact ⟨ret_bool HN.out.symm, ⟨HB.out.os, HB.out.tape, HB.out.output, HB.out.size, HB.out.block⟩⟩
        · have hb2 : (xa == ya) = false := beq_eq_false_iff_ne.2 h1
          clear he
          go_wp2_with fail
          go_quiet (fail)
          go_wp2_with fail
          go_ret
          exact ⟨ret_bool HN.out.symm, ⟨HB.out.os, HB.out.tape, HB.out.output, HB.out.size, HB.out.block⟩⟩
    · go_wp2_with fail
      go_ret
      exact ⟨ret_bool (by rw [eq_comm, decide_eq_true_eq]; exact at_eq_of HL.out (fun i hi => HH.out i (by omega))), HB.out⟩

theorem same_any (A B : Option Addr) (c d : Nat) (a b : List It) (w : World) (h1 : a.length ≤ 1000000) (ha : Rd w A c a) (hb : Rd w B d b) :
    Calls Try.prog 12 #[.slice A a.length c, .slice B b.length d] w fun e w' => e = .returned (.bool (decide (a = b))) ∧ Below w.heap.size w w' := by
  by_cases hl : a.length = b.length
  · rw [← hl]
    exact same_len A B c d a b w h1 hl ha hb
  · rw [decide_eq_false (fun e : a = b => hl (by rw [e]))]
    exact same_apart _ _ A B c d w hl

theorem same_n (n m : Nat) (A B : Option Addr) (c d : Nat) (a b : List It) (w : World) (hn : a.length = n) (hm : b.length = m) (h1 : a.length ≤ 1000000) (ha : Rd w A c a) (hb : Rd w B d b) :
    Calls Try.prog 12 #[.slice A n c, .slice B m d] w fun e w' => e = .returned (.bool (decide (a = b))) ∧ Below w.heap.size w w' := by
  subst hn
  subst hm
  exact same_any A B c d a b w h1 ha hb

set_option maxHeartbeats 400000 in
theorem edge_any (A : Option Addr) (c : Nat) (l : List It) (t : Int) (w : World) (hbig : l.length ≤ 1000000) (h0 : 0 ≤ t) (h1 : t ≤ 4611686018427387903) (hr : Rd w A c l) :
    Calls Try.prog 25 #[.slice A l.length c, .int .i64 t] w fun e w' => e = .returned (.bool (inn l t != inn l (t - 1))) ∧ Below w.heap.size w w' := by
  have HR := Lib.hid hr
  clear hr
  go_enter Try.func25, Try.ntmps25
  go_wp2_with fail
  refine (refIn_any A c l t _ hbig HR.out).mono ?_
  rintro e w1 ⟨rfl, b1⟩
  have B1 := Lib.hid b1
  clear b1
  generalize hp : inn l t = p
  have HP := Lib.hid hp
  clear hp
  go_wp2_with fail
  refine (refIn_any A c l (t - 1) _ hbig (HR.out.below B1.out)).mono ?_
  rintro e w2 ⟨rfl, b2⟩
  have B2 := Lib.hid (below_step B1.out b2)
  clear b2
  generalize hq : inn l (t - 1) = q
  have HQ := Lib.hid hq
  clear hq
  go_wp2_with fail
  go_ret
  exact ⟨ret_bool (by rw [HP.out, HQ.out]; cases p <;> cases q <;> rfl), B2.out⟩

end Hp
end Go.Proofs.Ytdgemmhaddnbdaa
