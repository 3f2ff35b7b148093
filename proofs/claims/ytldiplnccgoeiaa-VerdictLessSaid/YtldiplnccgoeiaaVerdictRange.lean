/-
  Layer 10 (verdict): the range over the ticks at which a job is due.
-/
import Derived.Test.YtldiplnccgoeiaaVerdictHas
import Derived.RangeFuncNested
import Derived.RangeFuncBound
import Derived.RangeFuncCalls
import Derived.RangeFuncLeaves
import Derived.Shelf.Abstract
import Derived.Shelf.RegionOpen
import Derived.OwnWalkIn
import Derived.TacticsInMore
import Derived.LoopNIn
import Derived.LoopIn
namespace Go.Proofs.Ytldiplnccgoeiaa
open Go.RowKit Mm Tk
attribute [local go_sem] Oper.semAt_some
namespace Vd

/-- the ticks that are tried -/
abbrev Tick := { t : Nat // t ≤ 3000 }
/-- all ticks below k at which a job is due have come; no more than k -/
def Seen (L : List Tsk) (k : Nat) (pre : List Tick) : Prop := pre.length ≤ k ∧ ∀ t : Nat, t < k → dueL L t = true → ∃ x ∈ pre, x.1 = t
theorem Seen.zero (L : List Tsk) : Seen L 0 [] := ⟨Nat.le_refl _, fun t h => by omega⟩
theorem Seen.skip {L : List Tsk} {k : Nat} {pre : List Tick} (h : Seen L k pre) (hd : dueL L k = false) : Seen L (k + 1) pre := ⟨by have := h.1; omega, fun t ht hdt => by
  by_cases e : t = k
  · subst e; rw [hd] at hdt; cases hdt
  · exact h.2 t (by omega) hdt⟩
theorem Seen.next {L : List Tsk} {k : Nat} {pre : List Tick} (h : Seen L k pre) (hk : k ≤ 3000) : Seen L (k + 1) (pre ++ [⟨k, hk⟩]) := ⟨by have := h.1; simp; omega, fun t ht hdt => by
  by_cases e : t = k
  · subst e; exact ⟨⟨t, hk⟩, by simp, rfl⟩
  · obtain ⟨x, hx, hxe⟩ := h.2 t (by omega) hdt
    exact ⟨x, by simp [hx], hxe⟩⟩
/-- it has gone through all; it was left -/
def AllOf (L : List Tsk) (E : Nat) (xs : List Tick) : Prop := ∀ t : Nat, t ≤ E → dueL L t = true → ∃ x ∈ xs, x.1 = t
def LeftAt (L : List Tsk) (E : Nat) (pre : List Tick) : Prop := ∃ ys x, pre = ys ++ [x] ∧ x.1 ≤ E ∧ ∀ t : Nat, t < x.1 → dueL L t = true → ∃ y ∈ ys, y.1 = t

theorem grown_of_below {w w' : World} (b : Below w.heap.size w w') : w.grownBy w' none := ⟨b.os, b.tape, b.output, b.size, fun k hk _ => b.block k hk⟩
theorem AbidesFrom.low {β : Type} {B : Nat} {J : β → World → Prop} (h : AbidesFrom B J) {s : β} {w w' : World} (hs : J s w) (b : Below w.heap.size w w') : J s w' := h s w w' none hs (grown_of_below b) (fun r e => by cases e)

set_option maxRecDepth 100000 in
set_option maxHeartbeats 2000000 in
theorem dl_stops (n : Nat) (hn : 1 ≤ n) (XE XL E : Nat) (hE : E ≤ 3000) (A : Option Addr) (c : Nat) (L : List Tsk) (hL : allB L = true) (w : World) (c1 : w.cell? ⟨XE, 0, none⟩ = some (.int .i64 E)) (c2 : w.cell? ⟨XL, 0, none⟩ = some (.slice A L.length c)) (H : TL w A c L) :
    SeqStopsK Fence.wide n Try.prog 46 #[.pointer (some ⟨XE, 0, none⟩), .pointer (some ⟨XL, 0, none⟩)] (fun x : Tick => #[Value.int .i64 x.1]) (Below w.heap.size) (AllOf L E) (LeftAt L E) 5000 w := fun l J Jx W hW hJ hJx hY h0 => by
  have HT := Lib.hid (H.below hW)
  have HC1 := Lib.hid c1
  have HC2 := Lib.hid c2
  have HY := Lib.hid hY
  have HJ := Lib.hid hJ
  have HW := Lib.hid hW
  have HL := Lib.hid hL
  have HLN : Hid (L.length ≤ 8) := Dm.all_len hL
  have HH := Lib.hid H
  have H0 := Lib.hid h0
  have d1 := (hW.cell (p := ⟨XE, 0, none⟩) (lt_of_cell c1)).trans c1
  clear hJ hJx hY h0 c1 c2 H hW hL
  refine callsIn_of_wp Try.func46 rfl trivial ?_ rfl
  simp only [Try.ntmps46, List.size_toArray, List.length_cons, List.length_nil, Nat.reduceAdd, Nat.reduceSub, Array.replicate_succ, Array.replicate_zero, List.push_toArray, List.append_toArray, List.nil_append, List.cons_append]
  have i0 : IntKind.i64.wrap ((E : Int) + 1) = (E : Int) + 1 := IntWalk.i64_in _ (by omega)
  gi_wp2_with fail
  gi_loopw [8] (fun p wr => ∃ (k : Nat) (pre : List Tick), p = .int .i64 k ∧ k ≤ E + 1 ∧ Hid (Seen L k pre) ∧ Hid (J pre wr) ∧ Hid (Below w.heap.size w wr)) (fun p _ => E + 1 - (intOf p).toNat)
  case atStart => exact ⟨0, [], rfl, Nat.zero_le _, Seen.zero L, H0.out, HW.out⟩
  case round =>
    obtain ⟨k, pre, rfl, hk, HS, HJP, HB⟩ := hrel
    by_cases hlt : k < E + 1
    · have hk3 : k ≤ 3000 := by omega
      have c1 := (HB.out.cell (p := ⟨XE, 0, none⟩) (lt_of_cell HC1.out)).trans HC1.out
      have c2 := (HB.out.cell (p := ⟨XL, 0, none⟩) (lt_of_cell HC2.out)).trans HC2.out
      have bx := below_one wr (Obj.cells #[.int .i64 k] 3)
      have x1 : (wr.alloc (Obj.cells #[.int .i64 k] 3)).cell? ⟨wr.heap.size, 0, none⟩ = some (.int .i64 k) := by simp
      have hT := (HH.out.below HB.out).below bx
      replace c1 := cell_below bx c1
      replace c2 := cell_below bx c2
      have JX := Lib.hid (AbidesFrom.low HJ.out HJP.out bx)
      have BX := Lib.hid (below_step HB.out bx)
      have HP := Lib.hid (due_closure L HL.out wr.heap.size k (by omega) _ x1)
      have HT2 := Lib.hid hT
      clear bx hT d1
      have hlen : pre.length < 5000 := by have := HS.out.1; omega
      cases hd : dueL L k with
      | true =>
        have HD : Hid (L.any (dueT k) = true) := hd
        have HN := Lib.hid (HS.out.next hk3)
        clear hd
        gi_wp2_with fail
        refine ⟨trivial, (callsIn_wide.2 (hasIn 47 _ (dueT k) dueEnters A c L true HD.out L.length rfl _ HP.out HT2.out)).mono ?_⟩
        rintro e w2 ⟨rfl, b2⟩
        have x2 := cell_below b2 x1
        have J2 := AbidesFrom.low HJ.out JX.out b2
        have B2 := Lib.hid (below_step BX.out b2)
        obtain ⟨fn, tmps, assign, body, hy, hR⟩ := HY.out pre ⟨k, hk3⟩ w2 J2 hlen
        dsimp only at hy
        clear J2 b2 x1 c1 c2
        gi_wp2_with fail
        refine hR.mono ?_
        rintro e w3 (⟨rfl, hJ3, hk3'⟩ | ⟨rfl, hJx3⟩)
        · have J3 := Lib.hid hJ3
          have B3 := Lib.hid (B2.out.trans hk3')
          clear hJ3 hk3' hR hy x2
          gi_wp2_with fail
          go_roundw
          case rel => exact ⟨k + 1, pre ++ [⟨k, hk3⟩], by go_num, hlt, HN, J3, B3⟩
          case measure => simp [intOf]; omega
        · have J3 := Lib.hid hJx3
          clear hJx3 hR hy x2
          gi_wp2_with fail
          refine bodyPost_ret (results_none rfl _ _ _) rfl ?_
          exact ⟨⟨_, rfl⟩, .inr ⟨pre ++ [⟨k, hk3⟩], ⟨pre, ⟨k, hk3⟩, rfl, by show k ≤ E; omega, HS.out.2⟩, J3.out⟩⟩
      | false =>
        have HD : Hid (L.any (dueT k) = false) := hd
        have HN := Lib.hid (HS.out.skip hd)
        clear hd
        gi_wp2_with fail
        refine ⟨trivial, (callsIn_wide.2 (hasIn 47 _ (dueT k) dueEnters A c L false HD.out L.length rfl _ HP.out HT2.out)).mono ?_⟩
        rintro e w2 ⟨rfl, b2⟩
        have J2 := Lib.hid (AbidesFrom.low HJ.out JX.out b2)
        have B2 := Lib.hid (below_step BX.out b2)
        clear b2 x1 c1 c2
        gi_wp2_with fail
        refine ⟨fun _ h => (by cases h), ?_⟩
        gi_wp2_with fail
        go_roundw
        case rel => exact ⟨k + 1, pre, by go_num, hlt, HN, J2, B2⟩
        case measure => simp [intOf]; omega
    · have hkE : k = E + 1 := by omega
      subst hkE
      have i1 : ¬ ((E + 1 : Nat) : Int) < (E : Int) + 1 := by omega
      gi_wp2_with fail
      go_end0
      exact ⟨⟨_, rfl⟩, .inl ⟨pre, fun t ht hd => HS.out.2 t (by omega) hd, HJP.out⟩⟩

end Vd
end Go.Proofs.Ytldiplnccgoeiaa
