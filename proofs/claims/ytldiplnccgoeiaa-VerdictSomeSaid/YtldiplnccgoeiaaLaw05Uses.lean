/-
  Layer 5: the document's answer Uses.
-/
import Derived.Test.YtldiplnccgoeiaaLaw05Refs
import Derived.Test.YtldiplnccgoeiaaMemInts
namespace Go.Proofs.Ytldiplnccgoeiaa
open Go.RowKit Mm
namespace Tk

/-- how many sections, of the first k, are of the resource -/
def secTo (l : List Sc) (r : Int) (k : Nat) : Nat := ((l.take k).filter fun x => decide (x.1 = r)).length
theorem secTo_yes {l : List Sc} {r : Int} {k : Nat} (h : k < l.length) (hd : (at_ l k).1 = r) : secTo l r (k + 1) = secTo l r k + 1 := by
  unfold secTo
  rw [take_succ_at h, List.filter_append, List.length_append]
  simp [hd]
theorem secTo_no {l : List Sc} {r : Int} {k : Nat} (h : k < l.length) (hd : ¬ (at_ l k).1 = r) : secTo l r (k + 1) = secTo l r k := by
  unfold secTo
  rw [take_succ_at h, List.filter_append, List.length_append]
  simp [hd]
theorem secTo_any (l : List Sc) (r : Int) : decide (0 < secTo l r l.length) = l.any fun x => decide (x.1 = r) := by
  unfold secTo
  rw [List.take_length, Bool.eq_iff_iff, decide_eq_true_eq, List.length_pos_iff_exists_mem, List.any_eq_true]
  constructor
  · rintro ⟨x, hx⟩
    exact ⟨x, (List.mem_filter.1 hx).1, (List.mem_filter.1 hx).2⟩
  · rintro ⟨x, hx, h⟩
    exact ⟨x, List.mem_filter.2 ⟨hx, h⟩⟩

set_option maxHeartbeats 800000 in
theorem refUses_any (C D T : Int) (A : Option Addr) (c : Nat) (l : List Sc) (r : Int) (w : World) (hbig : l.length ≤ 1000000) (hr : Rd w A c l) :
    Calls Try.prog 40 #[.agg #[.int .i64 C, .int .i64 D, .int .i64 T, .slice A l.length c], .int .i64 r] w fun e w' => e = .returned (.bool (l.any fun x => decide (x.1 = r))) ∧ Below w.heap.size w w' := by
  obtain ⟨t1, t2, t3, t4⟩ := box_new w C D T A l.length c
  have b0 := below_one w (Obj.cells #[.int .i64 C, .int .i64 D, .int .i64 T, .slice A l.length c] 47)
  have HA := Lib.hid (secTo_any l r)
  go_enter Try.func40, Try.ntmps40
  go_wp2_with fail
  have HR := Lib.hid hr
  have B0 := Lib.hid b0
  clear hr b0
  generalize w.alloc (Obj.cells #[.int .i64 C, .int .i64 D, .int .i64 T, .slice A l.length c] 47) = w0 at *
  clear t1 t2 t3
  go_loopw [5, 6] (fun n i wr => ∃ k q : Nat, i = .int .i64 k ∧ n = .int .i64 q ∧ k ≤ l.length ∧ q ≤ k ∧ Hid (q = secTo l r k) ∧ Hid (Below w0.heap.size w0 wr)) (fun _ i _ => l.length - (intOf i).toNat)
  case atStart => exact ⟨0, 0, rfl, rfl, Nat.zero_le _, Nat.le_refl _, rfl, Below.refl _ _⟩
  case round =>
    obtain ⟨k, q, rfl, rfl, hk, hqk, HQ, HB⟩ := hrel
    replace t4 := cell_below HB.out t4
    by_cases hlt : k < l.length
    · obtain ⟨b, off, rfl, hc⟩ := sec_at (HR.out.below (below_step B0.out HB.out)) (by omega)
      obtain ⟨x1, x2, x3, _, _, _⟩ := hc k hlt
      clear hc x2 x3
      have HY : Hid ((at_ l k).1 = r → q + 1 = secTo l r (k + 1)) := fun h => by rw [secTo_yes hlt h, ← HQ.out]
      have HN : Hid (¬ (at_ l k).1 = r → q = secTo l r (k + 1)) := fun h => by rw [secTo_no hlt h, ← HQ.out]
      generalize at_ l k = x at *
      by_cases he : x.1 = r
      · have HC := Lib.hid (HY.out he)
        go_wp2_with fail
        go_roundw
        case rel => exact ⟨k + 1, q + 1, by go_num, by go_num, hlt, by omega, HC, HB⟩
        case measure => simp [intOf]; omega
      · have HC := Lib.hid (HN.out he)
        go_wp2_with fail
        go_roundw
        case rel => exact ⟨k + 1, q, by go_num, rfl, hlt, by omega, HC, HB⟩
        case measure => simp [intOf]; omega
    · have hkl : k = l.length := by omega
      subst hkl
      have HF : Hid (decide (0 < q) = l.any fun x => decide (x.1 = r)) := by show _ = _; rw [← HA.out, HQ.out]
      go_wp2_with fail
      go_ret
      exact ⟨ret_bool (by rw [← HF.out]), below_step B0.out HB.out⟩

end Tk
end Go.Proofs.Ytldiplnccgoeiaa
