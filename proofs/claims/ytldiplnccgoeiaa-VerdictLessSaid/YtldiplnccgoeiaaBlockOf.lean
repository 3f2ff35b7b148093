/-
  Layer 8 (block): Of.
-/
import Derived.Test.YtldiplnccgoeiaaBlockUsed
namespace Go.Proofs.Ytldiplnccgoeiaa
open Go.RowKit Mm Tk Go.Shelf
namespace Bk

theorem keepEnters : ∀ args w, (callFunc 37 args).run Try.prog w = .ok (.enter 37 args) w := enters_of Try.func37 (by kernel_rfl) rfl
theorem blkP_eq {L : List Tsk} (h : allB L = true) (t : Int) : blkP L t = blkS L t := by
  funext s
  unfold blkP blkS
  rw [near_eq h]
/-- what Of answers -/
def ofB (L : List Tsk) (t : Int) : Nat := if allB L = true then blk L t else 0
def errB (L : List Tsk) : Nat := if allB L = true then 0 else 1

theorem best_new (w : World) : Best (w.alloc (.cells #[.int .i64 0] 3)) w.heap.size 0 := ⟨by simp, by simp⟩

set_option maxHeartbeats 1600000 in
theorem of_any (A : Option Addr) (c : Nat) (L : List Tsk) (t : Int) (w : World) (H : TL w A c L) :
    Calls Try.prog 22 #[.slice A L.length c, .int .i64 t] w fun e w' => e = .returned (.tuple #[.int .i64 (ofB L t : Nat), .int .i64 (errB L : Nat)]) ∧ Below w.heap.size w w' := by
  have hb1 := H.1
  have c1 : ((w.alloc (Obj.cells #[.slice A L.length c] 22)).alloc (Obj.cells #[.int .i64 t] 3)).cell? ⟨w.heap.size, 0, none⟩ = some (.slice A L.length c) := cell_new (by simp) _
  have c2 : ((w.alloc (Obj.cells #[.slice A L.length c] 22)).alloc (Obj.cells #[.int .i64 t] 3)).cell? ⟨w.heap.size + 1, 0, none⟩ = some (.int .i64 t) := by simp
  have b0 := below_two w (Obj.cells #[.slice A L.length c] 22) (Obj.cells #[.int .i64 t] 3)
  have HT := Lib.hid (H.below b0)
  have B0 := Lib.hid b0
  clear b0
  clear H
  cases ha : allB L with
  | false =>
    have HZ : Hid (ofB L t = 0 ∧ errB L = 1) := by show _ ∧ _; simp [ofB, errB, ha]
    go_enter Try.func22, Try.ntmps22
    go_wp2_with fail
    generalize (w.alloc (Obj.cells #[.slice A L.length c] 22)).alloc (Obj.cells #[.int .i64 t] 3) = w0 at *
    refine (all_any A c L _ hb1 HT.out.2.1 HT.out.2.2).mono ?_
    rintro e w1 ⟨rfl, b1⟩
    rw [ha]
    have B1 := Lib.hid (below_step B0.out b1)
    clear b1
    go_wp2_with fail
    go_ret2
    exact ⟨by rw [HZ.out.1, HZ.out.2]; rfl, B1.out⟩
  | true =>
    have HZ : Hid (ofB L t = mostTo (blkT L t) L L.length ∧ errB L = 0) := by show _ ∧ _; rw [ofB, errB, if_pos ha, if_pos ha]; exact ⟨rfl, rfl⟩
    have HP := Lib.hid (blkP_eq ha t)
    go_enter Try.func22, Try.ntmps22
    go_wp2_with fail
    generalize (w.alloc (Obj.cells #[.slice A L.length c] 22)).alloc (Obj.cells #[.int .i64 t] 3) = w0 at *
    refine (all_any A c L _ hb1 HT.out.2.1 HT.out.2.2).mono ?_
    rintro e w1 ⟨rfl, b1⟩
    rw [ha]
    replace HT := Lib.hid (HT.out.below b1)
    replace c1 := (cell_below b1) c1
    replace c2 := (cell_below b1) c2
    have B1 := Lib.hid (below_step B0.out b1)
    clear b1 ha
    have d1 := cell_new c1 (Obj.cells #[.int .i64 0] 3)
    have d2 := cell_new c2 (Obj.cells #[.int .i64 0] 3)
    have HX := Lib.hid (best_new w1)
    have HB2 := Lib.hid (below_one w1 (Obj.cells #[.int .i64 0] 3))
    go_wp2_with fail
    generalize w1.alloc (Obj.cells #[.int .i64 0] 3) = w2 at *
    clear d1 d2
    go_loopw [18] (fun i wr => ∃ k : Nat, i = .int .i64 k ∧ k ≤ L.length ∧ Hid (Best wr w1.heap.size (mostTo (blkT L t) L k)) ∧ Hid (Below w1.heap.size w1 wr)) (fun i _ => L.length - (intOf i).toNat)
    case atStart => exact ⟨0, rfl, Nat.zero_le _, HX.out, HB2.out⟩
    case round =>
      obtain ⟨k, rfl, hk, HC, HB⟩ := hrel
      clear HX HB2
      by_cases hlt : k < L.length
      · obtain ⟨bb, off, rfl, hc⟩ := task_at HT.out.2.2 (by omega)
        obtain ⟨B, d, x1, x2, x3, x4, _, _, _, r⟩ := hc k hlt
        have HR := Lib.hid r.rd
        have hbs := HT.out.2.1 k hlt
        replace x1 := (cell_below HB.out) x1
        replace x2 := (cell_below HB.out) x2
        replace x3 := (cell_below HB.out) x3
        replace x4 := (cell_below HB.out) x4
        have e1 := cell_below HB.out c1
        have e2 := cell_below HB.out c2
        have HQ : Hid (mostTo (blkT L t) L (k + 1) = max (mostTo (blkT L t) L k) (blkT L t (at_ L k))) := rfl
        clear hc r
        generalize at_ L k = x at *
        generalize mostTo (blkT L t) L k = v at *
        have bw := below_one wr (Obj.cells #[.int .i64 x.1, .int .i64 x.2.1, .int .i64 x.2.2.1, .slice B x.2.2.2.length d] 47)
        have C2 := Lib.hid (HC.out.below bw)
        have B2 := Lib.hid (below_step HB.out bw)
        replace e1 := cell_below bw e1
        replace e2 := cell_below bw e2
        clear bw
        by_cases hd : x.2.1 ≤ t
        · have HV : Hid (v = mostTo (blkT L t) L (k + 1)) := by
            show _ = _
            rw [HQ.out, blkT, if_neg (by omega)]
            omega
          go_wp2_with fail
          go_roundw
          case rel => exact ⟨k + 1, by go_num, hlt, by rw [← HV.out]; exact C2.out, B2.out⟩
          case measure => simp [intOf]; omega
        · have HV : Hid (max v (mostTo (blkP L t) x.2.2.2 x.2.2.2.length) = mostTo (blkT L t) L (k + 1)) := by
            show _ = _
            rw [HQ.out, blkT, if_pos (by omega), HP.out]
            rfl
          go_wp2_with fail
          generalize wr.alloc (Obj.cells #[.int .i64 x.1, .int .i64 x.2.1, .int .i64 x.2.2.1, .slice B x.2.2.2.length d] 47) = w3 at *
          clear x1 x2 x3 x4 e1 e2
          clear HC HB
          generalize wr = wo at *
          go_loopw [29] (fun i wr => ∃ j : Nat, i = .int .i64 j ∧ j ≤ x.2.2.2.length ∧ Hid (Best wr w1.heap.size (max v (mostTo (blkP L t) x.2.2.2 j))) ∧ Hid (Below w1.heap.size w1 wr)) (fun i _ => x.2.2.2.length - (intOf i).toNat)
          case atStart => exact ⟨0, rfl, Nat.zero_le _, by show Best _ _ (max v 0); rw [Nat.max_zero]; exact C2.out, B2.out⟩
          case round =>
            obtain ⟨j, rfl, hj, HC, HB⟩ := hrel
            by_cases hjl : j < x.2.2.2.length
            · obtain ⟨b3, off3, rfl, hc⟩ := sec_at (HR.out.below HB.out) (by omega)
              obtain ⟨y1, y2, y3, _, _, _⟩ := hc j hjl
              have HQ2 : Hid (max v (mostTo (blkP L t) x.2.2.2 (j + 1)) = max (max v (mostTo (blkP L t) x.2.2.2 j)) (blkP L t (at_ x.2.2.2 j))) := by show _ = _; rw [mostTo, Nat.max_assoc]
              have e1 := cell_below HB.out c1
              have e2 := cell_below HB.out c2
              have HT1 := Lib.hid (HT.out.below HB.out)
              clear hc
              generalize at_ x.2.2.2 j = s at *
              generalize max v (mostTo (blkP L t) x.2.2.2 j) = u at *
              have bw := below_one wr (Obj.cells #[.int .i64 s.1, .int .i64 s.2.1, .int .i64 s.2.2] 61)
              have C3 := Lib.hid (HC.out.below bw)
              have B3 := Lib.hid (below_step HB.out bw)
              replace HT1 := Lib.hid (HT1.out.below bw)
              replace e1 := cell_below bw e1
              replace e2 := cell_below bw e2
              have z1 : (wr.alloc (Obj.cells #[.int .i64 s.1, .int .i64 s.2.1, .int .i64 s.2.2] 61)).cell? ⟨wr.heap.size, 0, none⟩ = some (.int .i64 s.1) := by simp
              have z2 : (wr.alloc (Obj.cells #[.int .i64 s.1, .int .i64 s.2.1, .int .i64 s.2.2] 61)).cell? ⟨wr.heap.size, 1, none⟩ = some (.int .i64 s.2.1) := by simp
              have z3 : (wr.alloc (Obj.cells #[.int .i64 s.1, .int .i64 s.2.1, .int .i64 s.2.2] 61)).cell? ⟨wr.heap.size, 2, none⟩ = some (.int .i64 s.2.2) := by simp
              clear bw
              go_wp2_with fail
              generalize wr.alloc (Obj.cells #[.int .i64 s.1, .int .i64 s.2.1, .int .i64 s.2.2] 61) = w4 at *
              refine (keep_closure w1.heap.size w1.heap.size w.heap.size (w.heap.size + 1) u _ c L t s w4 (Nat.le_refl _) C3.out HT1.out e1 e2).mono ?_
              rintro e w5 ⟨rfl, k1, k2, _⟩
              have C5 : Hid (Best w5 w1.heap.size (max v (mostTo (blkP L t) x.2.2.2 (j + 1)))) := by show Best _ _ _; rw [HQ2.out]; exact k1
              have B5 := Lib.hid (B3.out.trans k2)
              clear k1 k2
              go_wp2_with fail
              go_roundw
              case rel => exact ⟨j + 1, by go_num, hjl, C5, B5⟩
              case measure => simp [intOf]; omega
            · have hjx : j = x.2.2.2.length := by omega
              subst hjx
              go_wp2_with fail
              go_roundw
              case rel => exact ⟨k + 1, by go_num, hlt, by rw [← HV.out]; exact HC.out, HB.out⟩
              case measure => simp [intOf]; omega
      · have hkl : k = L.length := by omega
        subst hkl
        obtain ⟨e1, e2⟩ := HC.out
        have B2 := Lib.hid (below_step B1.out HB.out)
        generalize mostTo (blkT L t) L L.length = v at *
        go_wp2_with fail
        go_ret2
        exact ⟨by rw [HZ.out.1, HZ.out.2]; rfl, B2.out⟩

end Bk
end Go.Proofs.Ytldiplnccgoeiaa
