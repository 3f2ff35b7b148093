/-
  Layer 5 (task): Held.
-/
import Derived.Test.YtaehcgfmdpjfaaaTaskRight
namespace Go.Proofs.Ytaehcgfmdpjfaaa
open Go.RowKit Mm
namespace Tk

theorem slInts : SlT Try.prog 31 3 (Dat.k Int) := slT_of Try.underlying31 (show _ = some (some (.int .i64 0), 1, 8) by kernel_rfl) rfl (by omega)

/-- what Held answers: ints of the call's own, those that are held -/
def IntsOf (w : World) (l : List Int) (e : Ending) (w' : World) : Prop := ∃ A c, e = .returned (.slice A l.length c) ∧ Ow w' w.heap.size 3 A c l ∧ Below w.heap.size w w'
/-- what is held of a task -/
def heldT (C D T : Int) (l : List Sc) (had : Int) : List Int := if rightB C D T l then heldL l had else []

set_option maxHeartbeats 800000 in
theorem held_any (C D T : Int) (A : Option Addr) (c : Nat) (l : List Sc) (had : Int) (w : World) (hbig : l.length ≤ 1000000) (hr : Rd w A c l) :
    Calls Try.prog 14 #[.agg #[.int .i64 C, .int .i64 D, .int .i64 T, .slice A l.length c], .int .i64 had] w (IntsOf w (heldT C D T l had)) := by
  obtain ⟨t1, t2, t3, t4⟩ := box_new w C D T A l.length c
  have b0 := below_one w (Obj.cells #[.int .i64 C, .int .i64 D, .int .i64 T, .slice A l.length c] 27)
  cases ht : rightB C D T l with
  | false =>
    have HH : Hid (heldT C D T l had = []) := by show _ = _; simp [heldT, ht]
    go_enter Try.func14, Try.ntmps14
    go_wp2_with fail
    have HR := Lib.hid hr
    have B0 := Lib.hid b0
    clear hr b0
    generalize w.alloc (Obj.cells #[.int .i64 C, .int .i64 D, .int .i64 T, .slice A l.length c] 27) = w0 at *
    refine (right_any C D T A c l _ hbig (HR.out.below B0.out)).mono ?_
    rintro e w1 ⟨rfl, b1⟩
    have B1 := Lib.hid (below_step B0.out b1)
    clear b1
    go_wp2_with fail
    go_ret
    rw [HH.out]
    exact ⟨none, 0, rfl, ow_none _ _ _, B1.out⟩
  | true =>
    have HH : Hid (heldT C D T l had = heldL l had) := by show _ = _; simp [heldT, ht]
    have HV := Lib.hid (ok_of ht).1
    obtain ⟨ht0, hl4, _, _⟩ := rightB_iff.1 ht
    obtain ⟨hC0, hC1, hC2, hC3⟩ := times_iff.1 ht0
    clear ht0
    go_enter Try.func14, Try.ntmps14
    go_wp2_with fail
    have HR := Lib.hid hr
    have B0 := Lib.hid b0
    clear hr b0
    generalize w.alloc (Obj.cells #[.int .i64 C, .int .i64 D, .int .i64 T, .slice A l.length c] 27) = w0 at *
    refine (right_any C D T A c l _ hbig (HR.out.below B0.out)).mono ?_
    rintro e w1 ⟨rfl, b1⟩
    replace t1 := cell_below b1 t1
    replace t2 := cell_below b1 t2
    replace t3 := cell_below b1 t3
    replace t4 := cell_below b1 t4
    have B1 := Lib.hid (below_step B0.out b1)
    clear b1
    go_wp2_with fail
    have HR1 := Lib.hid (HR.out.below B1.out)
    clear HR B0
    go_loopw [5, 14] (fun o i wr => ∃ (k : Nat) (A' : Option Addr) (c' : Nat), i = .int .i64 k ∧ k ≤ l.length ∧ o = .slice A' (heldL (l.take k) had).length c' ∧ Hid (Ow wr w1.heap.size 3 A' c' (heldL (l.take k) had)) ∧ Hid (Below w1.heap.size w1 wr)) (fun _ i _ => l.length - (intOf i).toNat)
    case atStart => exact ⟨0, none, 0, rfl, Nat.zero_le _, rfl, ow_none _ _ _, Below.refl _ _⟩
    case round =>
      obtain ⟨k, A', c', rfl, hk, rfl, HO, HB⟩ := hrel
      by_cases hlt : k < l.length
      · obtain ⟨b, off, rfl, hc⟩ := sec_at (HR1.out.below HB.out) (by omega)
        obtain ⟨x1, x2, x3, f1, f2, f3⟩ := hc k hlt
        obtain ⟨s1, s2, s3, s4, s5⟩ := sec_iff.1 (HV.out _ (at_mem hlt))
        have hn := heldL_length (l.take k) had
        have hn2 : (heldL (l.take k) had).length ≤ 4 := by have : (l.take k).length ≤ l.length := by simp; omega
                                                           omega
        clear hc hn
        have HY : Hid (holdB had (at_ l k) = true → heldL (l.take (k + 1)) had = heldL (l.take k) had ++ [(at_ l k).1]) := fun h => heldL_yes hlt h
        have HN : Hid (holdB had (at_ l k) = false → heldL (l.take (k + 1)) had = heldL (l.take k) had) := fun h => heldL_no hlt h
        generalize at_ l k = x at *
        generalize heldL (l.take k) had = hs at *
        by_cases h1 : x.2.1 < had
        · obtain ⟨y1, y2, y3⟩ := bx_new wr x
          have B2 := Lib.hid (below_step HB.out (below_one wr (Obj.cells #[.int .i64 x.1, .int .i64 x.2.1, .int .i64 x.2.2] 35)))
          have O2 := Lib.hid (HO.out.alloc (Obj.cells #[.int .i64 x.1, .int .i64 x.2.1, .int .i64 x.2.2] 35))
          go_wp2_with fail
          generalize wr.alloc (Obj.cells #[.int .i64 x.1, .int .i64 x.2.1, .int .i64 x.2.2] 35) = w2 at *
          generalize wr.heap.size = Y at *
          refine (end_any x _ (by omega) (by omega) (by omega)).mono ?_
          rintro e w3 ⟨rfl, b3⟩
          replace y1 := cell_below b3 y1
          have B3 := Lib.hid (below_step B2.out b3)
          have O3 := Lib.hid (O2.out.below b3 (Nat.le_refl _))
          clear b3 O2 B2
          by_cases h2 : had < x.2.1 + x.2.2
          · have hf : holdB had x = true := by simp [holdB, h1, h2]
            have HF := Lib.hid (HY.out hf)
            clear hf
            go_wp2_with (at_builtin; refine list_app_flat slInts rfl _ _ rfl (base := w1.heap.size) (l := hs) (r := [x.1]) rfl rfl (O3.out.alloc _) (rd_one_int (by simp) f1 trivial (Nat.le_refl _) (by decide)) (by simp; omega) (by have := B3.out.size; simp; omega) ?_; intro A1 c1 w4 k1 k2 k3; have O4 := Lib.hid k1; have B4 := Lib.hid (B3.out.trans (((Below.refl _ _).alloc B3.out.size _).trans k2)); clear k1 k2 k3)
            go_roundw
            case rel => exact ⟨k + 1, A1, c1, by go_num, hlt, by rw [HF.out]; simp, by rw [HF.out]; exact O4.out, B4.out⟩
            case measure => simp [intOf]; omega
          · have hf : holdB had x = false := by simp [holdB, h2]
            have HF := Lib.hid (HN.out hf)
            clear hf
            go_wp2_with fail
            go_roundw
            case rel => exact ⟨k + 1, A', c', by go_num, hlt, by rw [HF.out], by rw [HF.out]; exact O3.out, B3.out⟩
            case measure => simp [intOf]; omega
        · have hf : holdB had x = false := by simp [holdB, h1]
          have HF := Lib.hid (HN.out hf)
          clear hf
          go_wp2_with fail
          go_roundw
          case rel => exact ⟨k + 1, A', c', by go_num, hlt, by rw [HF.out], by rw [HF.out]; exact HO.out.alloc _, below_step HB.out (below_one _ _)⟩
          case measure => simp [intOf]; omega
      · go_wp2
        have hkl : k = l.length := by omega
        subst hkl
        rw [List.take_length] at *
        go_ret
        rw [HH.out]
        exact ⟨A', c', rfl, HO.out.rebase B1.out.size, below_step B1.out HB.out⟩

end Tk
end Go.Proofs.Ytaehcgfmdpjfaaa
