/-
  Layer 5 (task): validPairs.
-/
import Derived.Test.YtldiplnccgoeiaaTaskWalks
namespace Go.Proofs.Ytldiplnccgoeiaa
open Go.RowKit Mm
namespace Tk

theorem inOrder_r (x y : Sc) (r : Bool) (h : ordB x y = r) (w : World) :
    Calls Try.prog 58 #[.agg #[.int .i64 x.1, .int .i64 x.2.1, .int .i64 x.2.2], .agg #[.int .i64 y.1, .int .i64 y.2.1, .int .i64 y.2.2]] w fun e w' => e = .returned (.bool r) ∧ Below w.heap.size w w' := by
  subst h; exact inOrder_any x y w
theorem apart_r (x y : Sc) (r : Bool) (h : apartB x y = r) (w : World) (h0 : 0 ≤ x.2.1) (h1 : 0 ≤ x.2.2) (h2 : x.2.1 + x.2.2 ≤ 200) :
    Calls Try.prog 59 #[.agg #[.int .i64 x.1, .int .i64 x.2.1, .int .i64 x.2.2], .agg #[.int .i64 y.1, .int .i64 y.2.1, .int .i64 y.2.2]] w fun e w' => e = .returned (.bool r) ∧ Below w.heap.size w w' := by
  subst h; exact apart_any x y w h0 h1 h2
theorem nested_r (x y : Sc) (r : Bool) (h : nestB x y = r) (w : World) (h0 : 0 ≤ x.2.1) (h1 : 0 ≤ x.2.2) (h2 : x.2.1 + x.2.2 ≤ 200) (k0 : 0 ≤ y.2.1) (k1 : 0 ≤ y.2.2) (k2 : y.2.1 + y.2.2 ≤ 200) :
    Calls Try.prog 60 #[.agg #[.int .i64 x.1, .int .i64 x.2.1, .int .i64 x.2.2], .agg #[.int .i64 y.1, .int .i64 y.2.1, .int .i64 y.2.2]] w fun e w' => e = .returned (.bool r) ∧ Below w.heap.size w w' := by
  subst h; exact nested_any x y w h0 h1 h2 k0 k1 k2

/-- the sections that are known to be in order: those ahead of k with all behind them; that at k with m of them -/
def Upto (l : List Sc) (k m : Nat) : Prop := (∀ i j, i < k → i < j → j < l.length → pairB (at_ l i) (at_ l j) = true) ∧ ∀ j, j < m → pairB (at_ l k) (at_ l (k + 1 + j)) = true
theorem Upto.step {l : List Sc} {k m : Nat} (h : Upto l k m) (hp : pairB (at_ l k) (at_ l (k + 1 + m)) = true) : Upto l k (m + 1) := ⟨h.1, fun j hj => by
  by_cases e : j = m
  · subst e; exact hp
  · exact h.2 j (by omega)⟩
theorem Upto.next {l : List Sc} {k m : Nat} (h : Upto l k m) (hm : l.length ≤ k + 1 + m) : Upto l (k + 1) 0 := ⟨fun i j hi hij hj => by
  by_cases e : i = k
  · subst e
    have := h.2 (j - (i + 1)) (by omega)
    rwa [show i + 1 + (j - (i + 1)) = j from by omega] at this
  · exact h.1 i j (by omega) hij hj, fun j hj => by omega⟩
theorem Upto.all {l : List Sc} {k : Nat} (h : Upto l k 0) (hk : l.length ≤ k) : pairsB l = true := pairsB_iff.2 fun j i hij hj => h.1 i j (by omega) hij hj

set_option maxHeartbeats 1600000 in
theorem validPairs_any (A : Option Addr) (c : Nat) (l : List Sc) (w : World) (hbig : l.length ≤ 1000000) (hr : Rd w A c l) (ht : ∀ j, j < l.length → 0 ≤ (at_ l j).2.1 ∧ 0 ≤ (at_ l j).2.2 ∧ (at_ l j).2.1 + (at_ l j).2.2 ≤ 200) :
    Calls Try.prog 54 #[.slice A l.length c] w fun e w' => e = .returned (.bool (pairsB l)) ∧ Below w.heap.size w w' := by
  have hlc := hr.le
  have HR := Lib.hid hr
  have HT := Lib.hid ht
  clear hr ht
  go_enter Try.func54, Try.ntmps54
  go_wp2
  go_step3
  go_wp2
  go_step3
  go_wp2
  go_loopg [3, 10] l.length (fun g v i wr => ∃ k : Nat, v = .bool true ∧ i = .int .i64 k ∧ k + g = l.length ∧ Hid (Upto l k 0) ∧ Hid (Below w.heap.size w wr))
  case atStart => exact ⟨0, rfl, rfl, by omega, ⟨fun i j h => by omega, fun j h => by omega⟩, Below.refl _ _⟩
  case round =>
    obtain ⟨k, rfl, rfl, hk, HH, HB⟩ := hrel
    generalize gk = G at *
    by_cases hlt : k < l.length
    · obtain ⟨b, off, rfl, hc⟩ := sec_at (HR.out.below HB.out) (by omega)
      obtain ⟨x1, x2, x3, f1, f2, f3⟩ := hc k hlt
      have B1 := Lib.hid (below_step HB.out (below_one wr (Obj.cells #[.int .i64 (at_ l k).1, .int .i64 (at_ l k).2.1, .int .i64 (at_ l k).2.2] 61)))
      obtain ⟨y1, y2, y3⟩ := bx_new wr (at_ l k)
      have hRk := HR.out.below B1.out
      clear hc
      by_cases hlast : k + 1 < l.length
      · go_wp2_with fail
        have HRK := Lib.hid hRk
        clear hRk
        generalize wr.alloc (Obj.cells #[.int .i64 (at_ l k).1, .int .i64 (at_ l k).2.1, .int .i64 (at_ l k).2.2] 61) = w1 at *
        generalize wr.heap.size = X at *
        clear x1 x2 x3 HB
        go_loopg [3, 20] (l.length - (k + 1)) (fun g v i wy => ∃ m : Nat, v = .bool true ∧ i = .int .i64 m ∧ k + 1 + m + g = l.length ∧ Hid (Upto l k m) ∧ Hid (Below w1.heap.size w1 wy))
        case atStart => exact ⟨0, rfl, rfl, by omega, HH.out, Below.refl _ _⟩
        case round =>
          rename_i gi _ _ _
          obtain ⟨m, rfl, rfl, hm, HU, HY⟩ := hrel
          by_cases hmt : k + 1 + m < l.length
          · obtain ⟨b', off', e, hc⟩ := sec_at (HRK.out.below HY.out) (by omega)
            injection e with e
            injection e with e1 e2
            subst e1
            subst e2
            obtain ⟨z1, z2, z3, _, _, _⟩ := hc (k + 1 + m) hmt
            rw [show off + (k + 1 + m) * 3 = off + (k + 1) * 3 + m * 3 from by omega] at z1 z2 z3
            obtain ⟨g1, g2, g3⟩ := HT.out k hlt
            obtain ⟨g4, g5, g6⟩ := HT.out (k + 1 + m) hmt
            have B2 := Lib.hid (below_step HY.out (below_one wr (Obj.cells #[.int .i64 (at_ l (k + 1 + m)).1, .int .i64 (at_ l (k + 1 + m)).2.1, .int .i64 (at_ l (k + 1 + m)).2.2] 61)))
            have p1 := cell_new (cell_below HY.out y1) (Obj.cells #[.int .i64 (at_ l (k + 1 + m)).1, .int .i64 (at_ l (k + 1 + m)).2.1, .int .i64 (at_ l (k + 1 + m)).2.2] 61)
            have p2 := cell_new (cell_below HY.out y2) (Obj.cells #[.int .i64 (at_ l (k + 1 + m)).1, .int .i64 (at_ l (k + 1 + m)).2.1, .int .i64 (at_ l (k + 1 + m)).2.2] 61)
            have p3 := cell_new (cell_below HY.out y3) (Obj.cells #[.int .i64 (at_ l (k + 1 + m)).1, .int .i64 (at_ l (k + 1 + m)).2.1, .int .i64 (at_ l (k + 1 + m)).2.2] 61)
            obtain ⟨v1, v2, v3⟩ := bx_new wr (at_ l (k + 1 + m))
            have HS : Hid (Upto l k m → pairB (at_ l k) (at_ l (k + 1 + m)) = true → Upto l k (m + 1)) := fun h h' => h.step h'
            have HF : Hid (pairB (at_ l k) (at_ l (k + 1 + m)) = false → pairsB l = false) := fun h => pairsB_false (by omega) hmt h
            have hm2 : m + 1 ≤ l.length - (k + 1) := by omega
            clear hc f1 f2 f3 y1 y2 y3
            generalize at_ l k = x at *
            generalize at_ l (k + 1 + m) = y at *
            cases ho : ordB x y with
            | false =>
              have HP : Hid (pairB x y = false) := by show pairB x y = false; simp [pairB, ho]
              have HO := Lib.hid ho
              clear ho
              go_wp2_with fail
              generalize wr.alloc (Obj.cells #[.int .i64 y.1, .int .i64 y.2.1, .int .i64 y.2.2] 61) = w2 at *
              generalize wr.heap.size = Y at *
              refine (inOrder_r _ _ _ HO.out _).mono ?_
              rintro e w3 ⟨rfl, b3⟩
              replace p1 := cell_below b3 p1
              replace p2 := cell_below b3 p2
              replace p3 := cell_below b3 p3
              replace v1 := cell_below b3 v1
              replace v2 := cell_below b3 v2
              replace v3 := cell_below b3 v3
              have B3 := Lib.hid (below_step B2.out b3)
              clear b3
              go_wp2_with fail
              try rw [Exit.noGoto_ret]
              go_ret
              exact ⟨ret_bool (HF.out HP.out).symm, below_step B1.out B3.out⟩
            | true =>
              cases ha : apartB x y with
              | true =>
                have HP : Hid (pairB x y = true) := by show pairB x y = true; simp [pairB, ho, ha]
                have HO := Lib.hid ho
                have HA := Lib.hid ha
                clear ho ha
                go_wp2_with fail
                generalize wr.alloc (Obj.cells #[.int .i64 y.1, .int .i64 y.2.1, .int .i64 y.2.2] 61) = w2 at *
                generalize wr.heap.size = Y at *
                refine (inOrder_r _ _ _ HO.out _).mono ?_
                rintro e w3 ⟨rfl, b3⟩
                replace p1 := cell_below b3 p1
                replace p2 := cell_below b3 p2
                replace p3 := cell_below b3 p3
                replace v1 := cell_below b3 v1
                replace v2 := cell_below b3 v2
                replace v3 := cell_below b3 v3
                have B3 := Lib.hid (below_step B2.out b3)
                clear b3
                go_wp2_with fail
                refine (apart_r _ _ _ HA.out _ (by omega) (by omega) (by omega)).mono ?_
                rintro e w4 ⟨rfl, b4⟩
                replace p1 := cell_below b4 p1
                replace p2 := cell_below b4 p2
                replace p3 := cell_below b4 p3
                replace v1 := cell_below b4 v1
                replace v2 := cell_below b4 v2
                replace v3 := cell_below b4 v3
                have B4 := Lib.hid (below_step B3.out b4)
                clear b4
                go_wp2_with fail
                go_roundg (gk - 1)
                case measure => omega
                case rel => exact ⟨m + 1, rfl, by go_num, by omega, HS.out HU.out HP.out, B4.out⟩
              | false =>
                cases hn : nestB x y with
                | false =>
                  have HP : Hid (pairB x y = false) := by show pairB x y = false; simp [pairB, ho, ha, hn]
                  have HO := Lib.hid ho
                  have HA := Lib.hid ha
                  have HN := Lib.hid hn
                  clear ho ha hn
                  go_wp2_with fail
                  generalize wr.alloc (Obj.cells #[.int .i64 y.1, .int .i64 y.2.1, .int .i64 y.2.2] 61) = w2 at *
                  generalize wr.heap.size = Y at *
                  refine (inOrder_r _ _ _ HO.out _).mono ?_
                  rintro e w3 ⟨rfl, b3⟩
                  replace p1 := cell_below b3 p1
                  replace p2 := cell_below b3 p2
                  replace p3 := cell_below b3 p3
                  replace v1 := cell_below b3 v1
                  replace v2 := cell_below b3 v2
                  replace v3 := cell_below b3 v3
                  have B3 := Lib.hid (below_step B2.out b3)
                  clear b3
                  go_wp2_with fail
                  refine (apart_r _ _ _ HA.out _ (by omega) (by omega) (by omega)).mono ?_
                  rintro e w4 ⟨rfl, b4⟩
                  replace p1 := cell_below b4 p1
                  replace p2 := cell_below b4 p2
                  replace p3 := cell_below b4 p3
                  replace v1 := cell_below b4 v1
                  replace v2 := cell_below b4 v2
                  replace v3 := cell_below b4 v3
                  have B4 := Lib.hid (below_step B3.out b4)
                  clear b4
                  go_wp2_with fail
                  refine (nested_r _ _ _ HN.out _ (by omega) (by omega) (by omega) (by omega) (by omega) (by omega)).mono ?_
                  rintro e w5 ⟨rfl, b5⟩
                  replace p1 := cell_below b5 p1
                  replace p2 := cell_below b5 p2
                  replace p3 := cell_below b5 p3
                  replace v1 := cell_below b5 v1
                  replace v2 := cell_below b5 v2
                  replace v3 := cell_below b5 v3
                  have B5 := Lib.hid (below_step B4.out b5)
                  clear b5
                  go_wp2_with fail
                  try rw [Exit.noGoto_ret]
                  go_ret
                  exact ⟨ret_bool (HF.out HP.out).symm, below_step B1.out B5.out⟩
                | true =>
                  have HP : Hid (pairB x y = true) := by show pairB x y = true; simp [pairB, ho, ha, hn]
                  have HO := Lib.hid ho
                  have HA := Lib.hid ha
                  have HN := Lib.hid hn
                  clear ho ha hn
                  go_wp2_with fail
                  generalize wr.alloc (Obj.cells #[.int .i64 y.1, .int .i64 y.2.1, .int .i64 y.2.2] 61) = w2 at *
                  generalize wr.heap.size = Y at *
                  refine (inOrder_r _ _ _ HO.out _).mono ?_
                  rintro e w3 ⟨rfl, b3⟩
                  replace p1 := cell_below b3 p1
                  replace p2 := cell_below b3 p2
                  replace p3 := cell_below b3 p3
                  replace v1 := cell_below b3 v1
                  replace v2 := cell_below b3 v2
                  replace v3 := cell_below b3 v3
                  have B3 := Lib.hid (below_step B2.out b3)
                  clear b3
                  go_wp2_with fail
                  refine (apart_r _ _ _ HA.out _ (by omega) (by omega) (by omega)).mono ?_
                  rintro e w4 ⟨rfl, b4⟩
                  replace p1 := cell_below b4 p1
                  replace p2 := cell_below b4 p2
                  replace p3 := cell_below b4 p3
                  replace v1 := cell_below b4 v1
                  replace v2 := cell_below b4 v2
                  replace v3 := cell_below b4 v3
                  have B4 := Lib.hid (below_step B3.out b4)
                  clear b4
                  go_wp2_with fail
                  refine (nested_r _ _ _ HN.out _ (by omega) (by omega) (by omega) (by omega) (by omega) (by omega)).mono ?_
                  rintro e w5 ⟨rfl, b5⟩
                  replace p1 := cell_below b5 p1
                  replace p2 := cell_below b5 p2
                  replace p3 := cell_below b5 p3
                  replace v1 := cell_below b5 v1
                  replace v2 := cell_below b5 v2
                  replace v3 := cell_below b5 v3
                  have B5 := Lib.hid (below_step B4.out b5)
                  clear b5
                  go_wp2_with fail
                  go_roundg (gk - 1)
                  case measure => omega
                  case rel => exact ⟨m + 1, rfl, by go_num, by omega, HS.out HU.out HP.out, B5.out⟩
          · go_wp2_with fail
            go_roundg (G - 1)
            case measure => omega
            case rel => exact ⟨k + 1, rfl, by go_num, by omega, HU.out.next (by omega), below_step B1.out HY.out⟩
      · by_cases hcap : k + 1 = c
        all_goals
          go_wp2_with fail
          have HRK := Lib.hid hRk
          clear hRk
          generalize wr.alloc (Obj.cells #[.int .i64 (at_ l k).1, .int .i64 (at_ l k).2.1, .int .i64 (at_ l k).2.2] 61) = w1 at *
          refine wp_loop_rounds 1 ?_
          rw [rounds_succ]
          go_wp2_with fail
          go_roundg (G - 1)
          case measure => omega
          case rel => exact ⟨k + 1, rfl, by go_num, by omega, HH.out.next (by omega), B1.out⟩
    · go_wp2
      try rw [Exit.noGoto_ret]
      go_ret
      exact ⟨ret_bool (HH.out.all (by omega)).symm, HB.out⟩

end Tk
end Go.Proofs.Ytldiplnccgoeiaa
