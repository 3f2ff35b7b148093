/-
  Layer 5: the document's answer Right, tick by tick.
-/
import Derived.Test.YtdjjdebnbaaihaaGtask
namespace Go.Proofs.Ytdjjdebnbaaihaa
open Go.RowKit Mm
namespace Tk

/-- the ticks that are common, up to a tick -/
def Com (s a : Sc) (t x y : Int) : Prop := x + y = t - s.2.1 ∧ 0 ≤ x ∧ 0 ≤ y ∧ (a.2.1 + a.2.2 ≤ s.2.1 → x = 0) ∧ (s.2.1 < a.2.1 + a.2.2 → x = min t (a.2.1 + a.2.2) - s.2.1)

theorem bad_ord {a s : Sc} (h : ordB a s = true) : a.2.1 ≤ s.2.1 ∧ (a.2.1 = s.2.1 → s.2.2 ≤ a.2.2) := by
  have := ord_iff.1 h
  omega
theorem not_ord {a s : Sc} (h : ordB a s = false) : s.2.1 < a.2.1 ∨ s.2.1 = a.2.1 ∧ a.2.2 < s.2.2 := by
  have : ¬ (a.2.1 < s.2.1 ∨ a.2.1 = s.2.1 ∧ s.2.2 ≤ a.2.2) := fun e => by rw [ord_iff.2 e] at h; cases h
  omega
theorem not_sec {C : Int} {s : Sc} (h : secB C s = false) : ¬ (0 ≤ s.1 ∧ s.1 < 4 ∧ 0 ≤ s.2.1 ∧ 1 ≤ s.2.2 ∧ s.2.1 + s.2.2 ≤ C) := fun e => by rw [sec_iff.2 e] at h; cases h

theorem com_end {s a : Sc} {x y : Int} (ho : ordB a s = true) (hl : 1 ≤ s.2.2) (hl2 : 1 ≤ a.2.2) (h : Com s a (s.2.1 + s.2.2) x y) :
    (0 < x ∧ (0 < y ∨ a.1 = s.1) → pairB a s = false) ∧ (¬ (0 < x ∧ (0 < y ∨ a.1 = s.1)) → pairB a s = true) := by
  obtain ⟨m1, m2, m3, m4, m5⟩ := h
  have ho' := ord_iff.1 ho
  constructor
  · intro hb
    rw [← Bool.not_eq_true, pair_iff]
    omega
  · intro hb
    rw [pair_iff]
    refine ⟨ho', ?_⟩
    omega

/-- the sections that are known to be right: all ahead of i, with all ahead of them; that at i with those ahead of k -/
def Good (C : Int) (l : List Sc) (i k : Nat) : Prop := (∀ j, j < i → secB C (at_ l j) = true ∧ ∀ m, m < j → pairB (at_ l m) (at_ l j) = true) ∧ ∀ m, m < k → pairB (at_ l m) (at_ l i) = true
theorem Good.step {C : Int} {l : List Sc} {i k : Nat} (h : Good C l i k) (hp : pairB (at_ l k) (at_ l i) = true) : Good C l i (k + 1) := ⟨h.1, fun m hm => by
  by_cases e : m = k
  · subst e; exact hp
  · exact h.2 m (by omega)⟩
theorem Good.next {C : Int} {l : List Sc} {i : Nat} (h : Good C l i i) (hs : secB C (at_ l i) = true) : Good C l (i + 1) 0 := ⟨fun j hj => by
  by_cases e : j = i
  · subst e; exact ⟨hs, h.2⟩
  · exact h.1 j (by omega), fun m hm => by omega⟩
theorem Good.all {C : Int} {l : List Sc} {i : Nat} (h : Good C l i 0) (hi : l.length ≤ i) : secsB C l = true ∧ pairsB l = true :=
  ⟨secsB_iff.2 fun j hj => (h.1 j (by omega)).1, pairsB_iff.2 fun j k hk hj => (h.1 j (by omega)).2 k hk⟩
theorem rightB_of {C D T : Int} {l : List Sc} (h1 : timesB C D T = true) (h2 : l.length ≤ 4) (h3 : secsB C l = true ∧ pairsB l = true) : rightB C D T l = true := rightB_iff.2 ⟨h1, h2, h3.1, h3.2⟩

set_option maxRecDepth 100000 in
set_option maxHeartbeats 4000000 in
theorem refRight_max (C D T : Int) (A : Option Addr) (c : Nat) (l : List Sc) (w : World) (hbig : l.length ≤ 9223372036854775807) (hr : Rd w A c l) :
    Calls Try.prog 60 #[.agg #[.int .i64 C, .int .i64 D, .int .i64 T, .slice A l.length c]] w fun e w' => e = .returned (.bool (rightB C D T l)) ∧ Below w.heap.size w w' := by
  obtain ⟨t1, t2, t3, t4⟩ := box_new w C D T A l.length c
  have b0 := below_one w (Obj.cells #[.int .i64 C, .int .i64 D, .int .i64 T, .slice A l.length c] 33)
  by_cases hhead : timesB C D T = true ∧ l.length ≤ 4
  · obtain ⟨ht, hl4⟩ := hhead
    obtain ⟨hC0, hC1, hC2, hC3⟩ := times_iff.1 ht
    have HG : Hid (secsB C l = true ∧ pairsB l = true → rightB C D T l = true) := fun h => rightB_of ht hl4 h
    have HS0 : Hid (secsB C l = false → rightB C D T l = false) := fun h => rightB_secs h
    have HP0 : Hid (pairsB l = false → rightB C D T l = false) := fun h => rightB_pairs h
    clear ht
    go_enter Try.func60, Try.ntmps60
    go_wp2_with fail
    have HR := Lib.hid hr
    have B0 := Lib.hid b0
    clear hr b0
    generalize w.alloc (Obj.cells #[.int .i64 C, .int .i64 D, .int .i64 T, .slice A l.length c] 33) = w0 at *
    go_loopg [3] l.length (fun g i wr => ∃ k : Nat, i = .int .i64 k ∧ k + g = l.length ∧ Hid (Good C l k 0) ∧ Hid (Below w0.heap.size w0 wr))
    case atStart => exact ⟨0, rfl, by omega, ⟨fun j h => by omega, fun j h => by omega⟩, Below.refl _ _⟩
    case round =>
      obtain ⟨i, rfl, hi, HH, HB⟩ := hrel
      generalize gk = G at *
      replace t1 := cell_below HB.out t1
      replace t2 := cell_below HB.out t2
      replace t3 := cell_below HB.out t3
      replace t4 := cell_below HB.out t4
      by_cases hlt : i < l.length
      · obtain ⟨b, off, rfl, hc⟩ := sec_at (HR.out.below (below_step B0.out HB.out)) (by omega)
        obtain ⟨x1, x2, x3, f1, f2, f3⟩ := hc i hlt
        unfold Fit at f1 f2 f3
        clear hc
        have HSB : Hid (secB C (at_ l i) = false → secsB C l = false) := fun h => secsB_false hlt h
        have HNX : Hid (Good C l i i → secB C (at_ l i) = true → Good C l (i + 1) 0) := fun h h' => h.next h'
        have HPB : Hid (∀ k, k < i → pairB (at_ l k) (at_ l i) = false → pairsB l = false) := fun k hk h => pairsB_false hk hlt h
        have HST : Hid (∀ k, Good C l i k → pairB (at_ l k) (at_ l i) = true → Good C l i (k + 1)) := fun k h h' => h.step h'
        generalize at_ l i = s at *
        have B1 := Lib.hid (below_step B0.out (below_step HB.out (below_one wr (Obj.cells #[.int .i64 s.1, .int .i64 s.2.1, .int .i64 s.2.2] 80))))
        have C1 := Lib.hid (below_step HB.out (below_one wr (Obj.cells #[.int .i64 s.1, .int .i64 s.2.1, .int .i64 s.2.2] 80)))
        have R1 := Lib.hid (HR.out.below B1.out)
        obtain ⟨y1, y2, y3⟩ := bx_new wr s
        have tt1 := cell_new t1 (Obj.cells #[.int .i64 s.1, .int .i64 s.2.1, .int .i64 s.2.2] 80)
        have tt4 := cell_new t4 (Obj.cells #[.int .i64 s.1, .int .i64 s.2.1, .int .i64 s.2.2] 80)
        cases hs : secB C s with
        | false =>
          have hns := not_sec hs
          have HF := Lib.hid (HS0.out (HSB.out hs))
          have HNS := Lib.hid hns
          clear hns
          clear hs
          go_wp2
          all_goals first
            | (go_ret; exact ⟨ret_bool HF.out.symm, B1.out⟩)
            | (exfalso; have := HNS.out; omega)
        | true =>
          obtain ⟨s1, s2, s3, s4, s5⟩ := sec_iff.1 hs
          have HS := Lib.hid hs
          clear hs
          go_wp2_with fail
          generalize wr.alloc (Obj.cells #[.int .i64 s.1, .int .i64 s.2.1, .int .i64 s.2.2] 80) = w1 at *
          generalize wr.heap.size = Y at *
          clear x1 x2 x3 HB t1 t2 t3 t4
          go_loopg [5] i (fun g k wy => ∃ m : Nat, k = .int .i64 m ∧ m + g = i ∧ Hid (Good C l i m) ∧ Hid (Below w1.heap.size w1 wy))
          case atStart => exact ⟨0, rfl, by omega, HH.out, Below.refl _ _⟩
          case round =>
            obtain ⟨k, rfl, hk, HU, HY⟩ := hrel
            generalize gk = G2 at *
            have t1 := cell_below HY.out tt1
            have t4 := cell_below HY.out tt4
            replace y1 := cell_below HY.out y1
            replace y2 := cell_below HY.out y2
            replace y3 := cell_below HY.out y3
            by_cases hlt2 : k < i
            · obtain ⟨b', off', e, hc⟩ := sec_at (R1.out.below HY.out) (by omega)
              injection e with e
              injection e with e1 e2
              subst e1
              subst e2
              obtain ⟨z1, z2, z3, g1, g2, g3⟩ := hc k (by omega)
              clear hc g1 g2 g3
              have hak := sec_iff.1 (HH.out.1 k hlt2).1
              have HPF : Hid (pairB (at_ l k) s = false → pairsB l = false) := HPB.out k hlt2
              have HPT : Hid (Good C l i k → pairB (at_ l k) s = true → Good C l i (k + 1)) := HST.out k
              generalize at_ l k = a at *
              obtain ⟨a1, a2, a3, a4, a5⟩ := hak
              have B2 := Lib.hid (below_step HY.out (below_one wr (Obj.cells #[.int .i64 a.1, .int .i64 a.2.1, .int .i64 a.2.2] 80)))
              obtain ⟨v1, v2, v3⟩ := bx_new wr a
              have qy1 := cell_new y1 (Obj.cells #[.int .i64 a.1, .int .i64 a.2.1, .int .i64 a.2.2] 80)
              have qy2 := cell_new y2 (Obj.cells #[.int .i64 a.1, .int .i64 a.2.1, .int .i64 a.2.2] 80)
              have qy3 := cell_new y3 (Obj.cells #[.int .i64 a.1, .int .i64 a.2.1, .int .i64 a.2.2] 80)
              cases ho : ordB a s with
              | false =>
                have HF : Hid (rightB C D T l = false) := HP0.out (HPF.out (by simp [pairB, ho]))
                have hno := not_ord ho
                clear ho
                by_cases hq : s.2.1 < a.2.1
                · go_wp2_with fail
                  go_ret
                  exact ⟨ret_bool HF.out.symm, below_step B1.out B2.out⟩
                · have hq1 : s.2.1 = a.2.1 := by omega
                  have hq2 : a.2.2 < s.2.2 := by omega
                  have hq3 : (s.2.1 == a.2.1) = true := by simp [hq1]
                  clear hq1 hno
                  go_wp2_with fail
                  go_ret
                  exact ⟨ret_bool HF.out.symm, below_step B1.out B2.out⟩
              | true =>
                obtain ⟨o1, o2⟩ := bad_ord ho
                have HO := Lib.hid ho
                clear ho
                have HE : Hid (∀ x y : Int, Com s a (s.2.1 + s.2.2) x y → (0 < x ∧ (0 < y ∨ a.1 = s.1) → pairB a s = false) ∧ (¬ (0 < x ∧ (0 < y ∨ a.1 = s.1)) → pairB a s = true)) := fun x y h => com_end HO.out s4 a4 h
                have hcase : ((s.2.1 == a.2.1) = true ∧ s.2.2 ≤ a.2.2) ∨ (s.2.1 == a.2.1) = false := by
                  by_cases e : s.2.1 = a.2.1
                  · exact .inl ⟨by simp [e], o2 e.symm⟩
                  · exact .inr (by simp [e])
                clear o2
                rcases hcase with ⟨hq, hq2⟩ | hq
                all_goals
                  go_wp2_with fail
                  clear hq
                  generalize wr.alloc (Obj.cells #[.int .i64 a.1, .int .i64 a.2.1, .int .i64 a.2.2] 80) = w2 at *
                  generalize wr.heap.size = Z at *
                  go_loopg [7, 8, 9] (s.2.2).toNat (fun g x y t wz => ∃ cx cy tt : Int, x = .int .i64 cx ∧ y = .int .i64 cy ∧ t = .int .i64 tt ∧ s.2.1 ≤ tt ∧ tt + g = s.2.1 + s.2.2 ∧ Com s a tt cx cy ∧ Hid (Below w2.heap.size w2 wz))
                  case atStart => exact ⟨0, 0, s.2.1, rfl, rfl, rfl, by omega, by omega, ⟨by omega, by omega, by omega, fun _ => rfl, fun h => by omega⟩, Below.refl _ _⟩
                  case round =>
                    obtain ⟨cx, cy, tt, rfl, rfl, rfl, ht1, ht2, hcom, HZ⟩ := hrel
                    replace qy1 := cell_below HZ.out qy1
                    replace qy2 := cell_below HZ.out qy2
                    replace qy3 := cell_below HZ.out qy3
                    replace v1 := cell_below HZ.out v1
                    replace v2 := cell_below HZ.out v2
                    replace v3 := cell_below HZ.out v3
                    by_cases hlt3 : tt < s.2.1 + s.2.2
                    · obtain ⟨m1, m2, m3, m4, m5⟩ := hcom
                      by_cases hin : tt < a.2.1 + a.2.2
                      · have HC : Hid (Com s a (tt + 1) (cx + 1) cy) := ⟨by omega, by omega, by omega, by omega, by omega⟩
                        clear m4 m5
                        go_wp2_with fail
                        go_roundg (gk - 1)
                        case measure => omega
                        case rel => exact ⟨cx + 1, cy, tt + 1, rfl, rfl, rfl, by omega, by omega, HC.out, HZ⟩
                      · have HC : Hid (Com s a (tt + 1) cx (cy + 1)) := ⟨by omega, by omega, by omega, by omega, by omega⟩
                        clear m4 m5
                        go_wp2_with fail
                        go_roundg (gk - 1)
                        case measure => omega
                        case rel => exact ⟨cx, cy + 1, tt + 1, rfl, rfl, rfl, by omega, by omega, HC.out, HZ⟩
                    · have htt : tt = s.2.1 + s.2.2 := by omega
                      subst htt
                      obtain ⟨HE1, HE2⟩ := HE.out cx cy hcom
                      have HCOM := Lib.hid hcom
                      clear hcom
                      by_cases p1 : 0 < cx
                      · by_cases p2 : 0 < cy
                        · have HP := Lib.hid (HE1 ⟨p1, .inl p2⟩)
                          clear HE1 HE2
                          go_wp2_with fail
                          go_ret
                          exact ⟨ret_bool (HP0.out (HPF.out HP.out)).symm, below_step B1.out (below_step B2.out HZ.out)⟩
                        · by_cases p3 : a.1 = s.1
                          · have HP := Lib.hid (HE1 ⟨p1, .inr p3⟩)
                            have p4 : (a.1 == s.1) = true := by simp [p3]
                            clear HE1 HE2 p3
                            go_wp2_with fail
                            go_ret
                            exact ⟨ret_bool (HP0.out (HPF.out HP.out)).symm, below_step B1.out (below_step B2.out HZ.out)⟩
                          · have HP := Lib.hid (HE2 (fun h => h.2.elim p2 p3))
                            have p4 : (a.1 == s.1) = false := by simp [p3]
                            clear HE1 HE2 p3
                            go_wp2_with fail
                            go_roundg (G2 - 1)
                            case measure => omega
                            case rel => exact ⟨k + 1, by go_num, by omega, HPT.out HU.out HP.out, below_step B2.out HZ.out⟩
                      · have HP := Lib.hid (HE2 (fun h => p1 h.1))
                        clear HE1 HE2
                        go_wp2_with fail
                        go_roundg (G2 - 1)
                        case measure => omega
                        case rel => exact ⟨k + 1, by go_num, by omega, HPT.out HU.out HP.out, below_step B2.out HZ.out⟩
            · have hki : k = i := by omega
              subst hki
              have HN := Lib.hid (HNX.out HU.out HS.out)
              go_wp2_with fail
              go_roundg (G - 1)
              case measure => omega
              case rel => exact ⟨k + 1, by go_num, by omega, HN.out, below_step C1.out HY.out⟩
      · go_wp2_with fail
        go_ret
        exact ⟨ret_bool (HG.out (HH.out.all (by omega))).symm, below_step B0.out HB.out⟩
  · have HF : Hid (rightB C D T l = false) := by
      by_cases h : l.length ≤ 4
      · exact rightB_times (by rw [← Bool.not_eq_true]; exact fun e => hhead ⟨e, h⟩)
      · exact rightB_long h
    have HQ : Hid (¬ ((1 ≤ C ∧ C ≤ D ∧ D ≤ T ∧ T ≤ 200) ∧ l.length ≤ 4)) := fun h => hhead ⟨times_iff.2 h.1, h.2⟩
    clear hhead
    go_enter Try.func60, Try.ntmps60
    go_wp2
    all_goals first
      | (go_ret; exact ⟨ret_bool HF.out.symm, below_one _ _⟩)
      | (exfalso; have := HQ.out; omega)

theorem refRight_any (C D T : Int) (A : Option Addr) (c : Nat) (l : List Sc) (w : World) (hbig : l.length ≤ 1000000) (hr : Rd w A c l) :
    Calls Try.prog 60 #[.agg #[.int .i64 C, .int .i64 D, .int .i64 T, .slice A l.length c]] w fun e w' => e = .returned (.bool (rightB C D T l)) ∧ Below w.heap.size w w' := refRight_max C D T A c l w (by omega) hr

end Tk
end Go.Proofs.Ytdjjdebnbaaihaa
