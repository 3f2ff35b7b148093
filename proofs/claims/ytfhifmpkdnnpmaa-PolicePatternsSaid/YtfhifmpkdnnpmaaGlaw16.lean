/-
  Merged texts: Law16Args, Law16Refs, Law16Knows, Law16Parts, Law16Filter, Law16Rows.
-/
import Derived.Test.YtfhifmpkdnnpmaaGlaw05
import Derived.Test.YtfhifmpkdnnpmaaGmem
import Derived.Test.YtfhifmpkdnnpmaaGpolice
import Derived.Test.YtfhifmpkdnnpmaaGtask
import Derived.Deep.DeepCutAuto
import Derived.Deep.CutBlock
/-
  Layer 16: the arguments of the statements, opened: asks.
-/
namespace Go.Proofs.Ytfhifmpkdnnpmaa
open Go.ChangeShapes Go.WideShapes Go.ChangeAt Go.RowKit Go.Deep Go.Joins Mm Tk
namespace Pc

theorem opAsk : Opens Try.prog 42 Ask := opens_struct Try.underlying42 (by kernel_rfl) (fieldsOpen_cons rfl opInt (fieldsOpen_one rfl opInt))
theorem opAsks : Opens Try.prog 33 (List Ask) := opens_slice Try.underlying33 (by kernel_rfl) opAsk

end Pc
end Go.Proofs.Ytfhifmpkdnnpmaa

/-
  Layer 16: the references of the statements: Right, May.
-/
namespace Go.Proofs.Ytfhifmpkdnnpmaa
open Go.RowKit Mm Tk Dm
namespace Pc

set_option maxHeartbeats 800000 in
theorem refRight_any (A : Option Addr) (c : Nat) (L : List Tsk) (A2 : Option Addr) (c2 : Nat) (s : List Int) (w : World) (H : TL w A c L) (H2 : IL w A2 c2 s) :
    Calls Try.prog 12 #[.slice A L.length c, .slice A2 s.length c2] w fun e w' => e = .returned (.bool (lastsB L s)) ∧ Below w.heap.size w w' := by
  have hb1 := H.1
  have hb2 := H2.1
  have HT := Lib.hid H
  have HL := Lib.hid H2
  clear H H2
  by_cases hn : s.length = L.length
  · have hn1 : ((s.length : Int) == (L.length : Int)) = true := by simp [hn]
    have hn2 : ((s.length : Int) != (L.length : Int)) = false := by simp [hn]
    have HN := Lib.hid hn
    clear hn
    cases ha : allB L with
    | false =>
      have HF : Hid (lastsB L s = false) := by show _ = _; simp [lastsB, ha]
      go_enter Try.func12, Try.ntmps12
      go_wp2_with fail
      refine (refAll_any A c L _ hb1 HT.out.2.1 HT.out.2.2).mono ?_
      rintro e w1 ⟨rfl, b1⟩
      rw [ha]
      go_wp2_with fail
      go_ret
      exact ⟨ret_bool HF.out.symm, b1⟩
    | true =>
      have HA := Lib.hid ha
      go_enter Try.func12, Try.ntmps12
      go_wp2_with fail
      refine (refAll_any A c L _ hb1 HT.out.2.1 HT.out.2.2).mono ?_
      rintro e w1 ⟨rfl, b1⟩
      rw [ha]
      replace HL := Lib.hid (HL.out.below b1)
      have B1 := Lib.hid b1
      clear b1
      clear ha
      go_wp2_with fail
      go_loop [5] (fun i => ∃ k : Nat, i = .int .i64 k ∧ k ≤ s.length ∧ Hid (∀ j, j < k → -1 ≤ at_ s j ∧ at_ s j ≤ 4611686018427387903)) (fun i => s.length - (intOf i).toNat)
      case atStart => exact ⟨0, rfl, Nat.zero_le _, fun j h => by omega⟩
      case round =>
        obtain ⟨k, rfl, hk, HH⟩ := hrel
        by_cases hlt : k < s.length
        · obtain ⟨b, off, rfl, hc⟩ := HL.out.2.int (by omega)
          obtain ⟨x1, f1⟩ := hc k hlt
          have HB : Hid (¬ (-1 ≤ at_ s k ∧ at_ s k ≤ 4611686018427387903) → lastsB L s = false) := fun h => by
            rw [← Bool.not_eq_true, lastsB_iff]
            exact fun hh => h (hh.2.2 k hlt)
          have HS : Hid (-1 ≤ at_ s k ∧ at_ s k ≤ 4611686018427387903 → ∀ j, j < k + 1 → -1 ≤ at_ s j ∧ at_ s j ≤ 4611686018427387903) := fun h j hj => by
            by_cases e : j = k
            · subst e; exact h
            · exact HH.out j (by omega)
          clear hc f1
          generalize at_ s k = x at *
          by_cases h1 : x < -1
          · have HF := Lib.hid (HB.out (by omega))
            go_wp2_with fail
            go_ret
            exact ⟨ret_bool HF.out.symm, B1.out⟩
          · by_cases h2 : 4611686018427387903 < x
            · have HF := Lib.hid (HB.out (by omega))
              go_wp2_with fail
              go_ret
              exact ⟨ret_bool HF.out.symm, B1.out⟩
            · have HS2 := Lib.hid (HS.out (by omega))
              go_wp2_with fail
              go_round
              case rel => exact ⟨k + 1, by go_num, hlt, HS2⟩
              case measure => simp [intOf]; omega
        · have hkl : k = s.length := by omega
          subst hkl
          have HF := Lib.hid (lastsB_iff.2 ⟨HA.out, HN.out, HH.out⟩)
          go_wp2_with fail
          go_ret
          exact ⟨ret_bool HF.out.symm, B1.out⟩
  · have HF : Hid (lastsB L s = false) := by show _ = _; simp [lastsB, hn]
    have hn1 : ((s.length : Int) == (L.length : Int)) = false := by simp; omega
    have hn2 : ((s.length : Int) != (L.length : Int)) = true := by simp; omega
    have HN := Lib.hid hn
    clear hn
    go_enter Try.func12, Try.ntmps12
    go_wp2_with fail
    go_ret
    exact ⟨ret_bool HF.out.symm, Below.refl _ _⟩

set_option maxRecDepth 20000 in
set_option maxHeartbeats 1600000 in
theorem refMay_any (A : Option Addr) (c : Nat) (L : List Tsk) (A2 : Option Addr) (c2 : Nat) (s : List Int) (i t : Int) (w : World) (H : TL w A c L) (H2 : IL w A2 c2 s) :
    Calls Try.prog 9 #[.slice A L.length c, .slice A2 s.length c2, .int .i64 i, .int .i64 t] w fun e w' => e = .returned (.int .i64 (mayE L s i t)) ∧ Below w.heap.size w w' := by
  have HT := Lib.hid H
  have HL := Lib.hid H2
  clear H H2
  cases hs : lastsB L s with
  | false =>
    have HF := Lib.hid (may_arg (L := L) (s := s) (i := i) (t := t) (.inl hs))
    go_enter Try.func9, Try.ntmps9
    go_wp2_with fail
    refine (refRight_any A c L A2 c2 s _ HT.out HL.out).mono ?_
    rintro e w1 ⟨rfl, b1⟩
    rw [hs]
    go_wp2_with fail
    go_ret
    exact ⟨ret_int HF.out.symm, b1⟩
  | true =>
    by_cases h1 : i < 0
    · skip
      have HF := Lib.hid (may_arg (L := L) (s := s) (i := i) (t := t) (.inr (.inl h1)))
      go_enter Try.func9, Try.ntmps9
      go_wp2_with fail
      refine (refRight_any A c L A2 c2 s _ HT.out HL.out).mono ?_
      rintro e w1 ⟨rfl, b1⟩
      rw [hs]
      go_wp2_with fail
      go_ret
      exact ⟨ret_int HF.out.symm, b1⟩
    · by_cases h2 : i < L.length
      · by_cases h3 : t < 0
        · skip
          have HF := Lib.hid (may_arg (L := L) (s := s) (i := i) (t := t) (.inr (.inr (.inr (.inl h3)))))
          go_enter Try.func9, Try.ntmps9
          go_wp2_with fail
          refine (refRight_any A c L A2 c2 s _ HT.out HL.out).mono ?_
          rintro e w1 ⟨rfl, b1⟩
          rw [hs]
          go_wp2_with fail
          go_ret
          exact ⟨ret_int HF.out.symm, b1⟩
        · by_cases h4 : t ≤ 4611686018427387703
          · have HF := Lib.hid (may_in (t := t) hs (i := i) (by omega))
            obtain ⟨ha, hn, hx⟩ := lastsB_iff.1 hs
            obtain ⟨k, rfl⟩ : ∃ k : Nat, i = k := ⟨i.toNat, by omega⟩
            rw [Int.toNat_natCast] at HF
            have hkL : k < L.length := by omega
            have hks : k < s.length := by omega
            have hx := hx k hks
            have hT := task_times ha hkL
            have i1 : (0 : Int) ≤ (k : Int) := by omega
            have i2 : (k : Int) < (s.length : Int) := by omega
            have i4 : ¬ (k : Int) < 0 := by omega
            have e1 : IntKind.i64.wrap (t - at_ s k) = t - at_ s k := IntWalk.i64_in _ (by omega)
            have HHT : Hid _ := Lib.hid HT.out.2.2
            have HA := Lib.hid ha
            have HN := Lib.hid hn
            clear ha hn
            go_enter Try.func9, Try.ntmps9
            go_wp2_with fail
            refine (refRight_any A c L A2 c2 s _ HT.out HL.out).mono ?_
            rintro e w1 ⟨rfl, b1⟩
            rw [hs]
            obtain ⟨b, off, rfl, hc⟩ := task_at (HHT.out.below b1) (by omega)
            obtain ⟨B, d, x1, x2, x3, x4, _, _, _, _⟩ := hc k hkL
            obtain ⟨b3, off3, rfl, hc3⟩ := (HL.out.below b1).2.int (by omega)
            obtain ⟨y1, _⟩ := hc3 k hks
            have B1 := Lib.hid b1
            have HS := Lib.hid hs
            have HT := Lib.hid hT
            clear b1 hs hT
            clear hc hc3 x1 x2 x4
            generalize at_ L k = x at *
            generalize at_ s k = y at *
            by_cases hy : 0 ≤ y
            · have g1 : decide ((0 : Int) ≤ y) = true := decide_eq_true hy
              have HX := Lib.hid hx
              clear hx
              by_cases he : t - y < x.2.2.1
              · have HC : Hid (mayE L s k t = 6) := by show _ = _; rw [HF.out, decide_eq_true ⟨hy, he⟩]; rfl
                have g2 : decide (t - y < x.2.2.1) = true := decide_eq_true he
                clear HF
                go_wp2_with fail
                replace x3 := cell_bw x3
                replace y1 := cell_bw y1
                refine wp_region_bw (by kernel_rfl) (by kernel_rfl) ?_
                repeat
                  (with_reducible refine wpQuiet_step (fun K hK => ?_)
                   go_simp
                   first
                     | (with_reducible refine hK _ ?_
                        clear hK K)
                     | (rw [if_neg]
                        rotate_left
                        focus (intro h; cases h; done)
                        with_reducible refine hK _ ?_
                        clear hK K)
                     | (apply Exists.intro
                        refine ⟨fun _ => ?_, hK _ ?_⟩
                        (fail)
                        clear hK K))
                with_reducible refine wpQuiet_nil ?_
                intro wb hw'
                obtain ⟨⟨wb', lb⟩, hw''⟩ := hw'
                subst hw''
                have B3 := Lib.hid (below_step B1.out lb)
                clear lb
                go_wp2_with fail
                go_ret
                exact ⟨ret_int HC.out.symm, B3.out⟩
              · have HC : Hid (mayE L s k t = 0) := by show _ = _; rw [HF.out, decide_eq_false (fun h => he h.2)]; rfl
                have g2 : decide (t - y < x.2.2.1) = false := decide_eq_false he
                clear HF
                go_wp2_with fail
                replace x3 := cell_bw x3
                replace y1 := cell_bw y1
                refine wp_region_bw (by kernel_rfl) (by kernel_rfl) ?_
                repeat
                  (with_reducible refine wpQuiet_step (fun K hK => ?_)
                   go_simp
                   first
                     | (with_reducible refine hK _ ?_
                        clear hK K)
                     | (rw [if_neg]
                        rotate_left
                        focus (intro h; cases h; done)
                        with_reducible refine hK _ ?_
                        clear hK K)
                     | (apply Exists.intro
                        refine ⟨fun _ => ?_, hK _ ?_⟩
                        (fail)
                        clear hK K))
                with_reducible refine wpQuiet_nil ?_
                intro wb hw'
                obtain ⟨⟨wb', lb⟩, hw''⟩ := hw'
                subst hw''
                have B3 := Lib.hid (below_step B1.out lb)
                clear lb
                go_wp2_with fail
                go_ret
                exact ⟨ret_int HC.out.symm, B3.out⟩
            · have g1 : decide ((0 : Int) ≤ y) = false := decide_eq_false hy
              have HC : Hid (mayE L s k t = 0) := by show _ = _; rw [HF.out, decide_eq_false (fun h => hy h.1)]; rfl
              clear HF
              have HX := Lib.hid hx
              clear hx
              go_wp2_with fail
              replace x3 := cell_bw x3
              replace y1 := cell_bw y1
              refine wp_region_bw (by kernel_rfl) (by kernel_rfl) ?_
              repeat
                (with_reducible refine wpQuiet_step (fun K hK => ?_)
                 go_simp
                 first
                   | (with_reducible refine hK _ ?_
                      clear hK K)
                   | (rw [if_neg]
                      rotate_left
                      focus (intro h; cases h; done)
                      with_reducible refine hK _ ?_
                      clear hK K)
                   | (apply Exists.intro
                      refine ⟨fun _ => ?_, hK _ ?_⟩
                      (fail)
                      clear hK K))
              with_reducible refine wpQuiet_nil ?_
              intro wb hw'
              obtain ⟨⟨wb', lb⟩, hw''⟩ := hw'
              subst hw''
              have B3 := Lib.hid (below_step B1.out lb)
              clear lb
              go_wp2_with fail
              go_ret
              exact ⟨ret_int HC.out.symm, B3.out⟩
          · skip
            have HF := Lib.hid (may_arg (L := L) (s := s) (i := i) (t := t) (.inr (.inr (.inr (.inr (by omega))))))
            go_enter Try.func9, Try.ntmps9
            go_wp2_with fail
            refine (refRight_any A c L A2 c2 s _ HT.out HL.out).mono ?_
            rintro e w1 ⟨rfl, b1⟩
            rw [hs]
            go_wp2_with fail
            go_ret
            exact ⟨ret_int HF.out.symm, b1⟩
      · skip
        have HF := Lib.hid (may_arg (L := L) (s := s) (i := i) (t := t) (.inr (.inr (.inl (by omega)))))
        go_enter Try.func9, Try.ntmps9
        go_wp2_with fail
        refine (refRight_any A c L A2 c2 s _ HT.out HL.out).mono ?_
        rintro e w1 ⟨rfl, b1⟩
        rw [hs]
        go_wp2_with fail
        go_ret
        exact ⟨ret_int HF.out.symm, b1⟩

end Pc
end Go.Proofs.Ytfhifmpkdnnpmaa

/-
  Layer 16: the contracts under named answers; the helper knows: the document's example.
-/
namespace Go.Proofs.Ytfhifmpkdnnpmaa
open Go.RowKit Mm Tk
namespace Pc

theorem right_v (A : Option Addr) (c : Nat) (L : List Tsk) (A2 : Option Addr) (c2 : Nat) (s : List Int) (m n : Nat) (hm : L.length = m) (hn : s.length = n) (v : Bool) (hv : lastsB L s = v) (w : World) (H : TL w A c L) (H2 : IL w A2 c2 s) :
    Calls Try.prog 11 #[.slice A m c, .slice A2 n c2] w fun e w' => e = .returned (.bool v) ∧ Below w.heap.size w w' := by
  subst hm; subst hn; subst hv
  exact right_any A c L A2 c2 s w H H2
theorem note_v (A : Option Addr) (c : Nat) (L : List Tsk) (A2 : Option Addr) (c2 : Nat) (s : List Int) (i t : Int) (m n : Nat) (hm : L.length = m) (hn : s.length = n) (v : Int) (hv : mayE L s i t = v) (r : List Int) (hr : noteL L s i t = r) (w : World) (H : TL w A c L) (H2 : IL w A2 c2 s) :
    Calls Try.prog 10 #[.slice A m c, .slice A2 n c2, .int .i64 i, .int .i64 t] w fun e w' => ∃ A' c', e = .returned (.tuple #[.slice A' n c', .int .i64 v]) ∧ Rd w' A' c' r ∧ Below w.heap.size w w' := by
  subst hm; subst hn; subst hv; subst hr
  exact note_any A c L A2 c2 s i t w H H2
theorem filter_v (A : Option Addr) (c : Nat) (L : List Tsk) (A2 : Option Addr) (c2 : Nat) (q : List Ask) (m n : Nat) (hm : L.length = m) (hn : q.length = n) (f : List Bool) (hf : filterP L q = f) (k : Nat) (hk : f.length = k) (w : World) (H : TL w A c L) (H2 : QL w A2 c2 q) :
    Calls Try.prog 14 #[.slice A m c, .slice A2 n c2] w fun e w' => ∃ A' c', e = .returned (.slice A' k c') ∧ Rd w' A' c' f ∧ Below w.heap.size w w' := by
  subst hm; subst hn; subst hf; subst hk
  exact filter_any A c L A2 c2 q w H H2

theorem buildTask16 (C D T : Int) (w : World) : (Instr.build 47 #[(0, .int .i64 C), (1, .int .i64 D), (2, .int .i64 T)]).run Try.prog w = .ok (.agg #[.int .i64 C, .int .i64 D, .int .i64 T, .slice none 0 0]) w := by kernel_rfl
theorem buildAsk1 (t : Int) (w : World) : (Instr.build 42 #[(1, .int .i64 t)]).run Try.prog w = .ok (.agg #[.int .i64 0, .int .i64 t]) w := by kernel_rfl
attribute [local go_sem ↓] buildTask16 buildAsk1

def kL : List Tsk := [(1, 5, 5, [])]
def kQ : List Ask := [(0, 0), (0, 4), (0, 5), (0, 9), (0, 11)]
def kF : List Bool := [true, false, true, false, true]
def kS : List Int := [-1]
def kN : List Int := [7]
theorem kF_eq : filterP kL kQ = kF := by decide
theorem kM_eq : mayE kL kS 0 7 = 0 := by decide
theorem kN_eq : noteL kL kS 0 7 = kN := by decide
theorem k11 : mayE kL kN 0 11 = 6 := by decide
theorem k12 : mayE kL kN 0 12 = 0 := by decide
theorem kR : lastsB kL kN = true := by decide
theorem kL_tl (w : World) : TL (w.alloc (.cells #[.int .i64 1, .int .i64 5, .int .i64 5, .slice none 0 0] 47)) (some ⟨w.heap.size, 0, none⟩) 1 kL :=
  ⟨by decide, fun j hj => by
    have : j < 1 := hj
    match j, this with
    | 0, _ => decide, rd_lit w kL 1 rfl _ _ (by decide) (rows_task (1, 5, 5, []) rfl (fit_small rfl) (fit_small rfl) (fit_small rfl) (rd_nil (fun _ => rfl) (by unfold maxLen; omega)) rows_none)⟩
theorem kQ_ql (w : World) : QL (w.alloc (.cells #[.int .i64 0, .int .i64 0, .int .i64 0, .int .i64 4, .int .i64 0, .int .i64 5, .int .i64 0, .int .i64 9, .int .i64 0, .int .i64 11] 42)) (some ⟨w.heap.size, 0, none⟩) 5 kQ :=
  ⟨by decide, rd_lit w kQ 5 rfl _ _ (by decide) (rows_ask 0 0 (fit_small rfl) (fit_small rfl) (rows_ask 0 4 (fit_small rfl) (fit_small rfl) (rows_ask 0 5 (fit_small rfl) (fit_small rfl) (rows_ask 0 9 (fit_small rfl) (fit_small rfl) (rows_ask 0 11 (fit_small rfl) (fit_small rfl) rows_none)))))⟩

set_option maxRecDepth 20000 in
set_option maxHeartbeats 800000 in
theorem knows_any (w : World) :
    Calls Try.prog 8 #[] w fun e w' => e = .returned (.bool true) ∧ Below w.heap.size w w' := by
  have HT1 := Lib.hid ((kL_tl w).below (below_one (w.alloc (.cells #[.int .i64 1, .int .i64 5, .int .i64 5, .slice none 0 0] 47)) (.cells #[.int .i64 0, .int .i64 0, .int .i64 0, .int .i64 4, .int .i64 0, .int .i64 5, .int .i64 0, .int .i64 9, .int .i64 0, .int .i64 11] 42)))
  have HQ := Lib.hid (kQ_ql (w.alloc (.cells #[.int .i64 1, .int .i64 5, .int .i64 5, .slice none 0 0] 47)))
  simp only [World.size_alloc] at HQ
  have B1 := Lib.hid (below_two w (.cells #[.int .i64 1, .int .i64 5, .int .i64 5, .slice none 0 0] 47) (.cells #[.int .i64 0, .int .i64 0, .int .i64 0, .int .i64 4, .int .i64 0, .int .i64 5, .int .i64 0, .int .i64 9, .int .i64 0, .int .i64 11] 42))
  go_enter Try.func8, Try.ntmps8
  go_wp2_with fail
  generalize (w.alloc (.cells #[.int .i64 1, .int .i64 5, .int .i64 5, .slice none 0 0] 47)).alloc (.cells #[.int .i64 0, .int .i64 0, .int .i64 0, .int .i64 4, .int .i64 0, .int .i64 5, .int .i64 0, .int .i64 9, .int .i64 0, .int .i64 11] 42) = w1 at *
  generalize (some ⟨w.heap.size, 0, none⟩ : Option Addr) = A at *
  generalize (some ⟨w.heap.size + 1, 0, none⟩ : Option Addr) = A1 at *
  refine (filter_v A 1 kL A1 5 kQ 1 5 rfl rfl kF kF_eq 5 rfl _ HT1.out HQ.out).mono ?_
  rintro e w2 ⟨A2, c2, rfl, r2, b2⟩
  have B2 := Lib.hid (below_step B1.out b2)
  have HT2 := Lib.hid (HT1.out.below b2)
  obtain ⟨g, off, rfl, hc⟩ := r2.flag (by decide)
  have x0 := hc 0 (by decide)
  have x1 := hc 1 (by decide)
  have x2 := hc 2 (by decide)
  have x3 := hc 3 (by decide)
  have x4 := hc 4 (by decide)
  rw [Nat.add_zero] at x0
  rw [show at_ kF 0 = true from rfl] at x0
  rw [show at_ kF 1 = false from rfl] at x1
  rw [show at_ kF 2 = true from rfl] at x2
  rw [show at_ kF 3 = false from rfl] at x3
  rw [show at_ kF 4 = true from rfl] at x4
  have b3 := below_one w2 (.cells #[.int .i64 (-1)] 3)
  have HI3 : Hid (IL (w2.alloc (.cells #[.int .i64 (-1)] 3)) (some ⟨w2.heap.size, 0, none⟩) 1 kS) := ⟨by decide, rd_new1 w2 3 (-1) ⟨by omega, by omega⟩⟩
  have HT3 := Lib.hid (HT2.out.below b3)
  have B3 := Lib.hid (below_step B2.out b3)
  replace x0 := cell_below b3 x0
  replace x1 := cell_below b3 x1
  replace x2 := cell_below b3 x2
  replace x3 := cell_below b3 x3
  replace x4 := cell_below b3 x4
  clear b2 b3 hc r2 HT1 HT2 HQ
  go_wp2_with fail
  refine (note_v A 1 kL _ 1 kS 0 7 1 1 rfl rfl 0 kM_eq kN kN_eq _ HT3.out HI3.out).mono ?_
  rintro e w4 ⟨A4, c4, rfl, r4, b4⟩
  have B4 := Lib.hid (below_step B3.out b4)
  have HT4 := Lib.hid (HT3.out.below b4)
  have HI4 : Hid (IL w4 A4 c4 kN) := ⟨by decide, r4⟩
  obtain ⟨g4, off4, rfl, hc4⟩ := r4.int (by decide)
  have y0 := (hc4 0 (by decide)).1
  rw [Nat.add_zero, show at_ kN 0 = 7 from rfl] at y0
  replace x0 := (cell_below b4) x0
  replace x1 := (cell_below b4) x1
  replace x2 := (cell_below b4) x2
  replace x3 := (cell_below b4) x3
  replace x4 := (cell_below b4) x4
  clear b4 hc4 r4 HT3 HI3
  go_wp2_with fail
  refine (may_v A 1 kL _ c4 kN 0 11 1 1 rfl rfl 6 k11 _ HT4.out HI4.out).mono ?_
  rintro e w5 ⟨rfl, b5⟩
  have B5 := Lib.hid (below_step B4.out b5)
  have HT5 := Lib.hid (HT4.out.below b5)
  have HI5 := Lib.hid (HI4.out.below b5)
  clear b5
  go_wp2_with fail
  refine (may_v A 1 kL _ c4 kN 0 12 1 1 rfl rfl 0 k12 _ HT5.out HI5.out).mono ?_
  rintro e w6 ⟨rfl, b6⟩
  have B6 := Lib.hid (below_step B5.out b6)
  have HT6 := Lib.hid (HT5.out.below b6)
  have HI6 := Lib.hid (HI5.out.below b6)
  clear b6
  go_wp2_with fail
  refine (right_v A 1 kL _ c4 kN 1 1 rfl rfl true kR _ HT6.out HI6.out).mono ?_
  rintro e w7 ⟨rfl, b7⟩
  have B7 := Lib.hid (below_step B6.out b7)
  clear b7
  go_wp2_with fail
  go_ret
  exact ⟨rfl, B7.out⟩

end Pc
end Go.Proofs.Ytfhifmpkdnnpmaa

/-
  Layer 16: the helper parts: the tasks, and the ticks, of asks.
-/
namespace Go.Proofs.Ytfhifmpkdnnpmaa
open Go.RowKit Mm Tk
namespace Pc

/-- the tasks of asks; their ticks -/
def tsk (q : List Ask) : List Int := q.map (·.1)
def ats (q : List Ask) : List Int := q.map (·.2)
theorem tsk_length (q : List Ask) : (tsk q).length = q.length := List.length_map ..
theorem ats_length (q : List Ask) : (ats q).length = q.length := List.length_map ..
theorem at_tsk {q : List Ask} {j : Nat} (h : j < q.length) : at_ (tsk q) j = (at_ q j).1 := by
  rw [at_get (by rw [tsk_length]; exact h), at_get h]
  simp [tsk]
theorem at_ats {q : List Ask} {j : Nat} (h : j < q.length) : at_ (ats q) j = (at_ q j).2 := by
  rw [at_get (by rw [ats_length]; exact h), at_get h]
  simp [ats]
theorem tsk_step {q : List Ask} {k : Nat} (h : k < q.length) : tsk (q.take (k + 1)) = tsk (q.take k) ++ [(at_ q k).1] := by
  rw [take_succ_at h]
  simp [tsk]
theorem ats_step {q : List Ask} {k : Nat} (h : k < q.length) : ats (q.take (k + 1)) = ats (q.take k) ++ [(at_ q k).2] := by
  rw [take_succ_at h]
  simp [ats]

theorem one_cell (w : World) (v : Value) (t : TypeId) : ∀ j u, [v][j]? = some u → (w.alloc (Obj.cells #[v] t)).cell? ⟨w.heap.size, 0 + j, none⟩ = some u := fun j u hu => by
  match j, hu with
  | 0, hu => simp at hu; subst hu; simp
  | j + 1, hu => simp at hu
/-- the answer of parts -/
def PartsOf (q : List Ask) (w : World) (e : Ending) (w' : World) : Prop :=
  ∃ A1 c1 A2 c2, e = .returned (.tuple #[.slice A1 q.length c1, .slice A2 q.length c2]) ∧ Rd w' A1 c1 (tsk q) ∧ Rd w' A2 c2 (ats q) ∧ Below w.heap.size w w'

set_option maxRecDepth 20000 in
set_option maxHeartbeats 1600000 in
theorem parts_any (A : Option Addr) (c : Nat) (q : List Ask) (w : World) (hbig : q.length ≤ 1000) (hr : Rd w A c q) :
    Calls Try.prog 16 #[.slice A q.length c] w (PartsOf q w) := by
  have HR := Lib.hid hr
  clear hr
  go_enter Try.func16, Try.ntmps16
  go_wp2_with fail
  go_loopw [4, 5, 6] (fun a b i wr => ∃ (k : Nat) (A1 : Option Addr) (c1 : Nat) (A2 : Option Addr) (c2 : Nat), i = .int .i64 k ∧ a = .slice A1 k c1 ∧ b = .slice A2 k c2 ∧ k ≤ q.length ∧ Hid (OwL wr w.heap.size 3 A1 c1 (tsk (q.take k))) ∧ Hid (OwL wr w.heap.size 3 A2 c2 (ats (q.take k))) ∧ Hid (Two A1 A2) ∧ Hid (Below w.heap.size w wr)) (fun _ _ i _ => q.length - (intOf i).toNat)
  case atStart => exact ⟨0, none, 0, none, 0, rfl, rfl, rfl, Nat.zero_le _, owl_nil _ _ _, owl_nil _ _ _, two_nil _, Below.refl _ _⟩
  case round =>
    obtain ⟨k, A1, c1, A2, c2, rfl, rfl, rfl, hk, O1, O2, HTW, HB⟩ := hrel
    by_cases hlt : k < q.length
    · obtain ⟨b, off, rfl, hc⟩ := ask_at HR.out (by omega)
      obtain ⟨q0, q1, f0, f1⟩ := hc k hlt
      have HK1 : Hid ((tsk (q.take k)).length = k) := by show _ = _; rw [tsk_length, List.length_take]; omega
      have HK2 : Hid ((ats (q.take k)).length = k) := by show _ = _; rw [ats_length, List.length_take]; omega
      have HS1 := Lib.hid (tsk_step hlt)
      have HS2 := Lib.hid (ats_step hlt)
      have HKB : Hid (k + 1 ≤ 1000000) := by show _ ≤ _; omega
      clear hc
      generalize at_ q k = x at *
      have HX1 := Lib.hid q1
      have x0 := cell_below HB.out q0
      have b1 := below_one wr (Obj.cells #[.int .i64 x.1] 3)
      have P1 := Lib.hid (O1.out.below b1)
      have P2 := Lib.hid (O2.out.below b1)
      have HB1 := Lib.hid (below_step HB.out b1)
      have HCX := Lib.hid (one_cell wr (.int .i64 x.1) 3)
      have HRX : Hid (Mm.Rows (wr.alloc (Obj.cells #[.int .i64 x.1] 3)) (fun b => b < w.heap.size) [.int .i64 x.1] [x.1]) := rows_int_ x.1 f0 rows_nil_
      clear b1 q0 q1
      go_wp2_with (at_builtin
                   first
                   | (refine list_two slI rfl _ _ rfl (base := w.heap.size) (A := A1) (B := A2) (l := tsk (q.take k)) (lo := ats (q.take k)) (r := [x.1]) (n := k) (m := 1) HK1.out rfl rfl rfl P1.out P2.out HTW.out HRX.out HCX.out HKB.out HB1.out.size ?_
                      intro A3 c3 w3 k1 k2 k3 k4
                      have B3 := Lib.hid (HB1.out.trans k4)
                      have z1 := cell_below B3.out HX1.out
                      have b4 := below_one w3 (Obj.cells #[.int .i64 x.2] 3)
                      have P3 : Hid (OwL (w3.alloc (Obj.cells #[.int .i64 x.2] 3)) w.heap.size 3 A3 c3 (tsk (q.take (k + 1)))) := by show OwL _ _ _ _ _ _; rw [HS1.out]; exact k1.below b4
                      have P4 := Lib.hid (k2.below b4)
                      have T3 := Lib.hid k3.swap
                      have HB4 := Lib.hid (below_step B3.out b4)
                      have HCY : Hid (∀ j u, [Value.int .i64 x.2][j]? = some u → (w3.alloc (Obj.cells #[.int .i64 x.2] 3)).cell? ⟨w3.heap.size, 0 + j, none⟩ = some u) := one_cell w3 (.int .i64 x.2) 3
                      have HRY : Hid (Mm.Rows (w3.alloc (Obj.cells #[.int .i64 x.2] 3)) (fun b => b < w.heap.size) [.int .i64 x.2] [x.2]) := rows_int_ x.2 f1 rows_nil_
                      clear k1 k2 k3 k4 b4 P1 P2 HCX HRX HB1)
                   | (refine list_two slI rfl _ _ rfl (base := w.heap.size) (A := A2) (B := A3) (l := ats (q.take k)) (lo := tsk (q.take (k + 1))) (r := [x.2]) (n := k) (m := 1) HK2.out rfl rfl rfl P4.out P3.out T3.out HRY.out HCY.out HKB.out HB4.out.size ?_
                      intro A5 c5 w5 k1 k2 k3 k4
                      have B5 := Lib.hid (HB4.out.trans k4)
                      have O5 := Lib.hid k1
                      have O6 := Lib.hid k2
                      have T5 := Lib.hid k3
                      clear k1 k2 k3 k4))
      go_roundw
      case rel => exact ⟨k + 1, A3, c3, A5, c5, by go_num, rfl, rfl, hlt, O6.out, by show OwL _ _ _ _ _ _; rw [HS2.out]; exact O5.out, T5.out.swap, B5.out⟩
      case measure => (simp [intOf] <;> omega)
    · have hkl : k = q.length := by omega
      subst hkl
      have HF : Hid (PartsOf q w (.returned (.tuple #[.slice A1 q.length c1, .slice A2 q.length c2])) wr) := ⟨A1, c1, A2, c2, rfl, by have := O1.out.rd; rwa [List.take_length] at this, by have := O2.out.rd; rwa [List.take_length] at this, HB.out⟩
      go_wp2_with fail
      go_ret2
      exact HF.out

end Pc
end Go.Proofs.Ytfhifmpkdnnpmaa

/-
  Layer 16: the references of the statements: Filter.
-/
namespace Go.Proofs.Ytfhifmpkdnnpmaa
open Go.RowKit Mm Tk Dm
namespace Pc

/-- the answer of the reference's Filter -/
def RefOf (L : List Tsk) (q : List Ask) (w : World) (e : Ending) (w' : World) : Prop :=
  ∃ A' c', e = .returned (.slice A' q.length c') ∧ Rd w' A' c' (runF L q q.length) ∧ Below w.heap.size w w'
theorem runF_ref {L : List Tsk} (h : allB L = true) (q : List Ask) (k : Nat) : runF L q (k + 1) = runF L q k ++ [refB L q (runF L q k) k] := by
  rw [runF, refB_may h q fun j hj => runF_at L q hj]
theorem last_in {L : List Tsk} (h : allB L = true) (q : List Ask) (k i : Nat) (hi : i < L.length) : -1 ≤ lastTo (runF L q k) q i k ∧ lastTo (runF L q k) q i k ≤ 4611686018427387903 := by
  rw [← runS_last h q (fun j hj => runF_at L q hj) k (Nat.le_refl _) i hi]
  obtain ⟨_, h2, h3⟩ := lastsB_iff.1 (runS_valid h q k)
  exact h3 i (by omega)

set_option maxRecDepth 20000 in
set_option maxHeartbeats 1600000 in
theorem refFilter_any (A : Option Addr) (c : Nat) (L : List Tsk) (A1 : Option Addr) (c1 : Nat) (A2 : Option Addr) (c2 : Nat) (q : List Ask) (n : Nat) (hn : q.length = n) (w : World) (hbig : n ≤ 1000) (ha : allB L = true) (H : TL w A c L) (H1 : Rd w A1 c1 (tsk q)) (H2 : Rd w A2 c2 (ats q)) :
    Calls Try.prog 17 #[.slice A L.length c, .slice A1 n c1, .slice A2 n c2] w (RefOf L q w) := by
  have HT := Lib.hid H
  have HI1 := Lib.hid H1
  have HI2 := Lib.hid H2
  have HA := Lib.hid ha
  have HQN := Lib.hid hn
  have hLb := H.1
  have HFIT : Hid (∀ k, k < n → Fit (at_ q k).1 ∧ Fit (at_ q k).2) := fun k hk => by
    obtain ⟨_, _, _, g1⟩ := H1.int (by rw [tsk_length]; omega)
    obtain ⟨_, _, _, g2⟩ := H2.int (by rw [ats_length]; omega)
    have h1 := (g1 k (by rw [tsk_length]; omega)).2
    have h2 := (g2 k (by rw [ats_length]; omega)).2
    rw [at_tsk (by omega)] at h1
    rw [at_ats (by omega)] at h2
    exact ⟨h1, h2⟩
  have HFIN : Hid (∀ A' c' w', Rd w' A' c' (runF L q n) → Below w.heap.size w w' → RefOf L q w (.returned (.slice A' n c')) w') := fun A' c' w' h1 h2 => ⟨A', c', by rw [hn], by rw [hn]; exact h1, h2⟩
  clear H H1 H2 ha hn
  go_enter Try.func17, Try.ntmps17
  go_wp2_with fail
  go_loopw [7, 8] (fun o i wr => ∃ (k : Nat) (A3 : Option Addr) (c3 : Nat), o = .slice A3 k c3 ∧ i = .int .i64 k ∧ k ≤ n ∧ Hid (Ow wr w.heap.size 4 A3 c3 (runF L q k)) ∧ Hid (Below w.heap.size w wr)) (fun _ i _ => n - (intOf i).toNat)
  case atStart => exact ⟨0, none, 0, rfl, rfl, Nat.zero_le _, ow_none _ _ _, Below.refl _ _⟩
  case round =>
    obtain ⟨k, A3, c3, rfl, rfl, hk, HOW, HB⟩ := hrel
    by_cases hlt : k < n
    · have hkq : k < q.length := by have := HQN.out; omega
      obtain ⟨b1, o1, rfl, g1⟩ := (HI1.out.below HB.out).int (by rw [tsk_length]; omega)
      obtain ⟨b2, o2, rfl, g2⟩ := (HI2.out.below HB.out).int (by rw [ats_length]; omega)
      obtain ⟨x1, _⟩ := g1 k (by rw [tsk_length]; omega)
      obtain ⟨x2, _⟩ := g2 k (by rw [ats_length]; omega)
      rw [at_tsk hkq] at x1
      rw [at_ats hkq] at x2
      have HG1 : Hid (∀ j, j < n → wr.cell? ⟨b1, o1 + j, none⟩ = some (.int .i64 (at_ q j).1)) := fun j hj => by have h := HQN.out; have := (g1 j (by rw [tsk_length]; omega)).1; rwa [at_tsk (by omega)] at this
      have HG2 : Hid (∀ j, j < n → wr.cell? ⟨b2, o2 + j, none⟩ = some (.int .i64 (at_ q j).2)) := fun j hj => by have h := HQN.out; have := (g2 j (by rw [ats_length]; omega)).1; rwa [at_ats (by omega)] at this
      have HN := Lib.hid (runF_ref HA.out q k)
      have HKL := Lib.hid (runF_length L q k)
      have HLS := Lib.hid (last_in HA.out q k)
      have HK1 : Hid (k + 1 ≤ 1000000) := by show _ ≤ _; omega
      have hf := HFIT.out k hlt
      have i1 : (0 : Int) ≤ (k : Int) := by omega
      have i2 : (k : Int) < (n : Int) := by omega
      unfold refB at HN
      clear g1 g2
      generalize hx : at_ q k = x at *
      have HX := Lib.hid hx
      clear hx
      obtain ⟨v, hv⟩ : ∃ v, decide (0 ≤ x.1 ∧ x.1 < L.length ∧ 0 ≤ x.2 ∧ x.2 ≤ 4611686018427387703) = v := ⟨_, rfl⟩
      rw [hv] at HN
      have HV := Lib.hid hv
      go_wp2_with fail
      replace x1 := cell_bw x1
      replace x2 := cell_bw x2
      refine wp_region_bw (by kernel_rfl) (by kernel_rfl) ?_
      repeat
        (with_reducible refine wpQuiet_step (fun K hK => ?_)
         go_simp
         first
           | (with_reducible refine hK _ ?_
              clear hK K)
           | (rw [if_neg]
              rotate_left
              focus (intro h; cases h; done)
              with_reducible refine hK _ ?_
              clear hK K)
           | (apply Exists.intro
              refine ⟨fun _ => ?_, hK _ ?_⟩
              (fail)
              clear hK K))
      with_reducible refine wpQuiet_nil ?_
      intro wb hw'
      obtain ⟨⟨wb', lb⟩, hw''⟩ := hw'
      subst hw''
      have B2 := Lib.hid (below_step HB.out lb)
      clear x1 x2
      go_upto_region 6 with fail
      go_cut [11] (fun s wx => s = .bool v ∧ wb = wx)
      case first =>
        by_cases h1 : 0 ≤ x.1
        · have d1 : decide (0 ≤ x.1) = true := decide_eq_true h1
          by_cases h2 : x.1 < (L.length : Int)
          · have d2 : decide (x.1 < (L.length : Int)) = true := decide_eq_true h2
            by_cases h3 : 0 ≤ x.2
            · have d3 : decide (0 ≤ x.2) = true := decide_eq_true h3
              have HD : Hid (Value.bool (decide (x.2 ≤ 4611686018427387703)) = .bool v) := by show _ = _; rw [← hv]; simp [h1, h2, h3]
              clear hv HV HN
              go_wp2_with fail
              go_meet
              case rel => exact ⟨HD.out, rfl⟩
            · have d3 : decide (0 ≤ x.2) = false := decide_eq_false h3
              have HD : Hid (Value.bool false = .bool v) := by show _ = _; rw [← hv]; simp [h3]
              clear hv HV HN
              go_wp2_with fail
              go_meet
              case rel => exact ⟨HD.out, rfl⟩
          · have d2 : decide (x.1 < (L.length : Int)) = false := decide_eq_false h2
            have HD : Hid (Value.bool false = .bool v) := by show _ = _; rw [← hv]; simp [h2]
            clear hv HV HN
            go_wp2_with fail
            go_meet
            case rel => exact ⟨HD.out, rfl⟩
        · have d1 : decide (0 ≤ x.1) = false := decide_eq_false h1
          have HD : Hid (Value.bool false = .bool v) := by show _ = _; rw [← hv]; simp [h1]
          clear hv HV HN
          go_wp2_with fail
          go_meet
          case rel => exact ⟨HD.out, rfl⟩
      case rest =>
        obtain ⟨rfl, rfl⟩ := hcut
        clear hv
        go_wp2_with fail
        go_loop [12, 13] (fun la i => ∃ j : Nat, i = .int .i64 j ∧ la = .int .i64 (lastTo (runF L q k) q x.1 j) ∧ j ≤ k) (fun _ i => k - (intOf i).toNat)
        case atStart => exact ⟨0, rfl, rfl, Nat.zero_le _⟩
        case round =>
          obtain ⟨j, rfl, rfl, hj⟩ := hrel
          by_cases hjl : j < k
          · obtain ⟨b3, o3, rfl, g3⟩ := (Rd.below HOW.out.rd lb).flag (by have := HKL.out; omega)
            have x3 := g3 j (by have := HKL.out; omega)
            have x1 := cell_below lb (HG1.out j (by omega))
            have x2 := cell_below lb (HG2.out j (by omega))
            have j1 : (0 : Int) ≤ (j : Int) := by omega
            have j2 : (j : Int) < (n : Int) := by omega
            have j3 : (j : Int) < (k : Int) := by omega
            have HLT : Hid (lastTo (runF L q k) q x.1 (j + 1) = if at_ (runF L q k) j = true ∧ (at_ q j).1 = x.1 then (at_ q j).2 else lastTo (runF L q k) q x.1 j) := rfl
            clear g3
            generalize hb : at_ (runF L q k) j = f at *
            have HB := Lib.hid hb
            clear hb
            generalize at_ q j = y at *
            cases f with
            | false =>
              have HL2 : Hid (lastTo (runF L q k) q x.1 (j + 1) = lastTo (runF L q k) q x.1 j) := by show _ = _; rw [HLT.out, if_neg (fun h => by cases h.1)]
              clear HLT
              go_wp2_with fail
              go_round
              case rel => exact ⟨j + 1, by go_num, by rw [HL2.out], hjl⟩
              case measure => (simp [intOf] <;> omega)
            | true =>
              by_cases he : y.1 = x.1
              · have HL2 : Hid (lastTo (runF L q k) q x.1 (j + 1) = y.2) := by show _ = _; rw [HLT.out, if_pos ⟨rfl, he⟩]
                have he2 : (y.1 == x.1) = true := by simp [he]
                clear HLT
                have HE := Lib.hid he
                clear he
                go_wp2_with fail
                go_round
                case rel => exact ⟨j + 1, by go_num, by rw [HL2.out], hjl⟩
                case measure => (simp [intOf] <;> omega)
              · have HL2 : Hid (lastTo (runF L q k) q x.1 (j + 1) = lastTo (runF L q k) q x.1 j) := by show _ = _; rw [HLT.out, if_neg (fun h => he h.2)]
                have he2 : (y.1 == x.1) = false := by simp [he]
                clear HLT
                have HE := Lib.hid he
                clear he
                go_wp2_with fail
                go_round
                case rel => exact ⟨j + 1, by go_num, by rw [HL2.out], hjl⟩
                case measure => (simp [intOf] <;> omega)
          · have hjk : j = k := by omega
            subst hjk
            have HLK := HLS
            clear HG1 HG2
            generalize hz : lastTo (runF L q j) q x.1 j = z at *
            have HZ := Lib.hid hz
            clear hz
            cases v with
            | false =>
              have HN2 : Hid (runF L q (j + 1) = runF L q j ++ [false]) := HN.out
              clear HN
              have HO2 := Lib.hid ((HOW.out.below lb (Nat.le_refl _)).alloc (Obj.cells #[.bool false] 4))
              have HD2 := Lib.hid (rd_literal wb [false] 1 rfl #[.bool false] 4 (by omega) (rows_bool_ false rows_nil_))
              have BA := Lib.hid (below_step B2.out (below_one wb (Obj.cells #[.bool false] 4)))
              clear lb
              go_wp2_with (at_builtin
                           refine list_app_n slF rfl _ _ rfl (base := w.heap.size) (l := runF L q j) (r := [false]) (n := j) (m := 1) HKL.out rfl rfl rfl HO2.out HD2.out HK1.out (by have := BA.out.size; exact this) ?_
                           intro A3 c3 w3 k1 k2 k3
                           have O3 := Lib.hid k1
                           have B3 := Lib.hid (BA.out.trans k2)
                           clear k1 k2 k3)
              go_roundw
              case rel => exact ⟨j + 1, A3, c3, rfl, by go_num, hlt, by show Ow _ _ _ _ _ _; rw [HN2.out]; exact O3.out, B3⟩
              case measure => (simp [intOf] <;> omega)
            | true =>
              obtain ⟨h1, h2, h3, h4⟩ := of_decide_eq_true HV.out
              obtain ⟨i, hi⟩ : ∃ i : Nat, x.1 = i := ⟨x.1.toNat, by omega⟩
              have hz2 := HLS.out i (by omega)
              rw [← hi, HZ.out] at hz2
              rw [hi, Int.toNat_natCast] at HN
              have hiL : i < L.length := by omega
              have hT := task_times HA.out hiL
              obtain ⟨b4, o4, rfl, hc⟩ := task_at (HT.out.below B2.out).2.2 (by omega)
              obtain ⟨B, d, _, _, y3, _, _, _, _, _⟩ := hc i hiL
              have e1 : IntKind.i64.wrap (x.2 - z) = x.2 - z := IntWalk.i64_in _ (by omega)
              have i3 : (0 : Int) ≤ (i : Int) := by omega
              have i4 : (i : Int) < (L.length : Int) := by omega
              clear hc hT
              generalize at_ L i = ti at *
              obtain ⟨x1, x2⟩ := x
              simp only at hi
              subst hi
              by_cases hz0 : 0 ≤ z
              · have g1 : decide (0 ≤ z) = true := decide_eq_true hz0
                by_cases hzt : x2 - z < ti.2.2.1
                · have g2 : decide (x2 - z < ti.2.2.1) = true := decide_eq_true hzt
                  have HN2 : Hid (runF L q (j + 1) = runF L q j ++ [false]) := by show _ = _; rw [HN.out]; simp [hz0, hzt]
                  clear HN
                  have HO2 := Lib.hid ((HOW.out.below lb (Nat.le_refl _)).alloc (Obj.cells #[.bool false] 4))
                  have HD2 := Lib.hid (rd_literal wb [false] 1 rfl #[.bool false] 4 (by omega) (rows_bool_ false rows_nil_))
                  have BA := Lib.hid (below_step B2.out (below_one wb (Obj.cells #[.bool false] 4)))
                  clear lb
                  go_wp2_with (at_builtin
                               refine list_app_n slF rfl _ _ rfl (base := w.heap.size) (l := runF L q j) (r := [false]) (n := j) (m := 1) HKL.out rfl rfl rfl HO2.out HD2.out HK1.out (by have := BA.out.size; exact this) ?_
                               intro A3 c3 w3 k1 k2 k3
                               have O3 := Lib.hid k1
                               have B3 := Lib.hid (BA.out.trans k2)
                               clear k1 k2 k3)
                  go_roundw
                  case rel => exact ⟨j + 1, A3, c3, rfl, by go_num, hlt, by show Ow _ _ _ _ _ _; rw [HN2.out]; exact O3.out, B3⟩
                  case measure => (simp [intOf] <;> omega)
                · have g2 : decide (x2 - z < ti.2.2.1) = false := decide_eq_false hzt
                  have HN2 : Hid (runF L q (j + 1) = runF L q j ++ [true]) := by show _ = _; rw [HN.out]; simp [hz0, hzt]
                  clear HN
                  have HO2 := Lib.hid ((HOW.out.below lb (Nat.le_refl _)).alloc (Obj.cells #[.bool true] 4))
                  have HD2 := Lib.hid (rd_literal wb [true] 1 rfl #[.bool true] 4 (by omega) (rows_bool_ true rows_nil_))
                  have BA := Lib.hid (below_step B2.out (below_one wb (Obj.cells #[.bool true] 4)))
                  clear lb
                  go_wp2_with (at_builtin
                               refine list_app_n slF rfl _ _ rfl (base := w.heap.size) (l := runF L q j) (r := [true]) (n := j) (m := 1) HKL.out rfl rfl rfl HO2.out HD2.out HK1.out (by have := BA.out.size; exact this) ?_
                               intro A3 c3 w3 k1 k2 k3
                               have O3 := Lib.hid k1
                               have B3 := Lib.hid (BA.out.trans k2)
                               clear k1 k2 k3)
                  go_roundw
                  case rel => exact ⟨j + 1, A3, c3, rfl, by go_num, hlt, by show Ow _ _ _ _ _ _; rw [HN2.out]; exact O3.out, B3⟩
                  case measure => (simp [intOf] <;> omega)
              · have g1 : decide (0 ≤ z) = false := decide_eq_false hz0
                have HN2 : Hid (runF L q (j + 1) = runF L q j ++ [true]) := by show _ = _; rw [HN.out]; simp [hz0]
                clear HN
                have HO2 := Lib.hid ((HOW.out.below lb (Nat.le_refl _)).alloc (Obj.cells #[.bool true] 4))
                have HD2 := Lib.hid (rd_literal wb [true] 1 rfl #[.bool true] 4 (by omega) (rows_bool_ true rows_nil_))
                have BA := Lib.hid (below_step B2.out (below_one wb (Obj.cells #[.bool true] 4)))
                clear lb
                go_wp2_with (at_builtin
                             refine list_app_n slF rfl _ _ rfl (base := w.heap.size) (l := runF L q j) (r := [true]) (n := j) (m := 1) HKL.out rfl rfl rfl HO2.out HD2.out HK1.out (by have := BA.out.size; exact this) ?_
                             intro A3 c3 w3 k1 k2 k3
                             have O3 := Lib.hid k1
                             have B3 := Lib.hid (BA.out.trans k2)
                             clear k1 k2 k3)
                go_roundw
                case rel => exact ⟨j + 1, A3, c3, rfl, by go_num, hlt, by show Ow _ _ _ _ _ _; rw [HN2.out]; exact O3.out, B3⟩
                case measure => (simp [intOf] <;> omega)
    · have hkn : k = n := by omega
      subst hkn
      have HF := Lib.hid (HFIN.out A3 c3 wr HOW.out.rd HB.out)
      go_wp2_with fail
      go_ret
      exact HF.out

end Pc
end Go.Proofs.Ytfhifmpkdnnpmaa

/-
  Layer 16: 'make' of a slice of slices of ints; a block of slices, each one's ints of the call's own, apart from those of the others: one of them appended to, and stored.
-/
namespace Go.Proofs.Ytfhifmpkdnnpmaa
open Go.RowKit Mm Tk
namespace Pc

theorem infoRow : (Try.prog.info? 23).map (fun i => (i.zero, i.size, i.bytes)) = some (some (.slice none 0 0), 1, 24) := by kernel_rfl
theorem mk_rows (n : Nat) (hbig : n ≤ 1000000) (w : World) : (Instr.makeSlice 40 (.int .i64 (n : Int)) (.int .i64 (n : Int))).run Try.prog w = .ok (.slice (some ⟨w.heap.size, 0, none⟩) n n) (w.alloc (.cells (madeCells #[.slice none 0 0] n) 23)) := by
  have h0 := infoRow
  obtain ⟨i, hi, hh⟩ := Option.map_eq_some_iff.1 h0
  simp only [Prod.mk.injEq] at hh
  have hr := run_make (P := Try.prog) w 40 23 i (.slice none 0 0) Try.underlying40 hi hh.1 .i64 .i64 n n (by omega) (Int.le_refl _) (by rw [hh.2.2]; omega) (by omega)
  simp only [Int.toNat_natCast, hh.2.1, Nat.mul_one] at hr
  exact hr
theorem list_rows {w : World} {ops : Array Oper} {rest : List Oper} {o : Oper} {a : Act} {Q : Exit → Act → World → Prop} (hg : o.guard = none) (s x : Operand) (ho : o.op = .makeSlice 40 s x)
    (n : Nat) (h1 : a.eval s = .int .i64 (n : Int)) (h2 : a.eval x = .int .i64 (n : Int)) (hbig : n ≤ 1000000)
    (hK : wpList Try.prog ops Q rest (a.put o.dst (.slice (some ⟨w.heap.size, 0, none⟩) n n)) (w.alloc (.cells (madeCells #[.slice none 0 0] n) 23))) :
    wpList Try.prog ops Q (o :: rest) a w :=
  wpList_plain hg fun _ hK' => wp_mk_run s x _ ho _ _ _ _ h1 h2 (mk_rows n hbig w) (hK' _ _ hK)

/-- block X holds n slices, at A j of capacity c j, with the ints f j -/
structure Rw (w : World) (base X n : Nat) (A : Nat → Option Addr) (c : Nat → Nat) (f : Nat → List Int) : Prop where
  lt : X < base
  here : X < w.heap.size
  cell : ∀ j, j < n → w.cell? ⟨X, j, none⟩ = some (.slice (A j) (f j).length (c j))
  free : ∀ j, w.frozen? ⟨X, j, none⟩ = false
  own : ∀ j, j < n → Ow w base 3 (A j) (c j) (f j)
  two : ∀ i j, i < n → j < n → i ≠ j → Two (A i) (A j)
theorem Rw.below {w w' : World} {base X n : Nat} {A : Nat → Option Addr} {c : Nat → Nat} {f : Nat → List Int} (h : Rw w base X n A c f) (b : Below w.heap.size w w') : Rw w' base X n A c f :=
  ⟨h.lt, Nat.lt_of_lt_of_le h.here b.size, fun j hj => cell_below b (h.cell j hj), fun j => by rw [World.frozen?_of_block (w := w) (b.block X h.here)]; exact h.free j, fun j hj => Ow.below (h.own j hj) b (Nat.le_refl _), h.two⟩
theorem Rw.same {w : World} {base X n : Nat} {A : Nat → Option Addr} {c : Nat → Nat} {f g : Nat → List Int} (h : Rw w base X n A c f) (e : ∀ j, j < n → g j = f j) : Rw w base X n A c g :=
  ⟨h.lt, h.here, fun j hj => by rw [e j hj]; exact h.cell j hj, h.free, fun j hj => by rw [e j hj]; exact h.own j hj, h.two⟩
theorem rw_new (n : Nat) (w : World) : Rw (w.alloc (.cells (madeCells #[.slice none 0 0] n) 23)) (w.heap.size + 1) w.heap.size n (fun _ => none) (fun _ => 0) (fun _ => []) :=
  ⟨by omega, by simp, fun j hj => by
    rw [World.cell?_alloc_new]
    have : (madeCells #[Value.slice none 0 0] n)[j]? = some (.slice none 0 0) := by
      unfold madeCells
      rw [Array.getElem?_map, Array.getElem?_range, if_pos hj]
      simp [Nat.mod_one]
    exact this, fun j => by simp, fun j _ => ow_none _ _ _, fun i j _ _ _ => two_nil _⟩

/-- append to one of the slices: what is known behind it, ahead of its store -/
structure Mid (w w5 : World) (base X n : Nat) (A : Nat → Option Addr) (c : Nat → Nat) (f : Nat → List Int) (k : Nat) (x : Int) (A' : Option Addr) (c' : Nat) : Prop where
  b : Below base w w5
  here : X < w5.heap.size
  cell : ∀ j, j < n → w5.cell? ⟨X, j, none⟩ = some (.slice (A j) (f j).length (c j))
  free : ∀ j, w5.frozen? ⟨X, j, none⟩ = false
  old : ∀ j, j < n → j ≠ k → Ow w5 base 3 (A j) (c j) (f j)
  new : Ow w5 base 3 A' c' (f k ++ [x])
  two : ∀ j, j < n → j ≠ k → Two A' (A j)
theorem Rw.app {w w5 : World} {base X n : Nat} {A : Nat → Option Addr} {c : Nat → Nat} {f : Nat → List Int} (h : Rw w base X n A c f) {k : Nat} (hk : k < n) {x : Int} {A' : Option Addr} {c' m : Nat} (hm : (f k).length = m) (hb : base ≤ w.heap.size)
    (k1 : Ow w5 base 3 A' c' (f k ++ [x])) (k2 : w.grownBy w5 (Value.slice (A k) m (c k)).ownBlock) (k3 : (Value.slice A' (m + 1) c').ownBlock = (Value.slice (A k) m (c k)).ownBlock ∨ (Value.slice A' (m + 1) c').ownBlock = some w.heap.size) : Mid w w5 base X n A c f k x A' c' := by
  subst hm
  have hrow := (h.own k hk).row
  have hX : some X ≠ (Value.slice (A k) (f k).length (c k)).ownBlock := fun e => by have := hrow X e.symm; have := h.lt; omega
  have hold : ∀ g, A k = some ⟨g, 0, none⟩ → (Value.slice (A k) (f k).length (c k)).ownBlock = some g := fun g hg => by rw [hg]; rfl
  have hcase := OwS.cases (h.own k hk)
  refine ⟨(Below.refl _ _).grown k2 hb hrow, Nat.lt_of_lt_of_le h.here k2.size, fun j hj => gb_cell k2 (h.cell j hj) hX, fun j => by rw [World.frozen?_of_block (w := w) (k2.block X h.here hX)]; exact h.free j, fun j hj hne => ?_, k1, fun j hj hne g hA' hAj => ?_⟩
  · refine Ow.gb (h.own j hj) k2 fun g hg he => ?_
    rcases hcase with ⟨hA, _⟩ | ⟨g', hA, _⟩
    · rw [hA] at he; cases he
    · rw [hold g' hA] at he
      injection he with he
      subst he
      exact h.two j k hj hk hne g hg hA
  · have hgj := (OwS.new (h.own j hj) g hAj).2
    rw [hA'] at k3
    rcases k3 with k3 | k3
    · rcases hcase with ⟨hA, _⟩ | ⟨g', hA, _⟩
      · rw [hA] at k3; cases k3
      · rw [hold g' hA] at k3
        injection k3 with k3
        simp only at k3
        subst k3
        exact h.two j k hj hk hne g hAj hA
    · injection k3 with k3
      simp only at k3
      omega
theorem Mid.put {w w5 : World} {base X n : Nat} {A : Nat → Option Addr} {c : Nat → Nat} {f : Nat → List Int} {k : Nat} {x : Int} {A' : Option Addr} {c' m : Nat} (h : Mid w w5 base X n A c f k x A' c') (hlt : X < base) (hk : k < n) (hm : (f k).length = m) (h2 : ∀ i j, i < n → j < n → i ≠ j → Two (A i) (A j)) :
    Rw (w5.setCell ⟨X, k, none⟩ (.slice A' (m + 1) c')) base X n (fun j => if j = k then A' else A j) (fun j => if j = k then c' else c j) (fun j => if j = k then f k ++ [x] else f j) := by
  have hgb : w5.grownBy (w5.setCell ⟨X, k, none⟩ (.slice A' (m + 1) c')) (some X) := ⟨rfl, rfl, rfl, by simp [World.setCell], fun b _ hb => Below.heap_setCell w5 ⟨X, k, none⟩ _ b (fun e => hb (by rw [e]))⟩
  refine ⟨hlt, by simp [World.setCell]; exact h.here, fun j hj => ?_, fun j => by rw [World.frozen?_setCell]; exact h.free j, fun j hj => ?_, fun i j hi hj hne => ?_⟩
  · by_cases e : j = k
    · subst e
      simp only [if_pos]
      rw [World.cell?_setCell_same _ _ _ (h.cell j hj), List.length_append, List.length_singleton, hm]
    · simp only [if_neg e]
      exact (World.cell?_setCell_other _ _ _ _ (fun e' => e (by injection e' with _ e'; exact e'.symm))).trans (h.cell j hj)
  · by_cases e : j = k
    · subst e
      simp only [if_pos]
      exact Ow.gb h.new hgb fun g hg he => by injection he with he; have := (OwS.new h.new g hg).1; omega
    · simp only [if_neg e]
      have := h.old j hj e
      exact Ow.gb this hgb fun g hg he => by injection he with he; have := (OwS.new this g hg).1; omega
  · by_cases e1 : i = k
    · by_cases e2 : j = k
      · omega
      · simp only [if_pos e1, if_neg e2]
        exact h.two j hj e2
    · by_cases e2 : j = k
      · simp only [if_neg e1, if_pos e2]
        exact (h.two i hi e1).swap
      · simp only [if_neg e1, if_neg e2]
        exact h2 i j hi hj hne
/-- append in a region, the lengths named; where the slice lies behind it -/
theorem step_app_k {P : Program} {t e : TypeId} (hT : SlT P t e (Dat.k Int)) {w : World} {ops : Array Oper} {o : Oper} {a : Act} {K : Act → World → Prop} {Q : Exit → Act → World → Prop} {E : Prop} (hg : o.guard = none) (s x : Operand) (ho : o.op = .call { callee := .builtin .append, args := #[s, x], argTypes := #[t, t] })
    {base : Nat} {A B : Option Addr} {c d : Nat} {l r : List Int} {n m : Nat} (hn : l.length = n) (hm : r.length = m) (h1 : a.eval s = .slice A n c) (h2 : a.eval x = .slice B m d) (h : Ow w base e A c l) (hr : Rd w B d r) (hbig : n + m ≤ 1000000) (hbase : base ≤ w.heap.size)
    (hK : ∀ A' c' w', Ow w' base e A' c' (l ++ r) → w.grownBy w' (Value.slice A n c).ownBlock → ((Value.slice A' (n + m) c').ownBlock = (Value.slice A n c).ownBlock ∨ (Value.slice A' (n + m) c').ownBlock = some w.heap.size) → K (a.put o.dst (.slice A' (n + m) c')) w') :
    if Region.wanted o (yielded ops a.tmps) = true then Oper.wp P o a w K Q else E := by
  subst hn; subst hm
  exact step_app hT hg s x ho h1 h2 h hr (fun _ h => h.flat) (fun _ _ h => h.elim) hbig hbase hK

/-- the rows as a list -/
def rowsL (n : Nat) (f : Nat → List Int) : List (List Int) := (List.range n).map f
theorem rowsL_length (n : Nat) (f : Nat → List Int) : (rowsL n f).length = n := by simp [rowsL]
theorem rowsL_at {n : Nat} {f : Nat → List Int} {j : Nat} (h : j < n) : at_ (rowsL n f) j = f j := by
  rw [at_get (by rw [rowsL_length]; exact h)]
  simp [rowsL]
theorem Rw.ll {w : World} {base X n : Nat} {A : Nat → Option Addr} {c : Nat → Nat} {f : Nat → List Int} (h : Rw w base X n A c f) (hn : n ≤ 1000000) (hf : ∀ j, j < n → (f j).length ≤ 1000000) : LL w (some ⟨X, 0, none⟩) n (rowsL n f) := by
  refine ⟨by rw [rowsL_length]; exact hn, fun j hj => ?_, fun e => (by cases e), ⟨by rw [rowsL_length]; omega, by unfold maxLen; omega⟩, fun _ => ⟨X, 0, rfl, trivial, fun j hj => ?_⟩⟩
  · rw [rowsL_length] at hj
    rw [rowsL_at hj]
    exact hf j hj
  · rw [rowsL_length] at hj
    rw [rowsL_at hj]
    refine ⟨[.slice (A j) (f j).length (c j)], ⟨A j, c j, rfl, (h.own j hj).rd⟩, fun i v hv => ?_⟩
    match i, hv with
    | 0, hv =>
      simp at hv
      subst hv
      have := h.cell j hj
      simpa [Dat.k] using this
    | i + 1, hv => simp at hv

end Pc
end Go.Proofs.Ytfhifmpkdnnpmaa

