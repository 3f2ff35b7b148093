/-
  For every task and every number of ticks the statement TaskOnce of layer 5 returns true (a job holds no resource twice, only such as its task uses; nothing at its beginning, and nothing when it had all its ticks), and its arguments read as before. No condition.
-/
import Derived.Test.YtaehcgfmdpjfaaaLaw05Args
import Derived.Test.YtaehcgfmdpjfaaaLaw05Knows
import Derived.Test.YtaehcgfmdpjfaaaLaw05Right
namespace Go.Proofs.Ytaehcgfmdpjfaaa.taskOnce
open Go.ChangeShapes Go.WideShapes Go.ChangeAt Go.RowKit
open Mm Tk

theorem held_at {t : Tsk} (h : rightT t = true) (had : Int) {i : Nat} (hi : i < (heldL t.2.2.2 had).length) : usesB t.1 t.2.1 t.2.2.1 t.2.2.2 (at_ (heldL t.2.2.2 had) i) = true := by
  have := held_uses (at_mem hi)
  unfold usesB
  rw [show rightB t.1 t.2.1 t.2.2.1 t.2.2.2 = true from h, Bool.true_and]
  rw [List.any_eq_true] at this ⊢
  obtain ⟨x, hx, he⟩ := this
  exact ⟨x, hx, by simpa using he⟩
theorem held_apart {t : Tsk} (h : rightT t = true) (had : Int) {i k : Nat} (hk : k < i) (hi : i < (heldL t.2.2.2 had).length) : at_ (heldL t.2.2.2 had) i ≠ at_ (heldL t.2.2.2 had) k := by
  have := List.pairwise_iff_getElem.1 (held_nodup (ok_of (show rightB t.1 t.2.1 t.2.2.1 t.2.2.2 = true from h)) had) k i (by omega) hi hk
  rwa [at_get hi, at_get (by omega : k < _)]
theorem held_zero {t : Tsk} (h : rightT t = true) {had : Int} (hh : had ≤ 0 ∨ t.1 ≤ had) : heldL t.2.2.2 had = [] := held_none (ok_of (show rightB t.1 t.2.1 t.2.2.1 t.2.2.2 = true from h)) hh
theorem heldT_of {t : Tsk} (h : rightT t = true) (had : Int) : heldT t.1 t.2.1 t.2.2.1 t.2.2.2 had = heldL t.2.2.2 had := by
  unfold heldT
  rw [show rightB t.1 t.2.1 t.2.2.1 t.2.2.2 = true from h, if_pos rfl]

theorem held_r (t : Tsk) (h : rightT t = true) (A : Option Addr) (c : Nat) (had : Int) (l : List Int) (hl : heldL t.2.2.2 had = l) (w : World) (hbig : t.2.2.2.length ≤ 1000000) (hr : Rd w A c t.2.2.2) :
    Calls Try.prog 14 #[.agg #[.int .i64 t.1, .int .i64 t.2.1, .int .i64 t.2.2.1, .slice A t.2.2.2.length c], .int .i64 had] w (IntsOf w l) := by
  have := held_any t.1 t.2.1 t.2.2.1 A c t.2.2.2 had w hbig hr
  rwa [heldT_of h, hl] at this

theorem uses_r (t : Tsk) (A : Option Addr) (c : Nat) (r : Int) (h : usesB t.1 t.2.1 t.2.2.1 t.2.2.2 r = true) (w : World) (hbig : t.2.2.2.length ≤ 1000000) (hr : Rd w A c t.2.2.2) :
    Calls Try.prog 15 #[.agg #[.int .i64 t.1, .int .i64 t.2.1, .int .i64 t.2.2.1, .slice A t.2.2.2.length c], .int .i64 r] w fun e w' => e = .returned (.bool true) ∧ Below w.heap.size w w' := by
  have := uses_any t.1 t.2.1 t.2.2.1 A c t.2.2.2 r w hbig hr
  rwa [h] at this

set_option maxHeartbeats 1600000 in
theorem walk (A : Option Addr) (c : Nat) (t : Tsk) (had : Int) (w : World) (ft : Fit t.1) (_f2 : Fit t.2.1) (_f3 : Fit t.2.2.1) (hr : Rd w A c t.2.2.2) (fh : Fit had) :
    Calls Try.prog 4 #[.agg #[.int .i64 t.1, .int .i64 t.2.1, .int .i64 t.2.2.1, .slice A t.2.2.2.length c], .int .i64 had] w fun e w' => e = .returned (.bool true) ∧ Below w.heap.size w w' := by
  obtain ⟨t1, t2, t3, t4⟩ := box_new w t.1 t.2.1 t.2.2.1 A t.2.2.2.length c
  have b0 := below_one w (Obj.cells #[.int .i64 t.1, .int .i64 t.2.1, .int .i64 t.2.2.1, .slice A t.2.2.2.length c] 27)
  have HR := Lib.hid (hr.below b0)
  have hmax := Nat.le_trans hr.le hr.max
  unfold maxLen at hmax
  unfold Fit at ft fh
  clear hr
  have E0 : Hid (rightB t.1 t.2.1 t.2.2.1 t.2.2.2 = rightT t) := rfl
  by_cases h20 : 20 < t.2.2.2.length
  · have h21 : (20 : Int) < (t.2.2.2.length : Int) := by omega
    go_enter Try.func4, Try.ntmps4
    go_wp2_with fail
    have B0 := Lib.hid b0
    clear b0
    refine (knows_any _).mono ?_
    rintro e w1 ⟨rfl, b1⟩
    have B1 := Lib.hid (below_step B0.out b1)
    clear b1
    go_wp2_with fail
    go_ret
    exact ⟨rfl, B1.out⟩
  · have h21 : decide ((20 : Int) < (t.2.2.2.length : Int)) = false := by simp; omega
    cases hright : rightT t with
    | false =>
      go_enter Try.func4, Try.ntmps4
      go_wp2_with fail
      have B0 := Lib.hid b0
      clear b0
      generalize w.alloc (Obj.cells #[.int .i64 t.1, .int .i64 t.2.1, .int .i64 t.2.2.1, .slice A t.2.2.2.length c] 27) = w0 at *
      refine (refRight_any t.1 t.2.1 t.2.2.1 A c t.2.2.2 _ (by omega) HR.out).mono ?_
      rintro e w1 ⟨rfl, b1⟩
      have B1 := Lib.hid (below_step B0.out b1)
      clear b1
      rw [E0.out]
      go_wp2_with fail
      refine (knows_any _).mono ?_
      rintro e w2 ⟨rfl, b2⟩
      have B2 := Lib.hid (below_step B1.out b2)
      clear b2
      go_wp2_with fail
      go_ret
      exact ⟨rfl, B2.out⟩
    | true =>
      have hl : ∃ l, Hid (heldL t.2.2.2 had = l) := ⟨_, rfl⟩
      obtain ⟨l, HL⟩ := hl
      have HU : Hid (∀ i, i < l.length → usesB t.1 t.2.1 t.2.2.1 t.2.2.2 (at_ l i) = true) := by rw [← HL.out]; exact fun i hi => held_at hright had hi
      have HD : Hid (∀ i k, k < i → i < l.length → at_ l i ≠ at_ l k) := by rw [← HL.out]; exact fun i k hk hi => held_apart hright had hk hi
      have HZ : Hid (∀ {q : Int}, q ≤ 0 ∨ t.1 ≤ q → heldL t.2.2.2 q = []) := fun h => held_zero hright h
      have hlen : l.length ≤ 20 := by have := heldL_length t.2.2.2 had; rw [HL.out] at this; omega
      have hcase : (0 < had ∧ had < t.1) ∨ l = [] := by
        by_cases h : 0 < had ∧ had < t.1
        · exact .inl h
        · exact .inr (HL.out.symm.trans (HZ.out (by omega)))
      have HT := Lib.hid hright
      have HC := Lib.hid hcase
      clear hcase
      go_enter Try.func4, Try.ntmps4
      go_wp2_with fail
      have B0 := Lib.hid b0
      clear b0
      generalize w.alloc (Obj.cells #[.int .i64 t.1, .int .i64 t.2.1, .int .i64 t.2.2.1, .slice A t.2.2.2.length c] 27) = w0 at *
      refine (refRight_any t.1 t.2.1 t.2.2.1 A c t.2.2.2 _ (by omega) HR.out).mono ?_
      rintro e w1 ⟨rfl, b1⟩
      replace t1 := (cell_below b1) t1
      replace t2 := (cell_below b1) t2
      replace t3 := (cell_below b1) t3
      replace t4 := (cell_below b1) t4
      have B1 := Lib.hid (below_step B0.out b1)
      replace HR := Lib.hid (HR.out.below b1)
      clear b1
      rw [E0.out, HT.out]
      clear hright
      go_wp2_with fail
      refine (held_r t HT.out A c had l HL.out _ (by omega) HR.out).mono ?_
      rintro e w2 ⟨A2, c2, rfl, o2, b2⟩
      replace t1 := (cell_below b2) t1
      replace t2 := (cell_below b2) t2
      replace t3 := (cell_below b2) t3
      replace t4 := (cell_below b2) t4
      have B2 := Lib.hid (below_step B1.out b2)
      replace HR := Lib.hid (HR.out.below b2)
      have O2 := Lib.hid o2.rd
      clear b2 o2
      go_wp2_with fail
      go_loopg [6] l.length (fun g i wr => ∃ n : Nat, i = .int .i64 n ∧ n + g = l.length ∧ Hid (Below w2.heap.size w2 wr))
      case atStart => exact ⟨0, rfl, by omega, Below.refl _ _⟩
      case round =>
        obtain ⟨n, rfl, hn, HB⟩ := hrel
        generalize gk = G at *
        replace t1 := (cell_below HB.out) t1
        replace t2 := (cell_below HB.out) t2
        replace t3 := (cell_below HB.out) t3
        replace t4 := (cell_below HB.out) t4
        by_cases hlt : n < l.length
        · obtain ⟨g, off, rfl, hc⟩ := (O2.out.below HB.out).int (by omega)
          have HCE := Lib.hid hc
          obtain ⟨x1, fx⟩ := hc n hlt
          have HQ : Hid (∀ k, k < n → at_ l n ≠ at_ l k) := fun k hk => HD.out n k hk hlt
          have HUN := Lib.hid (HU.out n hlt)
          have HRW := Lib.hid (HR.out.below HB.out)
          clear hc fx
          generalize at_ l n = x at *
          go_wp2_with fail
          go_loopg [7] n (fun g k wy => ∃ m : Nat, k = .int .i64 m ∧ m + g = n ∧ Hid (Below wr.heap.size wr wy))
          case atStart => exact ⟨0, rfl, by omega, Below.refl _ _⟩
          case round =>
            obtain ⟨m, rfl, hm, HY⟩ := hrel
            by_cases hlt2 : m < n
            · have y1 := cell_below HY.out (HCE.out m (by omega)).1
              replace x1 := cell_below HY.out x1
              have hne := HQ.out m hlt2
              have hq : (x == at_ l m) = false := by simpa using hne
              have i1 : (0 : Int) ≤ (n : Int) := by omega
              have i2 : (n : Int) < (l.length : Int) := by omega
              have i3 : (0 : Int) ≤ (m : Int) := by omega
              have i4 : (m : Int) < (l.length : Int) := by omega
              clear hne t1 t2 t3 t4
              generalize at_ l m = y at *
              go_wp2_with fail
              replace x1 := cell_bw x1
              replace y1 := cell_bw y1
              refine wp_region_bw (by kernel_rfl) (by kernel_rfl) ?_
              repeat
                (with_reducible refine wpQuiet_step (fun K hK => ?_)
                 go_simp
                 first
                   | (with_reducible refine hK _ ?_
                      clear hK K)
                   | (rw [if_neg]
                      rotate_left
                      focus (intro h; cases h; done)
                      with_reducible refine hK _ ?_
                      clear hK K)
                   | (apply Exists.intro
                      refine ⟨fun _ => ?_, hK _ ?_⟩
                      (fail)
                      clear hK K))
              with_reducible refine wpQuiet_nil ?_
              intro wb hw'
              obtain ⟨⟨wb', lb⟩, hw''⟩ := hw'
              subst hw''
              go_wp2_with fail
              go_roundg (gk - 1)
              case measure => omega
              case rel => exact ⟨m + 1, by go_num, by omega, below_step HY.out lb⟩
            · have hmn : m = n := by omega
              subst hmn
              replace t1 := (cell_below HY.out) t1
              replace t2 := (cell_below HY.out) t2
              replace t3 := (cell_below HY.out) t3
              replace t4 := (cell_below HY.out) t4
              replace x1 := (cell_below HY.out) x1
              have HRY := Lib.hid (HRW.out.below HY.out)
              have i1 : (0 : Int) ≤ (m : Int) := by omega
              have i2 : (m : Int) < (l.length : Int) := by omega
              go_wp2_with fail
              replace t1 := cell_bw t1
              replace t2 := cell_bw t2
              replace t3 := cell_bw t3
              replace t4 := cell_bw t4
              replace x1 := cell_bw x1
              refine wp_region_bw (by kernel_rfl) (by kernel_rfl) ?_
              repeat
                (with_reducible refine wpQuiet_step (fun K hK => ?_)
                 go_simp
                 first
                   | (with_reducible refine hK _ ?_
                      clear hK K)
                   | (rw [if_neg]
                      rotate_left
                      focus (intro h; cases h; done)
                      with_reducible refine hK _ ?_
                      clear hK K)
                   | (apply Exists.intro
                      refine ⟨fun _ => ?_, hK _ ?_⟩
                      (exact Calls.bw (uses_r t A c x HUN.out _ (by omega) (HRY.out.bw _)))
                      clear hK K))
              with_reducible refine wpQuiet_nil ?_
              intro wb hw'
              obtain ⟨⟨wb', lb⟩, hw''⟩ := hw'
              subst hw''
              go_wp2_with fail
              go_roundg (G - 1)
              case measure => omega
              case rel => exact ⟨m + 1, by go_num, by omega, below_step HB.out (below_step HY.out lb)⟩
        · have HRW := Lib.hid (HR.out.below HB.out)
          have HB2 := Lib.hid (below_step B2.out HB.out)
          have z0 := HZ.out (q := 0) (.inl (Int.le_refl _))
          have zc := HZ.out (q := t.1) (.inr (Int.le_refl _))
          have Z0 := Lib.hid z0
          have ZC := Lib.hid zc
          clear z0 zc
          go_wp2_with fail
          refine (held_r t HT.out A c 0 [] Z0.out _ (by omega) HRW.out).mono ?_
          rintro e w3 ⟨A3, c3, rfl, _, b3⟩
          replace t1 := (cell_below b3) t1
          replace t2 := (cell_below b3) t2
          replace t3 := (cell_below b3) t3
          replace t4 := (cell_below b3) t4
          have B3 := Lib.hid (below_step HB2.out b3)
          replace HRW := Lib.hid (HRW.out.below b3)
          clear b3
          go_wp2_with fail
          refine (held_r t HT.out A c t.1 [] ZC.out _ (by omega) HRW.out).mono ?_
          rintro e w4 ⟨A4, c4, rfl, _, b4⟩
          have B4 := Lib.hid (below_step B3.out b4)
          replace t1 := cell_below b4 t1
          clear b4 t2 t3 t4
          rcases HC.out with ⟨p1, p2⟩ | hl0
          · go_wp2_with fail
            refine (knows_any _).mono ?_
            rintro e w5 ⟨rfl, b5⟩
            have B5 := Lib.hid (below_step B4.out b5)
            clear b5
            go_wp2_with fail
            go_ret
            exact ⟨rfl, B5.out⟩
          · subst hl0
            by_cases p1 : 0 < had
            · by_cases p2 : had < t.1
              all_goals
                go_wp2_with fail
                refine (knows_any _).mono ?_
                rintro e w5 ⟨rfl, b5⟩
                have B5 := Lib.hid (below_step B4.out b5)
                clear b5
                go_wp2_with fail
                go_ret
                exact ⟨rfl, B5.out⟩
            · go_wp2_with fail
              refine (knows_any _).mono ?_
              rintro e w5 ⟨rfl, b5⟩
              have B5 := Lib.hid (below_step B4.out b5)
              clear b5
              go_wp2_with fail
              go_ret
              exact ⟨rfl, B5.out⟩

set_option maxRecDepth 100000 in
theorem lifted (os : Os) (started : os.Started) (H : Type) (enc : TypeId × Value → H) :
    ReturnsInHanded {} Try.checked os 4 .any (Rows.taskOnceSpec.pre6 enc Try.prog Try.f4 Rows.taskOnceRow.domain false) (Rows.taskOnceSpec.post enc Try.prog Try.f4 false true false false) := by
  refine returnsInHanded_of_change (C := Try.checked) own started (by kernel_rfl) Try.func4
    (ChangeSpec.witness6 (enc := enc) (C := Try.checked) false ⟨#[], #[.agg #[.int .i64 0, .int .i64 0, .int .i64 0, .slice none 0 0], .int .i64 0], []⟩ 8 (by kernel_rfl) (by kernel_rfl) (by kernel_rfl) (by kernel_rfl)) ?_
  intro W base args ds gs before hval0 hW hcnd _
  have hval : ∀ (j : Nat) t v, Try.f4.params[j]? = some t → args[j]? = some v → Value.okWide Try.prog W .any base t v := hval0
  have hW' := hW
  obtain ⟨p, q, hA0, hV, rfl, hfz, hnd⟩ := hW
  have hA : DataW.TrodAll enc Try.prog W 0 (fun _ => true) true Try.f4.params.toList args.toList ds p := hA0
  rw [Try.params4] at hA hval
  obtain ⟨v0, v1, d0, d1, p0, p1, rfl, rfl, rfl, h0, h1⟩ := trodAll_two hA
  obtain ⟨rfl, rfl⟩ := trodVars_none hV
  obtain ⟨A0, c0, x0, rfl, fa0, fb0, fc0, hr0⟩ := Tk.open_task (hval 0 27 v0 rfl rfl) h0
  obtain ⟨n1, rfl, f1⟩ := Mm.open_num' Try.underlying3 (hval 1 3 v1 rfl rfl) h1
  clear hA0 hval0
  refine (walk A0 c0 x0 n1 W fa0 fb0 fc0 hr0 f1).mono fun e W' ⟨he, bel⟩ => ?_
  subst he
  have hlt0 : ∀ x ∈ p0, x.block < W.heap.size := fun x hx => hW'.lt x (by simp [hx])
  have hlt1 : ∀ x ∈ p1, x.block < W.heap.size := fun x hx => hW'.lt x (by simp [hx])
  exact ⟨_, rfl, _, _, _, [], _, [], hW', trodAll_mk1 (shut_bool Try.underlying4 _), trodAll_mk2 (Below.trod laidOut (by kernel_rfl) (of_decide_eq_true (by kernel_rfl)) h0 bel hlt0) (Below.trod laidOut (by kernel_rfl) (of_decide_eq_true (by kernel_rfl)) h1 bel hlt1), rfl, bel.frame _, fun h => by cases h⟩

/-- The statement. -/
theorem proved : Rows.TaskOnceSaid :=
  OpenClaim.holds_of_wide 4 Try.f4 rfl rfl rfl rfl rfl rfl rfl ⟨rfl, rfl, rfl, rfl, rfl⟩ rfl rfl rfl rfl rfl (by kernel_rfl) Try.func4 (by kernel_rfl)
    (of_decide_eq_true (by kernel_rfl)) (by unfold Func.isWrapper; first | (rw [if_pos (by decide +kernel)]; kernel_rfl) | (rw [if_neg (by decide +kernel)]; exact ⟨rfl, rfl⟩))
    (fun os started H enc _ => lifted os started H enc)
#print axioms proved

end Go.Proofs.Ytaehcgfmdpjfaaa.taskOnce
