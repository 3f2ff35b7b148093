/-
  For any ticks and any tick the statement TableWindows of layer 13 returns true (windows lie inside the frame and do not overlap: their lengths are as many as ticks that are somebody's; each tick is that of the same tick of each frame), and its arguments read as before. No condition.
-/
import Derived.Test.YtpodahnmdakjjaaGlaw13
namespace Go.Proofs.Ytpodahnmdakjjaa.tableWindows
open Go.ChangeShapes Go.WideShapes Go.ChangeAt Go.RowKit
open Mm Tb

/-- the lengths of the first k windows -/
def sumTo (W : List Win) : Nat → Int
  | 0 => 0
  | k + 1 => sumTo W k + (at_ W k).2.2
theorem sumTo_cons (x : Win) (W : List Win) : ∀ k, sumTo (x :: W) (k + 1) = x.2.2 + sumTo W k
  | 0 => by show 0 + x.2.2 = x.2.2 + 0; omega
  | k + 1 => by
    have h := sumTo_cons x W k
    show sumTo (x :: W) (k + 1) + (at_ W k).2.2 = x.2.2 + (sumTo W k + (at_ W k).2.2)
    omega
theorem sumTo_end : ∀ W : List Win, sumTo W W.length = lens W
  | [] => rfl
  | x :: W => by
    show sumTo (x :: W) (W.length + 1) = x.2.2 + lens W
    rw [sumTo_cons, sumTo_end W]
theorem sumTo_small {f : Int} {W : List Win} (h : Fine f W W.length) : ∀ {k : Nat}, k ≤ W.length → 0 ≤ sumTo W k ∧ sumTo W k ≤ k * f
  | 0, _ => by show (0 : Int) ≤ 0 ∧ (0 : Int) ≤ _; omega
  | k + 1, hk => by
    have h1 := sumTo_small h (k := k) (by omega)
    have h2 := win_iff.1 (h k (by omega)).1
    have e : ((k + 1 : Nat) : Int) * f = k * f + f := by push_cast; rw [Int.add_mul, Int.one_mul]
    show 0 ≤ sumTo W k + (at_ W k).2.2 ∧ sumTo W k + (at_ W k).2.2 ≤ _
    omega

set_option maxRecDepth 20000 in
set_option maxHeartbeats 6400000 in
theorem walk (A : Option Addr) (c : Nat) (l : List Int) (t : Int) (w : World) (hr : Rd w A c l) (ft : Fit t) :
    Calls Try.prog 7 #[.slice A l.length c, .int .i64 t] w fun e w' => e = .returned (.bool true) ∧ Below w.heap.size w w' := by
  have hmax := hr.max
  have hle := hr.le
  unfold maxLen at hmax
  by_cases hlen : 300 < l.length
  · have i1 : (300 : Int) < (l.length : Int) := by omega
    clear hr
    go_enter Try.func7, Try.ntmps7
    go_wp2_with fail
    refine (knows13_any _).mono ?_
    rintro e w1 ⟨rfl, b1⟩
    have B1 := Lib.hid b1
    clear b1
    go_wp2_with fail
    go_ret
    exact ⟨rfl, B1.out⟩
  · have i1 : ¬ (300 : Int) < (l.length : Int) := by omega
    by_cases ht1 : t < 0
    · clear hr
      go_enter Try.func7, Try.ntmps7
      go_wp2_with fail
      refine (knows13_any _).mono ?_
      rintro e w1 ⟨rfl, b1⟩
      have B1 := Lib.hid b1
      clear b1
      go_wp2_with fail
      go_ret
      exact ⟨rfl, B1.out⟩
    · by_cases ht2 : 10000 < t
      · clear hr
        go_enter Try.func7, Try.ntmps7
        go_wp2_with fail
        refine (knows13_any _).mono ?_
        rintro e w1 ⟨rfl, b1⟩
        have B1 := Lib.hid b1
        clear b1
        go_wp2_with fail
        go_ret
        exact ⟨rfl, B1.out⟩
      · have HL : Hid (IL w A c l) := ⟨by omega, hr⟩
        clear hr hmax hle
        by_cases ho : ofOk l
        · have HO := Lib.hid ho
          obtain ⟨kl, hkl⟩ : ∃ kl, l.length = kl := ⟨_, rfl⟩
          have hk1 : 1 ≤ kl := by rw [← hkl]; exact ho.1
          have hk2 : kl ≤ 240 := by rw [← hkl]; exact ho.2.1
          obtain ⟨n, rfl⟩ : ∃ n : Nat, t = n := ⟨t.toNat, by omega⟩
          obtain ⟨q, hq⟩ : ∃ q, n % kl = q := ⟨_, rfl⟩
          have hqk : q < kl := by rw [← hq]; exact Nat.mod_lt _ (by omega)
          obtain ⟨nk, hnk⟩ : ∃ nk, n + kl = nk := ⟨_, rfl⟩
          have hq2 : nk % kl = q := by rw [← hnk, Nat.add_mod_right, hq]
          have q1 : (n : Int) % (kl : Int) = (q : Int) := by rw [← hq]; push_cast; rfl
          have q2 : (n : Int).tmod (kl : Int) = (q : Int) := by rw [Int.tmod_eq_emod_of_nonneg (by omega), q1]
          have q3 : IntKind.i64.wrap (q : Int) = (q : Int) := IntWalk.i64_in _ (by omega)
          have q4 : IntKind.i64.wrap ((n : Int) + (kl : Int)) = (nk : Int) := by rw [IntWalk.i64_in _ (by omega)]; omega
          have j1 : ¬ (kl : Int) = 0 := by omega
          have j2 : ¬ kl = 0 := by omega
          have j3 : (0 : Int) ≤ (q : Int) := by omega
          have j4 : (q : Int) < (kl : Int) := by omega
          have HQ := Lib.hid hq
          have HQ2 := Lib.hid hq2
          have HKL := Lib.hid hkl
          rw [hkl] at i1 ⊢
          clear ho hq hq2 hkl hlen hnk
          go_enter Try.func7, Try.ntmps7
          go_wp2_with fail
          refine (of_good A c l kl HKL.out HO.out _ HL.out).mono ?_
          rintro e w1 ⟨W, m, hm, hr1, hw1, D, dp, rfl, _, hv1, b1⟩
          have bz := below_one w1 (Obj.cells #[.int .i64 kl, .slice D m dp] 24)
          have y1 := (tx_new w1 kl D m dp).f
          have y2 := (tx_new w1 kl D m dp).l
          replace HL := Lib.hid ((HL.out.below b1).below bz)
          have HX := Lib.hid (hv1.below bz)
          have B1 := Lib.hid (below_step b1 bz)
          have hm2 : m ≤ 240 := by have := right_len hr1; omega
          have HM := Lib.hid hm
          have HFI := Lib.hid (right_iff.1 hr1).2
          have HLE := Lib.hid (right_lens hr1)
          have HAT : Hid (∀ j, j < kl → at_ l j = tk W (j : Int)) := fun j hj => by rw [← hw1]; exact tkL_at hj
          have HC4 := Lib.hid (at_to kl D dp W n (at_ l q) (by rw [atV_of hr1 HQ.out, HAT.out q hqk]) m hm)
          have HC5 := Lib.hid (at_to kl D dp W nk (at_ l q) (by rw [atV_of hr1 HQ2.out, HAT.out q hqk]) m hm)
          clear b1 bz hv1 hm hr1 hw1
          go_wp2_with fail
          generalize w1.alloc (Obj.cells #[.int .i64 kl, .slice D m dp] 24) = v1 at *
          have Y1 := Lib.hid y1
          have Y2 := Lib.hid y2
          clear y1 y2
          go_loopw [7, 9] (fun s i wr => ∃ k : Nat, i = .int .i64 k ∧ s = .int .i64 (sumTo W k) ∧ k ≤ m ∧ Hid (Below v1.heap.size v1 wr)) (fun _ i _ => m - (intOf i).toNat)
          case atStart => exact ⟨0, rfl, rfl, Nat.zero_le _, Below.refl _ _⟩
          case round =>
            obtain ⟨k, rfl, rfl, hk, HB⟩ := hrel
            have y1 := cell_below HB.out Y1.out
            have y2 := cell_below HB.out Y2.out
            by_cases hlt : k < m
            · obtain ⟨b, off, rfl, hc⟩ := win_at (HX.out.2.below HB.out) (by rw [HM.out]; omega)
              obtain ⟨_, _, x3, _⟩ := hc k (by rw [HM.out]; exact hlt)
              have hw := win_iff.1 (HFI.out k (by rw [HM.out]; exact hlt)).1
              have h1 := sumTo_small HFI.out (k := k) (by rw [HM.out]; exact hk)
              have h2 : (k : Int) * (kl : Int) ≤ 240 * 240 := by
                have : k * kl ≤ 240 * 240 := Nat.mul_le_mul (by omega) hk2
                omega
              have HN : Hid (sumTo W (k + 1) = sumTo W k + (at_ W k).2.2) := rfl
              generalize sumTo W k = s at *
              generalize (at_ W k).2.2 = x at *
              have i3 : (0 : Int) ≤ (k : Int) := by omega
              have i4 : (k : Int) < (m : Int) := by omega
              have e1 : IntKind.i64.wrap (s + x) = s + x := IntWalk.i64_in _ (by omega)
              clear hc hw h1 h2
              go_wp2_with fail
              go_roundw
              case rel => exact ⟨k + 1, by go_num, by rw [HN.out], hlt, HB.out⟩
              case measure => (simp [intOf] <;> omega)
            · obtain rfl : k = m := by omega
              have hs0 : sumTo W k = (Sy.any (fun t : Nat => tk W (t : Int)) kl : Nat) := by rw [← HLE.out, ← sumTo_end, HM.out]
              rw [hs0]
              replace HL := Lib.hid (HL.out.below HB.out)
              replace HX := Lib.hid (HX.out.below HB.out)
              have B2 := Lib.hid (below_step B1.out HB.out)
              clear Y1 Y2 hs0
              generalize hg : (fun t : Nat => tk W (t : Int)) = g at *
              have HG : Hid (∀ j, j < kl → at_ l j = g j) := fun j hj => by rw [← hg]; exact HAT.out j hj
              clear hg
              clear HB hlt
              go_wp2_with fail
              have Y1 := Lib.hid y1
              have Y2 := Lib.hid y2
              clear y1 y2
              generalize wr = wq at *
              go_loopw [8, 10] (fun s i wr => ∃ j : Nat, i = .int .i64 j ∧ s = .int .i64 (Sy.any g j : Nat) ∧ j ≤ kl ∧ Hid (Below wq.heap.size wq wr)) (fun _ i _ => kl - (intOf i).toNat)
              case atStart => exact ⟨0, rfl, rfl, Nat.zero_le _, Below.refl _ _⟩
              case round =>
                obtain ⟨j, rfl, rfl, hj, HB⟩ := hrel
                by_cases hlt : j < kl
                · obtain ⟨b, off, rfl, hc⟩ := (HL.out.2.below HB.out).int (by rw [HKL.out]; omega)
                  obtain ⟨z1, _⟩ := hc j (by rw [HKL.out]; exact hlt)
                  have HN : Hid (Sy.any g (j + 1) = Sy.any g j + (if 0 ≤ g j then 1 else 0)) := rfl
                  rw [← HG.out j hlt] at HN
                  have h1 := Sy.any_le g j
                  generalize Sy.any g j = s at *
                  generalize at_ l j = x at *
                  have i3 : (0 : Int) ≤ (j : Int) := by omega
                  have i4 : (j : Int) < (kl : Int) := by omega
                  clear hc
                  by_cases hx : 0 ≤ x
                  · rw [if_pos hx] at HN
                    have e1 : IntKind.i64.wrap ((s : Int) + 1) = (s : Int) + 1 := IntWalk.i64_in _ (by omega)
                    go_wp2_with fail
                    go_roundw
                    case rel => exact ⟨j + 1, by go_num, by rw [HN.out]; push_cast; rfl, hlt, HB.out⟩
                    case measure => (simp [intOf] <;> omega)
                  · rw [if_neg hx] at HN
                    go_wp2_with fail
                    go_roundw
                    case rel => exact ⟨j + 1, by go_num, by rw [HN.out]; rfl, hlt, HB.out⟩
                    case measure => (simp [intOf] <;> omega)
                · obtain rfl : j = kl := by omega
                  replace HL := Lib.hid (HL.out.below HB.out)
                  replace HX := Lib.hid (HX.out.below HB.out)
                  have y1 := cell_below HB.out Y1.out
                  have y2 := cell_below HB.out Y2.out
                  have B3 := Lib.hid (below_step B2.out HB.out)
                  obtain ⟨b, off, rfl, hc⟩ := HL.out.2.int (by rw [HKL.out]; omega)
                  obtain ⟨z1, _⟩ := hc q (by rw [HKL.out]; exact hqk)
                  have j5 : decide ((0 : Int) ≤ (q : Int) ∧ (q : Int) < (j : Int)) = true := decide_eq_true ⟨j3, j4⟩
                  clear hc HB hlt Y1 Y2
                  generalize at_ l q = x at *
                  generalize Sy.any g j = s at *
                  go_wp2_with fail
                  replace y1 := cell_bw y1
                  replace y2 := cell_bw y2
                  replace z1 := cell_bw z1
                  refine wp_region_bw (by kernel_rfl) (by kernel_rfl) ?_
                  repeat
                    (with_reducible refine wpQuiet_step (fun K hK => ?_)
                     go_simp
                     first
                       | (with_reducible refine hK _ ?_
                          clear hK K)
                       | (rw [if_neg]
                          rotate_left
                          focus (intro h; cases h; done)
                          with_reducible refine hK _ ?_
                          clear hK K)
                       | (apply Exists.intro
                          refine ⟨fun _ => ?_, hK _ ?_⟩
                          (first | with_reducible exact Calls.bw (HC4.out _ (HX.out.bw _)) | with_reducible exact Calls.bw (HC5.out _ (HX.out.bw _)) | with_reducible exact Calls.bw (knows13_any _))
                          clear hK K))
                  with_reducible refine wpQuiet_nil ?_
                  intro wb hw'
                  obtain ⟨⟨wb', lb⟩, hw''⟩ := hw'
                  subst hw''
                  have B4 := Lib.hid (below_step B3.out lb)
                  clear lb
                  go_wp2_with fail
                  go_ret
                  exact ⟨rfl, B4.out⟩
        · have HO := Lib.hid ho
          clear ho
          go_enter Try.func7, Try.ntmps7
          go_wp2_with fail
          refine (of_bad A c l l.length rfl HO.out _ HL.out).mono ?_
          rintro e w1 ⟨rfl, b1⟩
          have bz := below_one w1 (Obj.cells #[.int .i64 0, .slice none 0 0] 24)
          have y1 := (tx_new w1 0 none 0 0).f
          have y2 := (tx_new w1 0 none 0 0).l
          have B1 := Lib.hid (below_step b1 bz)
          clear b1 bz
          go_wp2_with fail
          refine (knows13_any _).mono ?_
          rintro e w2 ⟨rfl, b2⟩
          have B2 := Lib.hid (below_step B1.out b2)
          clear b2
          go_wp2_with fail
          go_ret
          exact ⟨rfl, B2.out⟩

set_option maxRecDepth 100000 in
theorem lifted (os : Os) (started : os.Started) (H : Type) (enc : TypeId × Value → H) :
    ReturnsInHanded {} Try.checked os 7 .any (Rows.tableWindowsSpec.pre6 enc Try.prog Try.f7 Rows.tableWindowsRow.domain false) (Rows.tableWindowsSpec.post enc Try.prog Try.f7 false true false false) := by
  refine returnsInHanded_of_change (C := Try.checked) own started (by kernel_rfl) Try.func7
    (ChangeSpec.witness6 (enc := enc) (C := Try.checked) false ⟨#[], #[.slice none 0 0, .int .i64 0], []⟩ 8 (by kernel_rfl) (by kernel_rfl) (by kernel_rfl) (by kernel_rfl)) ?_
  intro W base args ds gs before hval0 hW hcnd _
  have hval : ∀ (j : Nat) t v, Try.f7.params[j]? = some t → args[j]? = some v → Value.okWide Try.prog W .any base t v := hval0
  have hW' := hW
  obtain ⟨p, q, hA0, hV, rfl, hfz, hnd⟩ := hW
  have hA : DataW.TrodAll enc Try.prog W 0 (fun _ => true) true Try.f7.params.toList args.toList ds p := hA0
  rw [Try.params7] at hA hval
  obtain ⟨v0, v1, d0, d1, p0, p1, rfl, rfl, rfl, h0, h1⟩ := trodAll_two hA
  obtain ⟨rfl, rfl⟩ := trodVars_none hV
  obtain ⟨A0, c0, l0, rfl, hr0⟩ := Mm.open_list (α := Int) Try.underlying26 Mm.opInts (hval 0 26 v0 rfl rfl) h0
  obtain ⟨n1, rfl, f1⟩ := Mm.open_num' Try.underlying3 (hval 1 3 v1 rfl rfl) h1
  clear hA0 hval0
  refine (walk A0 c0 l0 n1 W hr0 f1).mono fun e W' ⟨he, bel⟩ => ?_
  subst he
  have hlt0 : ∀ x ∈ p0, x.block < W.heap.size := fun x hx => hW'.lt x (by simp [hx])
  have hlt1 : ∀ x ∈ p1, x.block < W.heap.size := fun x hx => hW'.lt x (by simp [hx])
  exact ⟨_, rfl, _, _, _, [], _, [], hW', trodAll_mk1 (shut_bool Try.underlying4 _), trodAll_mk2 (Below.trod laidOut (by kernel_rfl) (of_decide_eq_true (by kernel_rfl)) h0 bel hlt0) (Below.trod laidOut (by kernel_rfl) (of_decide_eq_true (by kernel_rfl)) h1 bel hlt1), rfl, bel.frame _, fun h => by cases h⟩

/-- The statement. -/
theorem proved : Rows.TableWindowsSaid :=
  OpenClaim.holds_of_wide 7 Try.f7 rfl rfl rfl rfl rfl rfl rfl ⟨rfl, rfl, rfl, rfl, rfl⟩ rfl rfl rfl rfl rfl (by kernel_rfl) Try.func7 (by kernel_rfl)
    (of_decide_eq_true (by kernel_rfl)) (by unfold Func.isWrapper; first | (rw [if_pos (by decide +kernel)]; kernel_rfl) | (rw [if_neg (by decide +kernel)]; exact ⟨rfl, rfl⟩))
    (fun os started H enc _ => lifted os started H enc)
#print axioms proved

end Go.Proofs.Ytpodahnmdakjjaa.tableWindows
