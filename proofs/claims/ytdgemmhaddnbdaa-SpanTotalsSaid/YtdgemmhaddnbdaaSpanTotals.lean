/-
  For every list of spans and every place the statement SpanTotals of layer 4 returns true (the ticks of spans are those of their row, one by one; those that are cut at a place, and those behind, are all), and its arguments read as before. No condition.
-/
import Derived.Test.YtdgemmhaddnbdaaLaw04Args
namespace Go.Proofs.Ytdgemmhaddnbdaa.spanTotals
open Go.ChangeShapes Go.WideShapes Go.ChangeAt Go.RowKit
open Hp

/-- the ticks of l from f on, below t -/
def part (l : List It) (f t : Int) (u : Int) : Bool := inn l u && decide (f ≤ u) && decide (u < t)
theorem tot_cut {n c l : List It} {f t : Int} (hn : Nm n) (he : Eqv n c) (hc : ∀ u, inn c u = (inn l u && decide (f ≤ u) && decide (u < t))) (hl : ∀ x ∈ l, x.2 ≤ 2000) : tot n = (cnt (part l f t) 2000 : Int) := by
  have e : ∀ u, inn n u = part l f t u := fun u => (he u).trans (hc u)
  rw [tot_cnt 2000 n hn (nm_top hn 2000 fun u hu => by
    rw [e u] at hu
    simp only [part, Bool.and_eq_true] at hu
    obtain ⟨x, hx, _, _, h2⟩ := inn_iff.1 hu.1.1
    have := hl x hx; omega)]
  rw [cnt_congr 2000 fun i _ => e i]
theorem parts_sum (l : List It) (a : Int) (_h0 : 0 ≤ a) (_h1 : a ≤ 2000) : cnt (part l 0 a) 2000 + cnt (part l a 2000) 2000 = cnt (inn l) 2000 := by
  refine (cnt_or 2000 fun i hi => ?_).symm
  refine ⟨?_, ?_⟩
  · rw [Bool.eq_iff_iff]
    simp only [part, Bool.and_eq_true, Bool.or_eq_true, decide_eq_true_eq]
    constructor
    · intro h
      by_cases hx : (i : Int) < a
      · exact .inl ⟨⟨h, by omega⟩, hx⟩
      · exact .inr ⟨⟨h, by omega⟩, by omega⟩
    · rintro (h | h)
      · exact h.1.1
      · exact h.1.1
  · rw [← Bool.not_eq_true]
    simp only [part, Bool.and_eq_true, decide_eq_true_eq]
    rintro ⟨⟨_, h2⟩, ⟨_, h3⟩, _⟩
    omega
theorem cnt_step (p : Int → Bool) (k : Nat) : cnt p (k + 1) = cnt p k + if p (k : Int) then 1 else 0 := rfl

theorem total_is (n : Nat) (A : Option Addr) (c : Nat) (l : List It) (v : Int) (w : World) (hn : l.length = n) (hv : ∀ m, Nm m → Eqv m l → tot m = v) (hbig : l.length ≤ 100000) (hr : Rd w A c l) :
    Calls Try.prog 19 #[.slice A n c] w fun e w' => e = .returned (.int .i64 v) ∧ Below w.heap.size w w' :=
  (total_n n A c l w hn hbig hr).mono fun _ _ ⟨m, he, h1, h2, h3⟩ => ⟨by rw [he, hv m h1 h2], h3⟩

set_option maxHeartbeats 3200000 in
theorem walk (A : Option Addr) (c : Nat) (l : List It) (a : Int) (w : World) (_hlc : l.length ≤ c) (_hcm : c ≤ maxLen) (hr : Rd w A c l) :
    Calls Try.prog 6 #[.slice A l.length c, .int .i64 a] w fun e w' => e = .returned (.bool true) ∧ Below w.heap.size w w' := by
  have HR := Lib.hid hr
  clear hr
  by_cases hbig : 40 < l.length
  · go_enter Try.func6, Try.ntmps6
    go_wp2_with fail
    refine (great_yes A l.length c _ hbig).mono ?_
    rintro e w0 ⟨rfl, rfl⟩
    go_wp2_with fail
    refine (knows_any _).mono ?_
    rintro e w1 ⟨rfl, b1⟩
    have B1 := Lib.hid b1
    clear b1
    go_wp2_with fail
    go_ret
    exact ⟨rfl, B1.out⟩
  · go_enter Try.func6, Try.ntmps6
    go_wp2_with fail
    refine (great_no A l.length c _ (by omega)).mono ?_
    rintro e w0 ⟨rfl, rfl⟩
    have hb : l.length ≤ 40 := by omega
    clear hbig
    go_wp2_with fail
    go_loopw [5] (fun i wr => ∃ k : Nat, i = .int .i64 k ∧ Hid (∀ j, j < k → j < l.length → (at_ l j).2 ≤ 2000) ∧ Hid (w = wr)) (fun i _ => l.length - (intOf i).toNat)
    case atStart => exact ⟨0, rfl, (fun j h1 => by omega), rfl⟩
    case round =>
      obtain ⟨k, rfl, HH, HW⟩ := hrel
      have hw := HW.out
      subst hw
      clear HW
      by_cases hlt : k < l.length
      · obtain ⟨b, off, rfl, hc⟩ := HR.out.2 (by omega)
        obtain ⟨x1, x2⟩ := hc k hlt
        clear hc
        by_cases ho : (at_ l k).2 ≤ 2000
        · have HF := Lib.hid ho
          generalize at_ l k = x at x1 x2 ho
          go_wp2_with fail
          go_roundw
          case rel =>
            refine ⟨k + 1, by go_num, ?_, trivial⟩
            intro j hj hjl
            by_cases e : j = k
            · subst e; exact HF.out
            · exact HH.out j (by omega) hjl
          case measure => simp [intOf]; omega
        · generalize at_ l k = x at x1 x2 ho
          have ho' : (2000 : Int) < x.2 := by omega
          go_wp2_with fail
          refine (knows_any _).mono ?_
          rintro e w1 ⟨rfl, b1⟩
          have B1 := Lib.hid b1
          clear b1
          go_wp2_with fail
          go_ret
          exact ⟨rfl, B1.out⟩
      · have HT : Hid (∀ x ∈ l, x.2 ≤ 2000) := fun x hx => by
          obtain ⟨j, hj, rfl⟩ := mem_at hx
          exact HH.out j (by omega) hj
        clear HH
        obtain ⟨T, hT⟩ : ∃ T : Nat, T = 2000 := ⟨_, rfl⟩
        go_wp2_with fail
        go_loopw [6, 7] (fun s i w1 => ∃ k : Nat, k ≤ 2000 ∧ i = .int .i64 k ∧ s = .int .i64 (cnt (inn l) k : Nat) ∧ Hid (Below w.heap.size w w1)) (fun _ i _ => T - (intOf i).toNat)
        case atStart => exact ⟨0, by omega, rfl, rfl, Below.refl _ _⟩
        case round =>
          obtain ⟨k, hk, rfl, rfl, HB⟩ := hrel
          by_cases hk2 : k < 2000
          · have hcn := cnt_le (inn l) k
            have hki : (k : Int) < 2000 := by omega
            have HK := Lib.hid hk2
            clear hk hk2
            cases hq : inn l (k : Int) with
            | true =>
              have HQ := Lib.hid hq
              have HC : Hid (cnt (inn l) (k + 1) = cnt (inn l) k + 1) := by show cnt (inn l) (k + 1) = _; rw [cnt_step, hq]; rfl
              clear hq
              generalize cnt (inn l) k = N at *
              go_wp2_with fail
              refine (refIn_any A c l (k : Int) _ (by omega) (HR.out.below HB.out)).mono ?_
              rintro e w1 ⟨rfl, b1⟩
              have B1 := Lib.hid (below_step HB.out b1)
              clear b1
              rw [HQ.out]
              go_wp2_with fail
              go_roundw
              case rel => exact ⟨k + 1, HK.out, by go_num, by rw [HC.out]; go_num, B1⟩
              case measure => have := HK.out; simp [intOf]; omega
            | false =>
              have HQ := Lib.hid hq
              have HC : Hid (cnt (inn l) (k + 1) = cnt (inn l) k) := by show cnt (inn l) (k + 1) = _; rw [cnt_step, hq]; rfl
              clear hq
              generalize cnt (inn l) k = N at *
              go_wp2_with fail
              refine (refIn_any A c l (k : Int) _ (by omega) (HR.out.below HB.out)).mono ?_
              rintro e w1 ⟨rfl, b1⟩
              have B1 := Lib.hid (below_step HB.out b1)
              clear b1
              rw [HQ.out]
              go_wp2_with fail
              go_roundw
              case rel => exact ⟨k + 1, HK.out, by go_num, by rw [HC.out], B1⟩
              case measure => have := HK.out; simp [intOf]; omega
          · have hkk : k = 2000 := by omega
            subst hkk
            clear hk2 hk
            go_wp2_with fail
            refine (cut_any A c l 0 a _ (by omega) (HR.out.below HB.out)).mono ?_
            rintro e w1 ⟨A1, c1, n1, rfl, p1, p2, p3, o1, b1⟩
            have B1 := Lib.hid (below_step HB.out b1)
            have RC := Lib.hid o1.rd
            have HV1 : Hid (∀ m, Nm m → Eqv m n1 → tot m = ((cnt (part l 0 a) 2000 : Nat) : Int)) := fun m h1 h2 => tot_cut h1 h2 p2 HT.out
            clear p1 p2 o1 b1 HB
            have ha := cnt_le (part l 0 a) 2000
            have hbb := cnt_le (part l a 2000) 2000
            have hn := cnt_le (inn l) 2000
            have HV0 : Hid (∀ m, Nm m → Eqv m l → tot m = ((cnt (inn l) 2000 : Nat) : Int)) := fun m h1 h2 => tot_eqv 2000 h1 h2 HT.out
            have HS : Hid (0 ≤ a → a ≤ 2000 → cnt (part l 0 a) 2000 + cnt (part l a 2000) 2000 = cnt (inn l) 2000) := parts_sum l a
            generalize cnt (inn l) 2000 = N at *
            generalize cnt (part l 0 a) 2000 = Na at *
            have HVb : Hid (∀ (m r : List It), Nm m → Eqv m r → (∀ u, inn r u = (inn l u && decide (a ≤ u) && decide (u < 2000))) → tot m = ((cnt (part l a 2000) 2000 : Nat) : Int)) := fun m r h1 h2 h3 => tot_cut h1 h2 h3 HT.out
            generalize cnt (part l a 2000) 2000 = Nb at *
            go_wp2_with fail
            refine (total_is n1.length A1 c1 n1 (Na : Int) _ rfl HV1.out (by omega) RC.out).mono ?_
            rintro e w2 ⟨rfl, b2⟩
            have B2 := Lib.hid (below_step B1.out b2)
            clear b2 B1 RC HV1
            go_wp2_with fail
            refine (cut_any A c l a 2000 _ (by omega) (HR.out.below B2.out)).mono ?_
            rintro e w3 ⟨A3, c3, n3, rfl, q1, q2, q3, o3, b3⟩
            have B3 := Lib.hid (below_step B2.out b3)
            have RC3 := Lib.hid o3.rd
            have HV3 : Hid (∀ m, Nm m → Eqv m n3 → tot m = (Nb : Int)) := fun m h1 h2 => HVb.out m n3 h1 h2 q2
            clear q1 q2 o3 b3 B2 HVb
            go_wp2_with fail
            refine (total_is n3.length A3 c3 n3 (Nb : Int) _ rfl HV3.out (by omega) RC3.out).mono ?_
            rintro e w4 ⟨rfl, b4⟩
            have B4 := Lib.hid (below_step B3.out b4)
            clear b4 B3 RC3 HV3
            have e1 : ((N : Int) == (N : Int)) = true := by simp
            by_cases h0 : a < 0
            · go_wp2_with fail
              refine (total_is l.length A c l (N : Int) _ rfl HV0.out (by omega) (HR.out.below B4.out)).mono ?_
              rintro e w5 ⟨rfl, b5⟩
              have B5 := Lib.hid (below_step B4.out b5)
              clear b5 B4
              go_wp2_with fail
              refine (knows_any _).mono ?_
              rintro e w6 ⟨rfl, b6⟩
              have B6 := Lib.hid (below_step B5.out b6)
              clear b6
              go_wp2_with fail
              go_ret
              exact ⟨rfl, B6.out⟩
            · by_cases h1 : 2000 < a
              · go_wp2_with fail
                refine (total_is l.length A c l (N : Int) _ rfl HV0.out (by omega) (HR.out.below B4.out)).mono ?_
                rintro e w5 ⟨rfl, b5⟩
                have B5 := Lib.hid (below_step B4.out b5)
                clear b5 B4
                go_wp2_with fail
                refine (knows_any _).mono ?_
                rintro e w6 ⟨rfl, b6⟩
                have B6 := Lib.hid (below_step B5.out b6)
                clear b6
                go_wp2_with fail
                go_ret
                exact ⟨rfl, B6.out⟩
              · have hs := HS.out (by omega) (by omega)
                have e2 : (Na : Int) + (Nb : Int) = (N : Int) := by omega
                have e3 : ((Na : Int) + (Nb : Int) == (N : Int)) = true := by rw [e2]; simp
                clear hs
                go_wp2_with fail
                refine (total_is l.length A c l (N : Int) _ rfl HV0.out (by omega) (HR.out.below B4.out)).mono ?_
                rintro e w5 ⟨rfl, b5⟩
                have B5 := Lib.hid (below_step B4.out b5)
                clear b5 B4
                go_wp2_with fail
                refine (knows_any _).mono ?_
                rintro e w6 ⟨rfl, b6⟩
                have B6 := Lib.hid (below_step B5.out b6)
                clear b6
                go_wp2_with fail
                go_ret
                exact ⟨rfl, B6.out⟩

set_option maxRecDepth 100000 in
theorem lifted (os : Os) (started : os.Started) (H : Type) (enc : TypeId × Value → H) :
    ReturnsInHanded {} Try.checked os 6 .any (Rows.spanTotalsSpec.pre6 enc Try.prog Try.f6 Rows.spanTotalsRow.domain false) (Rows.spanTotalsSpec.post enc Try.prog Try.f6 false true false false) := by
  refine returnsInHanded_of_change (C := Try.checked) own started (by kernel_rfl) Try.func6
    (ChangeSpec.witness6 (enc := enc) (C := Try.checked) false ⟨#[], #[.slice none 0 0, .int .i64 0], []⟩ 8 (by kernel_rfl) (by kernel_rfl) (by kernel_rfl) (by kernel_rfl)) ?_
  intro W base args ds gs before hval0 hW hcnd _
  have hval : ∀ (j : Nat) t v, Try.f6.params[j]? = some t → args[j]? = some v → Value.okWide Try.prog W .any base t v := hval0
  have hW' := hW
  obtain ⟨p, q, hA0, hV, rfl, hfz, hnd⟩ := hW
  have hA : DataW.TrodAll enc Try.prog W 0 (fun _ => true) true Try.f6.params.toList args.toList ds p := hA0
  rw [Try.params6] at hA hval
  obtain ⟨v0, v1, d0, d1, p0, p1, rfl, rfl, rfl, h0, h1⟩ := trodAll_two hA
  obtain ⟨rfl, rfl⟩ := trodVars_none hV
  obtain ⟨A0, c0, l0, rfl, hlc0, hcm0, hr0⟩ := open_items (hval 0 22 v0 rfl rfl) h0
  obtain ⟨n1, rfl⟩ := open_num (hval 1 3 v1 rfl rfl) h1
  clear hA0 hval0
  refine (walk A0 c0 l0 n1 W hlc0 hcm0 hr0 ).mono fun e W' ⟨he, bel⟩ => ?_
  subst he
  have hlt0 : ∀ x ∈ p0, x.block < W.heap.size := fun x hx => hW'.lt x (by simp [hx])
  have hlt1 : ∀ x ∈ p1, x.block < W.heap.size := fun x hx => hW'.lt x (by simp [hx])
  exact ⟨_, rfl, _, _, _, [], _, [], hW', trodAll_mk1 (shut_bool Try.underlying4 _), trodAll_mk2 (Below.trod laidOut (by kernel_rfl) (of_decide_eq_true (by kernel_rfl)) h0 bel hlt0) (Below.trod laidOut (by kernel_rfl) (of_decide_eq_true (by kernel_rfl)) h1 bel hlt1), rfl, bel.frame _, fun h => by cases h⟩

/-- The statement. -/
theorem proved : Rows.SpanTotalsSaid :=
  OpenClaim.holds_of_wide 6 Try.f6 rfl rfl rfl rfl rfl rfl rfl ⟨rfl, rfl, rfl, rfl, rfl⟩ rfl rfl rfl rfl rfl (by kernel_rfl) Try.func6 (by kernel_rfl)
    (of_decide_eq_true (by kernel_rfl)) (by unfold Func.isWrapper; first | (rw [if_pos (by decide +kernel)]; kernel_rfl) | (rw [if_neg (by decide +kernel)]; exact ⟨rfl, rfl⟩))
    (fun os started H enc _ => lifted os started H enc)
#print axioms proved

end Go.Proofs.Ytdgemmhaddnbdaa.spanTotals
