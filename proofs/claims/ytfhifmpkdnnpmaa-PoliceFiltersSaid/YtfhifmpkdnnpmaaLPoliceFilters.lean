/-
  For all tasks and all asks the statement PoliceFilters of layer 16 returns true (which asks may be is what the document says), and its arguments read as before. No condition.
-/
import Derived.Test.YtfhifmpkdnnpmaaGlaw16
import Derived.Test.YtfhifmpkdnnpmaaGlaw05
namespace Go.Proofs.Ytfhifmpkdnnpmaa.policeFilters
open Go.ChangeShapes Go.WideShapes Go.ChangeAt Go.RowKit
open Mm Tk Pc

theorem all_v (A : Option Addr) (c : Nat) (L : List Tsk) (v : Bool) (hv : allB L = v) (w : World) (H : TL w A c L) :
    Calls Try.prog 15 #[.slice A L.length c] w fun e w' => e = .returned (.bool v) ∧ Below w.heap.size w w' := by
  subst hv
  exact refAll_any A c L w H.1 H.2.1 H.2.2
theorem ref_v (A : Option Addr) (c : Nat) (L : List Tsk) (A1 : Option Addr) (c1 : Nat) (A2 : Option Addr) (c2 : Nat) (q : List Pc.Ask) (n : Nat) (hn : q.length = n) (f : List Bool) (hf : runF L q n = f) (w : World) (hbig : n ≤ 1000) (ha : allB L = true) (H : TL w A c L) (H1 : Rd w A1 c1 (tsk q)) (H2 : Rd w A2 c2 (ats q)) :
    Calls Try.prog 17 #[.slice A L.length c, .slice A1 n c1, .slice A2 n c2] w fun e w' => ∃ A' c', e = .returned (.slice A' n c') ∧ Rd w' A' c' f ∧ Below w.heap.size w w' := by
  subst hf
  refine (refFilter_any A c L A1 c1 A2 c2 q n hn w hbig ha H H1 H2).mono ?_
  rintro e w' ⟨A', c', h1, h2, h3⟩
  rw [hn] at h1 h2
  exact ⟨A', c', h1, h2, h3⟩

set_option maxRecDepth 20000 in
set_option maxHeartbeats 800000 in
theorem walk (A : Option Addr) (c : Nat) (L : List Tsk) (A2 : Option Addr) (c2 : Nat) (q : List Pc.Ask) (w : World) (hr : Rd w A c L) (hs : Rd w A2 c2 q) :
    Calls Try.prog 4 #[.slice A L.length c, .slice A2 q.length c2] w fun e w' => e = .returned (.bool true) ∧ Below w.heap.size w w' := by
  have hm := Nat.le_trans hs.le hs.max
  unfold maxLen at hm
  have HR := Lib.hid hr
  have HS := Lib.hid hs
  clear hr hs
  cases hg : greatB L with
  | true =>
    skip
    go_enter Try.func4, Try.ntmps4
    go_wp2_with fail
    refine (great_any A c L _ HR.out).mono ?_
    rintro e w1 ⟨rfl, b1⟩
    have B1 := Lib.hid b1
    clear b1
    go_wp2_with fail
    refine (knows_any _).mono ?_
    rintro e w2 ⟨rfl, b2⟩
    have B2 := Lib.hid (below_step B1.out b2)
    clear b2
    go_wp2_with fail
    go_ret
    exact ⟨rfl, B2.out⟩
  | false =>
    obtain ⟨hL, hin⟩ := great_no hg
    by_cases h100 : (100 : Int) < (q.length : Int)
    · skip
      go_enter Try.func4, Try.ntmps4
      go_wp2_with fail
      refine (great_any A c L _ HR.out).mono ?_
      rintro e w1 ⟨rfl, b1⟩
      have B1 := Lib.hid b1
      clear b1
      go_wp2_with fail
      refine (knows_any _).mono ?_
      rintro e w2 ⟨rfl, b2⟩
      have B2 := Lib.hid (below_step B1.out b2)
      clear b2
      go_wp2_with fail
      go_ret
      exact ⟨rfl, B2.out⟩
    · have HT : Hid (TL w A c L) := ⟨by omega, fun j hj => by have := hin j hj; omega, HR.out⟩
      have HQ : Hid (QL w A2 c2 q) := ⟨by omega, HS.out⟩
      have d100 : decide ((100 : Int) < (q.length : Int)) = false := decide_eq_false h100
      clear hin
      obtain ⟨n, hn⟩ : ∃ n, q.length = n := ⟨_, rfl⟩
      have HN := Lib.hid hn
      rw [hn] at h100 hm d100
      have hn1 : n ≤ 100 := by omega
      rw [hn]
      clear hn
      cases ha : allB L with
      | false =>
        have HE : Hid (filterP L q = []) := by show _ = _; unfold filterP; rw [ha]; rfl
        have HA := Lib.hid ha
        clear ha
        go_enter Try.func4, Try.ntmps4
        go_wp2_with fail
        refine (great_any A c L _ HR.out).mono ?_
        rintro e w1 ⟨rfl, b1⟩
        have B1 := Lib.hid b1
        clear b1
        go_wp2_with fail
        replace HT := Lib.hid (HT.out.below B1.out)
        replace HQ := Lib.hid (HQ.out.below B1.out)
        refine (filter_v A c L A2 c2 q _ n rfl HN.out [] HE.out 0 rfl _ HT.out HQ.out).mono ?_
        rintro e w2 ⟨A3, c3, rfl, r3, b2⟩
        have B2 := Lib.hid (below_step B1.out b2)
        replace HT := Lib.hid (HT.out.below b2)
        clear r3 b2
        go_wp2_with fail
        refine (all_v A c L false HA.out _ HT.out).mono ?_
        rintro e w3 ⟨rfl, b3⟩
        have B3 := Lib.hid (below_step B2.out b3)
        clear b3
        go_wp2_with fail
        refine (knows_any _).mono ?_
        rintro e w4 ⟨rfl, b4⟩
        have B4 := Lib.hid (below_step B3.out b4)
        clear b4
        go_wp2_with fail
        go_ret
        exact ⟨rfl, B4.out⟩
      | true =>
        obtain ⟨f, hf⟩ : ∃ f, runF L q n = f := ⟨_, rfl⟩
        have HE : Hid (filterP L q = f) := by show _ = _; unfold filterP; rw [ha, if_pos rfl, HN.out, hf]
        have HFL : Hid (f.length = n) := by show _ = _; rw [← hf, runF_length]
        have HA := Lib.hid ha
        have HF := Lib.hid hf
        clear ha hf
        go_enter Try.func4, Try.ntmps4
        go_wp2_with fail
        refine (great_any A c L _ HR.out).mono ?_
        rintro e w1 ⟨rfl, b1⟩
        have B1 := Lib.hid b1
        clear b1
        go_wp2_with fail
        replace HT := Lib.hid (HT.out.below B1.out)
        replace HQ := Lib.hid (HQ.out.below B1.out)
        refine (filter_v A c L A2 c2 q _ n rfl HN.out f HE.out n HFL.out _ HT.out HQ.out).mono ?_
        rintro e w2 ⟨A3, c3, rfl, r3, b2⟩
        have B2 := Lib.hid (below_step B1.out b2)
        replace HT := Lib.hid (HT.out.below b2)
        replace HQ := Lib.hid (HQ.out.below b2)
        have R3 := Lib.hid r3
        clear r3 b2
        go_wp2_with fail
        refine (all_v A c L true HA.out _ HT.out).mono ?_
        rintro e w3 ⟨rfl, b3⟩
        have B3 := Lib.hid (below_step B2.out b3)
        replace HT := Lib.hid (HT.out.below b3)
        replace HQ := Lib.hid (HQ.out.below b3)
        replace R3 := Lib.hid (R3.out.below b3)
        clear b3
        go_wp2_with fail
        have hparts := parts_any A2 c2 q w3 (by rw [HN.out]; omega) HQ.out.2
        rw [HN.out] at hparts
        refine hparts.mono ?_
        rintro e w4 ⟨A4, c4, A5, c5, rfl, r4, r5, b4⟩
        rw [HN.out]
        have B4 := Lib.hid (below_step B3.out b4)
        replace HT := Lib.hid (HT.out.below b4)
        replace R3 := Lib.hid (R3.out.below b4)
        have R4 := Lib.hid r4
        have R5 := Lib.hid r5
        clear r4 r5 b4 hparts
        go_wp2_with fail
        refine (ref_v A c L A4 c4 A5 c5 q n HN.out f HF.out _ (by omega) HA.out HT.out R4.out R5.out).mono ?_
        rintro e w5 ⟨A6, c6, rfl, r6, b5⟩
        have B5 := Lib.hid (below_step B4.out b5)
        replace R3 := Lib.hid (R3.out.below b5)
        have R6 := Lib.hid r6
        clear r6 b5
        have H100 := Lib.hid h100
        have D100 := Lib.hid d100
        have HM := Lib.hid hm
        clear h100 d100 hm
        go_wp2_with fail
        go_loopw [9] (fun x wr => ∃ k : Nat, x = .int .i64 k ∧ k ≤ n ∧ Hid (Below w5.heap.size w5 wr)) (fun x _ => n - (intOf x).toNat)
        case atStart => exact ⟨0, rfl, Nat.zero_le _, Below.refl _ _⟩
        case round =>
          obtain ⟨k, rfl, hkn, HB⟩ := hrel
          by_cases hlt : k < n
          · obtain ⟨b1, o1, rfl, g1⟩ := (R3.out.below HB.out).flag (by have := HFL.out; omega)
            obtain ⟨b2, o2, rfl, g2⟩ := (R6.out.below HB.out).flag (by have := HFL.out; omega)
            have x1 := (g1 k (by have := HFL.out; omega))
            have x2 := (g2 k (by have := HFL.out; omega))
            have i1 : (0 : Int) ≤ (k : Int) := by omega
            have i2 : (k : Int) < (n : Int) := by omega
            clear g1 g2
            generalize at_ f k = y at *
            go_wp2_with fail
            replace x1 := cell_bw x1
            replace x2 := cell_bw x2
            refine wp_region_bw (by kernel_rfl) (by kernel_rfl) ?_
            repeat
              (with_reducible refine wpQuiet_step (fun K hK => ?_)
               go_simp
               first
                 | (with_reducible refine hK _ ?_
                    clear hK K)
                 | (rw [if_neg]
                    rotate_left
                    focus (intro h; cases h; done)
                    with_reducible refine hK _ ?_
                    clear hK K)
                 | (apply Exists.intro
                    refine ⟨fun _ => ?_, hK _ ?_⟩
                    (fail)
                    clear hK K))
            with_reducible refine wpQuiet_nil ?_
            intro wb hw'
            obtain ⟨⟨wb', lb⟩, hw''⟩ := hw'
            subst hw''
            have B6 := Lib.hid (below_step HB.out lb)
            clear lb x1 x2
            go_wp2_with fail
            go_roundw
            case rel => exact ⟨k + 1, by go_num, hlt, B6⟩
            case measure => (simp [intOf] <;> omega)
          · have : k = n := by omega
            subst this
            have B6 := Lib.hid (below_step B5.out HB.out)
            go_wp2_with fail
            refine (knows_any _).mono ?_
            rintro e w7 ⟨rfl, b7⟩
            have B7 := Lib.hid (below_step B6.out b7)
            clear b7
            go_wp2_with fail
            go_ret
            exact ⟨rfl, B7.out⟩

set_option maxRecDepth 100000 in
theorem lifted (os : Os) (started : os.Started) (H : Type) (enc : TypeId × Value → H) :
    ReturnsInHanded {} Try.checked os 4 .any (Rows.policeFiltersSpec.pre6 enc Try.prog Try.f4 Rows.policeFiltersRow.domain false) (Rows.policeFiltersSpec.post enc Try.prog Try.f4 false true false false) := by
  refine returnsInHanded_of_change (C := Try.checked) own started (by kernel_rfl) Try.func4
    (ChangeSpec.witness6 (enc := enc) (C := Try.checked) false ⟨#[], #[.slice none 0 0, .slice none 0 0], []⟩ 8 (by kernel_rfl) (by kernel_rfl) (by kernel_rfl) (by kernel_rfl)) ?_
  intro W base args ds gs before hval0 hW hcnd _
  have hval : ∀ (j : Nat) t v, Try.f4.params[j]? = some t → args[j]? = some v → Value.okWide Try.prog W .any base t v := hval0
  have hW' := hW
  obtain ⟨p, q, hA0, hV, rfl, hfz, hnd⟩ := hW
  have hA : DataW.TrodAll enc Try.prog W 0 (fun _ => true) true Try.f4.params.toList args.toList ds p := hA0
  rw [Try.params4] at hA hval
  obtain ⟨v0, v1, d0, d1, p0, p1, rfl, rfl, rfl, h0, h1⟩ := trodAll_two hA
  obtain ⟨rfl, rfl⟩ := trodVars_none hV
  obtain ⟨A0, c0, l0, rfl, hr0⟩ := Mm.open_list (α := Tk.Tsk) Try.underlying22 Tk.opTasks (hval 0 22 v0 rfl rfl) h0
  obtain ⟨A1, c1, l1, rfl, hr1⟩ := Mm.open_list (α := Pc.Ask) Try.underlying33 Pc.opAsks (hval 1 33 v1 rfl rfl) h1
  clear hA0 hval0
  refine (walk A0 c0 l0 A1 c1 l1 W hr0 hr1).mono fun e W' ⟨he, bel⟩ => ?_
  subst he
  have hlt0 : ∀ x ∈ p0, x.block < W.heap.size := fun x hx => hW'.lt x (by simp [hx])
  have hlt1 : ∀ x ∈ p1, x.block < W.heap.size := fun x hx => hW'.lt x (by simp [hx])
  exact ⟨_, rfl, _, _, _, [], _, [], hW', trodAll_mk1 (shut_bool Try.underlying4 _), trodAll_mk2 (Below.trod laidOut (by kernel_rfl) (of_decide_eq_true (by kernel_rfl)) h0 bel hlt0) (Below.trod laidOut (by kernel_rfl) (of_decide_eq_true (by kernel_rfl)) h1 bel hlt1), rfl, bel.frame _, fun h => by cases h⟩

/-- The statement. -/
theorem proved : Rows.PoliceFiltersSaid :=
  OpenClaim.holds_of_wide 4 Try.f4 rfl rfl rfl rfl rfl rfl rfl ⟨rfl, rfl, rfl, rfl, rfl⟩ rfl rfl rfl rfl rfl (by kernel_rfl) Try.func4 (by kernel_rfl)
    (of_decide_eq_true (by kernel_rfl)) (by unfold Func.isWrapper; first | (rw [if_pos (by decide +kernel)]; kernel_rfl) | (rw [if_neg (by decide +kernel)]; exact ⟨rfl, rfl⟩))
    (fun os started H enc _ => lifted os started H enc)
#print axioms proved

end Go.Proofs.Ytfhifmpkdnnpmaa.policeFilters
