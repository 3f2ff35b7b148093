/-
  For all tasks, all last releases and any two numbers the statement PoliceTells of layer 16 returns true (whether a task may release a job, and what is noted, is what the document says, with the error), and its arguments read as before. No condition.
-/
import Derived.Test.YtfhifmpkdnnpmaaGlaw16
namespace Go.Proofs.Ytfhifmpkdnnpmaa.policeTells
open Go.ChangeShapes Go.WideShapes Go.ChangeAt Go.RowKit
open Mm Tk Pc

theorem refMay_v (A : Option Addr) (c : Nat) (L : List Tsk) (A2 : Option Addr) (c2 : Nat) (s : List Int) (i t : Int) (m n : Nat) (hm : L.length = m) (hn : s.length = n) (v : Int) (hv : mayE L s i t = v) (w : World) (H : TL w A c L) (H2 : IL w A2 c2 s) :
    Calls Try.prog 9 #[.slice A m c, .slice A2 n c2, .int .i64 i, .int .i64 t] w fun e w' => e = .returned (.int .i64 v) ∧ Below w.heap.size w w' := by
  subst hm; subst hn; subst hv
  exact refMay_any A c L A2 c2 s i t w H H2
theorem refRight_v (A : Option Addr) (c : Nat) (L : List Tsk) (A2 : Option Addr) (c2 : Nat) (s : List Int) (m n : Nat) (hm : L.length = m) (hn : s.length = n) (v : Bool) (hv : lastsB L s = v) (w : World) (H : TL w A c L) (H2 : IL w A2 c2 s) :
    Calls Try.prog 12 #[.slice A m c, .slice A2 n c2] w fun e w' => e = .returned (.bool v) ∧ Below w.heap.size w w' := by
  subst hm; subst hn; subst hv
  exact refRight_any A c L A2 c2 s w H H2
theorem may_cases (L : List Tsk) (s : List Int) (i t : Int) : (mayE L s i t = 0 ∧ mayB L s i t = true ∧ 0 ≤ i ∧ i.toNat < s.length ∧ noteL L s i t = s.set i.toNat t) ∨ ((mayE L s i t = 1 ∨ mayE L s i t = 6) ∧ noteL L s i t = s) := by
  cases hb : mayB L s i t with
  | false =>
    right
    refine ⟨may_not hb, ?_⟩
    unfold noteL
    rw [hb]
    rfl
  | true =>
    left
    obtain ⟨h1, h2, h3, h4, h5⟩ := argB_iff.1 (Bool.and_eq_true _ _ ▸ hb).1
    obtain ⟨_, h6, _⟩ := lastsB_iff.1 h1
    refine ⟨may_zero.2 hb, rfl, h2, by omega, ?_⟩
    unfold noteL
    rw [hb]
    rfl

set_option maxRecDepth 20000 in
set_option maxHeartbeats 800000 in
theorem walk (A : Option Addr) (c : Nat) (L : List Tsk) (A2 : Option Addr) (c2 : Nat) (s : List Int) (i t : Int) (w : World) (hr : Rd w A c L) (hs : Rd w A2 c2 s) (_fi : Fit i) (_ft : Fit t) :
    Calls Try.prog 3 #[.slice A L.length c, .slice A2 s.length c2, .int .i64 i, .int .i64 t] w fun e w' => e = .returned (.bool true) ∧ Below w.heap.size w w' := by
  have hm := Nat.le_trans hs.le hs.max
  unfold maxLen at hm
  have HR := Lib.hid hr
  have HS := Lib.hid hs
  clear hr hs
  cases hg : greatB L with
  | true =>
    skip
    go_enter Try.func3, Try.ntmps3
    go_wp2_with fail
    refine (great_any A c L _ HR.out).mono ?_
    rintro e w1 ⟨rfl, b1⟩
    have B1 := Lib.hid b1
    clear b1
    go_wp2_with fail
    refine (knows_any _).mono ?_
    rintro e w2 ⟨rfl, b2⟩
    have B2 := Lib.hid (below_step B1.out b2)
    clear b2
    go_wp2_with fail
    go_ret
    exact ⟨rfl, B2.out⟩
  | false =>
    obtain ⟨hL, hin⟩ := great_no hg
    by_cases h50 : (50 : Int) < (s.length : Int)
    · skip
      go_enter Try.func3, Try.ntmps3
      go_wp2_with fail
      refine (great_any A c L _ HR.out).mono ?_
      rintro e w1 ⟨rfl, b1⟩
      have B1 := Lib.hid b1
      clear b1
      go_wp2_with fail
      refine (knows_any _).mono ?_
      rintro e w2 ⟨rfl, b2⟩
      have B2 := Lib.hid (below_step B1.out b2)
      clear b2
      go_wp2_with fail
      go_ret
      exact ⟨rfl, B2.out⟩
    · have HT : Hid (TL w A c L) := ⟨by omega, fun j hj => by have := hin j hj; omega, HR.out⟩
      have HI : Hid (IL w A2 c2 s) := ⟨by omega, HS.out⟩
      clear hin
      obtain ⟨n, hn⟩ : ∃ n, s.length = n := ⟨_, rfl⟩
      have HN := Lib.hid hn
      have hcs := may_cases L s i t
      obtain ⟨u, hu⟩ : ∃ u, lastsB L s = u := ⟨_, rfl⟩
      have HU := Lib.hid hu
      obtain ⟨r, hrr⟩ : ∃ r, noteL L s i t = r := ⟨_, rfl⟩
      have HRR := Lib.hid hrr
      rw [hn] at h50 hm hcs
      have d50 : decide ((50 : Int) < (n : Int)) = false := decide_eq_false h50
      have hn50 : n ≤ 50 := by omega
      rw [hrr] at hcs
      rw [hn]
      clear hn hu hrr
      rcases hcs with ⟨hv, _, h0, hk, he⟩ | ⟨hv, he⟩
      · obtain ⟨k0, rfl⟩ : ∃ k0 : Nat, i = k0 := ⟨i.toNat, by omega⟩
        rw [Int.toNat_natCast] at hk he
        have HV := Lib.hid hv
        have HE := Lib.hid he
        clear hv he
        go_enter Try.func3, Try.ntmps3
        go_wp2_with fail
        refine (great_any A c L _ HR.out).mono ?_
        rintro e w1 ⟨rfl, b1⟩
        have B1 := Lib.hid b1
        clear b1
        go_wp2_with fail
        replace HT := Lib.hid (HT.out.below B1.out)
        replace HI := Lib.hid (HI.out.below B1.out)
        refine (refMay_v A c L A2 c2 s k0 t _ n rfl HN.out 0 HV.out _ HT.out HI.out).mono ?_
        rintro e w2 ⟨rfl, b2⟩
        have B2 := Lib.hid (below_step B1.out b2)
        replace HT := Lib.hid (HT.out.below b2)
        replace HI := Lib.hid (HI.out.below b2)
        clear b2
        go_wp2_with fail
        refine (note_v A c L A2 c2 s k0 t _ n rfl HN.out 0 HV.out _ HRR.out _ HT.out HI.out).mono ?_
        rintro e w3 ⟨A3, c3, rfl, r3, b3⟩
        have B3 := Lib.hid (below_step B2.out b3)
        replace HT := Lib.hid (HT.out.below b3)
        replace HI := Lib.hid (HI.out.below b3)
        have R3 := Lib.hid r3
        clear b3 r3
        go_wp2_with fail
        refine (right_v A c L A2 c2 s _ n rfl HN.out u HU.out _ HT.out HI.out).mono ?_
        rintro e w4 ⟨rfl, b4⟩
        have B4 := Lib.hid (below_step B3.out b4)
        replace HT := Lib.hid (HT.out.below b4)
        replace HI := Lib.hid (HI.out.below b4)
        replace R3 := Lib.hid (R3.out.below b4)
        clear b4
        go_wp2_with fail
        refine (refRight_v A c L A2 c2 s _ n rfl HN.out u HU.out _ HT.out HI.out).mono ?_
        rintro e w5 ⟨rfl, b5⟩
        have B5 := Lib.hid (below_step B4.out b5)
        replace HT := Lib.hid (HT.out.below b5)
        replace HI := Lib.hid (HI.out.below b5)
        replace R3 := Lib.hid (R3.out.below b5)
        clear b5
        go_wp2_with fail
        refine (may_v A c L A2 c2 s k0 t _ n rfl HN.out 0 HV.out _ HT.out HI.out).mono ?_
        rintro e w6 ⟨rfl, b6⟩
        have B6 := Lib.hid (below_step B5.out b6)
        replace HT := Lib.hid (HT.out.below b6)
        replace HI := Lib.hid (HI.out.below b6)
        replace R3 := Lib.hid (R3.out.below b6)
        clear b6
        go_wp2_with fail
        have H50 := Lib.hid h50
        have D50 := Lib.hid d50
        clear h50 d50
        go_loop [12] (fun x => ∃ k : Nat, x = .int .i64 k ∧ k ≤ n) (fun x => n - (intOf x).toNat)
        case atStart => exact ⟨0, rfl, Nat.zero_le _⟩
        case round =>
          obtain ⟨k, rfl, hkn⟩ := hrel
          by_cases hlt : k < n
          · have hrl : r.length = n := by rw [HE.out, List.length_set]; exact HN.out
            obtain ⟨b1, o1, rfl, g1⟩ := HI.out.2.int (by have := HN.out; omega)
            obtain ⟨b2, o2, rfl, g2⟩ := R3.out.int (by omega)
            have x1 := (g1 k (by have := HN.out; omega)).1
            have x2 := (g2 k (by omega)).1
            have i1 : (0 : Int) ≤ (k : Int) := by omega
            have i2 : (k : Int) < (n : Int) := by omega
            clear g1 g2
            by_cases e : k = k0
            · subst e
              have hz : at_ r k = t := by rw [HE.out, at_set_same _ (by rw [HN.out]; exact hlt)]
              rw [hz] at x2
              clear hz hrl
              generalize at_ s k = y at *
              go_wp2_with fail
              go_round
              case rel => exact ⟨k + 1, by go_num, hlt⟩
              case measure => (simp [intOf] <;> omega)
            · have hz : at_ r k = at_ s k := by rw [HE.out, at_set_other _ e]
              have e2 : ((k : Int) == (k0 : Int)) = false := by simp; omega
              rw [hz] at x2
              clear hz hrl
              generalize at_ s k = y at *
              have E := Lib.hid e
              clear e
              go_wp2_with fail
              go_round
              case rel => exact ⟨k + 1, by go_num, hlt⟩
              case measure => (simp [intOf] <;> omega)
          · have : k = n := by omega
            subst this
            go_wp2_with fail
            refine (knows_any _).mono ?_
            rintro e w7 ⟨rfl, b7⟩
            have B7 := Lib.hid (below_step B6.out b7)
            clear b7
            go_wp2_with fail
            go_ret
            exact ⟨rfl, B7.out⟩
      · skip
        replace he := he.symm
        subst he
        rcases hv with hv | hv
        · have HV := Lib.hid hv
          clear hv
          go_enter Try.func3, Try.ntmps3
          go_wp2_with fail
          refine (great_any A c L _ HR.out).mono ?_
          rintro e w1 ⟨rfl, b1⟩
          have B1 := Lib.hid b1
          clear b1
          go_wp2_with fail
          replace HT := Lib.hid (HT.out.below B1.out)
          replace HI := Lib.hid (HI.out.below B1.out)
          refine (refMay_v A c L A2 c2 s i t _ n rfl HN.out 1 HV.out _ HT.out HI.out).mono ?_
          rintro e w2 ⟨rfl, b2⟩
          have B2 := Lib.hid (below_step B1.out b2)
          replace HT := Lib.hid (HT.out.below b2)
          replace HI := Lib.hid (HI.out.below b2)
          clear b2
          go_wp2_with fail
          refine (note_v A c L A2 c2 s i t _ n rfl HN.out 1 HV.out _ HRR.out _ HT.out HI.out).mono ?_
          rintro e w3 ⟨A3, c3, rfl, r3, b3⟩
          have B3 := Lib.hid (below_step B2.out b3)
          replace HT := Lib.hid (HT.out.below b3)
          replace HI := Lib.hid (HI.out.below b3)
          have R3 := Lib.hid r3
          clear b3 r3
          go_wp2_with fail
          refine (right_v A c L A2 c2 s _ n rfl HN.out u HU.out _ HT.out HI.out).mono ?_
          rintro e w4 ⟨rfl, b4⟩
          have B4 := Lib.hid (below_step B3.out b4)
          replace HT := Lib.hid (HT.out.below b4)
          replace HI := Lib.hid (HI.out.below b4)
          replace R3 := Lib.hid (R3.out.below b4)
          clear b4
          go_wp2_with fail
          refine (refRight_v A c L A2 c2 s _ n rfl HN.out u HU.out _ HT.out HI.out).mono ?_
          rintro e w5 ⟨rfl, b5⟩
          have B5 := Lib.hid (below_step B4.out b5)
          replace HT := Lib.hid (HT.out.below b5)
          replace HI := Lib.hid (HI.out.below b5)
          replace R3 := Lib.hid (R3.out.below b5)
          clear b5
          go_wp2_with fail
          refine (may_v A c L A2 c2 s i t _ n rfl HN.out 1 HV.out _ HT.out HI.out).mono ?_
          rintro e w6 ⟨rfl, b6⟩
          have B6 := Lib.hid (below_step B5.out b6)
          replace HT := Lib.hid (HT.out.below b6)
          replace HI := Lib.hid (HI.out.below b6)
          replace R3 := Lib.hid (R3.out.below b6)
          clear b6
          go_wp2_with fail
          have H50 := Lib.hid h50
          have D50 := Lib.hid d50
          clear h50 d50
          go_loop [12] (fun x => ∃ k : Nat, x = .int .i64 k ∧ k ≤ n) (fun x => n - (intOf x).toNat)
          case atStart => exact ⟨0, rfl, Nat.zero_le _⟩
          case round =>
            obtain ⟨k, rfl, hkn⟩ := hrel
            by_cases hlt : k < n
            · obtain ⟨b1, o1, rfl, g1⟩ := HI.out.2.int (by have := HN.out; omega)
              obtain ⟨b2, o2, rfl, g2⟩ := R3.out.int (by have := HN.out; omega)
              have x1 := (g1 k (by have := HN.out; omega)).1
              have x2 := (g2 k (by have := HN.out; omega)).1
              have i1 : (0 : Int) ≤ (k : Int) := by omega
              have i2 : (k : Int) < (n : Int) := by omega
              clear g1 g2
              generalize at_ s k = y at *
              go_wp2_with fail
              go_round
              case rel => exact ⟨k + 1, by go_num, hlt⟩
              case measure => (simp [intOf] <;> omega)
            · have : k = n := by omega
              subst this
              go_wp2_with fail
              refine (knows_any _).mono ?_
              rintro e w7 ⟨rfl, b7⟩
              have B7 := Lib.hid (below_step B6.out b7)
              clear b7
              go_wp2_with fail
              go_ret
              exact ⟨rfl, B7.out⟩
        · have HV := Lib.hid hv
          clear hv
          go_enter Try.func3, Try.ntmps3
          go_wp2_with fail
          refine (great_any A c L _ HR.out).mono ?_
          rintro e w1 ⟨rfl, b1⟩
          have B1 := Lib.hid b1
          clear b1
          go_wp2_with fail
          replace HT := Lib.hid (HT.out.below B1.out)
          replace HI := Lib.hid (HI.out.below B1.out)
          refine (refMay_v A c L A2 c2 s i t _ n rfl HN.out 6 HV.out _ HT.out HI.out).mono ?_
          rintro e w2 ⟨rfl, b2⟩
          have B2 := Lib.hid (below_step B1.out b2)
          replace HT := Lib.hid (HT.out.below b2)
          replace HI := Lib.hid (HI.out.below b2)
          clear b2
          go_wp2_with fail
          refine (note_v A c L A2 c2 s i t _ n rfl HN.out 6 HV.out _ HRR.out _ HT.out HI.out).mono ?_
          rintro e w3 ⟨A3, c3, rfl, r3, b3⟩
          have B3 := Lib.hid (below_step B2.out b3)
          replace HT := Lib.hid (HT.out.below b3)
          replace HI := Lib.hid (HI.out.below b3)
          have R3 := Lib.hid r3
          clear b3 r3
          go_wp2_with fail
          refine (right_v A c L A2 c2 s _ n rfl HN.out u HU.out _ HT.out HI.out).mono ?_
          rintro e w4 ⟨rfl, b4⟩
          have B4 := Lib.hid (below_step B3.out b4)
          replace HT := Lib.hid (HT.out.below b4)
          replace HI := Lib.hid (HI.out.below b4)
          replace R3 := Lib.hid (R3.out.below b4)
          clear b4
          go_wp2_with fail
          refine (refRight_v A c L A2 c2 s _ n rfl HN.out u HU.out _ HT.out HI.out).mono ?_
          rintro e w5 ⟨rfl, b5⟩
          have B5 := Lib.hid (below_step B4.out b5)
          replace HT := Lib.hid (HT.out.below b5)
          replace HI := Lib.hid (HI.out.below b5)
          replace R3 := Lib.hid (R3.out.below b5)
          clear b5
          go_wp2_with fail
          refine (may_v A c L A2 c2 s i t _ n rfl HN.out 6 HV.out _ HT.out HI.out).mono ?_
          rintro e w6 ⟨rfl, b6⟩
          have B6 := Lib.hid (below_step B5.out b6)
          replace HT := Lib.hid (HT.out.below b6)
          replace HI := Lib.hid (HI.out.below b6)
          replace R3 := Lib.hid (R3.out.below b6)
          clear b6
          go_wp2_with fail
          have H50 := Lib.hid h50
          have D50 := Lib.hid d50
          clear h50 d50
          go_loop [12] (fun x => ∃ k : Nat, x = .int .i64 k ∧ k ≤ n) (fun x => n - (intOf x).toNat)
          case atStart => exact ⟨0, rfl, Nat.zero_le _⟩
          case round =>
            obtain ⟨k, rfl, hkn⟩ := hrel
            by_cases hlt : k < n
            · obtain ⟨b1, o1, rfl, g1⟩ := HI.out.2.int (by have := HN.out; omega)
              obtain ⟨b2, o2, rfl, g2⟩ := R3.out.int (by have := HN.out; omega)
              have x1 := (g1 k (by have := HN.out; omega)).1
              have x2 := (g2 k (by have := HN.out; omega)).1
              have i1 : (0 : Int) ≤ (k : Int) := by omega
              have i2 : (k : Int) < (n : Int) := by omega
              clear g1 g2
              generalize at_ s k = y at *
              go_wp2_with fail
              go_round
              case rel => exact ⟨k + 1, by go_num, hlt⟩
              case measure => (simp [intOf] <;> omega)
            · have : k = n := by omega
              subst this
              go_wp2_with fail
              refine (knows_any _).mono ?_
              rintro e w7 ⟨rfl, b7⟩
              have B7 := Lib.hid (below_step B6.out b7)
              clear b7
              go_wp2_with fail
              go_ret
              exact ⟨rfl, B7.out⟩

set_option maxRecDepth 100000 in
theorem lifted (os : Os) (started : os.Started) (H : Type) (enc : TypeId × Value → H) :
    ReturnsInHanded {} Try.checked os 3 .any (Rows.policeTellsSpec.pre6 enc Try.prog Try.f3 Rows.policeTellsRow.domain false) (Rows.policeTellsSpec.post enc Try.prog Try.f3 false true false false) := by
  refine returnsInHanded_of_change (C := Try.checked) own started (by kernel_rfl) Try.func3
    (ChangeSpec.witness6 (enc := enc) (C := Try.checked) false ⟨#[], #[.slice none 0 0, .slice none 0 0, .int .i64 0, .int .i64 0], []⟩ 8 (by kernel_rfl) (by kernel_rfl) (by kernel_rfl) (by kernel_rfl)) ?_
  intro W base args ds gs before hval0 hW hcnd _
  have hval : ∀ (j : Nat) t v, Try.f3.params[j]? = some t → args[j]? = some v → Value.okWide Try.prog W .any base t v := hval0
  have hW' := hW
  obtain ⟨p, q, hA0, hV, rfl, hfz, hnd⟩ := hW
  have hA : DataW.TrodAll enc Try.prog W 0 (fun _ => true) true Try.f3.params.toList args.toList ds p := hA0
  rw [Try.params3] at hA hval
  obtain ⟨v0, v1, v2, v3, d0, d1, d2, d3, p0, p1, p2, p3, rfl, rfl, rfl, h0, h1, h2, h3⟩ := trodAll_four' hA
  obtain ⟨rfl, rfl⟩ := trodVars_none hV
  obtain ⟨A0, c0, l0, rfl, hr0⟩ := Mm.open_list (α := Tk.Tsk) Try.underlying22 Tk.opTasks (hval 0 22 v0 rfl rfl) h0
  obtain ⟨A1, c1, l1, rfl, hr1⟩ := Mm.open_list (α := Int) Try.underlying23 Mm.opInts (hval 1 23 v1 rfl rfl) h1
  obtain ⟨n2, rfl, f2⟩ := Mm.open_num' Try.underlying3 (hval 2 3 v2 rfl rfl) h2
  obtain ⟨n3, rfl, f3⟩ := Mm.open_num' Try.underlying3 (hval 3 3 v3 rfl rfl) h3
  clear hA0 hval0
  refine (walk A0 c0 l0 A1 c1 l1 n2 n3 W hr0 hr1 f2 f3).mono fun e W' ⟨he, bel⟩ => ?_
  subst he
  have hlt0 : ∀ x ∈ p0, x.block < W.heap.size := fun x hx => hW'.lt x (by simp [hx])
  have hlt1 : ∀ x ∈ p1, x.block < W.heap.size := fun x hx => hW'.lt x (by simp [hx])
  have hlt2 : ∀ x ∈ p2, x.block < W.heap.size := fun x hx => hW'.lt x (by simp [hx])
  have hlt3 : ∀ x ∈ p3, x.block < W.heap.size := fun x hx => hW'.lt x (by simp [hx])
  exact ⟨_, rfl, _, _, _, [], _, [], hW', trodAll_mk1 (shut_bool Try.underlying4 _), trodAll_mk4 (Below.trod laidOut (by kernel_rfl) (of_decide_eq_true (by kernel_rfl)) h0 bel hlt0) (Below.trod laidOut (by kernel_rfl) (of_decide_eq_true (by kernel_rfl)) h1 bel hlt1) (Below.trod laidOut (by kernel_rfl) (of_decide_eq_true (by kernel_rfl)) h2 bel hlt2) (Below.trod laidOut (by kernel_rfl) (of_decide_eq_true (by kernel_rfl)) h3 bel hlt3), rfl, bel.frame _, fun h => by cases h⟩

/-- The statement. -/
theorem proved : Rows.PoliceTellsSaid :=
  OpenClaim.holds_of_wide 3 Try.f3 rfl rfl rfl rfl rfl rfl rfl ⟨rfl, rfl, rfl, rfl, rfl⟩ rfl rfl rfl rfl rfl (by kernel_rfl) Try.func3 (by kernel_rfl)
    (of_decide_eq_true (by kernel_rfl)) (by unfold Func.isWrapper; first | (rw [if_pos (by decide +kernel)]; kernel_rfl) | (rw [if_neg (by decide +kernel)]; exact ⟨rfl, rfl⟩))
    (fun os started H enc _ => lifted os started H enc)
#print axioms proved

end Go.Proofs.Ytfhifmpkdnnpmaa.policeTells
