/-
  For all tasks and any number the statement BlockSteps of layer 8 returns true (from one place where it may change to the next one the blocking is the same; there is none below the first one, and none from the last one on), and its arguments read as before. No condition.
-/
import Derived.Test.YtnkgfkmdfplneaaLaw05Args
import Derived.Test.YtnkgfkmdfplneaaLaw08Knows
namespace Go.Proofs.Ytnkgfkmdfplneaa.blockSteps
open Go.ChangeShapes Go.WideShapes Go.ChangeAt Go.RowKit
open Mm Tk Bk

/-- the last place so far, or -1 -/
def Last (s : List Int) (t : Int) (k : Nat) (z : Int) : Prop := (z = -1 ∧ ∀ j, j < k → t < at_ s j) ∨ ∃ p : Nat, z = (p : Int) ∧ p < k ∧ at_ s p ≤ t ∧ ∀ j, p < j → j < k → t < at_ s j
theorem last_zero (s : List Int) (t : Int) : Last s t 0 (-1) := .inl ⟨rfl, fun j h => by omega⟩
theorem last_yes {s : List Int} {t : Int} {k : Nat} (h : at_ s k ≤ t) : Last s t (k + 1) (k : Int) := .inr ⟨k, rfl, by omega, h, fun j h1 h2 => by omega⟩
theorem last_no {s : List Int} {t : Int} {k : Nat} {z : Int} (hl : Last s t k z) (h : ¬ at_ s k ≤ t) : Last s t (k + 1) z := by
  have hk : ∀ j, j < k + 1 → (j < k → t < at_ s j) → t < at_ s j := fun j hj hh => by
    by_cases e : j = k
    · subst e; omega
    · exact hh (by omega)
  rcases hl with ⟨h1, h2⟩ | ⟨p, h1, h2, h3, h4⟩
  · exact .inl ⟨h1, fun j hj => hk j hj (h2 j)⟩
  · exact .inr ⟨p, h1, by omega, h3, fun j hpj hj => hk j hj (fun hh => h4 j hpj hh)⟩

set_option maxHeartbeats 1600000 in
theorem walk (A : Option Addr) (c : Nat) (L : List Tsk) (t : Int) (w : World) (hr : Rd w A c L) (ft : Fit t) :
    Calls Try.prog 4 #[.slice A L.length c, .int .i64 t] w fun e w' => e = .returned (.bool true) ∧ Below w.heap.size w w' := by
  have HR := Lib.hid hr
  have FT := Lib.hid ft
  clear hr ft
  cases hg : greatB L with
  | true =>
    go_enter Try.func4, Try.ntmps4
    go_wp2_with fail
    refine (great_any A c L _ HR.out).mono ?_
    rintro e w1 ⟨rfl, b1⟩
    rw [hg]
    have B1 := Lib.hid b1
    clear b1
    go_wp2_with fail
    refine (knows8_any _).mono ?_
    rintro e w2 ⟨rfl, b2⟩
    have B2 := Lib.hid (below_step B1.out b2)
    clear b2
    go_wp2_with fail
    go_ret
    exact ⟨rfl, B2.out⟩
  | false =>
    obtain ⟨hL, hin⟩ := great_no hg
    have HT : Hid (TL w A c L) := ⟨by omega, fun j hj => by have := hin j hj; omega, HR.out⟩
    have HGR := Lib.hid hg
    clear hg hin
    have HL := Lib.hid hL
    clear hL
    cases hv : allB L with
    | false =>
      have HV := Lib.hid hv
      clear hv
      go_enter Try.func4, Try.ntmps4
      go_wp2_with fail
      refine (great_any A c L _ HR.out).mono ?_
      rintro e w1 ⟨rfl, b1⟩
      rw [HGR.out]
      replace HT := Lib.hid (HT.out.below b1)
      have B1 := Lib.hid b1
      clear b1
      go_wp2_with fail
      refine (refAll_v A c L false HV.out _ rfl _ HT.out).mono ?_
      rintro e w2 ⟨rfl, b2⟩
      have B2 := Lib.hid (below_step B1.out b2)
      replace HT := Lib.hid (HT.out.below b2)
      clear b2
      go_wp2_with fail
      refine (knows8_any _).mono ?_
      rintro e w3 ⟨rfl, b3⟩
      have B3 := Lib.hid (below_step B2.out b3)
      clear b3
      go_wp2_with fail
      go_ret
      exact ⟨rfl, B3.out⟩
    | true =>
      obtain ⟨z1, z2, z3⟩ := of_good hv t
      have hsl : (steps L).length ≤ 1000000 := by
        have h1 := len_steps L
        omega
      have HBT : Hid (∀ p : Nat, p < (steps L).length → at_ (steps L) p ≤ t → (∀ j, p < j → j < (steps L).length → t < at_ (steps L) j) → blk L t = blk L (at_ (steps L) p)) := fun p h1 h2 h3 => blk_between hv h1 h2 h3
      have HFI : Hid ((∀ j, j < (steps L).length → t < at_ (steps L) j) → blk L t = 0) := fun h => blk_first hv h
      have HLA : Hid (0 < (steps L).length → at_ (steps L) ((steps L).length - 1) ≤ t → blk L t = 0) := fun h1 h2 => blk_last hv h1 h2
      have HOG : Hid (∀ u, ((ofB L u : Nat) : Int) = (blk L u : Nat)) := fun u => (of_good hv u).1
      obtain ⟨v, hvv⟩ : ∃ v, ((blk L t : Nat) : Int) = v := ⟨_, rfl⟩
      obtain ⟨s, hss⟩ : ∃ s, steps L = s := ⟨_, rfl⟩
      rw [hvv] at z1
      rw [hss] at z3 hsl HBT HFI HLA
      have HV := Lib.hid hv
      have Z1 := Lib.hid z1
      have Z2 := Lib.hid z2
      have Z3 := Lib.hid z3
      have HVV := Lib.hid hvv
      have HSS := Lib.hid hss
      clear hv z1 z2 z3 hvv hss
      go_enter Try.func4, Try.ntmps4
      go_wp2_with fail
      refine (great_any A c L _ HR.out).mono ?_
      rintro e w1 ⟨rfl, b1⟩
      rw [HGR.out]
      replace HT := Lib.hid (HT.out.below b1)
      have B1 := Lib.hid b1
      clear b1
      go_wp2_with fail
      refine (refAll_v A c L true HV.out _ rfl _ HT.out).mono ?_
      rintro e w2 ⟨rfl, b2⟩
      have B2 := Lib.hid (below_step B1.out b2)
      replace HT := Lib.hid (HT.out.below b2)
      clear b2
      go_wp2_with fail
      refine (steps_v A c L s 0 Z3.out Z2.out _ rfl s.length rfl _ HT.out).mono ?_
      rintro e w3 ⟨A3, c3, rfl, r3, b3⟩
      have R3 := Lib.hid r3
      have B3 := Lib.hid (below_step B2.out b3)
      replace HT := Lib.hid (HT.out.below b3)
      clear b3 r3
      go_wp2_with fail
      refine (of_v A c L t v 0 Z1.out Z2.out _ rfl _ HT.out).mono ?_
      rintro e w4 ⟨rfl, b4⟩
      have B4 := Lib.hid (below_step B3.out b4)
      replace HT := Lib.hid (HT.out.below b4)
      replace R3 := Lib.hid (R3.out.below b4)
      clear b4
      go_wp2_with fail
      go_loop [9, 10] (fun lv i => ∃ (k : Nat) (z : Int), i = .int .i64 k ∧ lv = .int .i64 z ∧ k ≤ s.length ∧ Hid (Last s t k z)) (fun _ i => s.length - (intOf i).toNat)
      case atStart => exact ⟨0, -1, rfl, rfl, Nat.zero_le _, last_zero s t⟩
      case round =>
        obtain ⟨k, z, rfl, rfl, hk, HZ⟩ := hrel
        by_cases hkl : k < s.length
        · obtain ⟨b, off, rfl, hc⟩ := R3.out.int (by omega)
          obtain ⟨x1, _⟩ := hc k hkl
          clear hc
          have HY : Hid (at_ s k ≤ t → Last s t (k + 1) (k : Int)) := fun h => last_yes h
          have HN : Hid (¬ at_ s k ≤ t → Last s t (k + 1) z) := fun h => last_no HZ.out h
          generalize at_ s k = x at *
          by_cases hx : x ≤ t
          · have HC := Lib.hid (HY.out hx)
            go_wp2_with fail
            go_round
            case rel => exact ⟨k + 1, k, by go_num, rfl, hkl, HC⟩
            case measure => simp [intOf]; omega
          · have HC := Lib.hid (HN.out hx)
            go_wp2_with fail
            go_round
            case rel => exact ⟨k + 1, z, by go_num, rfl, hkl, HC⟩
            case measure => simp [intOf]; omega
        · have hkl' : k = s.length := by omega
          subst hkl'
          rcases HZ.out with ⟨rfl, h2⟩ | ⟨p, rfl, h2, h3, h4⟩
          · have HV0 : Hid (v = 0) := by show _ = _; rw [← HVV.out, HFI.out h2]; rfl
            clear h2 HZ
            obtain rfl := HV0.out
            go_wp2_with fail
            refine (knows8_any _).mono ?_
            rintro e w5 ⟨rfl, b5⟩
            have B5 := Lib.hid (below_step B4.out b5)
            clear b5
            go_wp2_with fail
            go_ret
            exact ⟨rfl, B5.out⟩
          · by_cases hp : p = s.length - 1
            · have HV0 : Hid (v = 0) := by show _ = _; rw [← HVV.out, HLA.out (by omega) (by rw [← hp]; exact h3)]; rfl
              have hpi : (p : Int) = (s.length : Int) - 1 := by omega
              have q1 : decide ((p : Int) = (s.length : Int) - 1) = true := decide_eq_true hpi
              have q2 : ((p : Int) == (s.length : Int) - 1) = true := beq_iff_eq.2 hpi
              have q3 : IntKind.i64.wrap ((s.length : Int) - 1) = (s.length : Int) - 1 := IntWalk.i64_in _ (by omega)
              clear h3 h4 HZ hp hpi
              obtain rfl := HV0.out
              go_wp2_with fail
              refine (knows8_any _).mono ?_
              rintro e w5 ⟨rfl, b5⟩
              have B5 := Lib.hid (below_step B4.out b5)
              clear b5
              go_wp2_with fail
              go_ret
              exact ⟨rfl, B5.out⟩
            · have HVE : Hid (((ofB L (at_ s p) : Nat) : Int) = v) := by show _ = _; rw [HOG.out, ← HBT.out p h2 h3 h4, HVV.out]
              have hpi : ¬ (p : Int) = (s.length : Int) - 1 := by omega
              have q1 : decide ((p : Int) = (s.length : Int) - 1) = false := decide_eq_false hpi
              have q2 : ((p : Int) == (s.length : Int) - 1) = false := beq_eq_false_iff_ne.2 hpi
              have q3 : IntKind.i64.wrap ((s.length : Int) - 1) = (s.length : Int) - 1 := IntWalk.i64_in _ (by omega)
              clear hp hpi
              obtain ⟨b, off, rfl, hc⟩ := R3.out.int (by omega)
              obtain ⟨x1, _⟩ := hc p h2
              clear hc h3 h4 HZ
              generalize at_ s p = x at *
              go_wp2_with fail
              refine (of_v A c L x v 0 HVE.out Z2.out _ rfl _ HT.out).mono ?_
              rintro e w5 ⟨rfl, b5⟩
              have B5 := Lib.hid (below_step B4.out b5)
              replace HT := Lib.hid (HT.out.below b5)
              clear b5
              go_wp2_with fail
              refine (knows8_any _).mono ?_
              rintro e w6 ⟨rfl, b6⟩
              have B6 := Lib.hid (below_step B5.out b6)
              clear b6
              go_wp2_with fail
              go_ret
              exact ⟨rfl, B6.out⟩

set_option maxRecDepth 100000 in
theorem lifted (os : Os) (started : os.Started) (H : Type) (enc : TypeId × Value → H) :
    ReturnsInHanded {} Try.checked os 4 .any (Rows.blockStepsSpec.pre6 enc Try.prog Try.f4 Rows.blockStepsRow.domain false) (Rows.blockStepsSpec.post enc Try.prog Try.f4 false true false false) := by
  refine returnsInHanded_of_change (C := Try.checked) own started (by kernel_rfl) Try.func4
    (ChangeSpec.witness6 (enc := enc) (C := Try.checked) false ⟨#[], #[.slice none 0 0, .int .i64 0], []⟩ 8 (by kernel_rfl) (by kernel_rfl) (by kernel_rfl) (by kernel_rfl)) ?_
  intro W base args ds gs before hval0 hW hcnd _
  have hval : ∀ (j : Nat) t v, Try.f4.params[j]? = some t → args[j]? = some v → Value.okWide Try.prog W .any base t v := hval0
  have hW' := hW
  obtain ⟨p, q, hA0, hV, rfl, hfz, hnd⟩ := hW
  have hA : DataW.TrodAll enc Try.prog W 0 (fun _ => true) true Try.f4.params.toList args.toList ds p := hA0
  rw [Try.params4] at hA hval
  obtain ⟨v0, v1, d0, d1, p0, p1, rfl, rfl, rfl, h0, h1⟩ := trodAll_two hA
  obtain ⟨rfl, rfl⟩ := trodVars_none hV
  obtain ⟨A0, c0, l0, rfl, hr0⟩ := Mm.open_list (α := Tk.Tsk) Try.underlying22 Tk.opTasks (hval 0 22 v0 rfl rfl) h0
  obtain ⟨n1, rfl, f1⟩ := Mm.open_num' Try.underlying3 (hval 1 3 v1 rfl rfl) h1
  clear hA0 hval0
  refine (walk A0 c0 l0 n1 W hr0 f1).mono fun e W' ⟨he, bel⟩ => ?_
  subst he
  have hlt0 : ∀ x ∈ p0, x.block < W.heap.size := fun x hx => hW'.lt x (by simp [hx])
  have hlt1 : ∀ x ∈ p1, x.block < W.heap.size := fun x hx => hW'.lt x (by simp [hx])
  exact ⟨_, rfl, _, _, _, [], _, [], hW', trodAll_mk1 (shut_bool Try.underlying4 _), trodAll_mk2 (Below.trod laidOut (by kernel_rfl) (of_decide_eq_true (by kernel_rfl)) h0 bel hlt0) (Below.trod laidOut (by kernel_rfl) (of_decide_eq_true (by kernel_rfl)) h1 bel hlt1), rfl, bel.frame _, fun h => by cases h⟩

/-- The statement. -/
theorem proved : Rows.BlockStepsSaid :=
  OpenClaim.holds_of_wide 4 Try.f4 rfl rfl rfl rfl rfl rfl rfl ⟨rfl, rfl, rfl, rfl, rfl⟩ rfl rfl rfl rfl rfl (by kernel_rfl) Try.func4 (by kernel_rfl)
    (of_decide_eq_true (by kernel_rfl)) (by unfold Func.isWrapper; first | (rw [if_pos (by decide +kernel)]; kernel_rfl) | (rw [if_neg (by decide +kernel)]; exact ⟨rfl, rfl⟩))
    (fun os started H enc _ => lifted os started H enc)
#print axioms proved

end Go.Proofs.Ytnkgfkmdfplneaa.blockSteps
