/-
  For all tasks, all held resources and any turn the statement LevelRows of layer 6 returns true (the ceiling of what is held is the same in whichever order, and however often, it is told; and a resource alone is its ceiling), and its arguments read as before. No condition.
-/
import Derived.Test.YtlgfbodmaocibaaLaw05Args
import Derived.Test.YtlgfbodmaocibaaMemOpenInts
import Derived.Test.YtlgfbodmaocibaaLaw06Knows
namespace Go.Proofs.Ytlgfbodmaocibaa.levelRows
open Go.ChangeShapes Go.WideShapes Go.ChangeAt Go.RowKit
open Mm Tk Lv

theorem held_turn (L : List Tsk) (h : List Int) (k : Nat) : heldZ L (h.drop k ++ h) = heldZ L h := by
  unfold heldZ
  rw [heldC_turn]
theorem held_one (L : List Tsk) (x : Int) : heldZ L [x] = ceilZ L x := by
  unfold heldZ ceilZ
  rw [heldC_one]
theorem held_nil (L : List Tsk) : ((heldZ L [] : Nat) : Int) = 0 := by
  unfold heldZ
  split <;> rfl
theorem tl_nil (w : World) : TL w none 0 [] := ⟨by simp, fun j hj => by simp at hj, rd_nil (fun _ => rfl) (by unfold maxLen; omega)⟩
set_option maxHeartbeats 1600000 in
theorem walk (A : Option Addr) (c : Nat) (L : List Tsk) (A2 : Option Addr) (c2 : Nat) (h : List Int) (k : Nat) (w : World) (hr : Rd w A c L) (hh : Rd w A2 c2 h) (hk : k < 256) :
    Calls Try.prog 6 #[.slice A L.length c, .slice A2 h.length c2, .int .u8 k] w fun e w' => e = .returned (.bool true) ∧ Below w.heap.size w w' := by
  have HM := Lib.hid (Nat.le_trans hh.le hh.max)
  have HR := Lib.hid hr
  have HH := Lib.hid hh
  clear hr hh
  cases hg : greatB6 L h with
  | true =>
    have z := held_nil []
    have Z := Lib.hid z
    clear z
    go_enter Try.func6, Try.ntmps6
    go_wp2_with fail
    refine (great6_any A c L A2 c2 h _ HR.out HM.out).mono ?_
    rintro e w1 ⟨rfl, b1⟩
    have B1 := Lib.hid b1
    clear b1
    go_wp2_with fail
    refine (held_v none 0 [] none 0 [] 0 Z.out 0 rfl 0 rfl _ (tl_nil _) (il_nil _)).mono ?_
    rintro e w2 ⟨rfl, b2⟩
    have B2 := Lib.hid (below_step B1.out b2)
    clear b2
    go_wp2_with fail
    refine (knows6_any _).mono ?_
    rintro e w3 ⟨rfl, b3⟩
    have B3 := Lib.hid (below_step B2.out b3)
    clear b3
    go_wp2_with fail
    go_ret
    exact ⟨rfl, B3.out⟩
  | false =>
    obtain ⟨hL, hin, hh50⟩ := great6_no hg
    have HT : Hid (TL w A c L) := ⟨by omega, fun j hj => by have := hin j hj; omega, HR.out⟩
    have HI : Hid (IL w A2 c2 h) := ⟨by omega, HH.out⟩
    clear hin
    by_cases h0 : h.length = 0
    · have e0 := List.eq_nil_of_length_eq_zero h0
      subst e0
      have z := held_nil []
      have Z := Lib.hid z
      clear z
      go_enter Try.func6, Try.ntmps6
      go_wp2_with fail
      refine (great6_any A c L A2 c2 [] _ HR.out HM.out).mono ?_
      rintro e w1 ⟨rfl, b1⟩
      have B1 := Lib.hid b1
      clear b1
      go_wp2_with fail
      refine (held_v none 0 [] none 0 [] 0 Z.out 0 rfl 0 rfl _ (tl_nil _) (il_nil _)).mono ?_
      rintro e w2 ⟨rfl, b2⟩
      have B2 := Lib.hid (below_step B1.out b2)
      clear b2
      go_wp2_with fail
      refine (knows6_any _).mono ?_
      rintro e w3 ⟨rfl, b3⟩
      have B3 := Lib.hid (below_step B2.out b3)
      clear b3
      go_wp2_with fail
      go_ret
      exact ⟨rfl, B3.out⟩
    · have hl0 : 0 < h.length := by omega
      have i5 : ¬ (h.length : Int) = 0 := by omega
      have hx : k % h.length < h.length := Nat.mod_lt _ hl0
      have e1 : Int.tmod (k : Int) (h.length : Int) = ((k % h.length : Nat) : Int) := by rw [Int.tmod_eq_emod_of_nonneg (by omega)]; exact (Int.natCast_emod k h.length).symm
      have hw1 : IntKind.i64.wrap (k : Int) = (k : Int) := IntWalk.i64_in _ (by omega)
      generalize k % h.length = a at *
      obtain ⟨b, off, rfl, hc⟩ := HI.out.2.int (by omega)
      obtain ⟨x1, fx⟩ := hc a hx
      have hmc := HI.out.2.le
      have hmm := HI.out.2.max
      unfold maxLen at hmm
      clear hc fx
      have HD := Lib.hid (rd_back_int HI.out.2 a (by omega))
      have hdl : (h.drop a).length = h.length - a := List.length_drop
      have HO := Lib.hid (rd_at_int HI.out.2 a hx)
      have z1 : ((heldZ L (h.drop a ++ h) : Nat) : Int) = heldZ L h := by rw [held_turn]
      have z2 : ((heldZ L [at_ h a] : Nat) : Int) = ceilZ L (at_ h a) := by rw [held_one]
      have z3 := held_nil L
      generalize h.drop a = r at *
      generalize at_ h a = x at *
      obtain ⟨p, z4⟩ : ∃ p : Nat, heldZ L h = p := ⟨_, rfl⟩
      obtain ⟨q, z5⟩ : ∃ q : Nat, ceilZ L x = q := ⟨_, rfl⟩
      rw [z4] at z1
      rw [z5] at z2
      replace z4 : ((heldZ L h : Nat) : Int) = p := by rw [z4]
      replace z5 : ((ceilZ L x : Nat) : Int) = q := by rw [z5]
      have Z1 := Lib.hid z1
      have Z2 := Lib.hid z2
      have Z3 := Lib.hid z3
      have Z4 := Lib.hid z4
      have Z5 := Lib.hid z5
      clear z1 z2 z3 z4 z5
      go_enter Try.func6, Try.ntmps6
      go_wp2_with fail
      refine (great6_any A c L _ c2 h _ HR.out HM.out).mono ?_
      rintro e w1 ⟨rfl, b1⟩
      replace x1 := cell_below b1 x1
      have B1 := Lib.hid b1
      replace HT := Lib.hid (HT.out.below b1)
      replace HI := Lib.hid (HI.out.below b1)
      replace HD := Lib.hid (HD.out.below b1)
      replace HO := Lib.hid (HO.out.below b1)
      clear b1
      have bA := below_one w1 (Obj.cells #[] 3)
      have HDA := Lib.hid (HD.out.below bA)
      have HE := Lib.hid (ow_empty w1 w1.heap.size 3 (Nat.le_refl _))
      have HB := Lib.hid bA
      clear bA
      go_wp2_with (at_builtin
                   first
                     | (refine list_app_n slI rfl _ _ rfl (base := w1.heap.size) (l := []) (r := r) (n := 0) (m := h.length - a) rfl hdl rfl rfl HE.out HDA.out (by omega) (by simp) ?_
                        intro A3 c3 w3 k1 k2 k3
                        have O3 := Lib.hid k1
                        have B3 := Lib.hid (HB.out.trans k2)
                        have HI3 := Lib.hid (HI.out.below B3.out)
                        clear k1 k2 k3)
                     | (refine list_app_n slI rfl _ _ rfl (base := w1.heap.size) (l := [] ++ r) (r := h) (n := h.length - a) (m := h.length) (by simp [hdl]) rfl rfl rfl O3.out HI3.out.2 (by omega) B3.out.size ?_
                        intro A4 c4 w4 k1 k2 k3
                        have O4 := Lib.hid k1
                        have B4 := Lib.hid (B3.out.trans k2)
                        clear k1 k2 k3))
      have HN : Hid (IL w4 A4 c4 (r ++ h)) := ⟨by simp; omega, by have := O4.out.rd; simpa using this⟩
      have hnl : (r ++ h).length = h.length - a + h.length := by simp [hdl]
      have B5 := Lib.hid (below_step B1.out B4.out)
      replace HT := Lib.hid (HT.out.below B4.out)
      replace HI := Lib.hid (HI.out.below B4.out)
      replace HO : Hid (IL w4 (some ⟨b, off + a, none⟩) (c2 - a) [x]) := ⟨by simp, HO.out.below B4.out⟩
      replace x1 := cell_below B4.out x1
      clear HD HDA HE HB O3 B3 HI3 O4 B4 B1 hw1 e1 hdl
      have i1 : (0 : Int) ≤ (a : Int) := by omega
      have i2 : (a : Int) < (h.length : Int) := by omega
      have i6 : (a : Int) + 1 ≤ (c2 : Int) := by omega
      have i7 : a + 1 ≤ c2 := by omega
      have i8 : IntKind.i64.wrap ((a : Int) + 1) = (a : Int) + 1 := IntWalk.i64_in _ (by omega)
      have i9 : ((a : Int) + 1).toNat = a + 1 := by omega
      have i10 : a ≤ a + 1 := by omega
      have i11 : (a : Int) ≤ (a : Int) + 1 := by omega
      have i12 : (0 : Int) ≤ (a : Int) + 1 := by omega
      have i13 : ¬ c2 = a := by omega
      have e1 : ([x] : List Int).length = 1 := rfl
      have e0 : ([] : List Int).length = 0 := rfl
      have HNL := Lib.hid hnl
      clear hnl
      replace x1 := cell_bw x1
      refine wp_region_bw (by kernel_rfl) (by kernel_rfl) ?_
      repeat
        (with_reducible refine wpQuiet_step (fun K hK => ?_)
         go_simp
         first
           | (with_reducible refine hK _ ?_
              clear hK K)
           | (rw [if_neg]
              rotate_left
              focus (intro h; cases h; done)
              with_reducible refine hK _ ?_
              clear hK K)
           | (apply Exists.intro
              refine ⟨fun _ => ?_, hK _ ?_⟩
              (first | with_reducible exact Calls.bw (held_v A c L A4 c4 (r ++ h) p Z1.out _ rfl _ HNL.out _ (HT.out.bw _) (HN.out.bw _)) | with_reducible exact Calls.bw (held_v A c L (some ⟨b, off, none⟩) c2 h p Z4.out _ rfl _ rfl _ (HT.out.bw _) (HI.out.bw _)) | with_reducible exact Calls.bw (held_v A c L (some ⟨b, off + a, none⟩) (c2 - a) [x] q Z2.out _ rfl 1 e1 _ (HT.out.bw _) (HO.out.bw _)) | with_reducible exact Calls.bw (ceil_v A c L x q Z5.out _ rfl _ (HT.out.bw _)) | with_reducible exact Calls.bw (held_v A c L none 0 [] 0 Z3.out _ rfl 0 e0 _ (HT.out.bw _) (il_nil _)) | exact Calls.bw (knows6_any _))
              clear hK K))
      with_reducible refine wpQuiet_nil ?_
      intro wb hw'
      obtain ⟨⟨wb', lb⟩, hw''⟩ := hw'
      subst hw''
      go_wp2_with fail
      go_ret
      exact ⟨rfl, below_step B5.out lb⟩

set_option maxRecDepth 100000 in
theorem lifted (os : Os) (started : os.Started) (H : Type) (enc : TypeId × Value → H) :
    ReturnsInHanded {} Try.checked os 6 .any (Rows.levelRowsSpec.pre6 enc Try.prog Try.f6 Rows.levelRowsRow.domain false) (Rows.levelRowsSpec.post enc Try.prog Try.f6 false true false false) := by
  refine returnsInHanded_of_change (C := Try.checked) own started (by kernel_rfl) Try.func6
    (ChangeSpec.witness6 (enc := enc) (C := Try.checked) false ⟨#[], #[.slice none 0 0, .slice none 0 0, .int .u8 0], []⟩ 8 (by kernel_rfl) (by kernel_rfl) (by kernel_rfl) (by kernel_rfl)) ?_
  intro W base args ds gs before hval0 hW hcnd _
  have hval : ∀ (j : Nat) t v, Try.f6.params[j]? = some t → args[j]? = some v → Value.okWide Try.prog W .any base t v := hval0
  have hW' := hW
  obtain ⟨p, q, hA0, hV, rfl, hfz, hnd⟩ := hW
  have hA : DataW.TrodAll enc Try.prog W 0 (fun _ => true) true Try.f6.params.toList args.toList ds p := hA0
  rw [Try.params6] at hA hval
  obtain ⟨v0, v1, v2, d0, d1, d2, p0, p1, p2, rfl, rfl, rfl, h0, h1, h2⟩ := trodAll_three hA
  obtain ⟨rfl, rfl⟩ := trodVars_none hV
  obtain ⟨A0, c0, l0, rfl, hr0⟩ := Mm.open_list (α := Tk.Tsk) Try.underlying22 Tk.opTasks (hval 0 22 v0 rfl rfl) h0
  obtain ⟨A1, c1, l1, rfl, hr1⟩ := Mm.open_list (α := Int) Try.underlying23 Mm.opInts (hval 1 23 v1 rfl rfl) h1
  obtain ⟨n2, rfl, f2⟩ := Mm.open_u8' Try.underlying5 (hval 2 5 v2 rfl rfl) h2
  clear hA0 hval0
  refine (walk A0 c0 l0 A1 c1 l1 n2 W hr0 hr1 f2).mono fun e W' ⟨he, bel⟩ => ?_
  subst he
  have hlt0 : ∀ x ∈ p0, x.block < W.heap.size := fun x hx => hW'.lt x (by simp [hx])
  have hlt1 : ∀ x ∈ p1, x.block < W.heap.size := fun x hx => hW'.lt x (by simp [hx])
  have hlt2 : ∀ x ∈ p2, x.block < W.heap.size := fun x hx => hW'.lt x (by simp [hx])
  exact ⟨_, rfl, _, _, _, [], _, [], hW', trodAll_mk1 (shut_bool Try.underlying4 _), trodAll_mk3 (Below.trod laidOut (by kernel_rfl) (of_decide_eq_true (by kernel_rfl)) h0 bel hlt0) (Below.trod laidOut (by kernel_rfl) (of_decide_eq_true (by kernel_rfl)) h1 bel hlt1) (Below.trod laidOut (by kernel_rfl) (of_decide_eq_true (by kernel_rfl)) h2 bel hlt2), rfl, bel.frame _, fun h => by cases h⟩

/-- The statement. -/
theorem proved : Rows.LevelRowsSaid :=
  OpenClaim.holds_of_wide 6 Try.f6 rfl rfl rfl rfl rfl rfl rfl ⟨rfl, rfl, rfl, rfl, rfl⟩ rfl rfl rfl rfl rfl (by kernel_rfl) Try.func6 (by kernel_rfl)
    (of_decide_eq_true (by kernel_rfl)) (by unfold Func.isWrapper; first | (rw [if_pos (by decide +kernel)]; kernel_rfl) | (rw [if_neg (by decide +kernel)]; exact ⟨rfl, rfl⟩))
    (fun os started H enc _ => lifted os started H enc)
#print axioms proved

end Go.Proofs.Ytlgfbodmaocibaa.levelRows
