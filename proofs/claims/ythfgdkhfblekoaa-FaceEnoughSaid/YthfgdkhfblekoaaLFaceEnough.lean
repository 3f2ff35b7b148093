/-
  For all tasks, every period and any number more the statement FaceEnough of layer 11 returns true (the least interface is enough; with a tick less it is not; and with any more it is), and its arguments read as before. No condition.
-/
import Derived.Test.YthfgdkhfblekoaaGlaw05
import Derived.Test.YthfgdkhfblekoaaGlaw11
import Derived.Test.YthfgdkhfblekoaaGmem
namespace Go.Proofs.Ythfgdkhfblekoaa.faceEnough
open Go.ChangeShapes Go.WideShapes Go.ChangeAt Go.RowKit
open Mm Tk Vd Fa
attribute [local go_sem ↓] buildFaceP buildFace0 eqFace

set_option maxRecDepth 20000 in
set_option maxHeartbeats 4000000 in
theorem walk (A : Option Addr) (c : Nat) (L : List Tsk) (P : Int) (i : Nat) (w : World) (hr : Rd w A c L) (_ : Fit P) (hi : i < 256) :
    Calls Try.prog 4 #[.slice A L.length c, .int .i64 P, .int .u8 i] w fun e w' => e = .returned (.bool true) ∧ Below w.heap.size w w' := by
  cases hg : greatB L with
  | true =>
    have HR := Lib.hid hr
    have HG := Lib.hid hg
    clear hr hg
    go_enter Try.func4, Try.ntmps4
    go_wp2_with fail
    refine (great_any A c L _ HR.out).mono ?_
    rintro e' w1 ⟨rfl, b1⟩
    rw [HG.out]
    have B1 := Lib.hid b1
    clear b1
    go_wp2_with fail
    refine (knows11_any _).mono ?_
    rintro e w2 ⟨rfl, b2⟩
    have B2 := Lib.hid (below_step B1.out b2)
    clear b2
    go_wp2_with fail
    go_ret
    exact ⟨rfl, B2.out⟩
  | false =>
    obtain ⟨hL, hin⟩ := great_no hg
    have HT : Hid (TL w A c L) := ⟨by omega, fun j hj => by have := hin j hj; omega, hr⟩
    clear hL hin
    have HR := Lib.hid hr
    have HG := Lib.hid hg
    clear hr hg
    obtain ⟨e, he⟩ : ∃ e, lstE L P = e := ⟨_, rfl⟩
    by_cases h0 : e = 0
    · subst h0
      obtain ⟨p, b, rfl, hb, _, hp1, hp2, hk, hl, hbp⟩ := lst_zero he
      have HC := Lib.hid (least_v A c L p p b 0 (by unfold lstP; rw [he, if_pos rfl]) (by rw [hb]) (by rw [he]; rfl) L.length rfl)
      have hb1 := hl.pos
      have hcy : ∀ c : Int, 1 ≤ c → c ≤ p → cycE L p c = 0 := fun c h1 h2 => (cycE_any (c := 1) ⟨h1, h2⟩ ⟨by omega, by omega⟩).trans (cycE_zero.2 hk)
      -- the number more
      obtain ⟨g, hg'⟩ : ∃ g, p - b = g := ⟨_, rfl⟩
      obtain ⟨m, hm⟩ : ∃ m, i % (g + 1) = m := ⟨_, rfl⟩
      have hmd : m < g + 1 := by rw [← hm]; exact Nat.mod_lt _ (by omega)
      have e0 : IntKind.i64.wrap ((p : Int) - (b : Int)) = (g : Int) := by rw [IntWalk.i64_in _ (by omega)]; omega
      obtain ⟨d, hd⟩ : ∃ d, g + 1 = d := ⟨_, rfl⟩
      have e1 : IntKind.i64.wrap ((g : Int) + 1) = (d : Int) := by rw [IntWalk.i64_in _ (by omega)]; omega
      rw [hd] at hm hmd
      have e2 : ¬ (d : Int) = 0 := by omega
      have e3 : ¬ d = 0 := by omega
      have e4 : (i : Int) % (d : Int) = (m : Int) := by rw [← hm]; push_cast; rfl
      obtain ⟨z, hz⟩ : ∃ z, b + m = z := ⟨_, rfl⟩
      have EZ : Hid (IntKind.i64.wrap ((b : Int) + (IntKind.i64.wrap (i : Int)).tmod (d : Int)) = (z : Int)) := by
        show _ = _
        rw [IntWalk.i64_in (i : Int) (by omega), Int.tmod_eq_emod_of_nonneg (by omega), e4, IntWalk.i64_in _ (by omega)]
        omega
      clear e4
      have e6 : IntKind.i64.wrap ((b : Int) - 1) = (b : Int) - 1 := IntWalk.i64_in _ (by omega)
      have e7 : ((d : Int) == 0) = false := beq_eq_false_iff_ne.2 e2
      have H1 := Lib.hid (fits_v A c L p b true 0 (hl.yes hbp) (hcy b (by omega) (by omega)) L.length rfl)
      have H3 := Lib.hid (fits_v A c L p z true 0 (fits_up (by omega) (by omega) (by omega) (hl.yes hbp)) (hcy z (by omega) (by omega)) L.length rfl)
      by_cases hb1' : b = 1
      · have hc0 : cycE L p 0 = 1 := (cyc_none (by unfold inB; rw [show Sp.rightB p 0 = false from Sp.right_no.2 (by omega), Bool.and_false])).2.2
        have H2 := Lib.hid (fits_v A c L p 0 false 1 (by rw [fits_is, hc0]; rfl) hc0 L.length rfl)
        subst hb1'
        rw [show ((1 : Nat) : Int) = 1 from rfl] at e0 EZ HC H1
        clear hc0 he hb hk hl hcy hg' hm hd hz hb1 hbp hmd e6
        go_enter Try.func4, Try.ntmps4
        go_wp2_with fail
        refine (great_any A c L _ HR.out).mono ?_
        rintro e' w1 ⟨rfl, b1⟩
        rw [HG.out]
        have B1 := Lib.hid b1
        clear b1
        go_wp2_with fail
        refine (HC.out _ (HT.out.below B1.out)).mono ?_
        rintro e' w2 ⟨rfl, b2⟩
        have bz := below_one w2 (Obj.cells #[.int .i64 (p : Int), .int .i64 1] 26)
        have u0 : (w2.alloc (Obj.cells #[.int .i64 (p : Int), .int .i64 1] 26)).cell? ⟨w2.heap.size, 0, none⟩ = some (.int .i64 (p : Int)) := by simp
        have u1 : (w2.alloc (Obj.cells #[.int .i64 (p : Int), .int .i64 1] 26)).cell? ⟨w2.heap.size, 1, none⟩ = some (.int .i64 1) := by simp
        have B2 := Lib.hid (below_step (below_step B1.out b2) bz)
        have HT2 := Lib.hid (HT.out.below B2.out)
        clear b2 bz
        go_wp2_with fail
        generalize w2.alloc (Obj.cells #[.int .i64 (p : Int), .int .i64 1] 26) = v2 at *
        refine (H1.out _ HT2.out).mono ?_
        rintro e w3 ⟨rfl, b3⟩
        replace u0 := cell_below b3 u0
        replace u1 := cell_below b3 u1
        have B3 := Lib.hid (below_step B2.out b3)
        replace HT2 := Lib.hid (HT2.out.below b3)
        clear b3
        go_wp2_with fail
        refine (H2.out _ HT2.out).mono ?_
        rintro e w4 ⟨rfl, b4⟩
        replace u0 := cell_below b4 u0
        replace u1 := cell_below b4 u1
        have B4 := Lib.hid (below_step B3.out b4)
        replace HT2 := Lib.hid (HT2.out.below b4)
        clear b4
        go_wp2_with fail
        replace u0 := cell_bw u0
        replace u1 := cell_bw u1
        refine wp_region_bw (by kernel_rfl) (by kernel_rfl) ?_
        repeat
          (with_reducible refine wpQuiet_step (fun K hK => ?_)
           go_simp
           first
             | (with_reducible refine hK _ ?_
                clear hK K)
             | (rw [if_neg]
                rotate_left
                focus (intro h; cases h; done)
                with_reducible refine hK _ ?_
                clear hK K)
             | (apply Exists.intro
                refine ⟨fun _ => ?_, hK _ ?_⟩
                (rw [EZ.out]; exact Calls.bw (H3.out _ (HT2.out.bw _)))
                clear hK K))
        with_reducible refine wpQuiet_nil ?_
        intro wb hw'
        obtain ⟨⟨wb', lb⟩, hw''⟩ := hw'
        subst hw''
        have x0 : wb.cell? ⟨w2.heap.size, 0, none⟩ = some (.int .i64 (p : Int)) := u0 ⟨wb, lb⟩
        have x1 : wb.cell? ⟨w2.heap.size, 1, none⟩ = some (.int .i64 1) := u1 ⟨wb, lb⟩
        have B5 := Lib.hid (below_step B4.out lb)
        clear lb u0 u1
        go_wp2_with fail
        refine (knows11_any _).mono ?_
        rintro e w6 ⟨rfl, b6⟩
        have B6 := Lib.hid (below_step B5.out b6)
        clear b6
        go_wp2_with fail
        go_ret
        exact ⟨rfl, B6.out⟩
      · have H2 := Lib.hid (fits_v A c L p ((b : Int) - 1) false 0 (by
          have := hl.no (b - 1) (by omega) (by omega)
          rwa [show ((b - 1 : Nat) : Int) = (b : Int) - 1 from by omega] at this) (hcy _ (by omega) (by omega)) L.length rfl)
        have hbi : ¬ (b : Int) = 1 := by omega
        clear he hb hk hl hcy hg' hm hd hz hmd
        go_enter Try.func4, Try.ntmps4
        go_wp2_with fail
        refine (great_any A c L _ HR.out).mono ?_
        rintro e' w1 ⟨rfl, b1⟩
        rw [HG.out]
        have B1 := Lib.hid b1
        clear b1
        go_wp2_with fail
        refine (HC.out _ (HT.out.below B1.out)).mono ?_
        rintro e' w2 ⟨rfl, b2⟩
        have bz := below_one w2 (Obj.cells #[.int .i64 (p : Int), .int .i64 (b : Int)] 26)
        have u0 : (w2.alloc (Obj.cells #[.int .i64 (p : Int), .int .i64 (b : Int)] 26)).cell? ⟨w2.heap.size, 0, none⟩ = some (.int .i64 (p : Int)) := by simp
        have u1 : (w2.alloc (Obj.cells #[.int .i64 (p : Int), .int .i64 (b : Int)] 26)).cell? ⟨w2.heap.size, 1, none⟩ = some (.int .i64 (b : Int)) := by simp
        have B2 := Lib.hid (below_step (below_step B1.out b2) bz)
        have HT2 := Lib.hid (HT.out.below B2.out)
        clear b2 bz
        go_wp2_with fail
        generalize w2.alloc (Obj.cells #[.int .i64 (p : Int), .int .i64 (b : Int)] 26) = v2 at *
        refine (H1.out _ HT2.out).mono ?_
        rintro e w3 ⟨rfl, b3⟩
        replace u0 := cell_below b3 u0
        replace u1 := cell_below b3 u1
        have B3 := Lib.hid (below_step B2.out b3)
        replace HT2 := Lib.hid (HT2.out.below b3)
        clear b3
        go_wp2_with fail
        refine (H2.out _ HT2.out).mono ?_
        rintro e w4 ⟨rfl, b4⟩
        replace u0 := cell_below b4 u0
        replace u1 := cell_below b4 u1
        have B4 := Lib.hid (below_step B3.out b4)
        replace HT2 := Lib.hid (HT2.out.below b4)
        clear b4
        go_wp2_with fail
        replace u0 := cell_bw u0
        replace u1 := cell_bw u1
        refine wp_region_bw (by kernel_rfl) (by kernel_rfl) ?_
        repeat
          (with_reducible refine wpQuiet_step (fun K hK => ?_)
           go_simp
           first
             | (with_reducible refine hK _ ?_
                clear hK K)
             | (rw [if_neg]
                rotate_left
                focus (intro h; cases h; done)
                with_reducible refine hK _ ?_
                clear hK K)
             | (apply Exists.intro
                refine ⟨fun _ => ?_, hK _ ?_⟩
                (rw [EZ.out]; exact Calls.bw (H3.out _ (HT2.out.bw _)))
                clear hK K))
        with_reducible refine wpQuiet_nil ?_
        intro wb hw'
        obtain ⟨⟨wb', lb⟩, hw''⟩ := hw'
        subst hw''
        have x0 : wb.cell? ⟨w2.heap.size, 0, none⟩ = some (.int .i64 (p : Int)) := u0 ⟨wb, lb⟩
        have x1 : wb.cell? ⟨w2.heap.size, 1, none⟩ = some (.int .i64 (b : Int)) := u1 ⟨wb, lb⟩
        have B5 := Lib.hid (below_step B4.out lb)
        clear lb u0 u1
        go_wp2_with fail
        refine (knows11_any _).mono ?_
        rintro e w6 ⟨rfl, b6⟩
        have B6 := Lib.hid (below_step B5.out b6)
        clear b6
        go_wp2_with fail
        go_ret
        exact ⟨rfl, B6.out⟩
    · have hb : lstB L P = 0 := by unfold lstB; rw [he, if_neg h0]
      have h0' : ¬ (e : Int) = 0 := by omega
      have HC := Lib.hid (least_v A c L P 0 0 e (by unfold lstP; rw [he, if_neg h0]) (by rw [hb]; rfl) (by rw [he]) L.length rfl)
      clear he hb
      go_enter Try.func4, Try.ntmps4
      go_wp2_with fail
      refine (great_any A c L _ HR.out).mono ?_
      rintro e' w1 ⟨rfl, b1⟩
      rw [HG.out]
      have B1 := Lib.hid b1
      clear b1
      go_wp2_with fail
      refine (HC.out _ (HT.out.below B1.out)).mono ?_
      rintro e' w2 ⟨rfl, b2⟩
      have bz := below_one w2 (Obj.cells #[.int .i64 0, .int .i64 0] 26)
      have u0 : (w2.alloc (Obj.cells #[.int .i64 0, .int .i64 0] 26)).cell? ⟨w2.heap.size, 0, none⟩ = some (.int .i64 0) := by simp
      have u1 : (w2.alloc (Obj.cells #[.int .i64 0, .int .i64 0] 26)).cell? ⟨w2.heap.size, 1, none⟩ = some (.int .i64 0) := by simp
      have B2 := Lib.hid (below_step (below_step B1.out b2) bz)
      have HT2 := Lib.hid (HT.out.below B2.out)
      clear b2 bz
      go_wp2_with fail
      refine (knows11_any _).mono ?_
      rintro e w3 ⟨rfl, b3⟩
      have B3 := Lib.hid (below_step B2.out b3)
      clear b3
      go_wp2_with fail
      go_ret
      exact ⟨rfl, B3.out⟩

set_option maxRecDepth 100000 in
theorem lifted (os : Os) (started : os.Started) (H : Type) (enc : TypeId × Value → H) :
    ReturnsInHanded {} Try.checked os 4 .any (Rows.faceEnoughSpec.pre6 enc Try.prog Try.f4 Rows.faceEnoughRow.domain false) (Rows.faceEnoughSpec.post enc Try.prog Try.f4 false true false false) := by
  refine returnsInHanded_of_change (C := Try.checked) own started (by kernel_rfl) Try.func4
    (ChangeSpec.witness6 (enc := enc) (C := Try.checked) false ⟨#[], #[.slice none 0 0, .int .i64 0, .int .u8 0], []⟩ 8 (by kernel_rfl) (by kernel_rfl) (by kernel_rfl) (by kernel_rfl)) ?_
  intro W base args ds gs before hval0 hW hcnd _
  have hval : ∀ (j : Nat) t v, Try.f4.params[j]? = some t → args[j]? = some v → Value.okWide Try.prog W .any base t v := hval0
  have hW' := hW
  obtain ⟨p, q, hA0, hV, rfl, hfz, hnd⟩ := hW
  have hA : DataW.TrodAll enc Try.prog W 0 (fun _ => true) true Try.f4.params.toList args.toList ds p := hA0
  rw [Try.params4] at hA hval
  obtain ⟨v0, v1, v2, d0, d1, d2, p0, p1, p2, rfl, rfl, rfl, h0, h1, h2⟩ := trodAll_three hA
  obtain ⟨rfl, rfl⟩ := trodVars_none hV
  obtain ⟨A0, c0, l0, rfl, hr0⟩ := Mm.open_list (α := Tk.Tsk) Try.underlying22 Tk.opTasks (hval 0 22 v0 rfl rfl) h0
  obtain ⟨n1, rfl, f1⟩ := Mm.open_num' Try.underlying3 (hval 1 3 v1 rfl rfl) h1
  obtain ⟨n2, rfl, f2⟩ := Mm.open_u8' Try.underlying5 (hval 2 5 v2 rfl rfl) h2
  clear hA0 hval0
  refine (walk A0 c0 l0 n1 n2 W hr0 f1 f2).mono fun e W' ⟨he, bel⟩ => ?_
  subst he
  have hlt0 : ∀ x ∈ p0, x.block < W.heap.size := fun x hx => hW'.lt x (by simp [hx])
  have hlt1 : ∀ x ∈ p1, x.block < W.heap.size := fun x hx => hW'.lt x (by simp [hx])
  have hlt2 : ∀ x ∈ p2, x.block < W.heap.size := fun x hx => hW'.lt x (by simp [hx])
  exact ⟨_, rfl, _, _, _, [], _, [], hW', trodAll_mk1 (shut_bool Try.underlying4 _), trodAll_mk3 (Below.trod laidOut (by kernel_rfl) (of_decide_eq_true (by kernel_rfl)) h0 bel hlt0) (Below.trod laidOut (by kernel_rfl) (of_decide_eq_true (by kernel_rfl)) h1 bel hlt1) (Below.trod laidOut (by kernel_rfl) (of_decide_eq_true (by kernel_rfl)) h2 bel hlt2), rfl, bel.frame _, fun h => by cases h⟩

/-- The statement. -/
theorem proved : Rows.FaceEnoughSaid :=
  OpenClaim.holds_of_wide 4 Try.f4 rfl rfl rfl rfl rfl rfl rfl ⟨rfl, rfl, rfl, rfl, rfl⟩ rfl rfl rfl rfl rfl (by kernel_rfl) Try.func4 (by kernel_rfl)
    (of_decide_eq_true (by kernel_rfl)) (by unfold Func.isWrapper; first | (rw [if_pos (by decide +kernel)]; kernel_rfl) | (rw [if_neg (by decide +kernel)]; exact ⟨rfl, rfl⟩))
    (fun os started H enc _ => lifted os started H enc)
#print axioms proved

end Go.Proofs.Ythfgdkhfblekoaa.faceEnough
