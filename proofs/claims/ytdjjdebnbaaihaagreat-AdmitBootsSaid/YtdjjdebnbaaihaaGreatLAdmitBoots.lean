/-
  For any partition the statement AdmitBoots of layer 20 returns true (how a partition begins is what the document says, or the error is told), and its argument reads as before. No condition.
-/
import Derived.Test.YtdjjdebnbaaihaaGreatGlaw05
import Derived.Test.YtdjjdebnbaaihaaGreatGlaw20
import Derived.Test.YtdjjdebnbaaihaaGreatGlaw20b
import Derived.Test.YtdjjdebnbaaihaaGreatGlaw17
namespace Go.Proofs.YtdjjdebnbaaihaaGreat.admitBoots
open Go.ChangeShapes Go.WideShapes Go.ChangeAt Go.RowKit
open Mm Tk Vd Pm

theorem great_v (A : Option Addr) (c : Nat) (L : List Tsk) (v : Bool) (hv : greatB L = v) (n : Nat) (hn : L.length = n) (w : World) (hr : Rd w A c L) :
    Calls Tryz.prog 6 #[.slice A n c] w fun e w' => e = .returned (.bool v) ∧ Below w.heap.size w w' := by
  subst hv; subst hn
  exact great_any A c L w hr
theorem bootS_no {L : List Tsk} {P B : Int} {v : Nat} (h : bootE L P B = v) (h0 : v ≠ 0) : bootS L P B = noSt := by unfold bootS; rw [h, if_neg h0]
theorem no_sr (w : World) : SR w noPl noSt := ⟨kz0, ⟨rd_nil (fun _ => rfl) (by unfold maxLen; exact Nat.zero_le _), rd_nil (fun _ => rfl) (by unfold maxLen; exact Nat.zero_le _), rd_nil (fun _ => rfl) (by unfold maxLen; exact Nat.zero_le _), rd_nil (fun _ => rfl) (by unfold maxLen; exact Nat.zero_le _), rd_nil (fun _ => rfl) (by unfold maxLen; exact Nat.zero_le _)⟩⟩
theorem buildNo (w : World) : (Instr.build 41 #[]).run Tryz.prog w = .ok (.agg #[.slice none 0 0, .slice none 0 0, .slice none 0 0, .slice none 0 0, .slice none 0 0]) w := by kernel_rfl
attribute [local go_sem ↓] buildNo

set_option maxRecDepth 20000 in
set_option maxHeartbeats 3200000 in
theorem walk (P B : Int) (A : Option Addr) (c : Nat) (L : List Tsk) (w : World) (_ : Fit P) (_ : Fit B) (hr : Rd w A c L) :
    Calls Tryz.prog 3 #[.agg #[.int .i64 P, .int .i64 B, .slice A L.length c]] w fun e w' => e = .returned (.bool true) ∧ Below w.heap.size w w' := by
  obtain ⟨t1, t2, t3⟩ := pt_new w P B A L.length c
  have b0 := below_one w (Obj.cells #[.int .i64 P, .int .i64 B, .slice A L.length c] 26)
  replace hr := hr.below b0
  have HR := Lib.hid hr
  have B0 := Lib.hid b0
  clear hr b0
  cases hg : greatB L with
  | true =>
    have HG := Lib.hid (great_v A c L true hg L.length rfl)
    clear hg
    go_enter Tryz.func3, Tryz.ntmps3
    go_wp2_with fail
    refine (HG.out _ HR.out).mono ?_
    rintro e w1 ⟨rfl, b1⟩
    replace t1 := cell_below b1 t1
    replace t2 := cell_below b1 t2
    replace t3 := cell_below b1 t3
    have B1 := Lib.hid (below_step B0.out b1)
    replace HR := Lib.hid (HR.out.below b1)
    clear b1
    go_wp2_with fail
    refine (knows20_any _).mono ?_
    rintro e w2 ⟨rfl, b2⟩
    have B2 := Lib.hid (below_step B1.out b2)
    clear b2
    go_wp2_with fail
    go_ret
    exact ⟨rfl, B2.out⟩
  | false =>
    obtain ⟨hL, hin⟩ := great_no hg
    have HG := Lib.hid (great_v A c L false hg L.length rfl)
    have HTT : Hid (∀ W, Rd W A c L → TL W A c L) := fun W h => ⟨by omega, fun j hj => by have := hin j hj; omega, h⟩
    clear hg
    cases hf : decide (300 < endZ L P B) with
    | true =>
      have HF := Lib.hid (far_any P B A c L true hf L.length rfl)
      clear hf
      go_enter Tryz.func3, Tryz.ntmps3
      go_wp2_with fail
      refine (HG.out _ HR.out).mono ?_
      rintro e w1 ⟨rfl, b1⟩
      replace t1 := cell_below b1 t1
      replace t2 := cell_below b1 t2
      replace t3 := cell_below b1 t3
      have B1 := Lib.hid (below_step B0.out b1)
      replace HR := Lib.hid (HR.out.below b1)
      clear b1
      go_wp2_with fail
      refine (HF.out _ (HTT.out _ HR.out)).mono ?_
      rintro e w2 ⟨rfl, b2⟩
      replace t1 := cell_below b2 t1
      replace t2 := cell_below b2 t2
      replace t3 := cell_below b2 t3
      have B2 := Lib.hid (below_step B1.out b2)
      replace HR := Lib.hid (HR.out.below b2)
      clear b2
      go_wp2_with fail
      refine (knows20_any _).mono ?_
      rintro e w3 ⟨rfl, b3⟩
      have B3 := Lib.hid (below_step B2.out b3)
      clear b3
      go_wp2_with fail
      go_ret
      exact ⟨rfl, B3.out⟩
    | false =>
      have HF := Lib.hid (far_any P B A c L false hf L.length rfl)
      clear hf
      obtain ⟨v, hv⟩ : ∃ v, bootE L P B = v := ⟨_, rfl⟩
      obtain ⟨r, hr⟩ : ∃ r, bootS L P B = r := ⟨_, rfl⟩
      have HBO := Lib.hid (boot_s A c L L.length rfl P B r v hr hv (by omega) (fun j hj => by have := hin j hj; omega))
      have HBR := Lib.hid (refBoot_v A c L P B v hv L.length rfl)
      have HNE := Lib.hid (new_s A c L L.length rfl)
      by_cases h0 : v = 0
      · have ha : allB L = true := boot_ok (hv.trans h0)
        have e1 : r = newS L := by rw [← hr]; unfold bootS; rw [hv, if_pos h0]
        subst e1 h0
        have HNN := Lib.hid (HNE.out (newS L) 0 (by rw [ha]; rfl) (by rw [ha]; rfl) (by omega) (fun j hj => by have := hin j hj; omega))
        clear hr hv HNE hin hL ha
        go_enter Tryz.func3, Tryz.ntmps3
        go_wp2_with fail
        refine (HG.out _ HR.out).mono ?_
        rintro e w1 ⟨rfl, b1⟩
        replace t1 := cell_below b1 t1
        replace t2 := cell_below b1 t2
        replace t3 := cell_below b1 t3
        have B1 := Lib.hid (below_step B0.out b1)
        replace HR := Lib.hid (HR.out.below b1)
        clear b1
        go_wp2_with fail
        refine (HF.out _ (HTT.out _ HR.out)).mono ?_
        rintro e w2 ⟨rfl, b2⟩
        replace t1 := cell_below b2 t1
        replace t2 := cell_below b2 t2
        replace t3 := cell_below b2 t3
        have B2 := Lib.hid (below_step B1.out b2)
        replace HR := Lib.hid (HR.out.below b2)
        clear b2
        go_wp2_with fail
        refine (HBO.out _ HR.out).mono ?_
        rintro e w3 ⟨p3, rfl, h3, b3⟩
        replace t1 := (cell_below b3) t1
        replace t2 := (cell_below b3) t2
        replace t3 := (cell_below b3) t3
        replace HR := Lib.hid (HR.out.below b3)
        have HV := Lib.hid (Vs.made (below_step B2.out b3) h3)
        have bn := below_one w3 (.cells #[.slice p3.A (newS L).tasks.length p3.a, .slice p3.B (newS L).leaves.length p3.b, .slice p3.C (newS L).lasts.length p3.c, .slice p3.D (newS L).jobs.length p3.d, .slice p3.E (newS L).log.length p3.e] 35)
        replace t1 := (cell_below bn) t1
        replace t2 := (cell_below bn) t2
        replace t3 := (cell_below bn) t3
        replace HR := Lib.hid (HR.out.below bn)
        clear h3 b3 bn
        generalize hS : newS L = s at *
        clear hS
        have y0 := HV.out.y.c.c0
        have y1 := HV.out.y.c.c1
        have y2 := HV.out.y.c.c2
        have y3 := HV.out.y.c.c3
        have y4 := HV.out.y.c.c4
        go_wp2_with fail
        generalize w3.alloc (.cells #[.slice p3.A s.tasks.length p3.a, .slice p3.B s.leaves.length p3.b, .slice p3.C s.lasts.length p3.c, .slice p3.D s.jobs.length p3.d, .slice p3.E s.log.length p3.e] 35) = w4 at *
        generalize w3.heap.size = V at *
        refine (HBR.out _ (HTT.out _ HR.out)).mono ?_
        rintro e w5 ⟨rfl, b5⟩
        clear y0 y1 y2 y3 y4
        replace HV := Lib.hid (HV.out.below b5)
        replace HR := Lib.hid (HR.out.below b5)
        replace t1 := (cell_below b5) t1
        replace t2 := (cell_below b5) t2
        replace t3 := (cell_below b5) t3
        clear b5
        go_wp2_with fail
        refine (HNN.out _ HR.out).mono ?_
        rintro e w6 ⟨p6, rfl, h6, b6⟩
        replace HV := Lib.hid (HV.out.below b6)
        have HW := Lib.hid (Vs.made HV.out.b h6)
        have bn := below_one w6 (.cells #[.slice p6.A s.tasks.length p6.a, .slice p6.B s.leaves.length p6.b, .slice p6.C s.lasts.length p6.c, .slice p6.D s.jobs.length p6.d, .slice p6.E s.log.length p6.e] 35)
        replace HV := Lib.hid (HV.out.below bn)
        clear h6 b6 bn HR t1 t2 t3
        go_upto_region 6 with fail
        generalize w6.alloc (.cells #[.slice p6.A s.tasks.length p6.a, .slice p6.B s.leaves.length p6.b, .slice p6.C s.lasts.length p6.c, .slice p6.D s.jobs.length p6.d, .slice p6.E s.log.length p6.e] 35) = w7 at *
        generalize w6.heap.size = W at *
        have y0 := HV.out.y.c.c0
        have y1 := HV.out.y.c.c1
        have y2 := HV.out.y.c.c2
        have y3 := HV.out.y.c.c3
        have y4 := HV.out.y.c.c4
        have x0 := HW.out.y.c.c0
        have x1 := HW.out.y.c.c1
        have x2 := HW.out.y.c.c2
        have x3 := HW.out.y.c.c3
        have x4 := HW.out.y.c.c4
        have hs := HV.out.sr
        have hw := HW.out.sr
        have B7 := Lib.hid HV.out.b
        clear HV HW
        have HS := Lib.hid hs
        have HW := Lib.hid hw
        clear hs hw
        replace y0 := cell_bw y0
        replace y1 := cell_bw y1
        replace y2 := cell_bw y2
        replace y3 := cell_bw y3
        replace y4 := cell_bw y4
        replace x0 := cell_bw x0
        replace x1 := cell_bw x1
        replace x2 := cell_bw x2
        replace x3 := cell_bw x3
        replace x4 := cell_bw x4
        refine wp_region_bw (by kernel_rfl) (by kernel_rfl) ?_
        repeat
          (with_reducible refine wpQuiet_step (fun K hK => ?_)
           go_simp
           first
             | (with_reducible refine hK _ ?_
                clear hK K)
             | (rw [if_neg]
                rotate_left
                focus (intro h; cases h; done)
                with_reducible refine hK _ ?_
                clear hK K)
             | (apply Exists.intro
                refine ⟨fun _ => ?_, hK _ ?_⟩
                (first | (go_at_call 12; first | (with_reducible exact Calls.bw (as_s p3 s _)) | (with_reducible exact Calls.bw (as_s p6 s _))) | (go_at_call 11; exact Calls.bw (same_s p3 p6 s _ (HS.out.bw _) (HW.out.bw _))) | (go_at_call 8; exact Calls.bw (knows20_any _)))
                clear hK K))
        with_reducible refine wpQuiet_nil ?_
        intro wb hw'
        obtain ⟨⟨wb', lb⟩, hw''⟩ := hw'
        subst hw''
        have B8 := Lib.hid (below_step B7.out lb)
        clear lb
        go_wp2_with fail
        go_ret
        exact ⟨rfl, B8.out⟩
      · have e1 : r = noSt := by rw [← hr]; exact bootS_no hv h0
        subst e1
        have i1 : ¬ (v : Int) = 0 := by omega
        have i2 : ((v : Int) == 0) = false := beq_eq_false_iff_ne.2 i1
        clear h0 hr hv HNE hin hL
        go_enter Tryz.func3, Tryz.ntmps3
        go_wp2_with fail
        refine (HG.out _ HR.out).mono ?_
        rintro e w1 ⟨rfl, b1⟩
        replace t1 := cell_below b1 t1
        replace t2 := cell_below b1 t2
        replace t3 := cell_below b1 t3
        have B1 := Lib.hid (below_step B0.out b1)
        replace HR := Lib.hid (HR.out.below b1)
        clear b1
        go_wp2_with fail
        refine (HF.out _ (HTT.out _ HR.out)).mono ?_
        rintro e w2 ⟨rfl, b2⟩
        replace t1 := cell_below b2 t1
        replace t2 := cell_below b2 t2
        replace t3 := cell_below b2 t3
        have B2 := Lib.hid (below_step B1.out b2)
        replace HR := Lib.hid (HR.out.below b2)
        clear b2
        go_wp2_with fail
        refine (HBO.out _ HR.out).mono ?_
        rintro e w3 ⟨p3, rfl, h3, b3⟩
        replace t1 := (cell_below b3) t1
        replace t2 := (cell_below b3) t2
        replace t3 := (cell_below b3) t3
        replace HR := Lib.hid (HR.out.below b3)
        have HV := Lib.hid (Vs.made (below_step B2.out b3) h3)
        have bn := below_one w3 (.cells #[.slice p3.A noSt.tasks.length p3.a, .slice p3.B noSt.leaves.length p3.b, .slice p3.C noSt.lasts.length p3.c, .slice p3.D noSt.jobs.length p3.d, .slice p3.E noSt.log.length p3.e] 35)
        replace t1 := (cell_below bn) t1
        replace t2 := (cell_below bn) t2
        replace t3 := (cell_below bn) t3
        replace HR := Lib.hid (HR.out.below bn)
        clear h3 b3 bn
        have y0 := HV.out.y.c.c0
        have y1 := HV.out.y.c.c1
        have y2 := HV.out.y.c.c2
        have y3 := HV.out.y.c.c3
        have y4 := HV.out.y.c.c4
        go_wp2_with fail
        generalize w3.alloc (.cells #[.slice p3.A noSt.tasks.length p3.a, .slice p3.B noSt.leaves.length p3.b, .slice p3.C noSt.lasts.length p3.c, .slice p3.D noSt.jobs.length p3.d, .slice p3.E noSt.log.length p3.e] 35) = w4 at *
        generalize w3.heap.size = V at *
        refine (HBR.out _ (HTT.out _ HR.out)).mono ?_
        rintro e w5 ⟨rfl, b5⟩
        clear y0 y1 y2 y3 y4
        replace HV := Lib.hid (HV.out.below b5)
        clear b5 t1 t2 t3 HR
        have y0 := HV.out.y.c.c0
        have y1 := HV.out.y.c.c1
        have y2 := HV.out.y.c.c2
        have y3 := HV.out.y.c.c3
        have y4 := HV.out.y.c.c4
        go_wp2_with fail
        refine (as_s p3 noSt _).mono ?_
        rintro e w6 ⟨rfl, b6⟩
        clear y0 y1 y2 y3 y4
        replace HV := Lib.hid (HV.out.below b6)
        clear b6
        go_wp2_with fail
        refine (same_s p3 noPl noSt _ HV.out.sr (no_sr _)).mono ?_
        rintro e w7 ⟨rfl, b7⟩
        replace HV := Lib.hid (HV.out.below b7)
        clear b7
        go_wp2_with fail
        have B7 := Lib.hid HV.out.b
        refine (knows20_any _).mono ?_
        rintro e w8 ⟨rfl, b8⟩
        have B8 := Lib.hid (below_step B7.out b8)
        clear b8
        go_wp2_with fail
        go_ret
        exact ⟨rfl, B8.out⟩

set_option maxRecDepth 100000 in
theorem lifted (os : Os) (started : os.Started) (H : Type) (enc : TypeId × Value → H) :
    ReturnsInHanded {} Tryz.checked os 3 .any (Rows.admitBootsSpec.pre6 enc Tryz.prog Tryz.f3 Rows.admitBootsRow.domain false) (Rows.admitBootsSpec.post enc Tryz.prog Tryz.f3 false true false false) := by
  refine returnsInHanded_of_change (C := Tryz.checked) own started (by kernel_rfl) Tryz.func3
    (ChangeSpec.witness6 (enc := enc) (C := Tryz.checked) false ⟨#[], #[.agg #[.int .i64 0, .int .i64 0, .slice none 0 0]], []⟩ 8 (by kernel_rfl) (by kernel_rfl) (by kernel_rfl) (by kernel_rfl)) ?_
  intro W base args ds gs before hval0 hW hcnd _
  have hval : ∀ (j : Nat) t v, Tryz.f3.params[j]? = some t → args[j]? = some v → Value.okWide Tryz.prog W .any base t v := hval0
  have hW' := hW
  obtain ⟨p, q, hA0, hV, rfl, hfz, hnd⟩ := hW
  have hA : DataW.TrodAll enc Tryz.prog W 0 (fun _ => true) true Tryz.f3.params.toList args.toList ds p := hA0
  rw [Tryz.params3] at hA hval
  obtain ⟨v0, d0, rfl, rfl, h0⟩ := trodAll_one hA
  obtain ⟨rfl, rfl⟩ := trodVars_none hV
  obtain ⟨P0, B0, A0, c0, l0, rfl, fp0, fb0, hr0⟩ := Pm.open_part (hval 0 26 v0 rfl rfl) h0
  clear hA0 hval0
  refine (walk P0 B0 A0 c0 l0 W fp0 fb0 hr0).mono fun e W' ⟨he, bel⟩ => ?_
  subst he
  have hlt0 : ∀ x ∈ p, x.block < W.heap.size := fun x hx => hW'.lt x (by simpa using hx)
  exact ⟨_, rfl, _, _, _, [], _, [], hW', trodAll_mk1 (shut_bool Tryz.underlying4 _), trodAll_mk1 (Below.trod laidOut (by kernel_rfl) (of_decide_eq_true (by kernel_rfl)) h0 bel hlt0), rfl, bel.frame _, fun h => by cases h⟩

/-- The statement. -/
theorem proved : Rows.AdmitBootsSaid :=
  OpenClaim.holds_of_wide 3 Tryz.f3 rfl rfl rfl rfl rfl rfl rfl ⟨rfl, rfl, rfl, rfl, rfl⟩ rfl rfl rfl rfl rfl (by kernel_rfl) Tryz.func3 (by kernel_rfl)
    (of_decide_eq_true (by kernel_rfl)) (by unfold Func.isWrapper; first | (rw [if_pos (by decide +kernel)]; kernel_rfl) | (rw [if_neg (by decide +kernel)]; exact ⟨rfl, rfl⟩))
    (fun os started H enc _ => lifted os started H enc)
#print axioms proved

end Go.Proofs.YtdjjdebnbaaihaaGreat.admitBoots
