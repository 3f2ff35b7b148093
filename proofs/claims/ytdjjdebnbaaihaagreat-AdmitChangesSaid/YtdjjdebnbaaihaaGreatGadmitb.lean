/-
  Merged texts: AdmitBoot, AdmitConds, AdmitLast, AdmitAdd, AdmitCalls, AdmitChange.
-/
import Derived.Test.YtdjjdebnbaaihaaGreatGadmit
import Derived.Test.YtdjjdebnbaaihaaGreatGlaw20
import Derived.Test.YtdjjdebnbaaihaaGreatGpart
import Derived.Deep.DeepCutAuto
import Derived.Test.YtdjjdebnbaaihaaGreatGtask
import Derived.Test.YtdjjdebnbaaihaaGreatGsupply
import Derived.Test.YtdjjdebnbaaihaaGreatGjob
/-
  Layer 20 (admit): Boot.
-/
namespace Go.Proofs.YtdjjdebnbaaihaaGreat
open Go.RowKit Mm Tk Vd
namespace Pm
open Ad

/-- a partition in block Y -/
def Pt (Y : Nat) (P B : Int) (A : Option Addr) (n c : Nat) (w : World) : Prop := w.cell? ⟨Y, 0, none⟩ = some (.int .i64 P) ∧ w.cell? ⟨Y, 1, none⟩ = some (.int .i64 B) ∧ w.cell? ⟨Y, 2, none⟩ = some (.slice A n c)
theorem Pt.below {Y : Nat} {P B : Int} {A : Option Addr} {n c : Nat} {w w' : World} (h : Pt Y P B A n c w) (b : Below w.heap.size w w') : Pt Y P B A n c w' := ⟨cell_below b h.1, cell_below b h.2.1, cell_below b h.2.2⟩
theorem b1Enters : ∀ args w, (callFunc 24 args).run Tryz.prog w = .ok (.enter 24 args) w := enters_of Tryz.func24 (by kernel_rfl) rfl
theorem b2Enters : ∀ args w, (callFunc 27 args).run Tryz.prog w = .ok (.enter 27 args) w := enters_of Tryz.func27 (by kernel_rfl) rfl
theorem b1_v {Y : Nat} {P B : Int} {A : Option Addr} {n c : Nat} {L : List Tsk} (v : Bool) (hv : (Sp.rightB P B && allB L) = v) (hn : L.length = n) (w : World) (h : Pt Y P B A n c w) (H : TL w A c L) : ∀ W, Below w.heap.size w W →
    Calls Tryz.prog 24 #[.pointer (some ⟨Y, 0, none⟩)] W fun e w' => e = .returned (.bool v) ∧ Below W.heap.size W w' := fun W b => by
  obtain ⟨c1, c2, c3⟩ := h.below b
  have HT := Lib.hid (H.below b)
  clear h b H
  cases h1 : Sp.rightB P B with
  | false =>
    rw [h1] at hv
    have hv : false = v := hv
    subst hv
    clear hn
    go_enter Tryz.func24, Tryz.ntmps24
    go_wp2_with fail
    refine (Sp.right_v P B _ h1 _).mono ?_
    rintro e w1 ⟨rfl, b1⟩
    have B1 := Lib.hid b1
    clear b1 c1 c2 c3
    go_wp2_with fail
    go_ret
    exact ⟨rfl, B1.out⟩
  | true =>
    rw [h1] at hv
    have hv : allB L = v := hv
    have HA := Lib.hid (fun W (HT : TL W A c L) => all_any A c L W HT.1 HT.2.1 HT.2.2)
    rw [hn, hv] at HA
    clear hv hn
    go_enter Tryz.func24, Tryz.ntmps24
    go_wp2_with fail
    refine (Sp.right_v P B _ h1 _).mono ?_
    rintro e w1 ⟨rfl, b1⟩
    have B1 := Lib.hid b1
    replace c3 := cell_below b1 c3
    replace HT := Lib.hid (HT.out.below b1)
    clear b1 c1 c2
    go_wp2_with fail
    refine (HA.out _ HT.out).mono ?_
    rintro e w2 ⟨rfl, b2⟩
    have B2 := Lib.hid (below_step B1.out b2)
    clear b2 c3 HA
    go_wp2_with fail
    go_ret
    exact ⟨rfl, B2.out⟩
theorem b2_ok {Y : Nat} {P B : Int} {A : Option Addr} {n c : Nat} {L : List Tsk} (v : Nat) (hv : fitE L P B = v) (hn : L.length = n) (w : World) (h : Pt Y P B A n c w) (H : TL w A c L) : CndOk ⟨27, #[.pointer (some ⟨Y, 0, none⟩)], v⟩ w :=
  ⟨b2Enters, fun W b => by
    obtain ⟨c1, c2, c3⟩ := h.below b
    have HF := Lib.hid (fit_s A c L n hn P B v hv W (H.below b))
    show Calls Tryz.prog 27 #[.pointer (some ⟨Y, 0, none⟩)] W _
    clear h b H hv hn
    go_enter Tryz.func27, Tryz.ntmps27
    go_wp2_with fail
    refine HF.out.mono ?_
    rintro e w1 ⟨rfl, b1⟩
    have B1 := Lib.hid b1
    clear b1 c1 c2 c3 HF
    go_wp2_with fail
    go_ret
    exact ⟨rfl, B1.out⟩⟩

/-- the two conditions, and the first error of them -/
theorem boot_first (L : List Tsk) (P B : Int) (a c : Nat) (ha : (if (Sp.rightB P B && allB L) then 0 else 1) = a) (hc : fitE L P B = c) (g1 g2 : Nat) (l1 l2 : Array Value) : firstE [⟨g1, l1, a⟩, ⟨g2, l2, c⟩] = bootE L P B := by
  subst ha hc
  cases h1 : Sp.rightB P B with
  | false => rw [bootE_face h1]; rfl
  | true =>
    cases h2 : allB L with
    | false => rw [bootE_tasks h2]; rfl
    | true =>
      rw [bootE_fit h1 h2]
      show (if fitE L P B = 0 then 0 else fitE L P B) = _
      split
      · omega
      · rfl

set_option maxRecDepth 20000 in
set_option maxHeartbeats 3200000 in
theorem boot_s (A : Option Addr) (c : Nat) (L : List Tsk) (n : Nat) (hn : L.length = n) (P B : Int) (r : St) (v : Nat) (hr : bootS L P B = r) (hv : bootE L P B = v) (h1 : n ≤ 100000) (h2 : ∀ j, j < L.length → (at_ L j).2.2.2.length ≤ 100000) (w : World) (H : Rd w A c L) :
    Calls Tryz.prog 9 #[.agg #[.int .i64 P, .int .i64 B, .slice A n c]] w (StOf (fun _ => False) r v w) := by
  have B0 := Lib.hid (below_two w (Obj.cells #[.int .i64 P, .int .i64 B, .slice A n c] 26) (Obj.cells #[.slice none 0 0, .slice none 0 0, .slice none 0 0, .slice none 0 0, .slice none 0 0] 35))
  have HP : Hid (Pt w.heap.size P B A n c ((w.alloc (Obj.cells #[.int .i64 P, .int .i64 B, .slice A n c] 26)).alloc (Obj.cells #[.slice none 0 0, .slice none 0 0, .slice none 0 0, .slice none 0 0, .slice none 0 0] 35))) := Pt.below (pt_new w P B A n c) (below_one _ _)
  have HZ0 : Hid (Res ((w.alloc (Obj.cells #[.int .i64 P, .int .i64 B, .slice A n c] 26)).alloc (Obj.cells #[.slice none 0 0, .slice none 0 0, .slice none 0 0, .slice none 0 0, .slice none 0 0] 35)) (w.heap.size + 1)) := ⟨cs_new _ noPl noSt _ _ (by simp), fun o => fr_new _ _ _ _ (by simp) o⟩
  have HT : Hid (TL ((w.alloc (Obj.cells #[.int .i64 P, .int .i64 B, .slice A n c] 26)).alloc (Obj.cells #[.slice none 0 0, .slice none 0 0, .slice none 0 0, .slice none 0 0, .slice none 0 0] 35)) A c L) := ⟨by omega, fun j hj => by have := h2 j hj; omega, H.below B0.out⟩
  obtain ⟨a1, ha⟩ : ∃ a, (if (Sp.rightB P B && allB L) then 0 else 1) = a := ⟨_, rfl⟩
  obtain ⟨a3, hc⟩ : ∃ a, fitE L P B = a := ⟨_, rfl⟩
  have HF := Lib.hid (fun g1 g2 l1 l2 => (boot_first L P B a1 a3 ha hc g1 g2 l1 l2).trans hv)
  have HNE := Lib.hid (new_s A c L n hn)
  have H1 := Lib.hid h1
  have H2 := Lib.hid h2
  have HA1 := Lib.hid ha
  have HA3 := Lib.hid hc
  have HN := Lib.hid hn
  clear H ha hc h1 h2 hn
  go_enter Tryz.func9, Tryz.ntmps9
  go_upto_region 1 with fail
  generalize (w.alloc (Obj.cells #[.int .i64 P, .int .i64 B, .slice A n c] 26)).alloc (Obj.cells #[.slice none 0 0, .slice none 0 0, .slice none 0 0, .slice none 0 0, .slice none 0 0] 35) = w0 at *
  obtain ⟨Y, hY⟩ : ∃ Y, w.heap.size = Y := ⟨_, rfl⟩
  obtain ⟨Z, hZ⟩ : ∃ Z, Y + 1 = Z := ⟨_, rfl⟩
  have HZ : Hid (w.heap.size ≤ Z) := by show _ ≤ _; omega
  rw [hY] at HP HZ0
  rw [hZ] at HZ0
  rw [hY, hZ]
  clear hZ hY
  go_cut [4] (fun s4 wx => s4 = .int .i64 v ∧ Below w0.heap.size w0 wx)
  case first =>
    have BR : Hid (Below w0.heap.size w0 w0) := Below.refl _ _
    go_wp2_with fail
    refine (unless_v 1 24 #[.pointer (some ⟨Y, 0, none⟩)] _).mono ?_
    rintro e w1 ⟨X1, Y1, rfl, c1, d1, b1⟩
    have B1 := Lib.hid (below_step BR.out b1)
    have C1 := Lib.hid (unless1_ok _ _ _ 1 a1 HA1.out b1Enters X1 Y1 w1 c1 d1 (b1_v _ rfl HN.out w1 (HP.out.below B1.out) (HT.out.below B1.out)))
    have C2 := Lib.hid (b2_ok a3 HA3.out HN.out w1 (HP.out.below B1.out) (HT.out.below B1.out))
    clear c1 d1 b1
    go_wp2_with fail
    refine (first_lit _ _ [⟨51, #[.pointer (some ⟨X1, 0, none⟩), .pointer (some ⟨Y1, 0, none⟩)], a1⟩, ⟨27, #[.pointer (some ⟨Y, 0, none⟩)], a3⟩] rfl 2 rfl (by decide) w1 (ok_cons C1.out (ok_cons C2.out (ok_nil _))) v (HF.out _ _ _ _)).mono ?_
    rintro e w5 ⟨rfl, b5⟩
    have B5 := Lib.hid (below_step B1.out b5)
    clear b5
    go_wp2_with fail
    go_meet
    exact ⟨rfl, B5.out⟩
  case rest =>
    obtain ⟨rfl, b6⟩ := hcut
    replace HP := Lib.hid (HP.out.below b6)
    replace HZ0 := Lib.hid (HZ0.out.below b6)
    replace HT := Lib.hid (HT.out.below b6)
    have BW := Lib.hid (below_step B0.out b6)
    clear b6 HF HA1 HA3
    by_cases h0 : v = 0
    · subst h0
      have hal : allB L = true := boot_ok hv
      have e1 : r = newS L := by rw [← hr]; unfold bootS; rw [hv, if_pos rfl]
      subst e1
      have HNN := Lib.hid (HNE.out (newS L) 0 (by rw [hal]; rfl) (by rw [hal]; rfl) H1.out H2.out)
      clear hr hv hal HNE
      obtain ⟨y0, y1, y2⟩ := HP.out
      go_wp2_with fail
      refine (HNN.out _ HT.out.2.2).mono ?_
      rintro e w7 ⟨p1, rfl, h3, b7⟩
      have HR := Lib.hid (HZ0.out.below b7)
      have HQ := Lib.hid (up_res (S := fun _ => False) (w := w) (fun b h => absurd h id) ⟨HZ.out, HZ0.out.lt⟩ h3.2)
      have HZR := Lib.hid h3.1
      have BF := Lib.hid (below_step BW.out b7)
      clear h3 b7 y0 y1 y2 HZ0
      have z0 := HR.out.z.c0
      have z1 := HR.out.z.c1
      have z2 := HR.out.z.c2
      have z3 := HR.out.z.c3
      have z4 := HR.out.z.c4
      unfold noPl noSt at z0 z1 z2 z3 z4
      simp only [List.length_nil] at z0 z1 z2 z3 z4
      have g0 := HR.out.f 0
      have g1 := HR.out.f 1
      have g2 := HR.out.f 2
      have g3 := HR.out.f 3
      have g4 := HR.out.f 4
      go_wp2_with fail
      change bodyPost _ _ _ _ _ (putS w7 Z p1 (newS L))
      obtain ⟨h1, h2⟩ := done_at (S := fun _ => False) (w := w) (v := 0) HR.out.z HQ.out HZR.out HZ.out BF.out
      generalize putS w7 Z p1 (newS L) = W at h1 h2 ⊢
      have k0 := h2.c0
      have k1 := h2.c1
      have k2 := h2.c2
      have k3 := h2.c3
      have k4 := h2.c4
      refine bodyPost_ret (v := .tuple #[(.agg #[.slice p1.A (newS L).tasks.length p1.a, .slice p1.B (newS L).leaves.length p1.b, .slice p1.C (newS L).lasts.length p1.c, .slice p1.D (newS L).jobs.length p1.d, .slice p1.E (newS L).log.length p1.e]), .int .i64 0]) (by simp [results, Tryz.results9, go_sem, k0, k1, k2, k3, k4]) rfl h1
    · have e1 : r = noSt := by rw [← hr]; unfold bootS; rw [hv, if_neg h0]
      subst e1
      have i1 : ¬ (v : Int) = 0 := by omega
      have i2 : ((v : Int) == 0) = false := beq_eq_false_iff_ne.2 i1
      clear hr hv HNE h0
      have HR := HZ0
      have HZR : Hid (Sz noSt) := ⟨Nat.zero_le _, fun j hj => by simp [noSt] at hj, Nat.zero_le _, Nat.zero_le _, Nat.zero_le _, Nat.zero_le _⟩
      have HQ : Hid (StS wc (fun b => b ≠ Z ∧ Upw (fun _ => False) w b) noPl noSt) := ⟨rd_nil (fun _ => rfl) (by unfold maxLen; exact Nat.zero_le _), rd_nil (fun _ => rfl) (by unfold maxLen; exact Nat.zero_le _), rd_nil (fun _ => rfl) (by unfold maxLen; exact Nat.zero_le _), rd_nil (fun _ => rfl) (by unfold maxLen; exact Nat.zero_le _), rd_nil (fun _ => rfl) (by unfold maxLen; exact Nat.zero_le _)⟩
      have BF := BW
      have z0 := HZ0.out.z.c0
      have z1 := HZ0.out.z.c1
      have z2 := HZ0.out.z.c2
      have z3 := HZ0.out.z.c3
      have z4 := HZ0.out.z.c4
      unfold noPl noSt at z0 z1 z2 z3 z4
      simp only [List.length_nil] at z0 z1 z2 z3 z4
      have g0 := HZ0.out.f 0
      have g1 := HZ0.out.f 1
      have g2 := HZ0.out.f 2
      have g3 := HZ0.out.f 3
      have g4 := HZ0.out.f 4
      go_wp2_with fail
      change bodyPost _ _ _ _ _ (putS wc Z noPl (noSt))
      obtain ⟨h1, h2⟩ := done_at (S := fun _ => False) (w := w) (v := v) HR.out.z HQ.out HZR.out HZ.out BF.out
      generalize putS wc Z noPl (noSt) = W at h1 h2 ⊢
      have k0 := h2.c0
      have k1 := h2.c1
      have k2 := h2.c2
      have k3 := h2.c3
      have k4 := h2.c4
      refine bodyPost_ret (v := .tuple #[(.agg #[.slice noPl.A noSt.tasks.length noPl.a, .slice noPl.B noSt.leaves.length noPl.b, .slice noPl.C noSt.lasts.length noPl.c, .slice noPl.D noSt.jobs.length noPl.d, .slice noPl.E noSt.log.length noPl.e]), .int .i64 v]) (by simp [results, Tryz.results9, go_sem, k0, k1, k2, k3, k4]) rfl h1

end Pm
end Go.Proofs.YtdjjdebnbaaihaaGreat

/-
  Layer 20 (admit): the conditions of Add.
-/
namespace Go.Proofs.YtdjjdebnbaaihaaGreat
open Go.RowKit Mm Tk Vd
namespace Pm
open Ad

theorem a1Enters : ∀ args w, (callFunc 37 args).run Tryz.prog w = .ok (.enter 37 args) w := enters_of Tryz.func37 (by kernel_rfl) rfl
theorem a2Enters : ∀ args w, (callFunc 40 args).run Tryz.prog w = .ok (.enter 40 args) w := enters_of Tryz.func40 (by kernel_rfl) rfl
theorem a3Enters : ∀ args w, (callFunc 41 args).run Tryz.prog w = .ok (.enter 41 args) w := enters_of Tryz.func41 (by kernel_rfl) rfl
theorem a4Enters : ∀ args w, (callFunc 43 args).run Tryz.prog w = .ok (.enter 43 args) w := enters_of Tryz.func43 (by kernel_rfl) rfl
set_option maxRecDepth 20000 in
set_option maxHeartbeats 1600000 in
theorem a1_v {Y F X : Nat} {p : Pl} {s : St} {P B : Int} {x : Tsk} {D : Option Addr} {d : Nat} (v : Bool) (hv : (rightS s && Sp.rightB P B && rightT x) = v) (hk : x.2.2.2.length ≤ 100000) (w : World) (h : CS w Y p s) (H : SR w p s) (hf : w.cell? ⟨F, 0, none⟩ = some (.int .i64 P) ∧ w.cell? ⟨F, 1, none⟩ = some (.int .i64 B)) (hb : Box w X x.1 x.2.1 x.2.2.1 D x.2.2.2.length d) (hx : Rd w D d x.2.2.2) : ∀ W, Below w.heap.size w W →
    Calls Tryz.prog 37 #[.pointer (some ⟨Y, 0, none⟩), .pointer (some ⟨F, 0, none⟩), .pointer (some ⟨X, 0, none⟩)] W fun e w' => e = .returned (.bool v) ∧ Below W.heap.size W w' := fun W b => by
  obtain ⟨c0, c1, c2, c3, c4⟩ := h.below b
  have f1 := cell_below b hf.1
  have f2 := cell_below b hf.2
  have HB := Lib.hid (hb.below b)
  have HR := Lib.hid (H.below b)
  have HX := Lib.hid (hx.below b)
  have HT := Lib.hid (fun W h => Tk.right_any x.1 x.2.1 x.2.2.1 D d x.2.2.2 W (by omega) h)
  clear h b H hf hb hx
  cases h1 : rightS s with
  | false =>
    rw [h1] at hv
    have hv : false = v := hv
    subst hv
    go_enter Tryz.func37, Tryz.ntmps37
    go_wp2_with fail
    refine (right_s p s _ h1 _ HR.out).mono ?_
    rintro e w1 ⟨rfl, b1⟩
    have B1 := Lib.hid b1
    obtain ⟨x0, x1, x2, x3⟩ := HB.out.below b1
    replace f1 := cell_below b1 f1
    replace f2 := cell_below b1 f2
    replace HX := Lib.hid (HX.out.below b1)
    replace HB := Lib.hid (HB.out.below b1)
    clear b1 c0 c1 c2 c3 c4
    go_wp2_with fail
    go_ret
    exact ⟨rfl, B1.out⟩
  | true =>
    cases h2 : Sp.rightB P B with
    | false =>
      rw [h1, h2] at hv
      have hv : false = v := hv
      subst hv
      go_enter Tryz.func37, Tryz.ntmps37
      go_wp2_with fail
      refine (right_s p s _ h1 _ HR.out).mono ?_
      rintro e w1 ⟨rfl, b1⟩
      have B1 := Lib.hid b1
      obtain ⟨x0, x1, x2, x3⟩ := HB.out.below b1
      replace f1 := cell_below b1 f1
      replace f2 := cell_below b1 f2
      replace HX := Lib.hid (HX.out.below b1)
      replace HB := Lib.hid (HB.out.below b1)
      clear b1 c0 c1 c2 c3 c4
      go_wp2_with fail
      refine (Sp.right_v P B _ h2 _).mono ?_
      rintro e w2 ⟨rfl, b2⟩
      have B2 := Lib.hid (below_step B1.out b2)
      replace x0 := cell_below b2 x0
      replace x1 := cell_below b2 x1
      replace x2 := cell_below b2 x2
      replace x3 := cell_below b2 x3
      replace HX := Lib.hid (HX.out.below b2)
      clear b2 f1 f2
      go_wp2_with fail
      go_ret
      exact ⟨rfl, B2.out⟩
    | true =>
      rw [h1, h2] at hv
      have hv : rightT x = v := hv
      subst hv
      go_enter Tryz.func37, Tryz.ntmps37
      go_wp2_with fail
      refine (right_s p s _ h1 _ HR.out).mono ?_
      rintro e w1 ⟨rfl, b1⟩
      have B1 := Lib.hid b1
      obtain ⟨x0, x1, x2, x3⟩ := HB.out.below b1
      replace f1 := cell_below b1 f1
      replace f2 := cell_below b1 f2
      replace HX := Lib.hid (HX.out.below b1)
      replace HB := Lib.hid (HB.out.below b1)
      clear b1 c0 c1 c2 c3 c4
      go_wp2_with fail
      refine (Sp.right_v P B _ h2 _).mono ?_
      rintro e w2 ⟨rfl, b2⟩
      have B2 := Lib.hid (below_step B1.out b2)
      replace x0 := cell_below b2 x0
      replace x1 := cell_below b2 x1
      replace x2 := cell_below b2 x2
      replace x3 := cell_below b2 x3
      replace HX := Lib.hid (HX.out.below b2)
      clear b2 f1 f2
      go_wp2_with fail
      refine (HT.out _ HX.out).mono ?_
      rintro e w3 ⟨rfl, b3⟩
      have B3 := Lib.hid (below_step B2.out b3)
      clear b3 x0 x1 x2 x3 HT
      go_wp2_with fail
      go_ret
      exact ⟨rfl, B3.out⟩
set_option maxRecDepth 20000 in
theorem a2_v {Y : Nat} {p : Pl} {s : St} (v : Bool) (hv : decide (s.tasks.length < 8) = v) (w : World) (h : CS w Y p s) : ∀ W, Below w.heap.size w W →
    Calls Tryz.prog 40 #[.pointer (some ⟨Y, 0, none⟩)] W fun e w' => e = .returned (.bool v) ∧ Below W.heap.size W w' := fun W b => by
  obtain ⟨c0, c1, c2, c3, c4⟩ := h.below b
  clear h b c1 c2 c3 c4
  by_cases h8 : s.tasks.length < 8
  · rw [decide_eq_true h8] at hv
    subst hv
    have i1 : decide ((s.tasks.length : Int) < 8) = true := decide_eq_true (by omega)
    clear h8
    go_enter Tryz.func40, Tryz.ntmps40
    go_wp2_with fail
    go_ret
    exact ⟨rfl, Below.refl _ _⟩
  · rw [decide_eq_false h8] at hv
    subst hv
    have i1 : decide ((s.tasks.length : Int) < 8) = false := decide_eq_false (by omega)
    clear h8
    go_enter Tryz.func40, Tryz.ntmps40
    go_wp2_with fail
    go_ret
    exact ⟨rfl, Below.refl _ _⟩
theorem first_none (l : List Jb) : (firstI l true = -1 ∧ (l.any fun j => begJ j) = false) ∨ (firstI l true ≠ -1 ∧ (l.any fun j => begJ j) = true) := by
  cases h : l.any fun j => begJ j with
  | true =>
    obtain ⟨y, hy, hb⟩ := List.any_eq_true.1 h
    rcases firstI_of l true with ⟨e, h1⟩ | ⟨i, e, _⟩
    · exact absurd hb (h1 y hy)
    · exact .inr ⟨by omega, rfl⟩
  | false =>
    rcases firstI_of l true with ⟨e, h1⟩ | ⟨i, e, h1, h2, _⟩
    · exact .inl ⟨e, rfl⟩
    · have := List.any_eq_false.1 h _ (at_mem h1)
      exact absurd (isFirst_iff.1 h2).1 this
theorem a3_v {Y : Nat} {p : Pl} {s : St} (v : Bool) (hv : (!(s.jobs.any fun j => begJ j)) = v) (w : World) (h : CS w Y p s) (H : SR w p s) : ∀ W, Below w.heap.size w W →
    Calls Tryz.prog 41 #[.pointer (some ⟨Y, 0, none⟩)] W fun e w' => e = .returned (.bool v) ∧ Below W.heap.size W w' := fun W b => by
  obtain ⟨c0, c1, c2, c3, c4⟩ := h.below b
  have HR := Lib.hid (H.below b)
  obtain ⟨z, hz⟩ : ∃ z, firstI s.jobs true = z := ⟨_, rfl⟩
  have HF := Lib.hid (first_v p.D p.d s.jobs true z hz)
  have hn := first_none s.jobs
  clear h b c0 c1 c2 c4 H
  rcases hn with ⟨h1, h2⟩ | ⟨h1, h2⟩
  · rw [hz] at h1
    subst h1
    rw [h2] at hv
    have hv : true = v := hv
    subst hv
    clear hz h2
    go_enter Tryz.func41, Tryz.ntmps41
    go_wp2_with fail
    refine (HF.out _ (by have := HR.out.1.j; omega) HR.out.2.j).mono ?_
    rintro e w1 ⟨rfl, b1⟩
    have B1 := Lib.hid b1
    clear b1 c3
    go_wp2_with fail
    go_ret
    exact ⟨rfl, B1.out⟩
  · rw [hz] at h1
    rw [h2] at hv
    have hv : false = v := hv
    subst hv
    have i1 : ¬ z = -1 := h1
    have i2 : (z == -1) = false := beq_eq_false_iff_ne.2 h1
    clear hz h2 h1
    go_enter Tryz.func41, Tryz.ntmps41
    go_wp2_with fail
    refine (HF.out _ (by have := HR.out.1.j; omega) HR.out.2.j).mono ?_
    rintro e w1 ⟨rfl, b1⟩
    have B1 := Lib.hid b1
    clear b1 c3
    go_wp2_with fail
    go_ret
    exact ⟨rfl, B1.out⟩

end Pm
end Go.Proofs.YtdjjdebnbaaihaaGreat

/-
  Layer 20 (admit): the last condition of Add: all tasks, and the new one, fit.
-/
namespace Go.Proofs.YtdjjdebnbaaihaaGreat
open Go.RowKit Mm Tk Vd
namespace Pm
open Ad

set_option maxRecDepth 20000 in
set_option maxHeartbeats 3200000 in
theorem a4_ok {Y F X : Nat} {p : Pl} {s : St} {P B : Int} {x : Tsk} {D : Option Addr} {d : Nat} (v : Nat) (hv : fitE (s.tasks ++ [x]) P B = v) (n : Nat) (hn : s.tasks.length = n) (hn1 : n ≤ 100000) (hk : x.2.2.2.length ≤ 100000) (fx : Fit x.1 ∧ Fit x.2.1 ∧ Fit x.2.2.1) (w : World) (h : Ld Y F X p.A n p.a P B x D d w) (H : SR w p s) (hx : Rd w D d x.2.2.2) :
    CndOk ⟨43, #[.pointer (some ⟨Y, 0, none⟩), .pointer (some ⟨X, 0, none⟩), .pointer (some ⟨F, 0, none⟩)], v⟩ w :=
  ⟨a4Enters, fun W b => by
    have YB := Lib.hid (h.below b)
    have HR := H.below b
    have HX := Lib.hid (hx.below b)
    have HN := Lib.hid hn
    have TS := HR.1.ts
    have HLM : Hid ((s.tasks ++ [x]).length = n + 1) := by show _ = _; rw [List.length_append, hn]; rfl
    have HTM : Hid (∀ W A c, Rd W A c (s.tasks ++ [x]) → TL W A c (s.tasks ++ [x])) := fun W A c h => ⟨by rw [HLM.out]; omega, fun j hj => by
      rw [HLM.out] at hj
      by_cases e : j < s.tasks.length
      · rw [at_left e]; have := TS j e; omega
      · have e2 : j = s.tasks.length := by omega
        subst e2
        rw [at_right (Nat.le_refl _), Nat.sub_self]
        show x.2.2.2.length ≤ _
        omega, h⟩
    show Calls Tryz.prog 43 #[.pointer (some ⟨Y, 0, none⟩), .pointer (some ⟨X, 0, none⟩), .pointer (some ⟨F, 0, none⟩)] W _
    have BD := Lib.hid ((Below.refl W.heap.size W).drew)
    have BA := Lib.hid ((Below.refl W.heap.size W).drew.alloc (Nat.le_refl _) (Obj.cells #[.int .i64 x.1, .int .i64 x.2.1, .int .i64 x.2.2.1, .slice D x.2.2.2.length d] 47))
    have BB := Lib.hid (below_step BA.out (below_one _ (Obj.cells #[.slice p.A n p.a, .slice (some ⟨W.heap.size, 0, none⟩) 1 1] 24)))
    have bs : (W.drew.alloc (Obj.cells #[.int .i64 x.1, .int .i64 x.2.1, .int .i64 x.2.2.1, .slice D x.2.2.2.length d] 47)).heap.size = W.heap.size + 1 := World.size_alloc _ _
    have HL1 : Hid (RdS ((W.drew.alloc (Obj.cells #[.int .i64 x.1, .int .i64 x.2.1, .int .i64 x.2.2.1, .slice D x.2.2.2.length d] 47)).alloc (Obj.cells #[.slice p.A n p.a, .slice (some ⟨W.heap.size, 0, none⟩) 1 1] 24)) (fun _ => True) p.A p.a s.tasks) := HR.2.t.below BB.out
    have HD : Mm.Rows (W.drew.alloc (Obj.cells #[.int .i64 x.1, .int .i64 x.2.1, .int .i64 x.2.2.1, .slice D x.2.2.2.length d] 47)) (fun _ => True) [.int .i64 x.1, .int .i64 x.2.1, .int .i64 x.2.2.1, .slice D x.2.2.2.length d] [x] := rows_task x rfl fx.1 fx.2.1 fx.2.2 (HX.out.below BA.out) rows_none
    have HR1 : Hid (RdS ((W.drew.alloc (Obj.cells #[.int .i64 x.1, .int .i64 x.2.1, .int .i64 x.2.2.1, .slice D x.2.2.2.length d] 47)).alloc (Obj.cells #[.slice p.A n p.a, .slice (some ⟨W.heap.size, 0, none⟩) 1 1] 24)) (fun _ => True) (some ⟨W.heap.size, 0, none⟩) 1 [x]) := (rd_lit W.drew [x] 1 rfl #[.int .i64 x.1, .int .i64 x.2.1, .int .i64 x.2.2.1, .slice D x.2.2.2.length d] 47 (by decide) HD).below (below_one _ _)
    have HC0 : Hid (((W.drew.alloc (Obj.cells #[.int .i64 x.1, .int .i64 x.2.1, .int .i64 x.2.2.1, .slice D x.2.2.2.length d] 47)).alloc (Obj.cells #[.slice p.A n p.a, .slice (some ⟨W.heap.size, 0, none⟩) 1 1] 24)).cell? ⟨W.heap.size + 1, 0, none⟩ = some (.slice p.A n p.a)) := by
      show _ = _
      rw [← bs, World.cell?_alloc_new]; rfl
    have HC1 : Hid (((W.drew.alloc (Obj.cells #[.int .i64 x.1, .int .i64 x.2.1, .int .i64 x.2.2.1, .slice D x.2.2.2.length d] 47)).alloc (Obj.cells #[.slice p.A n p.a, .slice (some ⟨W.heap.size, 0, none⟩) 1 1] 24)).cell? ⟨W.heap.size + 1, 1, none⟩ = some (.slice (some ⟨W.heap.size, 0, none⟩) 1 1)) := by
      show _ = _
      rw [← bs, World.cell?_alloc_new]; rfl
    clear h b H hx HR TS hn hk fx HD bs
    go_enter Tryz.func43, Tryz.ntmps43
    go_wp2_with fail
    go_region_held3 (fun w' => w'.cell? ⟨Y, 0, none⟩ = some (.slice p.A n p.a) ∧ w'.cell? ⟨F, 0, none⟩ = some (.int .i64 P) ∧ w'.cell? ⟨F, 1, none⟩ = some (.int .i64 B) ∧ w'.cell? ⟨X, 0, none⟩ = some (.int .i64 x.1) ∧ w'.cell? ⟨X, 1, none⟩ = some (.int .i64 x.2.1) ∧ w'.cell? ⟨X, 2, none⟩ = some (.int .i64 x.2.2.1) ∧ w'.cell? ⟨X, 3, none⟩ = some (.slice D x.2.2.2.length d))
      (first
        | (exact Ld.below YB.out B3.out)
        | (exact Ld.below YB.out B2.out)
        | (exact Ld.below YB.out BB.out)
        | (exact Ld.below YB.out BA.out)
        | (exact Ld.below YB.out BD.out)
        | (exact YB.out))
      (first
        | (go_at_call 44
           refine (concat_task (fun _ => True) (W.heap.size + 1) p.A (some ⟨W.heap.size, 0, none⟩) p.a 1 s.tasks [x] n 1 HN.out rfl (by omega) _ HC0.out HC1.out HL1.out HR1.out).mono ?_
           rintro e w2 ⟨A2, c2, rfl, k1, k2⟩
           have R2 := Lib.hid (OwS.rd k1)
           have B2 := Lib.hid (below_step BB.out k2)
           clear k1 k2)
        | (go_at_call 28
           refine (fit_s A2 c2 (s.tasks ++ [x]) (n + 1) HLM.out P B v hv _ (HTM.out _ _ _ R2.out)).mono ?_
           rintro e w3 ⟨rfl, b3⟩
           have B3 := Lib.hid (below_step B2.out b3)
           clear b3))
    all_goals
      go_wp2_with fail
      go_ret
      exact ⟨rfl, B3.out⟩⟩

end Pm
end Go.Proofs.YtdjjdebnbaaihaaGreat

/-
  Layer 20 (admit): Add.
-/
namespace Go.Proofs.YtdjjdebnbaaihaaGreat
open Go.RowKit Mm Tk Vd
namespace Pm
open Ad

/-- the four conditions, and the first error of them -/
theorem add_first (s : St) (P B : Int) (x : Tsk) (a d e f : Nat) (ha : (if (rightS s && Sp.rightB P B && rightT x) then 0 else 1) = a) (hd : (if decide (s.tasks.length < 8) then 0 else 3) = d) (he : (if !(s.jobs.any fun j => begJ j) then 0 else 9) = e) (hf : fitE (s.tasks ++ [x]) P B = f)
    (g1 g2 g3 g4 : Nat) (l1 l2 l3 l4 : Array Value) : firstE [⟨g1, l1, a⟩, ⟨g2, l2, d⟩, ⟨g3, l3, e⟩, ⟨g4, l4, f⟩] = admE s P B x := by
  subst ha hd he hf
  cases h1 : rightS s with
  | false => rw [admE_bad (fun h => by rw [h1] at h; cases h.1)]; rfl
  | true =>
    cases h2 : Sp.rightB P B with
    | false => rw [admE_bad (fun h => by rw [h2] at h; cases h.2.1)]; rfl
    | true =>
      cases h3 : rightT x with
      | false => rw [admE_bad (fun h => by rw [h3] at h; cases h.2.2)]; rfl
      | true =>
        by_cases h8 : s.tasks.length < 8
        · rw [decide_eq_true h8]
          cases hb : s.jobs.any fun j => begJ j with
          | true => rw [admE_began ⟨h1, h2, h3⟩ (by omega) hb]; rfl
          | false =>
            rw [admE_fit ⟨h1, h2, h3⟩ (by omega) hb]
            show (if fitE (s.tasks ++ [x]) P B = 0 then 0 else fitE (s.tasks ++ [x]) P B) = _
            split
            · omega
            · rfl
        · rw [decide_eq_false h8, admE_full ⟨h1, h2, h3⟩ (by omega)]; rfl

set_option maxRecDepth 20000 in
set_option maxHeartbeats 6400000 in
theorem adm_s (S : Nat → Prop) (p : Pl) (s r : St) (x : Tsk) (D : Option Addr) (k d : Nat) (hk : x.2.2.2.length = k) (hkb : k ≤ 100000) (fx : Fit x.1 ∧ Fit x.2.1 ∧ Fit x.2.2.1) (P B : Int) (v : Nat) (hr : admS s P B x = r) (hv : admE s P B x = v) (w : World) (hS : ∀ b, S b → b < w.heap.size) (hz : Sz s) (HST : StS w S p s) (hx : Rd w D d x.2.2.2) :
    Calls Tryz.prog 15 #[(.agg #[.slice p.A s.tasks.length p.a, .slice p.B s.leaves.length p.b, .slice p.C s.lasts.length p.c, .slice p.D s.jobs.length p.d, .slice p.E s.log.length p.e]), .agg #[.int .i64 P, .int .i64 B], .agg #[.int .i64 x.1, .int .i64 x.2.1, .int .i64 x.2.2.1, .slice D k d]] w (StOf S r v w) := by
  subst hk
  have B3 := below_three w (Obj.cells #[.slice p.A s.tasks.length p.a, .slice p.B s.leaves.length p.b, .slice p.C s.lasts.length p.c, .slice p.D s.jobs.length p.d, .slice p.E s.log.length p.e] 35) (Obj.cells #[.int .i64 P, .int .i64 B] 23) (Obj.cells #[.int .i64 x.1, .int .i64 x.2.1, .int .i64 x.2.2.1, .slice D x.2.2.2.length d] 47)
  have HY3 := ((cs_new w p s _ 35 rfl).below (below_one _ (Obj.cells #[.int .i64 P, .int .i64 B] 23))).below (below_one _ (Obj.cells #[.int .i64 x.1, .int .i64 x.2.1, .int .i64 x.2.2.1, .slice D x.2.2.2.length d] 47))
  have YB3 : Ld w.heap.size (w.heap.size + 1) (w.heap.size + 2) p.A s.tasks.length p.a P B x D d (((w.alloc (Obj.cells #[.slice p.A s.tasks.length p.a, .slice p.B s.leaves.length p.b, .slice p.C s.lasts.length p.c, .slice p.D s.jobs.length p.d, .slice p.E s.log.length p.e] 35)).alloc (Obj.cells #[.int .i64 P, .int .i64 B] 23)).alloc (Obj.cells #[.int .i64 x.1, .int .i64 x.2.1, .int .i64 x.2.2.1, .slice D x.2.2.2.length d] 47)) := by
    obtain ⟨t1, t2⟩ := Sp.fc_new (w.alloc (Obj.cells #[.slice p.A s.tasks.length p.a, .slice p.B s.leaves.length p.b, .slice p.C s.lasts.length p.c, .slice p.D s.jobs.length p.d, .slice p.E s.log.length p.e] 35)) P B
    rw [World.size_alloc] at t1 t2
    have b := below_one ((w.alloc (Obj.cells #[.slice p.A s.tasks.length p.a, .slice p.B s.leaves.length p.b, .slice p.C s.lasts.length p.c, .slice p.D s.jobs.length p.d, .slice p.E s.log.length p.e] 35)).alloc (Obj.cells #[.int .i64 P, .int .i64 B] 23)) (Obj.cells #[.int .i64 x.1, .int .i64 x.2.1, .int .i64 x.2.2.1, .slice D x.2.2.2.length d] 47)
    obtain ⟨z1, z2, z3, z4⟩ := box_at ((w.alloc (Obj.cells #[.slice p.A s.tasks.length p.a, .slice p.B s.leaves.length p.b, .slice p.C s.lasts.length p.c, .slice p.D s.jobs.length p.d, .slice p.E s.log.length p.e] 35)).alloc (Obj.cells #[.int .i64 P, .int .i64 B] 23)) x.1 x.2.1 x.2.2.1 D x.2.2.2.length d (w.heap.size + 2) (by simp)
    exact ⟨HY3.c0, cell_below b t1, cell_below b t2, z1, z2, z3, z4⟩
  have b4 := below_one (((w.alloc (Obj.cells #[.slice p.A s.tasks.length p.a, .slice p.B s.leaves.length p.b, .slice p.C s.lasts.length p.c, .slice p.D s.jobs.length p.d, .slice p.E s.log.length p.e] 35)).alloc (Obj.cells #[.int .i64 P, .int .i64 B] 23)).alloc (Obj.cells #[.int .i64 x.1, .int .i64 x.2.1, .int .i64 x.2.2.1, .slice D x.2.2.2.length d] 47)) (Obj.cells #[.slice none 0 0, .slice none 0 0, .slice none 0 0, .slice none 0 0, .slice none 0 0] 35)
  have HY := Lib.hid (HY3.below b4)
  have YB := Lib.hid (YB3.below b4)
  have B0 := Lib.hid (below_step B3 b4)
  have HZ0 : Hid (Res ((((w.alloc (Obj.cells #[.slice p.A s.tasks.length p.a, .slice p.B s.leaves.length p.b, .slice p.C s.lasts.length p.c, .slice p.D s.jobs.length p.d, .slice p.E s.log.length p.e] 35)).alloc (Obj.cells #[.int .i64 P, .int .i64 B] 23)).alloc (Obj.cells #[.int .i64 x.1, .int .i64 x.2.1, .int .i64 x.2.2.1, .slice D x.2.2.2.length d] 47)).alloc (Obj.cells #[.slice none 0 0, .slice none 0 0, .slice none 0 0, .slice none 0 0, .slice none 0 0] 35)) (w.heap.size + 3)) := ⟨cs_new _ noPl noSt _ _ (by simp), fun o => fr_new _ _ _ _ (by simp) o⟩
  have HH := Lib.hid (HST.below B0.out)
  have HX2 := Lib.hid (hx.below B0.out)
  have HSZ := Lib.hid hz
  have HSS := Lib.hid hS
  have FX := Lib.hid fx
  have HKB := Lib.hid hkb
  obtain ⟨a1, h1⟩ : ∃ a, (if (rightS s && Sp.rightB P B && rightT x) then 0 else 1) = a := ⟨_, rfl⟩
  obtain ⟨a2, h2⟩ : ∃ a, (if decide (s.tasks.length < 8) then 0 else 3) = a := ⟨_, rfl⟩
  obtain ⟨a3, h3⟩ : ∃ a, (if !(s.jobs.any fun j => begJ j) then 0 else 9) = a := ⟨_, rfl⟩
  obtain ⟨a4, h4⟩ : ∃ a, fitE (s.tasks ++ [x]) P B = a := ⟨_, rfl⟩
  have HF := Lib.hid (fun g1 g2 g3 g4 l1 l2 l3 l4 => (add_first s P B x a1 a2 a3 a4 h1 h2 h3 h4 g1 g2 g3 g4 l1 l2 l3 l4).trans hv)
  have HA1 := Lib.hid h1
  have HA2 := Lib.hid h2
  have HA3 := Lib.hid h3
  have HA4 := Lib.hid h4
  clear h1 h2 h3 h4 B3 HY3 YB3 b4 HST hx hz hS fx hkb
  go_enter Tryz.func15, Tryz.ntmps15
  go_upto_region 1 with fail
  generalize (((w.alloc (Obj.cells #[.slice p.A s.tasks.length p.a, .slice p.B s.leaves.length p.b, .slice p.C s.lasts.length p.c, .slice p.D s.jobs.length p.d, .slice p.E s.log.length p.e] 35)).alloc (Obj.cells #[.int .i64 P, .int .i64 B] 23)).alloc (Obj.cells #[.int .i64 x.1, .int .i64 x.2.1, .int .i64 x.2.2.1, .slice D x.2.2.2.length d] 47)).alloc (Obj.cells #[.slice none 0 0, .slice none 0 0, .slice none 0 0, .slice none 0 0, .slice none 0 0] 35) = w0 at *
  obtain ⟨Y, hY⟩ : ∃ Y, w.heap.size = Y := ⟨_, rfl⟩
  obtain ⟨F, hF⟩ : ∃ F, Y + 1 = F := ⟨_, rfl⟩
  obtain ⟨X, hX⟩ : ∃ X, Y + 1 + 1 = X := ⟨_, rfl⟩
  obtain ⟨Z, hZ⟩ : ∃ Z, Y + 1 + 1 + 1 = Z := ⟨_, rfl⟩
  have HZ : Hid (w.heap.size ≤ Z) := by show _ ≤ _; omega
  rw [hY] at YB HY HZ0
  rw [hF, show Y + 2 = X from hX] at YB
  rw [show Y + 3 = Z from hZ] at HZ0
  rw [hF] at hX hZ
  rw [hX] at hZ
  rw [hY, hF, hX, hZ]
  clear hX hF hY hZ
  go_cut [8] (fun s6 wx => s6 = .int .i64 v ∧ Below w0.heap.size w0 wx)
  case first =>
    have HT0 : Hid (SR w0 p s) := ⟨HSZ.out, HH.out.keep fun _ _ _ => ⟨trivial, rfl⟩⟩
    have BR : Hid (Below w0.heap.size w0 w0) := Below.refl _ _
    go_wp2_with fail
    refine (unless_v 1 37 #[.pointer (some ⟨Y, 0, none⟩), .pointer (some ⟨F, 0, none⟩), .pointer (some ⟨X, 0, none⟩)] _).mono ?_
    rintro e w1 ⟨X1, Y1, rfl, c1, d1, b1⟩
    have B1 := Lib.hid (below_step BR.out b1)
    have YB1 := YB.out.below B1.out
    have C1 := Lib.hid (unless1_ok _ _ _ 1 a1 HA1.out a1Enters X1 Y1 w1 c1 d1 (a1_v _ rfl HKB.out w1 (HY.out.below B1.out) (HT0.out.below B1.out) ⟨YB1.2.1, YB1.2.2.1⟩ YB1.2.2.2 (HX2.out.below B1.out)))
    clear c1 d1 b1 YB1
    go_wp2_with fail
    refine (unless_v 3 40 #[.pointer (some ⟨Y, 0, none⟩)] _).mono ?_
    rintro e w2 ⟨X2, Y2, rfl, c2, d2, b2⟩
    have B2 := Lib.hid (below_step B1.out b2)
    have C2 := Lib.hid (unless1_ok _ _ _ 3 a2 HA2.out a2Enters X2 Y2 w2 c2 d2 (a2_v _ rfl w2 (HY.out.below B2.out)))
    clear c2 d2
    go_wp2_with fail
    refine (unless_v 9 41 #[.pointer (some ⟨Y, 0, none⟩)] _).mono ?_
    rintro e w3 ⟨X3, Y3, rfl, c3, d3, b3⟩
    have B3 := Lib.hid (below_step B2.out b3)
    have C3 := Lib.hid (unless1_ok _ _ _ 9 a3 HA3.out a3Enters X3 Y3 w3 c3 d3 (a3_v _ rfl w3 (HY.out.below B3.out) (HT0.out.below B3.out)))
    have C1b := Lib.hid (CndOk.below C1.out (below_step b2 b3))
    have C2b := Lib.hid (CndOk.below C2.out b3)
    have C4 := Lib.hid (a4_ok a4 HA4.out s.tasks.length rfl HSZ.out.t HKB.out FX.out w3 (YB.out.below B3.out) (HT0.out.below B3.out) (HX2.out.below B3.out))
    clear c3 d3 b3 b2
    go_wp2_with fail
    refine (first_lit _ _ [⟨51, #[.pointer (some ⟨X1, 0, none⟩), .pointer (some ⟨Y1, 0, none⟩)], a1⟩, ⟨51, #[.pointer (some ⟨X2, 0, none⟩), .pointer (some ⟨Y2, 0, none⟩)], a2⟩, ⟨51, #[.pointer (some ⟨X3, 0, none⟩), .pointer (some ⟨Y3, 0, none⟩)], a3⟩, ⟨43, #[.pointer (some ⟨Y, 0, none⟩), .pointer (some ⟨X, 0, none⟩), .pointer (some ⟨F, 0, none⟩)], a4⟩] rfl 4 rfl (by decide) w3 (ok_cons C1b.out (ok_cons C2b.out (ok_cons C3.out (ok_cons C4.out (ok_nil _))))) v (HF.out _ _ _ _ _ _ _ _)).mono ?_
    rintro e w5 ⟨rfl, b5⟩
    have B5 := Lib.hid (below_step B3.out b5)
    clear b5
    go_wp2_with fail
    go_meet
    exact ⟨rfl, B5.out⟩
  case rest =>
    obtain ⟨rfl, b6⟩ := hcut
    replace HY := Lib.hid (HY.out.below b6)
    replace YB := Lib.hid (YB.out.below b6)
    replace HZ0 := Lib.hid (HZ0.out.below b6)
    replace HH := Lib.hid (HH.out.below b6)
    replace HX2 := Lib.hid (HX2.out.below b6)
    have BW := Lib.hid (below_step B0.out b6)
    clear b6 HF HA1 HA2 HA3 HA4
    by_cases h0 : v = 0
    · subst h0
      have HAS := Lib.hid (addS_adm hr hv)
      have HAE := Lib.hid (addE_adm hv)
      clear hr hv
      obtain ⟨_, f1, f2, x0, x1, x2, x3⟩ := YB.out
      obtain ⟨y0, y1, y2, y3, y4⟩ := HY.out
      go_wp2_with fail
      refine (add_s S p s r x D x.2.2.2.length d rfl HKB.out FX.out 0 HAS.out HAE.out _ (fun b h => Nat.lt_of_lt_of_le (HSS.out b h) BW.out.size) HSZ.out HH.out HX2.out).mono ?_
      rintro e w7 ⟨p1, rfl, h3, b7⟩
      have HR := Lib.hid (HZ0.out.below b7)
      have HQ := Lib.hid (up_res HSS.out ⟨HZ.out, HZ0.out.lt⟩ h3.2)
      have HZR := Lib.hid h3.1
      have BF := Lib.hid (below_step BW.out b7)
      clear h3 b7 f1 f2 x0 x1 x2 x3 y0 y1 y2 y3 y4 HZ0 YB HY
      have z0 := HR.out.z.c0
      have z1 := HR.out.z.c1
      have z2 := HR.out.z.c2
      have z3 := HR.out.z.c3
      have z4 := HR.out.z.c4
      unfold noPl noSt at z0 z1 z2 z3 z4
      simp only [List.length_nil] at z0 z1 z2 z3 z4
      have g0 := HR.out.f 0
      have g1 := HR.out.f 1
      have g2 := HR.out.f 2
      have g3 := HR.out.f 3
      have g4 := HR.out.f 4
      go_wp2_with fail
      change bodyPost _ _ _ _ _ (putS w7 Z p1 r)
      obtain ⟨h1, h2⟩ := done_at (S := S) (w := w) (v := 0) HR.out.z HQ.out HZR.out HZ.out BF.out
      generalize putS w7 Z p1 r = W at h1 h2 ⊢
      have k0 := h2.c0
      have k1 := h2.c1
      have k2 := h2.c2
      have k3 := h2.c3
      have k4 := h2.c4
      refine bodyPost_ret (v := .tuple #[(.agg #[.slice p1.A r.tasks.length p1.a, .slice p1.B r.leaves.length p1.b, .slice p1.C r.lasts.length p1.c, .slice p1.D r.jobs.length p1.d, .slice p1.E r.log.length p1.e]), .int .i64 0]) (by simp [results, Tryz.results15, go_sem, k0, k1, k2, k3, k4]) rfl h1
    · have e1 : s = r := by rw [← hr]; unfold admS; rw [hv, if_neg h0]
      subst e1
      have i1 : ¬ (v : Int) = 0 := by omega
      have i2 : ((v : Int) == 0) = false := beq_eq_false_iff_ne.2 i1
      clear hr hv h0
      have HR := HZ0
      have HZR := HSZ
      have BF := BW
      have HQ : Hid (StS wc (fun b => b ≠ Z ∧ Upw S w b) p s) := HH.out.keep fun b _ hb => ⟨⟨fun e => by have := HSS.out b hb; have := HZ.out; omega, .inl hb⟩, rfl⟩
      obtain ⟨y0, y1, y2, y3, y4⟩ := HY.out
      have z0 := HZ0.out.z.c0
      have z1 := HZ0.out.z.c1
      have z2 := HZ0.out.z.c2
      have z3 := HZ0.out.z.c3
      have z4 := HZ0.out.z.c4
      unfold noPl noSt at z0 z1 z2 z3 z4
      simp only [List.length_nil] at z0 z1 z2 z3 z4
      have g0 := HZ0.out.f 0
      have g1 := HZ0.out.f 1
      have g2 := HZ0.out.f 2
      have g3 := HZ0.out.f 3
      have g4 := HZ0.out.f 4
      go_wp2_with fail
      change bodyPost _ _ _ _ _ (putS wc Z p s)
      obtain ⟨h1, h2⟩ := done_at (S := S) (w := w) (v := v) HR.out.z HQ.out HZR.out HZ.out BF.out
      generalize putS wc Z p s = W at h1 h2 ⊢
      have k0 := h2.c0
      have k1 := h2.c1
      have k2 := h2.c2
      have k3 := h2.c3
      have k4 := h2.c4
      refine bodyPost_ret (v := .tuple #[(.agg #[.slice p.A s.tasks.length p.a, .slice p.B s.leaves.length p.b, .slice p.C s.lasts.length p.c, .slice p.D s.jobs.length p.d, .slice p.E s.log.length p.e]), .int .i64 v]) (by simp [results, Tryz.results15, go_sem, k0, k1, k2, k3, k4]) rfl h1

end Pm
end Go.Proofs.YtdjjdebnbaaihaaGreat

/-
  Layer 20 (admit): the contracts of Boot and Add (boot_s, adm_s), by whatever texts.
-/
namespace Go.Proofs.YtdjjdebnbaaihaaGreat
namespace Pm
end Pm
end Go.Proofs.YtdjjdebnbaaihaaGreat

/-
  Layer 20 (admit): Change: two conditions, the first of which lets the task out of a copy, the second of which adds to that copy.
-/
namespace Go.Proofs.YtdjjdebnbaaihaaGreat
open Go.RowKit Mm Tk Vd
namespace Pm
open Ad

theorem chg_out {s : St} {P B : Int} {i : Int} {x : Tsk} {g : Nat} (h : leaveE s i = g) (h0 : g ≠ 0) : chgE s P B i x = g ∧ chgS s P B i x = s := by
  have e : chgE s P B i x = g := by unfold chgE; rw [h, if_pos h0]
  exact ⟨e, by unfold chgS; rw [e, if_neg h0]⟩
theorem chg_on {s : St} {P B : Int} {i : Int} {x : Tsk} (h : leaveE s i = 0) : chgE s P B i x = admE (leaveS s i) P B x := by
  unfold chgE
  rw [if_neg (by omega), admE_leave h]
theorem chgS_on {s : St} {P B : Int} {i : Int} {x : Tsk} (h : leaveE s i = 0) (h2 : admE (leaveS s i) P B x = 0) : chgS s P B i x = admS (leaveS s i) P B x := by
  unfold chgS admS
  rw [chg_on h, if_pos h2, if_pos h2]


/-- a state in block V, which alone has turned since W0; its lists in blocks of T, or in new ones -/
structure Aft (W0 : World) (T : Nat → Prop) (V : Nat) (p : Pl) (s : St) (w : World) : Prop where
  c : CS w V p s
  f : ∀ o, w.frozen? ⟨V, o, none⟩ = false
  z : Sz s
  st : StS w (fun b => b ≠ V ∧ (T b ∨ W0.heap.size ≤ b)) p s
  g : W0.grownBy w (some V)
def AftE (W0 : World) (T : Nat → Prop) (V : Nat) (s : St) (w : World) : Prop := ∃ p, Aft W0 T V p s w
theorem fr_putS {w : World} {V : Nat} (h : ∀ o, w.frozen? ⟨V, o, none⟩ = false) (p : Pl) (s : St) (o : Nat) : (putS w V p s).frozen? ⟨V, o, none⟩ = false := by
  unfold putS
  exact fr_set (fr_set (fr_set (fr_set (fr_set (h o)))))
/-- .. with what a call has made of it -/
theorem Aft.put {W0 : World} {T : Nat → Prop} {V : Nat} {p q : Pl} {s r : St} {w w1 : World} (h : Aft W0 T V p s w) (hV : V < W0.heap.size) (hz : Sz r) (hr : StS w1 (Upw (fun b => b < w.heap.size ∧ b ≠ V ∧ (T b ∨ W0.heap.size ≤ b)) w) q r) (b1 : Below w.heap.size w w1) : Aft W0 T V q r (putS w1 V q r) := by
  have hs := h.g.size
  have hg := gb_putS (gb_refl w1 (some V)) V q r (.inr rfl)
  have hf : ∀ o, w1.frozen? ⟨V, o, none⟩ = false := fun o => (World.frozen?_of_block (w := w) (a := ⟨V, o, none⟩) (b1.block V (by omega))).trans (h.f o)
  have hn : ∀ b, Upw (fun b => b < w.heap.size ∧ b ≠ V ∧ (T b ∨ W0.heap.size ≤ b)) w b → b ≠ V := fun b hb => hb.elim (fun h => h.2.1) (fun h => by omega)
  exact ⟨cs_put (h.c.below b1) q r, fr_putS hf q r, hz, (hr.gb hg (fun b hb e => hn b hb (by injection e))).keep fun b _ hb => ⟨⟨hn b hb, hb.elim (fun h => h.2.2) (fun h => .inr (by omega))⟩, rfl⟩, gb_trans (gb_trans h.g (gb_below b1 (Nat.le_refl _) (some V))) hg⟩
theorem d1Enters : ∀ args w, (callFunc 49 args).run Tryz.prog w = .ok (.enter 49 args) w := enters_of Tryz.func49 (by kernel_rfl) rfl
theorem d2Enters : ∀ args w, (callFunc 50 args).run Tryz.prog w = .ok (.enter 50 args) w := enters_of Tryz.func50 (by kernel_rfl) rfl
set_option maxRecDepth 20000 in
set_option maxHeartbeats 1600000 in
theorem d1_s {W0 : World} {T : Nat → Prop} {V I : Nat} {s q : St} (i : Int) (g : Nat) (hq : leaveS s i = q) (hg : leaveE s i = g) (hV : V < W0.heap.size) (w : World) (h : AftE W0 T V s w) (hI : w.cell? ⟨I, 0, none⟩ = some (.int .i64 i)) :
    Calls Tryz.prog 49 #[.pointer (some ⟨V, 0, none⟩), .pointer (some ⟨I, 0, none⟩)] w fun e w' => e = .returned (.int .i64 g) ∧ AftE W0 T V q w' := by
  obtain ⟨p, h⟩ := h
  have HA := Lib.hid h
  have HVV := Lib.hid hV
  have HL := Lib.hid (leave_s (fun b => b < w.heap.size ∧ b ≠ V ∧ (T b ∨ W0.heap.size ≤ b)) p s q i g hq (by rw [hg]) w (fun b h => h.1) h.z (h.st.keep fun b hb h => ⟨⟨hb, h⟩, rfl⟩))
  obtain ⟨v0, v1, v2, v3, v4⟩ := h.c
  clear h hV hq hg
  go_enter Tryz.func49, Tryz.ntmps49
  go_wp2_with fail
  refine HL.out.mono ?_
  rintro e w1 ⟨p1, rfl, h1, b1⟩
  have HP : Hid (Aft W0 T V p1 q (putS w1 V p1 q)) := HA.out.put HVV.out h1.1 h1.2 b1
  replace v0 := cell_below b1 v0
  replace v1 := cell_below b1 v1
  replace v2 := cell_below b1 v2
  replace v3 := cell_below b1 v3
  replace v4 := cell_below b1 v4
  have hf : ∀ o, w1.frozen? ⟨V, o, none⟩ = false := fun o => (World.frozen?_of_block (w := w) (a := ⟨V, o, none⟩) (b1.block V (lt_of_cell HA.out.c.c0))).trans (HA.out.f o)
  have g0 := hf 0
  have g1 := hf 1
  have g2 := hf 2
  have g3 := hf 3
  have g4 := hf 4
  clear h1 b1 hf hI HL
  go_wp2_with fail
  go_ret
  exact ⟨rfl, p1, HP.out⟩
set_option maxRecDepth 20000 in
set_option maxHeartbeats 1600000 in
theorem d2_s {W0 : World} {T : Nat → Prop} {V F X : Nat} {s r : St} {P B : Int} {x : Tsk} {D : Option Addr} {d : Nat} (v : Nat) (hr : admS s P B x = r) (hv : admE s P B x = v) (hkb : x.2.2.2.length ≤ 100000) (fx : Fit x.1 ∧ Fit x.2.1 ∧ Fit x.2.2.1) (hV : V < W0.heap.size) (w : World) (h : AftE W0 T V s w) (hf : w.cell? ⟨F, 0, none⟩ = some (.int .i64 P) ∧ w.cell? ⟨F, 1, none⟩ = some (.int .i64 B)) (hb : Box w X x.1 x.2.1 x.2.2.1 D x.2.2.2.length d) (hx : Rd w D d x.2.2.2) :
    Calls Tryz.prog 50 #[.pointer (some ⟨V, 0, none⟩), .pointer (some ⟨F, 0, none⟩), .pointer (some ⟨X, 0, none⟩)] w fun e w' => e = .returned (.int .i64 v) ∧ AftE W0 T V r w' := by
  obtain ⟨p, h⟩ := h
  have HA := Lib.hid h
  have HVV := Lib.hid hV
  have HL := Lib.hid (adm_s (fun b => b < w.heap.size ∧ b ≠ V ∧ (T b ∨ W0.heap.size ≤ b)) p s r x D x.2.2.2.length d rfl hkb fx P B v hr hv w (fun b h => h.1) h.z (h.st.keep fun b hb h => ⟨⟨hb, h⟩, rfl⟩) hx)
  obtain ⟨v0, v1, v2, v3, v4⟩ := h.c
  obtain ⟨f1, f2⟩ := hf
  obtain ⟨x0, x1, x2, x3⟩ := hb
  clear h hV hr hv hx hkb fx
  go_enter Tryz.func50, Tryz.ntmps50
  go_wp2_with fail
  refine HL.out.mono ?_
  rintro e w1 ⟨p1, rfl, h1, b1⟩
  have HP : Hid (Aft W0 T V p1 r (putS w1 V p1 r)) := HA.out.put HVV.out h1.1 h1.2 b1
  replace v0 := cell_below b1 v0
  replace v1 := cell_below b1 v1
  replace v2 := cell_below b1 v2
  replace v3 := cell_below b1 v3
  replace v4 := cell_below b1 v4
  have hf : ∀ o, w1.frozen? ⟨V, o, none⟩ = false := fun o => (World.frozen?_of_block (w := w) (a := ⟨V, o, none⟩) (b1.block V (lt_of_cell HA.out.c.c0))).trans (HA.out.f o)
  have g0 := hf 0
  have g1 := hf 1
  have g2 := hf 2
  have g3 := hf 3
  have g4 := hf 4
  clear h1 b1 hf f1 f2 x0 x1 x2 x3 HL
  go_wp2_with fail
  go_ret
  exact ⟨rfl, p1, HP.out⟩

/-- what lies ready ahead of the conditions -/
structure Chg (w0 : World) (Y F I X Z V : Nat) (p : Pl) (s : St) (P B i : Int) (x : Tsk) (D : Option Addr) (d : Nat) : Prop where
  y : CS w0 Y p s
  f : w0.cell? ⟨F, 0, none⟩ = some (.int .i64 P) ∧ w0.cell? ⟨F, 1, none⟩ = some (.int .i64 B)
  i : w0.cell? ⟨I, 0, none⟩ = some (.int .i64 i)
  x : Box w0 X x.1 x.2.1 x.2.2.1 D x.2.2.2.length d
  z : Res w0 Z
  v : CS w0 V p s
  vf : ∀ o, w0.frozen? ⟨V, o, none⟩ = false
theorem chg_new (w : World) (p : Pl) (s : St) (P B i : Int) (x : Tsk) (D : Option Addr) (d : Nat) :
    Chg ((((((w.alloc (Obj.cells #[.slice p.A s.tasks.length p.a, .slice p.B s.leaves.length p.b, .slice p.C s.lasts.length p.c, .slice p.D s.jobs.length p.d, .slice p.E s.log.length p.e] 35)).alloc (Obj.cells #[.int .i64 P, .int .i64 B] 23)).alloc (Obj.cells #[.int .i64 i] 3)).alloc (Obj.cells #[.int .i64 x.1, .int .i64 x.2.1, .int .i64 x.2.2.1, .slice D x.2.2.2.length d] 47)).alloc (Obj.cells #[.slice none 0 0, .slice none 0 0, .slice none 0 0, .slice none 0 0, .slice none 0 0] 35)).alloc (Obj.cells #[.slice p.A s.tasks.length p.a, .slice p.B s.leaves.length p.b, .slice p.C s.lasts.length p.c, .slice p.D s.jobs.length p.d, .slice p.E s.log.length p.e] 35)) w.heap.size (w.heap.size + 1) (w.heap.size + 2) (w.heap.size + 3) (w.heap.size + 4) (w.heap.size + 5) p s P B i x D d ∧ Below w.heap.size w ((((((w.alloc (Obj.cells #[.slice p.A s.tasks.length p.a, .slice p.B s.leaves.length p.b, .slice p.C s.lasts.length p.c, .slice p.D s.jobs.length p.d, .slice p.E s.log.length p.e] 35)).alloc (Obj.cells #[.int .i64 P, .int .i64 B] 23)).alloc (Obj.cells #[.int .i64 i] 3)).alloc (Obj.cells #[.int .i64 x.1, .int .i64 x.2.1, .int .i64 x.2.2.1, .slice D x.2.2.2.length d] 47)).alloc (Obj.cells #[.slice none 0 0, .slice none 0 0, .slice none 0 0, .slice none 0 0, .slice none 0 0] 35)).alloc (Obj.cells #[.slice p.A s.tasks.length p.a, .slice p.B s.leaves.length p.b, .slice p.C s.lasts.length p.c, .slice p.D s.jobs.length p.d, .slice p.E s.log.length p.e] 35)) := by
  have y1 := cs_new w p s w.heap.size 35 rfl
  have b2 := below_one (w.alloc (Obj.cells #[.slice p.A s.tasks.length p.a, .slice p.B s.leaves.length p.b, .slice p.C s.lasts.length p.c, .slice p.D s.jobs.length p.d, .slice p.E s.log.length p.e] 35)) (Obj.cells #[.int .i64 P, .int .i64 B] 23)
  have b3 := below_one ((w.alloc (Obj.cells #[.slice p.A s.tasks.length p.a, .slice p.B s.leaves.length p.b, .slice p.C s.lasts.length p.c, .slice p.D s.jobs.length p.d, .slice p.E s.log.length p.e] 35)).alloc (Obj.cells #[.int .i64 P, .int .i64 B] 23)) (Obj.cells #[.int .i64 i] 3)
  have b4 := below_one (((w.alloc (Obj.cells #[.slice p.A s.tasks.length p.a, .slice p.B s.leaves.length p.b, .slice p.C s.lasts.length p.c, .slice p.D s.jobs.length p.d, .slice p.E s.log.length p.e] 35)).alloc (Obj.cells #[.int .i64 P, .int .i64 B] 23)).alloc (Obj.cells #[.int .i64 i] 3)) (Obj.cells #[.int .i64 x.1, .int .i64 x.2.1, .int .i64 x.2.2.1, .slice D x.2.2.2.length d] 47)
  have b5 := below_one ((((w.alloc (Obj.cells #[.slice p.A s.tasks.length p.a, .slice p.B s.leaves.length p.b, .slice p.C s.lasts.length p.c, .slice p.D s.jobs.length p.d, .slice p.E s.log.length p.e] 35)).alloc (Obj.cells #[.int .i64 P, .int .i64 B] 23)).alloc (Obj.cells #[.int .i64 i] 3)).alloc (Obj.cells #[.int .i64 x.1, .int .i64 x.2.1, .int .i64 x.2.2.1, .slice D x.2.2.2.length d] 47)) (Obj.cells #[.slice none 0 0, .slice none 0 0, .slice none 0 0, .slice none 0 0, .slice none 0 0] 35)
  have b6 := below_one (((((w.alloc (Obj.cells #[.slice p.A s.tasks.length p.a, .slice p.B s.leaves.length p.b, .slice p.C s.lasts.length p.c, .slice p.D s.jobs.length p.d, .slice p.E s.log.length p.e] 35)).alloc (Obj.cells #[.int .i64 P, .int .i64 B] 23)).alloc (Obj.cells #[.int .i64 i] 3)).alloc (Obj.cells #[.int .i64 x.1, .int .i64 x.2.1, .int .i64 x.2.2.1, .slice D x.2.2.2.length d] 47)).alloc (Obj.cells #[.slice none 0 0, .slice none 0 0, .slice none 0 0, .slice none 0 0, .slice none 0 0] 35)) (Obj.cells #[.slice p.A s.tasks.length p.a, .slice p.B s.leaves.length p.b, .slice p.C s.lasts.length p.c, .slice p.D s.jobs.length p.d, .slice p.E s.log.length p.e] 35)
  have t := Sp.fc_new (w.alloc (Obj.cells #[.slice p.A s.tasks.length p.a, .slice p.B s.leaves.length p.b, .slice p.C s.lasts.length p.c, .slice p.D s.jobs.length p.d, .slice p.E s.log.length p.e] 35)) P B
  rw [World.size_alloc] at t
  have n : (((w.alloc (Obj.cells #[.slice p.A s.tasks.length p.a, .slice p.B s.leaves.length p.b, .slice p.C s.lasts.length p.c, .slice p.D s.jobs.length p.d, .slice p.E s.log.length p.e] 35)).alloc (Obj.cells #[.int .i64 P, .int .i64 B] 23)).alloc (Obj.cells #[.int .i64 i] 3)).cell? ⟨w.heap.size + 2, 0, none⟩ = some (.int .i64 i) := by
    have e : ((w.alloc (Obj.cells #[.slice p.A s.tasks.length p.a, .slice p.B s.leaves.length p.b, .slice p.C s.lasts.length p.c, .slice p.D s.jobs.length p.d, .slice p.E s.log.length p.e] 35)).alloc (Obj.cells #[.int .i64 P, .int .i64 B] 23)).heap.size = w.heap.size + 2 := by rw [World.size_alloc, World.size_alloc]
    rw [← e, World.cell?_alloc_new]; rfl
  have z := box_at (((w.alloc (Obj.cells #[.slice p.A s.tasks.length p.a, .slice p.B s.leaves.length p.b, .slice p.C s.lasts.length p.c, .slice p.D s.jobs.length p.d, .slice p.E s.log.length p.e] 35)).alloc (Obj.cells #[.int .i64 P, .int .i64 B] 23)).alloc (Obj.cells #[.int .i64 i] 3)) x.1 x.2.1 x.2.2.1 D x.2.2.2.length d (w.heap.size + 3) (by rw [World.size_alloc, World.size_alloc, World.size_alloc])
  have r : Res (((((w.alloc (Obj.cells #[.slice p.A s.tasks.length p.a, .slice p.B s.leaves.length p.b, .slice p.C s.lasts.length p.c, .slice p.D s.jobs.length p.d, .slice p.E s.log.length p.e] 35)).alloc (Obj.cells #[.int .i64 P, .int .i64 B] 23)).alloc (Obj.cells #[.int .i64 i] 3)).alloc (Obj.cells #[.int .i64 x.1, .int .i64 x.2.1, .int .i64 x.2.2.1, .slice D x.2.2.2.length d] 47)).alloc (Obj.cells #[.slice none 0 0, .slice none 0 0, .slice none 0 0, .slice none 0 0, .slice none 0 0] 35)) (w.heap.size + 4) := ⟨cs_new _ noPl noSt _ _ (by rw [World.size_alloc, World.size_alloc, World.size_alloc, World.size_alloc]), fun o => fr_new _ _ _ _ (by rw [World.size_alloc, World.size_alloc, World.size_alloc, World.size_alloc]) o⟩
  have k24 := below_step b2 b3
  have k35 := below_step b4 (below_step b5 b6)
  have k : Below ((w.alloc (Obj.cells #[.slice p.A s.tasks.length p.a, .slice p.B s.leaves.length p.b, .slice p.C s.lasts.length p.c, .slice p.D s.jobs.length p.d, .slice p.E s.log.length p.e] 35)).alloc (Obj.cells #[.int .i64 P, .int .i64 B] 23)).heap.size ((w.alloc (Obj.cells #[.slice p.A s.tasks.length p.a, .slice p.B s.leaves.length p.b, .slice p.C s.lasts.length p.c, .slice p.D s.jobs.length p.d, .slice p.E s.log.length p.e] 35)).alloc (Obj.cells #[.int .i64 P, .int .i64 B] 23)) ((((((w.alloc (Obj.cells #[.slice p.A s.tasks.length p.a, .slice p.B s.leaves.length p.b, .slice p.C s.lasts.length p.c, .slice p.D s.jobs.length p.d, .slice p.E s.log.length p.e] 35)).alloc (Obj.cells #[.int .i64 P, .int .i64 B] 23)).alloc (Obj.cells #[.int .i64 i] 3)).alloc (Obj.cells #[.int .i64 x.1, .int .i64 x.2.1, .int .i64 x.2.2.1, .slice D x.2.2.2.length d] 47)).alloc (Obj.cells #[.slice none 0 0, .slice none 0 0, .slice none 0 0, .slice none 0 0, .slice none 0 0] 35)).alloc (Obj.cells #[.slice p.A s.tasks.length p.a, .slice p.B s.leaves.length p.b, .slice p.C s.lasts.length p.c, .slice p.D s.jobs.length p.d, .slice p.E s.log.length p.e] 35)) := below_step b3 k35
  refine ⟨⟨(y1.below b2).below k, ⟨cell_below k t.1, cell_below k t.2⟩, cell_below k35 n, z.below (below_step b5 b6), r.below b6, cs_new _ p s _ _ (by rw [World.size_alloc, World.size_alloc, World.size_alloc, World.size_alloc, World.size_alloc]), fun o => fr_new _ _ _ _ (by rw [World.size_alloc, World.size_alloc, World.size_alloc, World.size_alloc, World.size_alloc]) o⟩, below_step (below_one w (Obj.cells #[.slice p.A s.tasks.length p.a, .slice p.B s.leaves.length p.b, .slice p.C s.lasts.length p.c, .slice p.D s.jobs.length p.d, .slice p.E s.log.length p.e] 35)) (below_step b2 k)⟩

theorem Aft.since {W1 W0 : World} {T : Nat → Prop} {V : Nat} {p : Pl} {s : St} {w : World} (h : Aft W1 T V p s w) (b : W0.grownBy W1 (some V)) : Aft W0 T V p s w :=
  ⟨h.c, h.f, h.z, h.st.keep fun _ _ hb => ⟨⟨hb.1, hb.2.imp id (fun h => Nat.le_trans b.size h)⟩, rfl⟩, gb_trans b h.g⟩
/-- behind the conditions: nothing but block V has turned; where there was no error, the state lies there -/
def Met (w0 : World) (S : Nat → Prop) (V v : Nat) (r : St) (wx : World) : Prop := w0.grownBy wx (some V) ∧ (v = 0 → ∃ p3, Aft w0 S V p3 r wx)
theorem chg_first {w0 : World} {Y F I X Z V : Nat} {p : Pl} {s q r r2 : St} {P B i : Int} {x : Tsk} {D : Option Addr} {d : Nat} {S : Nat → Prop} {u g v v2 : Nat} (hc : Chg w0 Y F I X Z V p s P B i x D d) (hF : F ≠ V) (hX : X ≠ V) (hu : u ≤ V) (hS : ∀ b, S b → b < u) (hz : Sz s) (hst : StS w0 S p s) (hx : RdS w0 (fun b => b < u) D d x.2.2.2)
    (hq : leaveS s i = q) (hg : leaveE s i = g) (hr2 : admS q P B x = r2) (hv2 : admE q P B x = v2) (hgv : (if g = 0 then v2 else g) = v) (hrr : if v = 0 then r2 = r ∧ g = 0 else s = r) (hkb : x.2.2.2.length ≤ 100000) (fx : Fit x.1 ∧ Fit x.2.1 ∧ Fit x.2.2.1) :
    Calls Tryz.prog 22 #[.slice (some ⟨w0.heap.size, 0, none⟩) 2 2] (w0.alloc (Obj.cells #[.func (.func 49) #[] #[.pointer (some ⟨V, 0, none⟩), .pointer (some ⟨I, 0, none⟩)], .func (.func 50) #[] #[.pointer (some ⟨V, 0, none⟩), .pointer (some ⟨F, 0, none⟩), .pointer (some ⟨X, 0, none⟩)]] 59)) fun e w' => e = .returned (.int .i64 v) ∧ Met w0 S V v r w' := by
  have hV := lt_of_cell hc.v.c0
  have hV : V < w0.heap.size := hV
  have b0 := below_one w0 (Obj.cells #[.func (.func 49) #[] #[.pointer (some ⟨V, 0, none⟩), .pointer (some ⟨I, 0, none⟩)], .func (.func 50) #[] #[.pointer (some ⟨V, 0, none⟩), .pointer (some ⟨F, 0, none⟩), .pointer (some ⟨X, 0, none⟩)]] 59)
  have c1 : (w0.alloc (Obj.cells #[.func (.func 49) #[] #[.pointer (some ⟨V, 0, none⟩), .pointer (some ⟨I, 0, none⟩)], .func (.func 50) #[] #[.pointer (some ⟨V, 0, none⟩), .pointer (some ⟨F, 0, none⟩), .pointer (some ⟨X, 0, none⟩)]] 59)).cell? ⟨w0.heap.size, 0, none⟩ = some (.func (.func 49) #[] #[.pointer (some ⟨V, 0, none⟩), .pointer (some ⟨I, 0, none⟩)]) := by rw [World.cell?_alloc_new]; rfl
  have c2 : (w0.alloc (Obj.cells #[.func (.func 49) #[] #[.pointer (some ⟨V, 0, none⟩), .pointer (some ⟨I, 0, none⟩)], .func (.func 50) #[] #[.pointer (some ⟨V, 0, none⟩), .pointer (some ⟨F, 0, none⟩), .pointer (some ⟨X, 0, none⟩)]] 59)).cell? ⟨w0.heap.size, 1, none⟩ = some (.func (.func 50) #[] #[.pointer (some ⟨V, 0, none⟩), .pointer (some ⟨F, 0, none⟩), .pointer (some ⟨X, 0, none⟩)]) := by rw [World.cell?_alloc_new]; rfl
  generalize (w0.alloc (Obj.cells #[.func (.func 49) #[] #[.pointer (some ⟨V, 0, none⟩), .pointer (some ⟨I, 0, none⟩)], .func (.func 50) #[] #[.pointer (some ⟨V, 0, none⟩), .pointer (some ⟨F, 0, none⟩), .pointer (some ⟨X, 0, none⟩)]] 59)) = WL at *
  have hs := b0.size
  have g0 : w0.grownBy WL (some V) := gb_below b0 (Nat.le_refl _) _
  have hVL : V < WL.heap.size := Nat.lt_of_lt_of_le hV hs
  have fV : ∀ o, WL.frozen? ⟨V, o, none⟩ = false := fun o => (World.frozen?_of_block (w := w0) (a := ⟨V, o, none⟩) (b0.block V hV)).trans (hc.vf o)
  have A0 : AftE WL S V s WL := ⟨p, hc.v.below b0, fV, hz, (hst.below b0).keep fun b _ hb => ⟨⟨fun e => by have := hS b hb; omega, .inl hb⟩, rfl⟩, gb_refl _ _⟩
  have hf1 := cell_below b0 hc.f.1
  have hf2 := cell_below b0 hc.f.2
  have hxb := hc.x.below b0
  have hxr := hx.below b0
  refine (first_two w0.heap.size _ _ #[.pointer (some ⟨V, 0, none⟩), .pointer (some ⟨I, 0, none⟩)] #[.pointer (some ⟨V, 0, none⟩), .pointer (some ⟨F, 0, none⟩), .pointer (some ⟨X, 0, none⟩)] d1Enters d2Enters g v2 v hgv (AftE WL S V q) (AftE WL S V r2) WL c1 (d1_s i g hq hg hVL WL A0 (cell_below b0 hc.i)) (fun _ w' h => ?_) (fun _ w' h => ?_)).mono ?_
  · obtain ⟨p', h⟩ := h
    exact gb_cell h.g c2 (fun e => by injection e with e; have e : w0.heap.size = V := e; omega)
  · have h0 := h
    obtain ⟨p', h⟩ := h
    exact d2_s v2 hr2 hv2 hkb fx hVL w' h0 ⟨gb_cell h.g hf1 (fun e => hF (by injection e)), gb_cell h.g hf2 (fun e => hF (by injection e))⟩
      ⟨gb_cell h.g hxb.1 (fun e => hX (by injection e)), gb_cell h.g hxb.2.1 (fun e => hX (by injection e)), gb_cell h.g hxb.2.2.1 (fun e => hX (by injection e)), gb_cell h.g hxb.2.2.2 (fun e => hX (by injection e))⟩
      (hxr.keep fun b hb hbu => ⟨trivial, h.g.block b hb (fun e => by injection e with e; have hbu : b < u := hbu; omega)⟩)
  · rintro e w' ⟨rfl, h⟩
    refine ⟨rfl, ?_, fun h0 => ?_⟩
    · split at h
      · obtain ⟨p', h⟩ := h
        exact gb_trans g0 h.g
      · obtain ⟨p', h⟩ := h
        exact gb_trans g0 h.g
    · rw [if_pos h0] at hrr
      obtain ⟨e1, e2⟩ := hrr
      rw [if_pos e2, e1] at h
      obtain ⟨p', h⟩ := h
      exact ⟨p', h.since g0⟩

set_option maxRecDepth 20000 in
set_option maxHeartbeats 6400000 in
theorem chg_s (S : Nat → Prop) (p : Pl) (s r : St) (i : Int) (x : Tsk) (D : Option Addr) (k d : Nat) (hk : x.2.2.2.length = k) (hkb : k ≤ 100000) (fx : Fit x.1 ∧ Fit x.2.1 ∧ Fit x.2.2.1) (P B : Int) (v : Nat) (hr : chgS s P B i x = r) (hv : chgE s P B i x = v) (w : World) (hS : ∀ b, S b → b < w.heap.size) (hz : Sz s) (HST : StS w S p s) (hx : Rd w D d x.2.2.2) :
    Calls Tryz.prog 20 #[(.agg #[.slice p.A s.tasks.length p.a, .slice p.B s.leaves.length p.b, .slice p.C s.lasts.length p.c, .slice p.D s.jobs.length p.d, .slice p.E s.log.length p.e]), .agg #[.int .i64 P, .int .i64 B], .int .i64 i, .agg #[.int .i64 x.1, .int .i64 x.2.1, .int .i64 x.2.2.1, .slice D k d]] w (StOf S r v w) := by
  subst hk
  obtain ⟨q, hq⟩ : ∃ q, leaveS s i = q := ⟨_, rfl⟩
  obtain ⟨g, hg⟩ : ∃ g, leaveE s i = g := ⟨_, rfl⟩
  obtain ⟨r2, hr2⟩ : ∃ r2, admS q P B x = r2 := ⟨_, rfl⟩
  obtain ⟨v2, hv2⟩ : ∃ v2, admE q P B x = v2 := ⟨_, rfl⟩
  have hgv : (if g = 0 then v2 else g) = v := by
    by_cases g0 : g = 0
    · rw [if_pos g0, ← hv, chg_on (by omega), hq, hv2]
    · rw [if_neg g0, ← hv]
      exact (chg_out hg g0).1.symm
  have hrr : (if v = 0 then r2 = r ∧ g = 0 else s = r) := by
    split
    · rename_i h0
      by_cases g0 : g = 0
      · rw [if_pos g0] at hgv
        refine ⟨?_, g0⟩
        rw [← hr, chgS_on (by omega) (by rw [hq]; omega), hq, hr2]
      · rw [if_neg g0] at hgv
        omega
    · rename_i h0
      rw [← hr]
      unfold chgS
      rw [hv, if_neg h0]
  have HGV := Lib.hid hgv
  have HRR := Lib.hid hrr
  have HQ0 := Lib.hid hq
  have HG0 := Lib.hid hg
  have HR2 := Lib.hid hr2
  have HV2 := Lib.hid hv2
  obtain ⟨hc, hb⟩ := chg_new w p s P B i x D d
  have HC := Lib.hid hc
  have B0 := Lib.hid hb
  have HX2 : Hid (RdS ((((((w.alloc (Obj.cells #[.slice p.A s.tasks.length p.a, .slice p.B s.leaves.length p.b, .slice p.C s.lasts.length p.c, .slice p.D s.jobs.length p.d, .slice p.E s.log.length p.e] 35)).alloc (Obj.cells #[.int .i64 P, .int .i64 B] 23)).alloc (Obj.cells #[.int .i64 i] 3)).alloc (Obj.cells #[.int .i64 x.1, .int .i64 x.2.1, .int .i64 x.2.2.1, .slice D x.2.2.2.length d] 47)).alloc (Obj.cells #[.slice none 0 0, .slice none 0 0, .slice none 0 0, .slice none 0 0, .slice none 0 0] 35)).alloc (Obj.cells #[.slice p.A s.tasks.length p.a, .slice p.B s.leaves.length p.b, .slice p.C s.lasts.length p.c, .slice p.D s.jobs.length p.d, .slice p.E s.log.length p.e] 35)) (fun b => b < w.heap.size) D d x.2.2.2) := (hx.keep fun b hb _ => ⟨hb, rfl⟩ : RdS w (fun b => b < w.heap.size) D d x.2.2.2).below hb
  have HH := Lib.hid (HST.below hb)
  have HSZ := Lib.hid hz
  have HSS := Lib.hid hS
  have FX := Lib.hid fx
  have HKB := Lib.hid hkb
  clear hgv hrr hq hg hr2 hv2 hc hb hr hv HST hx hz hS fx hkb
  go_enter Tryz.func20, Tryz.ntmps20
  go_upto_region 2 with fail
  generalize (((((w.alloc (Obj.cells #[.slice p.A s.tasks.length p.a, .slice p.B s.leaves.length p.b, .slice p.C s.lasts.length p.c, .slice p.D s.jobs.length p.d, .slice p.E s.log.length p.e] 35)).alloc (Obj.cells #[.int .i64 P, .int .i64 B] 23)).alloc (Obj.cells #[.int .i64 i] 3)).alloc (Obj.cells #[.int .i64 x.1, .int .i64 x.2.1, .int .i64 x.2.2.1, .slice D x.2.2.2.length d] 47)).alloc (Obj.cells #[.slice none 0 0, .slice none 0 0, .slice none 0 0, .slice none 0 0, .slice none 0 0] 35)).alloc (Obj.cells #[.slice p.A s.tasks.length p.a, .slice p.B s.leaves.length p.b, .slice p.C s.lasts.length p.c, .slice p.D s.jobs.length p.d, .slice p.E s.log.length p.e] 35) = w0 at *
  obtain ⟨Y, hY⟩ : ∃ Y, w.heap.size = Y := ⟨_, rfl⟩
  obtain ⟨F, hF⟩ : ∃ F, Y + 1 = F := ⟨_, rfl⟩
  obtain ⟨I, hI⟩ : ∃ I, F + 1 = I := ⟨_, rfl⟩
  obtain ⟨X, hX⟩ : ∃ X, I + 1 = X := ⟨_, rfl⟩
  obtain ⟨Z, hZ⟩ : ∃ Z, X + 1 = Z := ⟨_, rfl⟩
  obtain ⟨V, hV⟩ : ∃ V, Z + 1 = V := ⟨_, rfl⟩
  have HZ : Hid (w.heap.size ≤ Z) := by show _ ≤ _; omega
  have HVV : Hid (w.heap.size ≤ V ∧ Y ≠ V ∧ Z ≠ V ∧ F ≠ V ∧ X ≠ V) := by show _ ∧ _; omega
  rw [hY, show Y + 1 = F from hF, show Y + 2 = I by omega, show Y + 3 = X by omega, show Y + 4 = Z by omega, show Y + 5 = V by omega] at HC
  rw [hY, hF, hI, hX, hZ, hV]
  have HFI := Lib.hid (chg_first HC.out HVV.out.2.2.2.1 HVV.out.2.2.2.2 HVV.out.1 HSS.out HSZ.out HH.out HX2.out HQ0.out HG0.out HR2.out HV2.out HGV.out HRR.out HKB.out FX.out)
  clear hY hF hI hX hZ hV
  go_cut [11] (fun s11 wx => s11 = .int .i64 v ∧ Met w0 S V v r wx)
  case first =>
    go_wp2_with fail
    refine HFI.out.mono ?_
    rintro e w1 ⟨rfl, m1⟩
    have M1 := Lib.hid m1
    clear m1
    go_wp2_with fail
    go_meet
    exact ⟨rfl, M1.out⟩
  case rest =>
    obtain ⟨rfl, hm⟩ := hcut
    have HM := Lib.hid hm.2
    have HR : Hid (Res wc Z) := HC.out.z.gb hm.1 (fun e => HVV.out.2.2.1 (by injection e))
    have BF : Hid (Below w.heap.size w wc) := below_of_gb B0.out hm.1 B0.out.size (fun k hk => by injection hk with hk; have := HVV.out.1; omega)
    have hy : ∀ {o : Nat} {u : Value}, w0.cell? ⟨Y, o, none⟩ = some u → wc.cell? ⟨Y, o, none⟩ = some u := fun h => gb_cell hm.1 h (fun e => HVV.out.2.1 (by injection e))
    have HSB : Hid (StS wc S p s) := HH.out.gb hm.1 (fun b hb e => by injection e with e; have := HSS.out b hb; have := HVV.out.1; omega)
    have y0 := hy HC.out.y.c0
    have y1 := hy HC.out.y.c1
    have y2 := hy HC.out.y.c2
    have y3 := hy HC.out.y.c3
    have y4 := hy HC.out.y.c4
    clear hm hy HFI HGV HQ0 HG0 HR2 HV2
    by_cases h0 : v = 0
    · subst h0
      clear y0 y1 y2 y3 y4
      obtain ⟨p3, ha⟩ := HM.out rfl
      obtain ⟨y0, y1, y2, y3, y4⟩ := ha.c
      have HZR := Lib.hid ha.z
      have HQ : Hid (StS wc (fun b => b ≠ Z ∧ Upw S w b) p3 r) := ha.st.keep fun b _ hb => ⟨⟨fun e => by
        have h1 := HC.out.z.lt
        have h2 := HZ.out
        rcases hb.2 with h3 | h3
        · have := HSS.out b h3; omega
        · omega, hb.2.imp id (fun h => Nat.le_trans B0.out.size h)⟩, rfl⟩
      clear ha HM HRR
      have z0 := HR.out.z.c0
      have z1 := HR.out.z.c1
      have z2 := HR.out.z.c2
      have z3 := HR.out.z.c3
      have z4 := HR.out.z.c4
      unfold noPl noSt at z0 z1 z2 z3 z4
      simp only [List.length_nil] at z0 z1 z2 z3 z4
      have g0 := HR.out.f 0
      have g1 := HR.out.f 1
      have g2 := HR.out.f 2
      have g3 := HR.out.f 3
      have g4 := HR.out.f 4
      go_wp2_with fail
      change bodyPost _ _ _ _ _ (putS wc Z p3 r)
      obtain ⟨h1, h2⟩ := done_at (S := S) (w := w) (v := 0) HR.out.z HQ.out HZR.out HZ.out BF.out
      generalize putS wc Z p3 r = W at h1 h2 ⊢
      have k0 := h2.c0
      have k1 := h2.c1
      have k2 := h2.c2
      have k3 := h2.c3
      have k4 := h2.c4
      refine bodyPost_ret (v := .tuple #[(.agg #[.slice p3.A r.tasks.length p3.a, .slice p3.B r.leaves.length p3.b, .slice p3.C r.lasts.length p3.c, .slice p3.D r.jobs.length p3.d, .slice p3.E r.log.length p3.e]), .int .i64 0]) (by simp [results, Tryz.results20, go_sem, k0, k1, k2, k3, k4]) rfl h1
    · have e2 : s = r := by have := HRR.out; rw [if_neg h0] at this; exact this
      subst e2
      have i1 : ¬ (v : Int) = 0 := by omega
      have i2 : ((v : Int) == 0) = false := beq_eq_false_iff_ne.2 i1
      clear h0 HM HRR
      have HZR := HSZ
      have HQ : Hid (StS wc (fun b => b ≠ Z ∧ Upw S w b) p s) := HSB.out.keep fun b _ hb => ⟨⟨fun e => by have := HSS.out b hb; have := HZ.out; omega, .inl hb⟩, rfl⟩
      have z0 := HR.out.z.c0
      have z1 := HR.out.z.c1
      have z2 := HR.out.z.c2
      have z3 := HR.out.z.c3
      have z4 := HR.out.z.c4
      unfold noPl noSt at z0 z1 z2 z3 z4
      simp only [List.length_nil] at z0 z1 z2 z3 z4
      have g0 := HR.out.f 0
      have g1 := HR.out.f 1
      have g2 := HR.out.f 2
      have g3 := HR.out.f 3
      have g4 := HR.out.f 4
      go_wp2_with fail
      change bodyPost _ _ _ _ _ (putS wc Z p s)
      obtain ⟨h1, h2⟩ := done_at (S := S) (w := w) (v := v) HR.out.z HQ.out HZR.out HZ.out BF.out
      generalize putS wc Z p s = W at h1 h2 ⊢
      have k0 := h2.c0
      have k1 := h2.c1
      have k2 := h2.c2
      have k3 := h2.c3
      have k4 := h2.c4
      refine bodyPost_ret (v := .tuple #[(.agg #[.slice p.A s.tasks.length p.a, .slice p.B s.leaves.length p.b, .slice p.C s.lasts.length p.c, .slice p.D s.jobs.length p.d, .slice p.E s.log.length p.e]), .int .i64 v]) (by simp [results, Tryz.results20, go_sem, k0, k1, k2, k3, k4]) rfl h1

end Pm
end Go.Proofs.YtdjjdebnbaaihaaGreat

