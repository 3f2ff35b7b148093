/-
  Merged texts: AdmitBoot, AdmitConds, AdmitLast, AdmitAdd, AdmitCalls.
-/
import Derived.Test.YtdjjdebnbaaihaaGadmit
import Derived.Test.YtdjjdebnbaaihaaGlaw20
import Derived.Test.YtdjjdebnbaaihaaGpart
import Derived.Deep.DeepCutAuto
import Derived.Test.YtdjjdebnbaaihaaGtask
import Derived.Test.YtdjjdebnbaaihaaGsupply
import Derived.Test.YtdjjdebnbaaihaaGjob
/-
  Layer 20 (admit): Boot.
-/
namespace Go.Proofs.Ytdjjdebnbaaihaa
open Go.RowKit Mm Tk Vd
namespace Pm
open Ad

/-- a partition in block Y -/
def Pt (Y : Nat) (P B : Int) (A : Option Addr) (n c : Nat) (w : World) : Prop := w.cell? ⟨Y, 0, none⟩ = some (.int .i64 P) ∧ w.cell? ⟨Y, 1, none⟩ = some (.int .i64 B) ∧ w.cell? ⟨Y, 2, none⟩ = some (.slice A n c)
theorem Pt.below {Y : Nat} {P B : Int} {A : Option Addr} {n c : Nat} {w w' : World} (h : Pt Y P B A n c w) (b : Below w.heap.size w w') : Pt Y P B A n c w' := ⟨cell_below b h.1, cell_below b h.2.1, cell_below b h.2.2⟩
theorem b1Enters : ∀ args w, (callFunc 32 args).run Try.prog w = .ok (.enter 32 args) w := enters_of Try.func32 (by kernel_rfl) rfl
theorem b2Enters : ∀ args w, (callFunc 33 args).run Try.prog w = .ok (.enter 33 args) w := enters_of Try.func33 (by kernel_rfl) rfl
theorem b1_v {Y : Nat} {P B : Int} {A : Option Addr} {n c : Nat} {L : List Tsk} (v : Bool) (hv : (Sp.rightB P B && allB L) = v) (hn : L.length = n) (w : World) (h : Pt Y P B A n c w) (H : TL w A c L) : ∀ W, Below w.heap.size w W →
    Calls Try.prog 32 #[.pointer (some ⟨Y, 0, none⟩)] W fun e w' => e = .returned (.bool v) ∧ Below W.heap.size W w' := fun W b => by
  obtain ⟨c1, c2, c3⟩ := h.below b
  have HT := Lib.hid (H.below b)
  clear h b H
  cases h1 : Sp.rightB P B with
  | false =>
    rw [h1] at hv
    have hv : false = v := hv
    subst hv
    clear hn
    go_enter Try.func32, Try.ntmps32
    go_wp2_with fail
    refine (Sp.right_v P B _ h1 _).mono ?_
    rintro e w1 ⟨rfl, b1⟩
    have B1 := Lib.hid b1
    clear b1 c1 c2 c3
    go_wp2_with fail
    go_ret
    exact ⟨rfl, B1.out⟩
  | true =>
    rw [h1] at hv
    have hv : allB L = v := hv
    have HA := Lib.hid (fun W (HT : TL W A c L) => all_any A c L W HT.1 HT.2.1 HT.2.2)
    rw [hn, hv] at HA
    clear hv hn
    go_enter Try.func32, Try.ntmps32
    go_wp2_with fail
    refine (Sp.right_v P B _ h1 _).mono ?_
    rintro e w1 ⟨rfl, b1⟩
    have B1 := Lib.hid b1
    replace c3 := cell_below b1 c3
    replace HT := Lib.hid (HT.out.below b1)
    clear b1 c1 c2
    go_wp2_with fail
    refine (HA.out _ HT.out).mono ?_
    rintro e w2 ⟨rfl, b2⟩
    have B2 := Lib.hid (below_step B1.out b2)
    clear b2 c3 HA
    go_wp2_with fail
    go_ret
    exact ⟨rfl, B2.out⟩
theorem b2_ok {Y : Nat} {P B : Int} {A : Option Addr} {n c : Nat} {L : List Tsk} (v : Nat) (hv : fitE L P B = v) (hn : L.length = n) (w : World) (h : Pt Y P B A n c w) (H : TL w A c L) : CndOk ⟨33, #[.pointer (some ⟨Y, 0, none⟩)], v⟩ w :=
  ⟨b2Enters, fun W b => by
    obtain ⟨c1, c2, c3⟩ := h.below b
    have HF := Lib.hid (fit_s A c L n hn P B v hv W (H.below b))
    show Calls Try.prog 33 #[.pointer (some ⟨Y, 0, none⟩)] W _
    clear h b H hv hn
    go_enter Try.func33, Try.ntmps33
    go_wp2_with fail
    refine HF.out.mono ?_
    rintro e w1 ⟨rfl, b1⟩
    have B1 := Lib.hid b1
    clear b1 c1 c2 c3 HF
    go_wp2_with fail
    go_ret
    exact ⟨rfl, B1.out⟩⟩

/-- the two conditions, and the first error of them -/
theorem boot_first (L : List Tsk) (P B : Int) (a c : Nat) (ha : (if (Sp.rightB P B && allB L) then 0 else 1) = a) (hc : fitE L P B = c) (g1 g2 : Nat) (l1 l2 : Array Value) : firstE [⟨g1, l1, a⟩, ⟨g2, l2, c⟩] = bootE L P B := by
  subst ha hc
  cases h1 : Sp.rightB P B with
  | false => rw [bootE_face h1]; rfl
  | true =>
    cases h2 : allB L with
    | false => rw [bootE_tasks h2]; rfl
    | true =>
      rw [bootE_fit h1 h2]
      show (if fitE L P B = 0 then 0 else fitE L P B) = _
      split
      · omega
      · rfl

set_option maxRecDepth 20000 in
set_option maxHeartbeats 3200000 in
theorem boot_s (A : Option Addr) (c : Nat) (L : List Tsk) (n : Nat) (hn : L.length = n) (P B : Int) (r : St) (v : Nat) (hr : bootS L P B = r) (hv : bootE L P B = v) (h1 : n ≤ 100000) (h2 : ∀ j, j < L.length → (at_ L j).2.2.2.length ≤ 100000) (w : World) (H : Rd w A c L) :
    Calls Try.prog 13 #[.agg #[.int .i64 P, .int .i64 B, .slice A n c]] w (StOf (fun _ => False) r v w) := by
  have B0 := Lib.hid (below_two w (Obj.cells #[.int .i64 P, .int .i64 B, .slice A n c] 47) (Obj.cells #[.slice none 0 0, .slice none 0 0, .slice none 0 0, .slice none 0 0, .slice none 0 0] 28))
  have HP : Hid (Pt w.heap.size P B A n c ((w.alloc (Obj.cells #[.int .i64 P, .int .i64 B, .slice A n c] 47)).alloc (Obj.cells #[.slice none 0 0, .slice none 0 0, .slice none 0 0, .slice none 0 0, .slice none 0 0] 28))) := Pt.below (pt_new w P B A n c) (below_one _ _)
  have HZ0 : Hid (Res ((w.alloc (Obj.cells #[.int .i64 P, .int .i64 B, .slice A n c] 47)).alloc (Obj.cells #[.slice none 0 0, .slice none 0 0, .slice none 0 0, .slice none 0 0, .slice none 0 0] 28)) (w.heap.size + 1)) := ⟨cs_new _ noPl noSt _ _ (by simp), fun o => fr_new _ _ _ _ (by simp) o⟩
  have HT : Hid (TL ((w.alloc (Obj.cells #[.int .i64 P, .int .i64 B, .slice A n c] 47)).alloc (Obj.cells #[.slice none 0 0, .slice none 0 0, .slice none 0 0, .slice none 0 0, .slice none 0 0] 28)) A c L) := ⟨by omega, fun j hj => by have := h2 j hj; omega, H.below B0.out⟩
  obtain ⟨a1, ha⟩ : ∃ a, (if (Sp.rightB P B && allB L) then 0 else 1) = a := ⟨_, rfl⟩
  obtain ⟨a3, hc⟩ : ∃ a, fitE L P B = a := ⟨_, rfl⟩
  have HF := Lib.hid (fun g1 g2 l1 l2 => (boot_first L P B a1 a3 ha hc g1 g2 l1 l2).trans hv)
  have HNE := Lib.hid (new_s A c L n hn)
  have H1 := Lib.hid h1
  have H2 := Lib.hid h2
  have HA1 := Lib.hid ha
  have HA3 := Lib.hid hc
  have HN := Lib.hid hn
  clear H ha hc h1 h2 hn
  go_enter Try.func13, Try.ntmps13
  go_upto_region 1 with fail
  generalize (w.alloc (Obj.cells #[.int .i64 P, .int .i64 B, .slice A n c] 47)).alloc (Obj.cells #[.slice none 0 0, .slice none 0 0, .slice none 0 0, .slice none 0 0, .slice none 0 0] 28) = w0 at *
  obtain ⟨Y, hY⟩ : ∃ Y, w.heap.size = Y := ⟨_, rfl⟩
  obtain ⟨Z, hZ⟩ : ∃ Z, Y + 1 = Z := ⟨_, rfl⟩
  have HZ : Hid (w.heap.size ≤ Z) := by show _ ≤ _; omega
  rw [hY] at HP HZ0
  rw [hZ] at HZ0
  rw [hY, hZ]
  clear hZ hY
  go_cut [4] (fun s4 wx => s4 = .int .i64 v ∧ Below w0.heap.size w0 wx)
  case first =>
    have BR : Hid (Below w0.heap.size w0 w0) := Below.refl _ _
    go_wp2_with fail
    refine (unless_v 1 32 #[.pointer (some ⟨Y, 0, none⟩)] _).mono ?_
    rintro e w1 ⟨X1, Y1, rfl, c1, d1, b1⟩
    have B1 := Lib.hid (below_step BR.out b1)
    have C1 := Lib.hid (unless1_ok _ _ _ 1 a1 HA1.out b1Enters X1 Y1 w1 c1 d1 (b1_v _ rfl HN.out w1 (HP.out.below B1.out) (HT.out.below B1.out)))
    have C2 := Lib.hid (b2_ok a3 HA3.out HN.out w1 (HP.out.below B1.out) (HT.out.below B1.out))
    clear c1 d1 b1
    go_wp2_with fail
    refine (first_lit _ _ [⟨45, #[.pointer (some ⟨X1, 0, none⟩), .pointer (some ⟨Y1, 0, none⟩)], a1⟩, ⟨33, #[.pointer (some ⟨Y, 0, none⟩)], a3⟩] rfl 2 rfl (by decide) w1 (ok_cons C1.out (ok_cons C2.out (ok_nil _))) v (HF.out _ _ _ _)).mono ?_
    rintro e w5 ⟨rfl, b5⟩
    have B5 := Lib.hid (below_step B1.out b5)
    clear b5
    go_wp2_with fail
    go_meet
    exact ⟨rfl, B5.out⟩
  case rest =>
    obtain ⟨rfl, b6⟩ := hcut
    replace HP := Lib.hid (HP.out.below b6)
    replace HZ0 := Lib.hid (HZ0.out.below b6)
    replace HT := Lib.hid (HT.out.below b6)
    have BW := Lib.hid (below_step B0.out b6)
    clear b6 HF HA1 HA3
    by_cases h0 : v = 0
    · subst h0
      have hal : allB L = true := boot_ok hv
      have e1 : r = newS L := by rw [← hr]; unfold bootS; rw [hv, if_pos rfl]
      subst e1
      have HNN := Lib.hid (HNE.out (newS L) 0 (by rw [hal]; rfl) (by rw [hal]; rfl) H1.out H2.out)
      clear hr hv hal HNE
      obtain ⟨y0, y1, y2⟩ := HP.out
      go_wp2_with fail
      refine (HNN.out _ HT.out.2.2).mono ?_
      rintro e w7 ⟨p1, rfl, h3, b7⟩
      have HR := Lib.hid (HZ0.out.below b7)
      have HQ := Lib.hid (up_res (S := fun _ => False) (w := w) (fun b h => absurd h id) ⟨HZ.out, HZ0.out.lt⟩ h3.2)
      have HZR := Lib.hid h3.1
      have BF := Lib.hid (below_step BW.out b7)
      clear h3 b7 y0 y1 y2 HZ0
      have z0 := HR.out.z.c0
      have z1 := HR.out.z.c1
      have z2 := HR.out.z.c2
      have z3 := HR.out.z.c3
      have z4 := HR.out.z.c4
      unfold noPl noSt at z0 z1 z2 z3 z4
      simp only [List.length_nil] at z0 z1 z2 z3 z4
      have g0 := HR.out.f 0
      have g1 := HR.out.f 1
      have g2 := HR.out.f 2
      have g3 := HR.out.f 3
      have g4 := HR.out.f 4
      go_wp2_with fail
      change bodyPost _ _ _ _ _ (putS w7 Z p1 (newS L))
      obtain ⟨h1, h2⟩ := done_at (S := fun _ => False) (w := w) (v := 0) HR.out.z HQ.out HZR.out HZ.out BF.out
      generalize putS w7 Z p1 (newS L) = W at h1 h2 ⊢
      have k0 := h2.c0
      have k1 := h2.c1
      have k2 := h2.c2
      have k3 := h2.c3
      have k4 := h2.c4
      refine bodyPost_ret (v := .tuple #[(.agg #[.slice p1.A (newS L).tasks.length p1.a, .slice p1.B (newS L).leaves.length p1.b, .slice p1.C (newS L).lasts.length p1.c, .slice p1.D (newS L).jobs.length p1.d, .slice p1.E (newS L).log.length p1.e]), .int .i64 0]) (by simp [results, Try.results13, go_sem, k0, k1, k2, k3, k4]) rfl h1
    · have e1 : r = noSt := by rw [← hr]; unfold bootS; rw [hv, if_neg h0]
      subst e1
      have i1 : ¬ (v : Int) = 0 := by omega
      have i2 : ((v : Int) == 0) = false := beq_eq_false_iff_ne.2 i1
      clear hr hv HNE h0
      have HR := HZ0
      have HZR : Hid (Sz noSt) := ⟨Nat.zero_le _, fun j hj => by simp [noSt] at hj, Nat.zero_le _, Nat.zero_le _, Nat.zero_le _, Nat.zero_le _⟩
      have HQ : Hid (StS wc (fun b => b ≠ Z ∧ Upw (fun _ => False) w b) noPl noSt) := ⟨rd_nil (fun _ => rfl) (by unfold maxLen; exact Nat.zero_le _), rd_nil (fun _ => rfl) (by unfold maxLen; exact Nat.zero_le _), rd_nil (fun _ => rfl) (by unfold maxLen; exact Nat.zero_le _), rd_nil (fun _ => rfl) (by unfold maxLen; exact Nat.zero_le _), rd_nil (fun _ => rfl) (by unfold maxLen; exact Nat.zero_le _)⟩
      have BF := BW
      have z0 := HZ0.out.z.c0
      have z1 := HZ0.out.z.c1
      have z2 := HZ0.out.z.c2
      have z3 := HZ0.out.z.c3
      have z4 := HZ0.out.z.c4
      unfold noPl noSt at z0 z1 z2 z3 z4
      simp only [List.length_nil] at z0 z1 z2 z3 z4
      have g0 := HZ0.out.f 0
      have g1 := HZ0.out.f 1
      have g2 := HZ0.out.f 2
      have g3 := HZ0.out.f 3
      have g4 := HZ0.out.f 4
      go_wp2_with fail
      change bodyPost _ _ _ _ _ (putS wc Z noPl (noSt))
      obtain ⟨h1, h2⟩ := done_at (S := fun _ => False) (w := w) (v := v) HR.out.z HQ.out HZR.out HZ.out BF.out
      generalize putS wc Z noPl (noSt) = W at h1 h2 ⊢
      have k0 := h2.c0
      have k1 := h2.c1
      have k2 := h2.c2
      have k3 := h2.c3
      have k4 := h2.c4
      refine bodyPost_ret (v := .tuple #[(.agg #[.slice noPl.A noSt.tasks.length noPl.a, .slice noPl.B noSt.leaves.length noPl.b, .slice noPl.C noSt.lasts.length noPl.c, .slice noPl.D noSt.jobs.length noPl.d, .slice noPl.E noSt.log.length noPl.e]), .int .i64 v]) (by simp [results, Try.results13, go_sem, k0, k1, k2, k3, k4]) rfl h1

end Pm
end Go.Proofs.Ytdjjdebnbaaihaa

/-
  Layer 20 (admit): the conditions of Add.
-/
namespace Go.Proofs.Ytdjjdebnbaaihaa
open Go.RowKit Mm Tk Vd
namespace Pm
open Ad

theorem a1Enters : ∀ args w, (callFunc 21 args).run Try.prog w = .ok (.enter 21 args) w := enters_of Try.func21 (by kernel_rfl) rfl
theorem a2Enters : ∀ args w, (callFunc 24 args).run Try.prog w = .ok (.enter 24 args) w := enters_of Try.func24 (by kernel_rfl) rfl
theorem a3Enters : ∀ args w, (callFunc 25 args).run Try.prog w = .ok (.enter 25 args) w := enters_of Try.func25 (by kernel_rfl) rfl
theorem a4Enters : ∀ args w, (callFunc 27 args).run Try.prog w = .ok (.enter 27 args) w := enters_of Try.func27 (by kernel_rfl) rfl
set_option maxRecDepth 20000 in
set_option maxHeartbeats 1600000 in
theorem a1_v {Y F X : Nat} {p : Pl} {s : St} {P B : Int} {x : Tsk} {D : Option Addr} {d : Nat} (v : Bool) (hv : (rightS s && Sp.rightB P B && rightT x) = v) (hk : x.2.2.2.length ≤ 100000) (w : World) (h : CS w Y p s) (H : SR w p s) (hf : w.cell? ⟨F, 0, none⟩ = some (.int .i64 P) ∧ w.cell? ⟨F, 1, none⟩ = some (.int .i64 B)) (hb : Box w X x.1 x.2.1 x.2.2.1 D x.2.2.2.length d) (hx : Rd w D d x.2.2.2) : ∀ W, Below w.heap.size w W →
    Calls Try.prog 21 #[.pointer (some ⟨Y, 0, none⟩), .pointer (some ⟨F, 0, none⟩), .pointer (some ⟨X, 0, none⟩)] W fun e w' => e = .returned (.bool v) ∧ Below W.heap.size W w' := fun W b => by
  obtain ⟨c0, c1, c2, c3, c4⟩ := h.below b
  have f1 := cell_below b hf.1
  have f2 := cell_below b hf.2
  have HB := Lib.hid (hb.below b)
  have HR := Lib.hid (H.below b)
  have HX := Lib.hid (hx.below b)
  have HT := Lib.hid (fun W h => Tk.right_any x.1 x.2.1 x.2.2.1 D d x.2.2.2 W (by omega) h)
  clear h b H hf hb hx
  cases h1 : rightS s with
  | false =>
    rw [h1] at hv
    have hv : false = v := hv
    subst hv
    go_enter Try.func21, Try.ntmps21
    go_wp2_with fail
    refine (right_s p s _ h1 _ HR.out).mono ?_
    rintro e w1 ⟨rfl, b1⟩
    have B1 := Lib.hid b1
    obtain ⟨x0, x1, x2, x3⟩ := HB.out.below b1
    replace f1 := cell_below b1 f1
    replace f2 := cell_below b1 f2
    replace HX := Lib.hid (HX.out.below b1)
    replace HB := Lib.hid (HB.out.below b1)
    clear b1 c0 c1 c2 c3 c4
    go_wp2_with fail
    go_ret
    exact ⟨rfl, B1.out⟩
  | true =>
    cases h2 : Sp.rightB P B with
    | false =>
      rw [h1, h2] at hv
      have hv : false = v := hv
      subst hv
      go_enter Try.func21, Try.ntmps21
      go_wp2_with fail
      refine (right_s p s _ h1 _ HR.out).mono ?_
      rintro e w1 ⟨rfl, b1⟩
      have B1 := Lib.hid b1
      obtain ⟨x0, x1, x2, x3⟩ := HB.out.below b1
      replace f1 := cell_below b1 f1
      replace f2 := cell_below b1 f2
      replace HX := Lib.hid (HX.out.below b1)
      replace HB := Lib.hid (HB.out.below b1)
      clear b1 c0 c1 c2 c3 c4
      go_wp2_with fail
      refine (Sp.right_v P B _ h2 _).mono ?_
      rintro e w2 ⟨rfl, b2⟩
      have B2 := Lib.hid (below_step B1.out b2)
      replace x0 := cell_below b2 x0
      replace x1 := cell_below b2 x1
      replace x2 := cell_below b2 x2
      replace x3 := cell_below b2 x3
      replace HX := Lib.hid (HX.out.below b2)
      clear b2 f1 f2
      go_wp2_with fail
      go_ret
      exact ⟨rfl, B2.out⟩
    | true =>
      rw [h1, h2] at hv
      have hv : rightT x = v := hv
      subst hv
      go_enter Try.func21, Try.ntmps21
      go_wp2_with fail
      refine (right_s p s _ h1 _ HR.out).mono ?_
      rintro e w1 ⟨rfl, b1⟩
      have B1 := Lib.hid b1
      obtain ⟨x0, x1, x2, x3⟩ := HB.out.below b1
      replace f1 := cell_below b1 f1
      replace f2 := cell_below b1 f2
      replace HX := Lib.hid (HX.out.below b1)
      replace HB := Lib.hid (HB.out.below b1)
      clear b1 c0 c1 c2 c3 c4
      go_wp2_with fail
      refine (Sp.right_v P B _ h2 _).mono ?_
      rintro e w2 ⟨rfl, b2⟩
      have B2 := Lib.hid (below_step B1.out b2)
      replace x0 := cell_below b2 x0
      replace x1 := cell_below b2 x1
      replace x2 := cell_below b2 x2
      replace x3 := cell_below b2 x3
      replace HX := Lib.hid (HX.out.below b2)
      clear b2 f1 f2
      go_wp2_with fail
      refine (HT.out _ HX.out).mono ?_
      rintro e w3 ⟨rfl, b3⟩
      have B3 := Lib.hid (below_step B2.out b3)
      clear b3 x0 x1 x2 x3 HT
      go_wp2_with fail
      go_ret
      exact ⟨rfl, B3.out⟩
set_option maxRecDepth 20000 in
theorem a2_v {Y : Nat} {p : Pl} {s : St} (v : Bool) (hv : decide (s.tasks.length < 8) = v) (w : World) (h : CS w Y p s) : ∀ W, Below w.heap.size w W →
    Calls Try.prog 24 #[.pointer (some ⟨Y, 0, none⟩)] W fun e w' => e = .returned (.bool v) ∧ Below W.heap.size W w' := fun W b => by
  obtain ⟨c0, c1, c2, c3, c4⟩ := h.below b
  clear h b c1 c2 c3 c4
  by_cases h8 : s.tasks.length < 8
  · rw [decide_eq_true h8] at hv
    subst hv
    have i1 : decide ((s.tasks.length : Int) < 8) = true := decide_eq_true (by omega)
    clear h8
    go_enter Try.func24, Try.ntmps24
    go_wp2_with fail
    go_ret
    exact ⟨rfl, Below.refl _ _⟩
  · rw [decide_eq_false h8] at hv
    subst hv
    have i1 : decide ((s.tasks.length : Int) < 8) = false := decide_eq_false (by omega)
    clear h8
    go_enter Try.func24, Try.ntmps24
    go_wp2_with fail
    go_ret
    exact ⟨rfl, Below.refl _ _⟩
theorem first_none (l : List Jb) : (firstI l true = -1 ∧ (l.any fun j => begJ j) = false) ∨ (firstI l true ≠ -1 ∧ (l.any fun j => begJ j) = true) := by
  cases h : l.any fun j => begJ j with
  | true =>
    obtain ⟨y, hy, hb⟩ := List.any_eq_true.1 h
    rcases firstI_of l true with ⟨e, h1⟩ | ⟨i, e, _⟩
    · exact absurd hb (h1 y hy)
    · exact .inr ⟨by omega, rfl⟩
  | false =>
    rcases firstI_of l true with ⟨e, h1⟩ | ⟨i, e, h1, h2, _⟩
    · exact .inl ⟨e, rfl⟩
    · have := List.any_eq_false.1 h _ (at_mem h1)
      exact absurd (isFirst_iff.1 h2).1 this
theorem a3_v {Y : Nat} {p : Pl} {s : St} (v : Bool) (hv : (!(s.jobs.any fun j => begJ j)) = v) (w : World) (h : CS w Y p s) (H : SR w p s) : ∀ W, Below w.heap.size w W →
    Calls Try.prog 25 #[.pointer (some ⟨Y, 0, none⟩)] W fun e w' => e = .returned (.bool v) ∧ Below W.heap.size W w' := fun W b => by
  obtain ⟨c0, c1, c2, c3, c4⟩ := h.below b
  have HR := Lib.hid (H.below b)
  obtain ⟨z, hz⟩ : ∃ z, firstI s.jobs true = z := ⟨_, rfl⟩
  have HF := Lib.hid (first_v p.D p.d s.jobs true z hz)
  have hn := first_none s.jobs
  clear h b c0 c1 c2 c4 H
  rcases hn with ⟨h1, h2⟩ | ⟨h1, h2⟩
  · rw [hz] at h1
    subst h1
    rw [h2] at hv
    have hv : true = v := hv
    subst hv
    clear hz h2
    go_enter Try.func25, Try.ntmps25
    go_wp2_with fail
    refine (HF.out _ (by have := HR.out.1.j; omega) HR.out.2.j).mono ?_
    rintro e w1 ⟨rfl, b1⟩
    have B1 := Lib.hid b1
    clear b1 c3
    go_wp2_with fail
    go_ret
    exact ⟨rfl, B1.out⟩
  · rw [hz] at h1
    rw [h2] at hv
    have hv : false = v := hv
    subst hv
    have i1 : ¬ z = -1 := h1
    have i2 : (z == -1) = false := beq_eq_false_iff_ne.2 h1
    clear hz h2 h1
    go_enter Try.func25, Try.ntmps25
    go_wp2_with fail
    refine (HF.out _ (by have := HR.out.1.j; omega) HR.out.2.j).mono ?_
    rintro e w1 ⟨rfl, b1⟩
    have B1 := Lib.hid b1
    clear b1 c3
    go_wp2_with fail
    go_ret
    exact ⟨rfl, B1.out⟩

end Pm
end Go.Proofs.Ytdjjdebnbaaihaa

/-
  Layer 20 (admit): the last condition of Add: all tasks, and the new one, fit.
-/
namespace Go.Proofs.Ytdjjdebnbaaihaa
open Go.RowKit Mm Tk Vd
namespace Pm
open Ad

set_option maxRecDepth 20000 in
set_option maxHeartbeats 3200000 in
theorem a4_ok {Y F X : Nat} {p : Pl} {s : St} {P B : Int} {x : Tsk} {D : Option Addr} {d : Nat} (v : Nat) (hv : fitE (s.tasks ++ [x]) P B = v) (n : Nat) (hn : s.tasks.length = n) (hn1 : n ≤ 100000) (hk : x.2.2.2.length ≤ 100000) (fx : Fit x.1 ∧ Fit x.2.1 ∧ Fit x.2.2.1) (w : World) (h : Ld Y F X p.A n p.a P B x D d w) (H : SR w p s) (hx : Rd w D d x.2.2.2) :
    CndOk ⟨27, #[.pointer (some ⟨Y, 0, none⟩), .pointer (some ⟨X, 0, none⟩), .pointer (some ⟨F, 0, none⟩)], v⟩ w :=
  ⟨a4Enters, fun W b => by
    have YB := Lib.hid (h.below b)
    have HR := H.below b
    have HX := Lib.hid (hx.below b)
    have HN := Lib.hid hn
    have TS := HR.1.ts
    have HLM : Hid ((s.tasks ++ [x]).length = n + 1) := by show _ = _; rw [List.length_append, hn]; rfl
    have HTM : Hid (∀ W A c, Rd W A c (s.tasks ++ [x]) → TL W A c (s.tasks ++ [x])) := fun W A c h => ⟨by rw [HLM.out]; omega, fun j hj => by
      rw [HLM.out] at hj
      by_cases e : j < s.tasks.length
      · rw [at_left e]; have := TS j e; omega
      · have e2 : j = s.tasks.length := by omega
        subst e2
        rw [at_right (Nat.le_refl _), Nat.sub_self]
        show x.2.2.2.length ≤ _
        omega, h⟩
    show Calls Try.prog 27 #[.pointer (some ⟨Y, 0, none⟩), .pointer (some ⟨X, 0, none⟩), .pointer (some ⟨F, 0, none⟩)] W _
    have BD := Lib.hid ((Below.refl W.heap.size W).drew)
    have BA := Lib.hid ((Below.refl W.heap.size W).drew.alloc (Nat.le_refl _) (Obj.cells #[.int .i64 x.1, .int .i64 x.2.1, .int .i64 x.2.2.1, .slice D x.2.2.2.length d] 33))
    have BB := Lib.hid (below_step BA.out (below_one _ (Obj.cells #[.slice p.A n p.a, .slice (some ⟨W.heap.size, 0, none⟩) 1 1] 22)))
    have bs : (W.drew.alloc (Obj.cells #[.int .i64 x.1, .int .i64 x.2.1, .int .i64 x.2.2.1, .slice D x.2.2.2.length d] 33)).heap.size = W.heap.size + 1 := World.size_alloc _ _
    have HL1 : Hid (RdS ((W.drew.alloc (Obj.cells #[.int .i64 x.1, .int .i64 x.2.1, .int .i64 x.2.2.1, .slice D x.2.2.2.length d] 33)).alloc (Obj.cells #[.slice p.A n p.a, .slice (some ⟨W.heap.size, 0, none⟩) 1 1] 22)) (fun _ => True) p.A p.a s.tasks) := HR.2.t.below BB.out
    have HD : Mm.Rows (W.drew.alloc (Obj.cells #[.int .i64 x.1, .int .i64 x.2.1, .int .i64 x.2.2.1, .slice D x.2.2.2.length d] 33)) (fun _ => True) [.int .i64 x.1, .int .i64 x.2.1, .int .i64 x.2.2.1, .slice D x.2.2.2.length d] [x] := rows_task x rfl fx.1 fx.2.1 fx.2.2 (HX.out.below BA.out) rows_none
    have HR1 : Hid (RdS ((W.drew.alloc (Obj.cells #[.int .i64 x.1, .int .i64 x.2.1, .int .i64 x.2.2.1, .slice D x.2.2.2.length d] 33)).alloc (Obj.cells #[.slice p.A n p.a, .slice (some ⟨W.heap.size, 0, none⟩) 1 1] 22)) (fun _ => True) (some ⟨W.heap.size, 0, none⟩) 1 [x]) := (rd_lit W.drew [x] 1 rfl #[.int .i64 x.1, .int .i64 x.2.1, .int .i64 x.2.2.1, .slice D x.2.2.2.length d] 33 (by decide) HD).below (below_one _ _)
    have HC0 : Hid (((W.drew.alloc (Obj.cells #[.int .i64 x.1, .int .i64 x.2.1, .int .i64 x.2.2.1, .slice D x.2.2.2.length d] 33)).alloc (Obj.cells #[.slice p.A n p.a, .slice (some ⟨W.heap.size, 0, none⟩) 1 1] 22)).cell? ⟨W.heap.size + 1, 0, none⟩ = some (.slice p.A n p.a)) := by
      show _ = _
      rw [← bs, World.cell?_alloc_new]; rfl
    have HC1 : Hid (((W.drew.alloc (Obj.cells #[.int .i64 x.1, .int .i64 x.2.1, .int .i64 x.2.2.1, .slice D x.2.2.2.length d] 33)).alloc (Obj.cells #[.slice p.A n p.a, .slice (some ⟨W.heap.size, 0, none⟩) 1 1] 22)).cell? ⟨W.heap.size + 1, 1, none⟩ = some (.slice (some ⟨W.heap.size, 0, none⟩) 1 1)) := by
      show _ = _
      rw [← bs, World.cell?_alloc_new]; rfl
    clear h b H hx HR TS hn hk fx HD bs
    go_enter Try.func27, Try.ntmps27
    go_wp2_with fail
    go_region_held3 (fun w' => w'.cell? ⟨Y, 0, none⟩ = some (.slice p.A n p.a) ∧ w'.cell? ⟨F, 0, none⟩ = some (.int .i64 P) ∧ w'.cell? ⟨F, 1, none⟩ = some (.int .i64 B) ∧ w'.cell? ⟨X, 0, none⟩ = some (.int .i64 x.1) ∧ w'.cell? ⟨X, 1, none⟩ = some (.int .i64 x.2.1) ∧ w'.cell? ⟨X, 2, none⟩ = some (.int .i64 x.2.2.1) ∧ w'.cell? ⟨X, 3, none⟩ = some (.slice D x.2.2.2.length d))
      (first
        | (exact Ld.below YB.out B3.out)
        | (exact Ld.below YB.out B2.out)
        | (exact Ld.below YB.out BB.out)
        | (exact Ld.below YB.out BA.out)
        | (exact Ld.below YB.out BD.out)
        | (exact YB.out))
      (first
        | (go_at_call 29
           refine (concat_task (fun _ => True) (W.heap.size + 1) p.A (some ⟨W.heap.size, 0, none⟩) p.a 1 s.tasks [x] n 1 HN.out rfl (by omega) _ HC0.out HC1.out HL1.out HR1.out).mono ?_
           rintro e w2 ⟨A2, c2, rfl, k1, k2⟩
           have R2 := Lib.hid (OwS.rd k1)
           have B2 := Lib.hid (below_step BB.out k2)
           clear k1 k2)
        | (go_at_call 28
           refine (fit_s A2 c2 (s.tasks ++ [x]) (n + 1) HLM.out P B v hv _ (HTM.out _ _ _ R2.out)).mono ?_
           rintro e w3 ⟨rfl, b3⟩
           have B3 := Lib.hid (below_step B2.out b3)
           clear b3))
    all_goals
      go_wp2_with fail
      go_ret
      exact ⟨rfl, B3.out⟩⟩

end Pm
end Go.Proofs.Ytdjjdebnbaaihaa

/-
  Layer 20 (admit): Add.
-/
namespace Go.Proofs.Ytdjjdebnbaaihaa
open Go.RowKit Mm Tk Vd
namespace Pm
open Ad

/-- the four conditions, and the first error of them -/
theorem add_first (s : St) (P B : Int) (x : Tsk) (a d e f : Nat) (ha : (if (rightS s && Sp.rightB P B && rightT x) then 0 else 1) = a) (hd : (if decide (s.tasks.length < 8) then 0 else 3) = d) (he : (if !(s.jobs.any fun j => begJ j) then 0 else 9) = e) (hf : fitE (s.tasks ++ [x]) P B = f)
    (g1 g2 g3 g4 : Nat) (l1 l2 l3 l4 : Array Value) : firstE [⟨g1, l1, a⟩, ⟨g2, l2, d⟩, ⟨g3, l3, e⟩, ⟨g4, l4, f⟩] = admE s P B x := by
  subst ha hd he hf
  cases h1 : rightS s with
  | false => rw [admE_bad (fun h => by rw [h1] at h; cases h.1)]; rfl
  | true =>
    cases h2 : Sp.rightB P B with
    | false => rw [admE_bad (fun h => by rw [h2] at h; cases h.2.1)]; rfl
    | true =>
      cases h3 : rightT x with
      | false => rw [admE_bad (fun h => by rw [h3] at h; cases h.2.2)]; rfl
      | true =>
        by_cases h8 : s.tasks.length < 8
        · rw [decide_eq_true h8]
          cases hb : s.jobs.any fun j => begJ j with
          | true => rw [admE_began ⟨h1, h2, h3⟩ (by omega) hb]; rfl
          | false =>
            rw [admE_fit ⟨h1, h2, h3⟩ (by omega) hb]
            show (if fitE (s.tasks ++ [x]) P B = 0 then 0 else fitE (s.tasks ++ [x]) P B) = _
            split
            · omega
            · rfl
        · rw [decide_eq_false h8, admE_full ⟨h1, h2, h3⟩ (by omega)]; rfl

set_option maxRecDepth 20000 in
set_option maxHeartbeats 6400000 in
theorem adm_s (S : Nat → Prop) (p : Pl) (s r : St) (x : Tsk) (D : Option Addr) (k d : Nat) (hk : x.2.2.2.length = k) (hkb : k ≤ 100000) (fx : Fit x.1 ∧ Fit x.2.1 ∧ Fit x.2.2.1) (P B : Int) (v : Nat) (hr : admS s P B x = r) (hv : admE s P B x = v) (w : World) (hS : ∀ b, S b → b < w.heap.size) (hz : Sz s) (HST : StS w S p s) (hx : Rd w D d x.2.2.2) :
    Calls Try.prog 9 #[(.agg #[.slice p.A s.tasks.length p.a, .slice p.B s.leaves.length p.b, .slice p.C s.lasts.length p.c, .slice p.D s.jobs.length p.d, .slice p.E s.log.length p.e]), .agg #[.int .i64 P, .int .i64 B], .agg #[.int .i64 x.1, .int .i64 x.2.1, .int .i64 x.2.2.1, .slice D k d]] w (StOf S r v w) := by
  subst hk
  have B3 := below_three w (Obj.cells #[.slice p.A s.tasks.length p.a, .slice p.B s.leaves.length p.b, .slice p.C s.lasts.length p.c, .slice p.D s.jobs.length p.d, .slice p.E s.log.length p.e] 28) (Obj.cells #[.int .i64 P, .int .i64 B] 30) (Obj.cells #[.int .i64 x.1, .int .i64 x.2.1, .int .i64 x.2.2.1, .slice D x.2.2.2.length d] 33)
  have HY3 := ((cs_new w p s _ 28 rfl).below (below_one _ (Obj.cells #[.int .i64 P, .int .i64 B] 30))).below (below_one _ (Obj.cells #[.int .i64 x.1, .int .i64 x.2.1, .int .i64 x.2.2.1, .slice D x.2.2.2.length d] 33))
  have YB3 : Ld w.heap.size (w.heap.size + 1) (w.heap.size + 2) p.A s.tasks.length p.a P B x D d (((w.alloc (Obj.cells #[.slice p.A s.tasks.length p.a, .slice p.B s.leaves.length p.b, .slice p.C s.lasts.length p.c, .slice p.D s.jobs.length p.d, .slice p.E s.log.length p.e] 28)).alloc (Obj.cells #[.int .i64 P, .int .i64 B] 30)).alloc (Obj.cells #[.int .i64 x.1, .int .i64 x.2.1, .int .i64 x.2.2.1, .slice D x.2.2.2.length d] 33)) := by
    obtain ⟨t1, t2⟩ := Sp.fc_new (w.alloc (Obj.cells #[.slice p.A s.tasks.length p.a, .slice p.B s.leaves.length p.b, .slice p.C s.lasts.length p.c, .slice p.D s.jobs.length p.d, .slice p.E s.log.length p.e] 28)) P B
    rw [World.size_alloc] at t1 t2
    have b := below_one ((w.alloc (Obj.cells #[.slice p.A s.tasks.length p.a, .slice p.B s.leaves.length p.b, .slice p.C s.lasts.length p.c, .slice p.D s.jobs.length p.d, .slice p.E s.log.length p.e] 28)).alloc (Obj.cells #[.int .i64 P, .int .i64 B] 30)) (Obj.cells #[.int .i64 x.1, .int .i64 x.2.1, .int .i64 x.2.2.1, .slice D x.2.2.2.length d] 33)
    obtain ⟨z1, z2, z3, z4⟩ := box_at ((w.alloc (Obj.cells #[.slice p.A s.tasks.length p.a, .slice p.B s.leaves.length p.b, .slice p.C s.lasts.length p.c, .slice p.D s.jobs.length p.d, .slice p.E s.log.length p.e] 28)).alloc (Obj.cells #[.int .i64 P, .int .i64 B] 30)) x.1 x.2.1 x.2.2.1 D x.2.2.2.length d (w.heap.size + 2) (by simp)
    exact ⟨HY3.c0, cell_below b t1, cell_below b t2, z1, z2, z3, z4⟩
  have b4 := below_one (((w.alloc (Obj.cells #[.slice p.A s.tasks.length p.a, .slice p.B s.leaves.length p.b, .slice p.C s.lasts.length p.c, .slice p.D s.jobs.length p.d, .slice p.E s.log.length p.e] 28)).alloc (Obj.cells #[.int .i64 P, .int .i64 B] 30)).alloc (Obj.cells #[.int .i64 x.1, .int .i64 x.2.1, .int .i64 x.2.2.1, .slice D x.2.2.2.length d] 33)) (Obj.cells #[.slice none 0 0, .slice none 0 0, .slice none 0 0, .slice none 0 0, .slice none 0 0] 28)
  have HY := Lib.hid (HY3.below b4)
  have YB := Lib.hid (YB3.below b4)
  have B0 := Lib.hid (below_step B3 b4)
  have HZ0 : Hid (Res ((((w.alloc (Obj.cells #[.slice p.A s.tasks.length p.a, .slice p.B s.leaves.length p.b, .slice p.C s.lasts.length p.c, .slice p.D s.jobs.length p.d, .slice p.E s.log.length p.e] 28)).alloc (Obj.cells #[.int .i64 P, .int .i64 B] 30)).alloc (Obj.cells #[.int .i64 x.1, .int .i64 x.2.1, .int .i64 x.2.2.1, .slice D x.2.2.2.length d] 33)).alloc (Obj.cells #[.slice none 0 0, .slice none 0 0, .slice none 0 0, .slice none 0 0, .slice none 0 0] 28)) (w.heap.size + 3)) := ⟨cs_new _ noPl noSt _ _ (by simp), fun o => fr_new _ _ _ _ (by simp) o⟩
  have HH := Lib.hid (HST.below B0.out)
  have HX2 := Lib.hid (hx.below B0.out)
  have HSZ := Lib.hid hz
  have HSS := Lib.hid hS
  have FX := Lib.hid fx
  have HKB := Lib.hid hkb
  obtain ⟨a1, h1⟩ : ∃ a, (if (rightS s && Sp.rightB P B && rightT x) then 0 else 1) = a := ⟨_, rfl⟩
  obtain ⟨a2, h2⟩ : ∃ a, (if decide (s.tasks.length < 8) then 0 else 3) = a := ⟨_, rfl⟩
  obtain ⟨a3, h3⟩ : ∃ a, (if !(s.jobs.any fun j => begJ j) then 0 else 9) = a := ⟨_, rfl⟩
  obtain ⟨a4, h4⟩ : ∃ a, fitE (s.tasks ++ [x]) P B = a := ⟨_, rfl⟩
  have HF := Lib.hid (fun g1 g2 g3 g4 l1 l2 l3 l4 => (add_first s P B x a1 a2 a3 a4 h1 h2 h3 h4 g1 g2 g3 g4 l1 l2 l3 l4).trans hv)
  have HA1 := Lib.hid h1
  have HA2 := Lib.hid h2
  have HA3 := Lib.hid h3
  have HA4 := Lib.hid h4
  clear h1 h2 h3 h4 B3 HY3 YB3 b4 HST hx hz hS fx hkb
  go_enter Try.func9, Try.ntmps9
  go_upto_region 1 with fail
  generalize (((w.alloc (Obj.cells #[.slice p.A s.tasks.length p.a, .slice p.B s.leaves.length p.b, .slice p.C s.lasts.length p.c, .slice p.D s.jobs.length p.d, .slice p.E s.log.length p.e] 28)).alloc (Obj.cells #[.int .i64 P, .int .i64 B] 30)).alloc (Obj.cells #[.int .i64 x.1, .int .i64 x.2.1, .int .i64 x.2.2.1, .slice D x.2.2.2.length d] 33)).alloc (Obj.cells #[.slice none 0 0, .slice none 0 0, .slice none 0 0, .slice none 0 0, .slice none 0 0] 28) = w0 at *
  obtain ⟨Y, hY⟩ : ∃ Y, w.heap.size = Y := ⟨_, rfl⟩
  obtain ⟨F, hF⟩ : ∃ F, Y + 1 = F := ⟨_, rfl⟩
  obtain ⟨X, hX⟩ : ∃ X, Y + 1 + 1 = X := ⟨_, rfl⟩
  obtain ⟨Z, hZ⟩ : ∃ Z, Y + 1 + 1 + 1 = Z := ⟨_, rfl⟩
  have HZ : Hid (w.heap.size ≤ Z) := by show _ ≤ _; omega
  rw [hY] at YB HY HZ0
  rw [hF, show Y + 2 = X from hX] at YB
  rw [show Y + 3 = Z from hZ] at HZ0
  rw [hF] at hX hZ
  rw [hX] at hZ
  rw [hY, hF, hX, hZ]
  clear hX hF hY hZ
  go_cut [8] (fun s6 wx => s6 = .int .i64 v ∧ Below w0.heap.size w0 wx)
  case first =>
    have HT0 : Hid (SR w0 p s) := ⟨HSZ.out, HH.out.keep fun _ _ _ => ⟨trivial, rfl⟩⟩
    have BR : Hid (Below w0.heap.size w0 w0) := Below.refl _ _
    go_wp2_with fail
    refine (unless_v 1 21 #[.pointer (some ⟨Y, 0, none⟩), .pointer (some ⟨F, 0, none⟩), .pointer (some ⟨X, 0, none⟩)] _).mono ?_
    rintro e w1 ⟨X1, Y1, rfl, c1, d1, b1⟩
    have B1 := Lib.hid (below_step BR.out b1)
    have YB1 := YB.out.below B1.out
    have C1 := Lib.hid (unless1_ok _ _ _ 1 a1 HA1.out a1Enters X1 Y1 w1 c1 d1 (a1_v _ rfl HKB.out w1 (HY.out.below B1.out) (HT0.out.below B1.out) ⟨YB1.2.1, YB1.2.2.1⟩ YB1.2.2.2 (HX2.out.below B1.out)))
    clear c1 d1 b1 YB1
    go_wp2_with fail
    refine (unless_v 3 24 #[.pointer (some ⟨Y, 0, none⟩)] _).mono ?_
    rintro e w2 ⟨X2, Y2, rfl, c2, d2, b2⟩
    have B2 := Lib.hid (below_step B1.out b2)
    have C2 := Lib.hid (unless1_ok _ _ _ 3 a2 HA2.out a2Enters X2 Y2 w2 c2 d2 (a2_v _ rfl w2 (HY.out.below B2.out)))
    clear c2 d2
    go_wp2_with fail
    refine (unless_v 9 25 #[.pointer (some ⟨Y, 0, none⟩)] _).mono ?_
    rintro e w3 ⟨X3, Y3, rfl, c3, d3, b3⟩
    have B3 := Lib.hid (below_step B2.out b3)
    have C3 := Lib.hid (unless1_ok _ _ _ 9 a3 HA3.out a3Enters X3 Y3 w3 c3 d3 (a3_v _ rfl w3 (HY.out.below B3.out) (HT0.out.below B3.out)))
    have C1b := Lib.hid (CndOk.below C1.out (below_step b2 b3))
    have C2b := Lib.hid (CndOk.below C2.out b3)
    have C4 := Lib.hid (a4_ok a4 HA4.out s.tasks.length rfl HSZ.out.t HKB.out FX.out w3 (YB.out.below B3.out) (HT0.out.below B3.out) (HX2.out.below B3.out))
    clear c3 d3 b3 b2
    go_wp2_with fail
    refine (first_lit _ _ [⟨45, #[.pointer (some ⟨X1, 0, none⟩), .pointer (some ⟨Y1, 0, none⟩)], a1⟩, ⟨45, #[.pointer (some ⟨X2, 0, none⟩), .pointer (some ⟨Y2, 0, none⟩)], a2⟩, ⟨45, #[.pointer (some ⟨X3, 0, none⟩), .pointer (some ⟨Y3, 0, none⟩)], a3⟩, ⟨27, #[.pointer (some ⟨Y, 0, none⟩), .pointer (some ⟨X, 0, none⟩), .pointer (some ⟨F, 0, none⟩)], a4⟩] rfl 4 rfl (by decide) w3 (ok_cons C1b.out (ok_cons C2b.out (ok_cons C3.out (ok_cons C4.out (ok_nil _))))) v (HF.out _ _ _ _ _ _ _ _)).mono ?_
    rintro e w5 ⟨rfl, b5⟩
    have B5 := Lib.hid (below_step B3.out b5)
    clear b5
    go_wp2_with fail
    go_meet
    exact ⟨rfl, B5.out⟩
  case rest =>
    obtain ⟨rfl, b6⟩ := hcut
    replace HY := Lib.hid (HY.out.below b6)
    replace YB := Lib.hid (YB.out.below b6)
    replace HZ0 := Lib.hid (HZ0.out.below b6)
    replace HH := Lib.hid (HH.out.below b6)
    replace HX2 := Lib.hid (HX2.out.below b6)
    have BW := Lib.hid (below_step B0.out b6)
    clear b6 HF HA1 HA2 HA3 HA4
    by_cases h0 : v = 0
    · subst h0
      have HAS := Lib.hid (addS_adm hr hv)
      have HAE := Lib.hid (addE_adm hv)
      clear hr hv
      obtain ⟨_, f1, f2, x0, x1, x2, x3⟩ := YB.out
      obtain ⟨y0, y1, y2, y3, y4⟩ := HY.out
      go_wp2_with fail
      refine (add_s S p s r x D x.2.2.2.length d rfl HKB.out FX.out 0 HAS.out HAE.out _ (fun b h => Nat.lt_of_lt_of_le (HSS.out b h) BW.out.size) HSZ.out HH.out HX2.out).mono ?_
      rintro e w7 ⟨p1, rfl, h3, b7⟩
      have HR := Lib.hid (HZ0.out.below b7)
      have HQ := Lib.hid (up_res HSS.out ⟨HZ.out, HZ0.out.lt⟩ h3.2)
      have HZR := Lib.hid h3.1
      have BF := Lib.hid (below_step BW.out b7)
      clear h3 b7 f1 f2 x0 x1 x2 x3 y0 y1 y2 y3 y4 HZ0 YB HY
      have z0 := HR.out.z.c0
      have z1 := HR.out.z.c1
      have z2 := HR.out.z.c2
      have z3 := HR.out.z.c3
      have z4 := HR.out.z.c4
      unfold noPl noSt at z0 z1 z2 z3 z4
      simp only [List.length_nil] at z0 z1 z2 z3 z4
      have g0 := HR.out.f 0
      have g1 := HR.out.f 1
      have g2 := HR.out.f 2
      have g3 := HR.out.f 3
      have g4 := HR.out.f 4
      go_wp2_with fail
      change bodyPost _ _ _ _ _ (putS w7 Z p1 r)
      obtain ⟨h1, h2⟩ := done_at (S := S) (w := w) (v := 0) HR.out.z HQ.out HZR.out HZ.out BF.out
      generalize putS w7 Z p1 r = W at h1 h2 ⊢
      have k0 := h2.c0
      have k1 := h2.c1
      have k2 := h2.c2
      have k3 := h2.c3
      have k4 := h2.c4
      refine bodyPost_ret (v := .tuple #[(.agg #[.slice p1.A r.tasks.length p1.a, .slice p1.B r.leaves.length p1.b, .slice p1.C r.lasts.length p1.c, .slice p1.D r.jobs.length p1.d, .slice p1.E r.log.length p1.e]), .int .i64 0]) (by simp [results, Try.results9, go_sem, k0, k1, k2, k3, k4]) rfl h1
    · have e1 : s = r := by rw [← hr]; unfold admS; rw [hv, if_neg h0]
      subst e1
      have i1 : ¬ (v : Int) = 0 := by omega
      have i2 : ((v : Int) == 0) = false := beq_eq_false_iff_ne.2 i1
      clear hr hv h0
      have HR := HZ0
      have HZR := HSZ
      have BF := BW
      have HQ : Hid (StS wc (fun b => b ≠ Z ∧ Upw S w b) p s) := HH.out.keep fun b _ hb => ⟨⟨fun e => by have := HSS.out b hb; have := HZ.out; omega, .inl hb⟩, rfl⟩
      obtain ⟨y0, y1, y2, y3, y4⟩ := HY.out
      have z0 := HZ0.out.z.c0
      have z1 := HZ0.out.z.c1
      have z2 := HZ0.out.z.c2
      have z3 := HZ0.out.z.c3
      have z4 := HZ0.out.z.c4
      unfold noPl noSt at z0 z1 z2 z3 z4
      simp only [List.length_nil] at z0 z1 z2 z3 z4
      have g0 := HZ0.out.f 0
      have g1 := HZ0.out.f 1
      have g2 := HZ0.out.f 2
      have g3 := HZ0.out.f 3
      have g4 := HZ0.out.f 4
      go_wp2_with fail
      change bodyPost _ _ _ _ _ (putS wc Z p s)
      obtain ⟨h1, h2⟩ := done_at (S := S) (w := w) (v := v) HR.out.z HQ.out HZR.out HZ.out BF.out
      generalize putS wc Z p s = W at h1 h2 ⊢
      have k0 := h2.c0
      have k1 := h2.c1
      have k2 := h2.c2
      have k3 := h2.c3
      have k4 := h2.c4
      refine bodyPost_ret (v := .tuple #[(.agg #[.slice p.A s.tasks.length p.a, .slice p.B s.leaves.length p.b, .slice p.C s.lasts.length p.c, .slice p.D s.jobs.length p.d, .slice p.E s.log.length p.e]), .int .i64 v]) (by simp [results, Try.results9, go_sem, k0, k1, k2, k3, k4]) rfl h1

end Pm
end Go.Proofs.Ytdjjdebnbaaihaa

/-
  Layer 20 (admit): the contracts of Boot and Add (boot_s, adm_s), by whatever texts.
-/
namespace Go.Proofs.Ytdjjdebnbaaihaa
namespace Pm
end Pm
end Go.Proofs.Ytdjjdebnbaaihaa

