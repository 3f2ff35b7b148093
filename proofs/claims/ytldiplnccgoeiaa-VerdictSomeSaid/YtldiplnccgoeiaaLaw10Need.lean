/-
  Layer 10: the document's answers Need, First.
-/
import Derived.Test.YtldiplnccgoeiaaVerdictNeed
import Derived.Test.YtldiplnccgoeiaaLaw07Bound
import Derived.Test.YtldiplnccgoeiaaLaw08Refs
import Derived.Test.YtldiplnccgoeiaaLaw09Bound
namespace Go.Proofs.Ytldiplnccgoeiaa
open Go.RowKit Mm Tk
namespace Vd

set_option maxHeartbeats 800000 in
theorem refNeed_v (A : Option Addr) (c : Nat) (L : List Tsk) (t : Nat) (z : Int) (hz : need L t = z) (hL : allB L = true) (ht : t ≤ 3000) (n : Nat) (hn : L.length = n) (w : World) (H : TL w A c L) :
    Calls Try.prog 13 #[.slice A n c, .int .i64 t] w fun x w' => x = .returned (.int .i64 z) ∧ Below w.heap.size w w' := by
  subst hn
  have HT := Lib.hid H
  have hb := need_small hL (t := t) (m := 3000) (by omega)
  have HR := Lib.hid (Dm.refBound_any A c L (t : Int) w hL (by omega) H)
  have hd0 := Dm.bnd_nonneg hL (t : Int)
  have e1 : need L t = Dm.bnd L t + (Bk.blk L t : Nat) := rfl
  rw [hz] at hb e1
  obtain ⟨d, hd⟩ : ∃ d, Dm.bnd L (t : Int) = d := ⟨_, rfl⟩
  obtain ⟨q, hq⟩ : ∃ q, Bk.blk L (t : Int) = q := ⟨_, rfl⟩
  rw [hd] at hd0 e1 HR
  rw [hq] at e1
  have HQ := Lib.hid hq
  subst e1
  clear hz H hL hd hq
  go_enter Try.func13, Try.ntmps13
  go_wp2_with fail
  refine (HR.out).mono ?_
  rintro e w1 ⟨rfl, b1⟩
  have B1 := Lib.hid b1
  replace HT := Lib.hid (HT.out.below b1)
  clear b1
  go_wp2_with fail
  refine (Bk.refOf_any A c L (t : Int) _ HT.out).mono ?_
  rintro e w2 ⟨rfl, b2⟩
  rw [HQ.out]
  have B2 := Lib.hid (below_step B1.out b2)
  clear b2
  go_wp2_with fail
  go_ret
  exact ⟨rfl, B2.out⟩

theorem refBnd_n (p b t : Nat) (s : Nat) (hs : Sp.sbf p b t = s) (h1 : 1 ≤ b) (h2 : b ≤ p) (h3 : p ≤ 200) (ht : t ≤ 5000) (w : World) :
    Calls Try.prog 33 #[.agg #[.int .i64 p, .int .i64 b], .int .i64 t] w fun e w' => e = .returned (.int .i64 s) ∧ Below w.heap.size w w' := by
  subst hs
  exact Sp.refBound_any p b t h1 h2 h3 ht w

set_option maxHeartbeats 1600000 in
theorem refFirst_n (A : Option Addr) (c : Nat) (L : List Tsk) (p b E : Nat) (hL : allB L = true) (h1 : 1 ≤ b) (h2 : b ≤ p) (h3 : p ≤ 200) (hE : E ≤ 3000) (u : Nat) (v : Bool) (hu : firT L p b E = u) (hv : firB L p b E = v) (n : Nat) (hn : L.length = n) (w : World) (H : TL w A c L) :
    Calls Try.prog 18 #[.slice A n c, .agg #[.int .i64 p, .int .i64 b], .int .i64 E] w fun x w' => x = .returned (.tuple #[.int .i64 u, .bool v]) ∧ Below w.heap.size w w' := by
  subst hn
  have HF : Hid (∀ t x, FirstOf L p b E t x → t = u ∧ x = v) := fun t x hf => by
    have := hf.same (firstOf L p b E)
    rw [hu, hv] at this
    exact this
  obtain ⟨t1, t2⟩ := Sp.fc_new w (p : Int) (b : Int)
  have b0 := below_one w (Obj.cells #[.int .i64 p, .int .i64 b] 31)
  have HT := Lib.hid (H.below b0)
  have B0 := Lib.hid b0
  have HL := Lib.hid hL
  have HU := Lib.hid hu
  have HV := Lib.hid hv
  clear b0 hL hu hv
  clear H
  go_enter Try.func18, Try.ntmps18
  go_wp2_with fail
  generalize w.alloc (Obj.cells #[.int .i64 (p : Int), .int .i64 (b : Int)] 31) = w1 at *
  go_loopw [8] (fun i wr => ∃ k : Nat, i = .int .i64 k ∧ k ≤ E + 1 ∧ Hid (∀ u, u < k → badB L p b u = false) ∧ Hid (Below w1.heap.size w1 wr)) (fun i _ => E + 1 - (intOf i).toNat)
  case atStart => exact ⟨0, rfl, Nat.zero_le _, (fun u h => by omega), Below.refl _ _⟩
  case round =>
    obtain ⟨k, rfl, hk, HH, HB⟩ := hrel
    replace t1 := cell_below HB.out t1
    replace t2 := cell_below HB.out t2
    replace HT := Lib.hid (HT.out.below HB.out)
    by_cases hlt : k ≤ E
    · have hk3 : k ≤ 3000 := by omega
      obtain ⟨z, hz⟩ : ∃ z, need L k = z := ⟨_, rfl⟩
      obtain ⟨s, hs⟩ : ∃ s, Sp.sbf p b k = s := ⟨_, rfl⟩
      have hbv : badB L p b k = decide ((s : Int) < z) := by rw [← hz, ← hs]; rfl
      have HZ := Lib.hid (refNeed_v A c L k z hz HL.out hk3 L.length rfl)
      have HS := Lib.hid (refBnd_n p b k s hs h1 h2 h3 (by omega))
      clear hz hs
      by_cases hb : (s : Int) < z
      · have HD : Hid (k = u ∧ true = v) := HF.out _ _ (.inr ⟨rfl, hlt, by rw [hbv]; exact decide_eq_true hb, HH.out⟩)
        clear hbv
        go_wp2_with fail
        replace t1 := cell_bw t1
        replace t2 := cell_bw t2
        refine wp_region_bw (by kernel_rfl) (by kernel_rfl) ?_
        repeat
          (with_reducible refine wpQuiet_step (fun K hK => ?_)
           go_simp
           first
             | (with_reducible refine hK _ ?_
                clear hK K)
             | (rw [if_neg]
                rotate_left
                focus (intro h; cases h; done)
                with_reducible refine hK _ ?_
                clear hK K)
             | (apply Exists.intro
                refine ⟨fun _ => ?_, hK _ ?_⟩
                (first | exact Calls.bw (HZ.out _ (HT.out.bw _)) | exact Calls.bw (HS.out _))
                clear hK K))
        with_reducible refine wpQuiet_nil ?_
        intro wb hw'
        obtain ⟨⟨wb', lb⟩, hw''⟩ := hw'
        subst hw''
        have B2 := Lib.hid (below_step HB.out lb)
        clear lb t1 t2
        go_wp2_with fail
        go_ret2
        exact ⟨by rw [← HD.out.1, ← HD.out.2]; rfl, below_step B0.out B2.out⟩
      · have HD : Hid (∀ u, u < k + 1 → badB L p b u = false) := by
          intro u hu
          by_cases e : u = k
          · subst e; rw [hbv]; exact decide_eq_false hb
          · exact HH.out u (by omega)
        clear hbv
        go_wp2_with fail
        replace t1 := cell_bw t1
        replace t2 := cell_bw t2
        refine wp_region_bw (by kernel_rfl) (by kernel_rfl) ?_
        repeat
          (with_reducible refine wpQuiet_step (fun K hK => ?_)
           go_simp
           first
             | (with_reducible refine hK _ ?_
                clear hK K)
             | (rw [if_neg]
                rotate_left
                focus (intro h; cases h; done)
                with_reducible refine hK _ ?_
                clear hK K)
             | (apply Exists.intro
                refine ⟨fun _ => ?_, hK _ ?_⟩
                (first | exact Calls.bw (HZ.out _ (HT.out.bw _)) | exact Calls.bw (HS.out _))
                clear hK K))
        with_reducible refine wpQuiet_nil ?_
        intro wb hw'
        obtain ⟨⟨wb', lb⟩, hw''⟩ := hw'
        subst hw''
        have B2 := Lib.hid (below_step HB.out lb)
        clear lb t1 t2
        go_wp2_with fail
        go_roundw
        case rel => exact ⟨k + 1, by go_num, by omega, HD, B2⟩
        case measure => simp [intOf]; omega
    · have HD : Hid (0 = u ∧ false = v) := HF.out _ _ (.inl ⟨rfl, rfl, fun u hu => HH.out u (by omega)⟩)
      go_wp2_with fail
      go_ret2
      exact ⟨by rw [← HD.out.1, ← HD.out.2]; rfl, below_step B0.out HB.out⟩

end Vd
end Go.Proofs.Ytldiplnccgoeiaa
