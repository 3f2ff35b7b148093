/-
  For all tasks, any interface and any of the tasks the statement VerdictLess of layer 10 returns true (what fits, fits without any one task, if there are no sections; and with a greater budget; as far as it isn't refused), and its arguments read as before. No condition.
-/
import Derived.Test.YtldiplnccgoeiaaLaw05Args
import Derived.Test.YtldiplnccgoeiaaLaw09Args
import Derived.Test.YtldiplnccgoeiaaLaw10Cycle
import Derived.Test.YtldiplnccgoeiaaLaw10Knows
import Derived.Test.YtldiplnccgoeiaaTaskOwn
import Derived.Test.YtldiplnccgoeiaaMemTwo
namespace Go.Proofs.Ytldiplnccgoeiaa.verdictLess
open Go.ChangeShapes Go.WideShapes Go.ChangeAt Go.RowKit
open Mm Tk Vd

/-- the tasks below n but the one at k; none of them has sections -/
def lessTo (L : List Tsk) (k : Nat) : Nat → List Tsk
  | 0 => []
  | n + 1 => if n = k then lessTo L k n else lessTo L k n ++ [at_ L n]
def plTo (L : List Tsk) : Nat → Bool
  | 0 => true
  | n + 1 => plTo L n && decide ((at_ L n).2.2.2.length = 0)
theorem lessTo_low {L : List Tsk} {k : Nat} : ∀ {n : Nat}, n ≤ k → n ≤ L.length → lessTo L k n = L.take n
  | 0, _, _ => by simp [lessTo]
  | n + 1, h1, h2 => by rw [lessTo, if_neg (by omega), lessTo_low (n := n) (by omega) (by omega), take_succ_at (by omega)]
theorem lessTo_high {L : List Tsk} {k : Nat} : ∀ {n : Nat}, k < n → n ≤ L.length → lessTo L k n = L.take k ++ (L.take n).drop (k + 1)
  | 0, h, _ => by omega
  | n + 1, h1, h2 => by
    rw [lessTo]
    by_cases e : n = k
    · subst e
      rw [if_pos rfl, lessTo_low (Nat.le_refl _) (by omega)]
      have : (L.take (n + 1)).drop (n + 1) = [] := List.drop_eq_nil_of_le (by rw [List.length_take]; omega)
      rw [this, List.append_nil]
    · rw [if_neg e, lessTo_high (n := n) (by omega) (by omega), take_succ_at (by omega), List.drop_append_of_le_length (by rw [List.length_take]; omega), List.append_assoc]
theorem lessTo_all {L : List Tsk} {k : Nat} (hk : k < L.length) : lessTo L k L.length = L.take k ++ L.drop (k + 1) := by
  rw [lessTo_high hk (Nat.le_refl _), List.take_length]
theorem lessTo_len (L : List Tsk) (k : Nat) : ∀ n, (lessTo L k n).length ≤ n
  | 0 => by simp [lessTo]
  | n + 1 => by
    have := lessTo_len L k n
    rw [lessTo]
    split
    · omega
    · rw [List.length_append]; simp only [List.length_cons, List.length_nil]; omega
theorem lessTo_mem {L : List Tsk} {k : Nat} {y : Tsk} : ∀ {n : Nat}, n ≤ L.length → y ∈ lessTo L k n → y ∈ L
  | 0, _, h => by simp [lessTo] at h
  | n + 1, hn, h => by
    rw [lessTo] at h
    split at h
    · exact lessTo_mem (n := n) (by omega) h
    · rcases List.mem_append.1 h with h | h
      · exact lessTo_mem (n := n) (by omega) h
      · rw [List.mem_singleton] at h
        subst h
        exact at_mem (by omega)
theorem plTo_all {L : List Tsk} : ∀ {n : Nat}, plTo L n = true → ∀ j, j < n → (at_ L j).2.2.2 = []
  | 0, _, j, hj => by omega
  | n + 1, h, j, hj => by
    rw [plTo, Bool.and_eq_true, decide_eq_true_iff] at h
    by_cases e : j = n
    · subst e; exact List.eq_nil_of_length_eq_zero h.2
    · exact plTo_all h.1 j (by omega)
theorem all_less {L : List Tsk} (k : Nat) (h : allB L = true) : allB (lessTo L k L.length) = true := by
  unfold allB at h ⊢
  rw [Bool.and_eq_true, decide_eq_true_eq, List.all_eq_true] at h ⊢
  exact ⟨Nat.le_trans (lessTo_len L k L.length) h.1, fun y hy => h.2 y (lessTo_mem (Nat.le_refl _) hy)⟩
theorem less_fine {L : List Tsk} {p b k : Nat} (hf : fitsB L (p : Int) (b : Int) = true) (hk : k < L.length) (hp : plTo L L.length = true) : fitsB (lessTo L k L.length) (p : Int) (b : Int) = true ∨ cycE (lessTo L k L.length) (p : Int) (b : Int) = 5 := by
  have hc : cycOk L (p : Int) (b : Int) = true := by
    unfold fitsB at hf
    rw [Bool.and_eq_true] at hf
    exact hf.1
  obtain ⟨g1, _⟩ := cycOk_iff.1 hc
  obtain ⟨g3, g4⟩ := in_iff.1 g1
  have hi : inB (lessTo L k L.length) (p : Int) (b : Int) = true := in_iff.2 ⟨all_less k g3, g4⟩
  cases hm : cycOk (lessTo L k L.length) (p : Int) (b : Int) with
  | true =>
    refine .inl ((fits_true hm).2 ?_)
    have := (fits_true hc).1 hf
    rw [lessTo_all hk]
    exact fit_less g3 hk (fun x hx => by
      obtain ⟨j, hj, rfl⟩ := mem_at hx
      exact plTo_all hp j hj) this
  | false =>
    right
    unfold cycE
    rw [hi, hm]
    rfl
theorem more_fine {L : List Tsk} {p b : Nat} (hf : fitsB L (p : Int) (b : Int) = true) (h1 : 1 ≤ b) (h2 : (b : Int) + 1 ≤ p) (h3 : p ≤ 200) : fitsB L (p : Int) ((b : Int) + 1) = true ∧ cycE L (p : Int) ((b : Int) + 1) = 0 := by
  have hc : cycOk L (p : Int) (b : Int) = true := by
    unfold fitsB at hf
    rw [Bool.and_eq_true] at hf
    exact hf.1
  obtain ⟨g1, g2⟩ := cycOk_iff.1 hc
  obtain ⟨g3, g4⟩ := in_iff.1 g1
  have hm : cycOk L (p : Int) ((b : Int) + 1) = true := cycOk_iff.2 ⟨in_iff.2 ⟨g3, Sp.right_iff.2 ⟨by omega, h2, by omega⟩⟩, g2⟩
  refine ⟨(fits_true hm).2 ?_, (cyc_fine hm).2.2⟩
  have := (fits_true hc).1 hf
  rw [Int.toNat_natCast, Int.toNat_natCast] at this
  rw [Int.toNat_natCast, show ((b : Int) + 1).toNat = b + 1 from by omega]
  exact fit_more h1 (by omega) (by omega) this

theorem tl_of {w : World} {A : Option Addr} {c : Nat} {M : List Tsk} (h1 : M.length ≤ 1000000) (h2 : ∀ y ∈ M, y.2.2.2.length ≤ 1000000) (hr : Rd w A c M) : TL w A c M := ⟨h1, fun j hj => h2 _ (at_mem hj), hr⟩
theorem cells4 (w : World) (a b c d : Value) (e : TypeId) : ∀ j u, [a, b, c, d][j]? = some u → (w.alloc (.cells #[a, b, c, d] e)).cell? ⟨w.heap.size, 0 + j, none⟩ = some u := fun j u h => by
  rw [Nat.zero_add, World.cell?_alloc_new]
  match j, h with
  | 0, h => injection h with h; subst h; rfl
  | 1, h => injection h with h; subst h; rfl
  | 2, h => injection h with h; subst h; rfl
  | 3, h => injection h with h; subst h; rfl
  | j + 4, h => simp at h

set_option maxRecDepth 20000 in
set_option maxHeartbeats 4000000 in
theorem walk (A : Option Addr) (c : Nat) (L : List Tsk) (P B : Int) (i : Nat) (w : World) (hr : Rd w A c L) (_ : Fit P) (_ : Fit B) (hi : i < 256) :
    Calls Try.prog 8 #[.slice A L.length c, .agg #[.int .i64 P, .int .i64 B], .int .u8 i] w fun e w' => e = .returned (.bool true) ∧ Below w.heap.size w w' := by
  obtain ⟨t1, t2⟩ := Sp.fc_new w P B
  have t3 : (w.alloc (Obj.cells #[.int .i64 P, .int .i64 B] 31)).frozen? ⟨w.heap.size, 1, none⟩ = false := by simp
  have b0 := below_one w (Obj.cells #[.int .i64 P, .int .i64 B] 31)
  have HR0 := Lib.hid hr
  replace hr := hr.below b0
  have HR := Lib.hid hr
  have B0 := Lib.hid b0
  clear hr b0
  cases hg : greatB L with
  | true =>
    have HG := Lib.hid hg
    clear hg
    clear t3
    go_enter Try.func8, Try.ntmps8
    go_wp2_with fail
    refine (great_any A c L _ HR.out).mono ?_
    rintro e w1 ⟨rfl, b1⟩
    rw [HG.out]
    have B1 := Lib.hid (below_step B0.out b1)
    clear b1
    go_wp2_with fail
    refine (knows10_any _).mono ?_
    rintro e w2 ⟨rfl, b2⟩
    have B2 := Lib.hid (below_step B1.out b2)
    clear b2
    go_wp2_with fail
    go_ret
    exact ⟨rfl, B2.out⟩
  | false =>
    obtain ⟨hL, hin⟩ := great_no hg
    have H0 : Hid (TL w A c L) := ⟨by omega, fun j hj => by have := hin j hj; omega, HR0.out⟩
    have HT := Lib.hid (H0.out.below B0.out)
    have hL2 : L.length ≤ 1000000 := by omega
    have HG := Lib.hid hg
    have HIN := Lib.hid hin
    clear hg hin
    clear HR0
    by_cases hz : L.length = 0
    · obtain rfl : L = [] := List.eq_nil_of_length_eq_zero hz
      clear hz hL hL2
      go_enter Try.func8, Try.ntmps8
      go_wp2_with fail
      refine (great_any A c [] _ HR.out).mono ?_
      rintro e' w1 ⟨rfl, b1⟩
      rw [HG.out]
      have B1 := Lib.hid (below_step B0.out b1)
      clear b1
      go_wp2_with fail
      refine (knows10_any _).mono ?_
      rintro e w2 ⟨rfl, b2⟩
      have B2 := Lib.hid (below_step B1.out b2)
      clear b2
      go_wp2_with fail
      go_ret
      exact ⟨rfl, B2.out⟩
    · have hz1 : ¬ (L.length : Int) = 0 := by omega
      cases hf : fitsB L P B with
      | false =>
        obtain ⟨e, he⟩ : ∃ e, cycE L P B = e := ⟨_, rfl⟩
        have hee := cycE_cases L P B
        rw [he] at hee
        have HF := Lib.hid (fits_v A c L P B false e hf he L.length rfl)
        clear hf he hL hL2
        rcases hee with rfl | rfl | rfl
        · skip
          go_enter Try.func8, Try.ntmps8
          go_wp2_with fail
          refine (great_any A c L _ HR.out).mono ?_
          rintro e' w1 ⟨rfl, b1⟩
          rw [HG.out]
          replace t3 := frozen_below b1 t2 t3
          replace t1 := (cell_below b1) t1
          replace t2 := (cell_below b1) t2
          replace HT := Lib.hid (HT.out.below b1)
          have B1 := Lib.hid (below_step B0.out b1)
          clear b1
          go_wp2_with fail
          refine (HF.out _ HT.out).mono ?_
          rintro e w2 ⟨rfl, b2⟩
          replace t1 := cell_below b2 t1
          replace t2 := cell_below b2 t2
          have B2 := Lib.hid (below_step B1.out b2)
          replace HT := Lib.hid (HT.out.below b2)
          clear b2
          go_wp2_with fail
          refine (knows10_any _).mono ?_
          rintro e w3 ⟨rfl, b3⟩
          have B3 := Lib.hid (below_step B2.out b3)
          clear b3
          go_wp2_with fail
          go_ret
          exact ⟨rfl, B3.out⟩
        · skip
          go_enter Try.func8, Try.ntmps8
          go_wp2_with fail
          refine (great_any A c L _ HR.out).mono ?_
          rintro e' w1 ⟨rfl, b1⟩
          rw [HG.out]
          replace t3 := frozen_below b1 t2 t3
          replace t1 := (cell_below b1) t1
          replace t2 := (cell_below b1) t2
          replace HT := Lib.hid (HT.out.below b1)
          have B1 := Lib.hid (below_step B0.out b1)
          clear b1
          go_wp2_with fail
          refine (HF.out _ HT.out).mono ?_
          rintro e w2 ⟨rfl, b2⟩
          replace t1 := cell_below b2 t1
          replace t2 := cell_below b2 t2
          have B2 := Lib.hid (below_step B1.out b2)
          replace HT := Lib.hid (HT.out.below b2)
          clear b2
          go_wp2_with fail
          refine (knows10_any _).mono ?_
          rintro e w3 ⟨rfl, b3⟩
          have B3 := Lib.hid (below_step B2.out b3)
          clear b3
          go_wp2_with fail
          go_ret
          exact ⟨rfl, B3.out⟩
        · skip
          go_enter Try.func8, Try.ntmps8
          go_wp2_with fail
          refine (great_any A c L _ HR.out).mono ?_
          rintro e' w1 ⟨rfl, b1⟩
          rw [HG.out]
          replace t3 := frozen_below b1 t2 t3
          replace t1 := (cell_below b1) t1
          replace t2 := (cell_below b1) t2
          replace HT := Lib.hid (HT.out.below b1)
          have B1 := Lib.hid (below_step B0.out b1)
          clear b1
          go_wp2_with fail
          refine (HF.out _ HT.out).mono ?_
          rintro e w2 ⟨rfl, b2⟩
          replace t1 := cell_below b2 t1
          replace t2 := cell_below b2 t2
          have B2 := Lib.hid (below_step B1.out b2)
          replace HT := Lib.hid (HT.out.below b2)
          clear b2
          go_wp2_with fail
          refine (knows10_any _).mono ?_
          rintro e w3 ⟨rfl, b3⟩
          have B3 := Lib.hid (below_step B2.out b3)
          clear b3
          go_wp2_with fail
          go_ret
          exact ⟨rfl, B3.out⟩
      | true =>
        have hc : cycOk L P B = true := by
          unfold fitsB at hf
          rw [Bool.and_eq_true] at hf
          exact hf.1
        obtain ⟨g1, g2⟩ := cycOk_iff.1 hc
        obtain ⟨g3, g4⟩ := in_iff.1 g1
        obtain ⟨p, b, rfl, rfl, h1, h2, h3⟩ := Sp.right_nat g4
        obtain ⟨_, _, z3⟩ := cyc_fine hc
        obtain ⟨k, hk⟩ : ∃ k, i % L.length = k := ⟨_, rfl⟩
        have hkL : k < L.length := by rw [← hk]; exact Nat.mod_lt _ (by omega)
        have e1 : (i : Int) % (L.length : Int) = (k : Int) := by rw [← hk]; push_cast; rfl
        have hpl := less_fine (k := k) hf hkL
        have hmo : (b : Int) + 1 ≤ p → fitsB L (p : Int) ((b : Int) + 1) = true ∧ cycE L (p : Int) ((b : Int) + 1) = 0 := fun h => more_fine hf h1 h h3
        obtain ⟨fl, hfl⟩ : ∃ fl, fitsB (lessTo L k L.length) (p : Int) (b : Int) = fl := ⟨_, rfl⟩
        obtain ⟨el, hel⟩ : ∃ el, cycE (lessTo L k L.length) (p : Int) (b : Int) = el := ⟨_, rfl⟩
        obtain ⟨fb, hfb⟩ : ∃ fb, fitsB L (p : Int) ((b : Int) + 1) = fb := ⟨_, rfl⟩
        obtain ⟨eb, heb⟩ : ∃ eb, cycE L (p : Int) ((b : Int) + 1) = eb := ⟨_, rfl⟩
        have HF := Lib.hid (fits_v A c L p b true 0 hf z3 L.length rfl)
        have HM := Lib.hid (fun A' c' => fits_v A' c' (lessTo L k L.length) p b fl el hfl hel)
        have HN := Lib.hid (fits_v A c L p ((b : Int) + 1) fb eb hfb heb L.length rfl)
        rw [hfl, hel] at hpl
        rw [hfb, heb] at hmo
        have HPL := Lib.hid hpl
        have HMO := Lib.hid hmo
        clear hpl hmo
        clear hf hc g1 g2 g3 g4 z3 hk hfl hel hfb heb hL
        go_enter Try.func8, Try.ntmps8
        go_wp2_with fail
        refine (great_any A c L _ HR.out).mono ?_
        rintro e' w1 ⟨rfl, b1⟩
        rw [HG.out]
        replace t3 := frozen_below b1 t2 t3
        replace t1 := (cell_below b1) t1
        replace t2 := (cell_below b1) t2
        replace HT := Lib.hid (HT.out.below b1)
        have B1 := Lib.hid (below_step B0.out b1)
        clear b1
        go_wp2_with fail
        refine (HF.out _ HT.out).mono ?_
        rintro e w2 ⟨rfl, b2⟩
        replace t3 := frozen_below b2 t2 t3
        replace t1 := (cell_below b2) t1
        replace t2 := (cell_below b2) t2
        replace HT := Lib.hid (HT.out.below b2)
        have B2 := Lib.hid (below_step B1.out b2)
        clear b2
        go_wp2_with fail
        rw [e1]
        clear e1
        go_loopw [10, 11, 12] (fun lv pv iv wr => ∃ (n : Nat) (v : Bool) (A' : Option Addr) (m c' : Nat), iv = .int .i64 n ∧ pv = .bool v ∧ lv = .slice A' m c' ∧ n ≤ L.length ∧ m ≤ n ∧ Hid ((lessTo L k n).length = m) ∧ Hid (plTo L n = v) ∧
          Hid (OwL wr w2.heap.size 47 A' c' (lessTo L k n)) ∧ Hid (Below w2.heap.size w2 wr)) (fun _ _ iv _ => L.length - (intOf iv).toNat)
        case atStart => exact ⟨0, true, none, 0, 0, rfl, rfl, rfl, Nat.zero_le _, Nat.le_refl _, rfl, rfl, owl_nil _ _ _, Below.refl _ _⟩
        case round =>
          obtain ⟨n, v, A', m, c', rfl, rfl, rfl, hn, hmn, HMM, HV, HO, HB⟩ := hrel
          by_cases hlt : n < L.length
          · clear t1 t2 t3
            obtain ⟨bb, off, rfl, hcc⟩ := task_at HT.out.2.2 (by omega)
            obtain ⟨D, d, x1, x2, x3, x4, f1, f2, f3, r⟩ := hcc n hlt
            have HRX := Lib.hid r.rd.old
            replace x1 := (cell_below HB.out) x1
            replace x2 := (cell_below HB.out) x2
            replace x3 := (cell_below HB.out) x3
            replace x4 := (cell_below HB.out) x4
            have hpn : plTo L (n + 1) = (v && decide ((at_ L n).2.2.2.length = 0)) := by rw [plTo, HV.out]
            clear hcc r
            have F1 := Lib.hid f1
            have F2 := Lib.hid f2
            have F3 := Lib.hid f3
            clear f1 f2 f3
            cases v with
            | true =>
              have HPN : Hid (plTo L (n + 1) = (((at_ L n).2.2.2.length : Int) == 0)) := by
                show _ = _
                rw [hpn, Bool.true_and, Bool.eq_iff_iff, decide_eq_true_iff, beq_iff_eq]
                omega
              clear hpn
              by_cases hne : n = k
              · skip
                subst hne
                have HEQ : Hid (lessTo L n (n + 1) = lessTo L n n) := by show _ = _; rw [lessTo, if_pos rfl]
                go_wp2_with fail
                go_roundw
                case rel => exact ⟨n + 1, _, A', m, c', by go_num, rfl, rfl, hlt, by omega, by rw [HEQ.out]; exact HMM.out, HPN, by rw [HEQ.out]; exact HO.out, HB⟩
                case measure => simp [intOf]; omega
              · skip
                have HEQ : Hid (lessTo L k (n + 1) = lessTo L k n ++ [at_ L n]) := by show _ = _; rw [lessTo, if_neg hne]
                have hne' : ¬ (n : Int) = (k : Int) := by omega
                have hb0 := below_one wr (Obj.cells #[.int .i64 (at_ L n).1, .int .i64 (at_ L n).2.1, .int .i64 (at_ L n).2.2.1, .slice D (at_ L n).2.2.2.length d] 47)
                have OB := Lib.hid (HO.out.below hb0)
                have BB := Lib.hid (below_step HB.out hb0)
                have RX : Hid (Mm.Rows (wr.alloc (Obj.cells #[.int .i64 (at_ L n).1, .int .i64 (at_ L n).2.1, .int .i64 (at_ L n).2.2.1, .slice D (at_ L n).2.2.2.length d] 47)) (fun b => b < w2.heap.size) [.int .i64 (at_ L n).1, .int .i64 (at_ L n).2.1, .int .i64 (at_ L n).2.2.1, .slice D (at_ L n).2.2.2.length d] [at_ L n]) :=
                  rows_task (at_ L n) rfl F1.out F2.out F3.out (HRX.out.below BB.out) rows_none
                have CX := Lib.hid (cells4 wr (.int .i64 (at_ L n).1) (.int .i64 (at_ L n).2.1) (.int .i64 (at_ L n).2.2.1) (.slice D (at_ L n).2.2.2.length d) 47)
                have TW : Hid (Two A' none) := (two_nil A').swap
                have HMK : Hid (m + 1 ≤ 1000000) := by show _ ≤ _; omega
                clear hb0
                generalize at_ L n = x at *
                go_wp2_with (at_builtin
                             refine list_two slTask rfl _ _ rfl (base := w2.heap.size) (A := A') (B := none) (co := 0) (lo := ([] : List Tsk)) (l := lessTo L k n) (r := [x]) (n := m) (m := 1) HMM.out rfl rfl rfl OB.out (owl_nil _ _ _) TW.out RX.out CX.out HMK.out BB.out.size ?_
                             intro A6 c6 w6 k1 k2 k3 k4
                             have B7 := Lib.hid (BB.out.trans k4)
                             have O7 := Lib.hid k1
                             clear k1 k2 k3 k4)
                go_roundw
                case rel => exact ⟨n + 1, _, A6, m + 1, c6, by go_num, rfl, rfl, hlt, by omega, by rw [HEQ.out, List.length_append, HMM.out]; rfl, HPN, by rw [HEQ.out]; exact O7.out, B7⟩
                case measure => simp [intOf]; omega
            | false =>
              have HPN : Hid (plTo L (n + 1) = false) := hpn
              clear hpn
              by_cases hne : n = k
              · skip
                subst hne
                have HEQ : Hid (lessTo L n (n + 1) = lessTo L n n) := by show _ = _; rw [lessTo, if_pos rfl]
                go_wp2_with fail
                go_roundw
                case rel => exact ⟨n + 1, _, A', m, c', by go_num, rfl, rfl, hlt, by omega, by rw [HEQ.out]; exact HMM.out, HPN, by rw [HEQ.out]; exact HO.out, HB⟩
                case measure => simp [intOf]; omega
              · skip
                have HEQ : Hid (lessTo L k (n + 1) = lessTo L k n ++ [at_ L n]) := by show _ = _; rw [lessTo, if_neg hne]
                have hne' : ¬ (n : Int) = (k : Int) := by omega
                have hb0 := below_one wr (Obj.cells #[.int .i64 (at_ L n).1, .int .i64 (at_ L n).2.1, .int .i64 (at_ L n).2.2.1, .slice D (at_ L n).2.2.2.length d] 47)
                have OB := Lib.hid (HO.out.below hb0)
                have BB := Lib.hid (below_step HB.out hb0)
                have RX : Hid (Mm.Rows (wr.alloc (Obj.cells #[.int .i64 (at_ L n).1, .int .i64 (at_ L n).2.1, .int .i64 (at_ L n).2.2.1, .slice D (at_ L n).2.2.2.length d] 47)) (fun b => b < w2.heap.size) [.int .i64 (at_ L n).1, .int .i64 (at_ L n).2.1, .int .i64 (at_ L n).2.2.1, .slice D (at_ L n).2.2.2.length d] [at_ L n]) :=
                  rows_task (at_ L n) rfl F1.out F2.out F3.out (HRX.out.below BB.out) rows_none
                have CX := Lib.hid (cells4 wr (.int .i64 (at_ L n).1) (.int .i64 (at_ L n).2.1) (.int .i64 (at_ L n).2.2.1) (.slice D (at_ L n).2.2.2.length d) 47)
                have TW : Hid (Two A' none) := (two_nil A').swap
                have HMK : Hid (m + 1 ≤ 1000000) := by show _ ≤ _; omega
                clear hb0
                generalize at_ L n = x at *
                go_wp2_with (at_builtin
                             refine list_two slTask rfl _ _ rfl (base := w2.heap.size) (A := A') (B := none) (co := 0) (lo := ([] : List Tsk)) (l := lessTo L k n) (r := [x]) (n := m) (m := 1) HMM.out rfl rfl rfl OB.out (owl_nil _ _ _) TW.out RX.out CX.out HMK.out BB.out.size ?_
                             intro A6 c6 w6 k1 k2 k3 k4
                             have B7 := Lib.hid (BB.out.trans k4)
                             have O7 := Lib.hid k1
                             clear k1 k2 k3 k4)
                go_roundw
                case rel => exact ⟨n + 1, _, A6, m + 1, c6, by go_num, rfl, rfl, hlt, by omega, by rw [HEQ.out, List.length_append, HMM.out]; rfl, HPN, by rw [HEQ.out]; exact O7.out, B7⟩
                case measure => simp [intOf]; omega
          · have hnl : n = L.length := by omega
            subst hnl
            replace t3 := frozen_below HB.out t2 t3
            replace t1 := (cell_below HB.out) t1
            replace t2 := (cell_below HB.out) t2
            have HTM := Lib.hid (show TL wr A' c' (lessTo L k L.length) from tl_of (Nat.le_trans (lessTo_len L k L.length) hL2) (fun y hy => by
              obtain ⟨j, hj, rfl⟩ := mem_at (lessTo_mem (Nat.le_refl _) hy)
              have := HIN.out j hj
              omega) HO.out.rd)
            clear hL2 hi hkL hmn
            cases v with
            | false =>
              by_cases hbp : (b : Int) + 1 ≤ (p : Int)
              · obtain ⟨rfl, rfl⟩ := HMO.out hbp
                go_wp2_with fail
                refine (HM.out A' c' m HMM.out _ HTM.out).mono ?_
                rintro e w5 ⟨rfl, b5⟩
                replace t3 := frozen_below b5 t2 t3
                replace t1 := (cell_below b5) t1
                replace t2 := (cell_below b5) t2
                have B5 := Lib.hid (below_step (below_step B2.out HB.out) b5)
                clear b5
                go_wp2_with fail
                have n1 : (⟨w.heap.size, 1, none⟩ : Addr) ≠ ⟨w.heap.size, 0, none⟩ := fun e => by injection e with _ e; cases e
                have y1 := (World.cell?_setCell_other w5 ⟨w.heap.size, 1, none⟩ ⟨w.heap.size, 0, none⟩ (.int .i64 ((b : Int) + 1)) n1).trans t1
                have y2 := World.cell?_setCell_same w5 ⟨w.heap.size, 1, none⟩ (.int .i64 ((b : Int) + 1)) t2
                have B6 : Hid (Below w.heap.size w (w5.setCell ⟨w.heap.size, 1, none⟩ (.int .i64 ((b : Int) + 1)))) := B5.out.setCell (Nat.le_refl _) _
                have HT6 := Lib.hid (H0.out.below B6.out)
                clear n1
                go_wp2_with fail
                refine (HN.out _ HT6.out).mono ?_
                rintro e w7 ⟨rfl, b7⟩
                replace y1 := cell_below b7 y1
                replace y2 := cell_below b7 y2
                have B7 := Lib.hid (below_step B6.out b7)
                clear b7
                go_wp2_with fail
                refine (knows10_any _).mono ?_
                rintro e w8 ⟨rfl, b8⟩
                have B8 := Lib.hid (below_step B7.out b8)
                clear b8
                go_wp2_with fail
                go_ret
                exact ⟨rfl, B8.out⟩
              · skip
                go_wp2_with fail
                refine (HM.out A' c' m HMM.out _ HTM.out).mono ?_
                rintro e w5 ⟨rfl, b5⟩
                replace t3 := frozen_below b5 t2 t3
                replace t1 := (cell_below b5) t1
                replace t2 := (cell_below b5) t2
                have B5 := Lib.hid (below_step (below_step B2.out HB.out) b5)
                clear b5
                go_wp2_with fail
                have n1 : (⟨w.heap.size, 1, none⟩ : Addr) ≠ ⟨w.heap.size, 0, none⟩ := fun e => by injection e with _ e; cases e
                have y1 := (World.cell?_setCell_other w5 ⟨w.heap.size, 1, none⟩ ⟨w.heap.size, 0, none⟩ (.int .i64 ((b : Int) + 1)) n1).trans t1
                have y2 := World.cell?_setCell_same w5 ⟨w.heap.size, 1, none⟩ (.int .i64 ((b : Int) + 1)) t2
                have B6 : Hid (Below w.heap.size w (w5.setCell ⟨w.heap.size, 1, none⟩ (.int .i64 ((b : Int) + 1)))) := B5.out.setCell (Nat.le_refl _) _
                have HT6 := Lib.hid (H0.out.below B6.out)
                clear n1
                go_wp2_with fail
                refine (HN.out _ HT6.out).mono ?_
                rintro e w7 ⟨rfl, b7⟩
                replace y1 := cell_below b7 y1
                replace y2 := cell_below b7 y2
                have B7 := Lib.hid (below_step B6.out b7)
                clear b7
                go_wp2_with fail
                refine (knows10_any _).mono ?_
                rintro e w8 ⟨rfl, b8⟩
                have B8 := Lib.hid (below_step B7.out b8)
                clear b8
                go_wp2_with fail
                go_ret
                exact ⟨rfl, B8.out⟩
            | true =>
              rcases HPL.out HV.out with rfl | rfl
              · by_cases hbp : (b : Int) + 1 ≤ (p : Int)
                · obtain ⟨rfl, rfl⟩ := HMO.out hbp
                  go_wp2_with fail
                  refine (HM.out A' c' m HMM.out _ HTM.out).mono ?_
                  rintro e w5 ⟨rfl, b5⟩
                  replace t3 := frozen_below b5 t2 t3
                  replace t1 := (cell_below b5) t1
                  replace t2 := (cell_below b5) t2
                  have B5 := Lib.hid (below_step (below_step B2.out HB.out) b5)
                  clear b5
                  go_wp2_with fail
                  have n1 : (⟨w.heap.size, 1, none⟩ : Addr) ≠ ⟨w.heap.size, 0, none⟩ := fun e => by injection e with _ e; cases e
                  have y1 := (World.cell?_setCell_other w5 ⟨w.heap.size, 1, none⟩ ⟨w.heap.size, 0, none⟩ (.int .i64 ((b : Int) + 1)) n1).trans t1
                  have y2 := World.cell?_setCell_same w5 ⟨w.heap.size, 1, none⟩ (.int .i64 ((b : Int) + 1)) t2
                  have B6 : Hid (Below w.heap.size w (w5.setCell ⟨w.heap.size, 1, none⟩ (.int .i64 ((b : Int) + 1)))) := B5.out.setCell (Nat.le_refl _) _
                  have HT6 := Lib.hid (H0.out.below B6.out)
                  clear n1
                  go_wp2_with fail
                  refine (HN.out _ HT6.out).mono ?_
                  rintro e w7 ⟨rfl, b7⟩
                  replace y1 := cell_below b7 y1
                  replace y2 := cell_below b7 y2
                  have B7 := Lib.hid (below_step B6.out b7)
                  clear b7
                  go_wp2_with fail
                  refine (knows10_any _).mono ?_
                  rintro e w8 ⟨rfl, b8⟩
                  have B8 := Lib.hid (below_step B7.out b8)
                  clear b8
                  go_wp2_with fail
                  go_ret
                  exact ⟨rfl, B8.out⟩
                · skip
                  go_wp2_with fail
                  refine (HM.out A' c' m HMM.out _ HTM.out).mono ?_
                  rintro e w5 ⟨rfl, b5⟩
                  replace t3 := frozen_below b5 t2 t3
                  replace t1 := (cell_below b5) t1
                  replace t2 := (cell_below b5) t2
                  have B5 := Lib.hid (below_step (below_step B2.out HB.out) b5)
                  clear b5
                  go_wp2_with fail
                  have n1 : (⟨w.heap.size, 1, none⟩ : Addr) ≠ ⟨w.heap.size, 0, none⟩ := fun e => by injection e with _ e; cases e
                  have y1 := (World.cell?_setCell_other w5 ⟨w.heap.size, 1, none⟩ ⟨w.heap.size, 0, none⟩ (.int .i64 ((b : Int) + 1)) n1).trans t1
                  have y2 := World.cell?_setCell_same w5 ⟨w.heap.size, 1, none⟩ (.int .i64 ((b : Int) + 1)) t2
                  have B6 : Hid (Below w.heap.size w (w5.setCell ⟨w.heap.size, 1, none⟩ (.int .i64 ((b : Int) + 1)))) := B5.out.setCell (Nat.le_refl _) _
                  have HT6 := Lib.hid (H0.out.below B6.out)
                  clear n1
                  go_wp2_with fail
                  refine (HN.out _ HT6.out).mono ?_
                  rintro e w7 ⟨rfl, b7⟩
                  replace y1 := cell_below b7 y1
                  replace y2 := cell_below b7 y2
                  have B7 := Lib.hid (below_step B6.out b7)
                  clear b7
                  go_wp2_with fail
                  refine (knows10_any _).mono ?_
                  rintro e w8 ⟨rfl, b8⟩
                  have B8 := Lib.hid (below_step B7.out b8)
                  clear b8
                  go_wp2_with fail
                  go_ret
                  exact ⟨rfl, B8.out⟩
              · cases fl with
                | true =>
                  by_cases hbp : (b : Int) + 1 ≤ (p : Int)
                  · obtain ⟨rfl, rfl⟩ := HMO.out hbp
                    go_wp2_with fail
                    refine (HM.out A' c' m HMM.out _ HTM.out).mono ?_
                    rintro e w5 ⟨rfl, b5⟩
                    replace t3 := frozen_below b5 t2 t3
                    replace t1 := (cell_below b5) t1
                    replace t2 := (cell_below b5) t2
                    have B5 := Lib.hid (below_step (below_step B2.out HB.out) b5)
                    clear b5
                    go_wp2_with fail
                    have n1 : (⟨w.heap.size, 1, none⟩ : Addr) ≠ ⟨w.heap.size, 0, none⟩ := fun e => by injection e with _ e; cases e
                    have y1 := (World.cell?_setCell_other w5 ⟨w.heap.size, 1, none⟩ ⟨w.heap.size, 0, none⟩ (.int .i64 ((b : Int) + 1)) n1).trans t1
                    have y2 := World.cell?_setCell_same w5 ⟨w.heap.size, 1, none⟩ (.int .i64 ((b : Int) + 1)) t2
                    have B6 : Hid (Below w.heap.size w (w5.setCell ⟨w.heap.size, 1, none⟩ (.int .i64 ((b : Int) + 1)))) := B5.out.setCell (Nat.le_refl _) _
                    have HT6 := Lib.hid (H0.out.below B6.out)
                    clear n1
                    go_wp2_with fail
                    refine (HN.out _ HT6.out).mono ?_
                    rintro e w7 ⟨rfl, b7⟩
                    replace y1 := cell_below b7 y1
                    replace y2 := cell_below b7 y2
                    have B7 := Lib.hid (below_step B6.out b7)
                    clear b7
                    go_wp2_with fail
                    refine (knows10_any _).mono ?_
                    rintro e w8 ⟨rfl, b8⟩
                    have B8 := Lib.hid (below_step B7.out b8)
                    clear b8
                    go_wp2_with fail
                    go_ret
                    exact ⟨rfl, B8.out⟩
                  · skip
                    go_wp2_with fail
                    refine (HM.out A' c' m HMM.out _ HTM.out).mono ?_
                    rintro e w5 ⟨rfl, b5⟩
                    replace t3 := frozen_below b5 t2 t3
                    replace t1 := (cell_below b5) t1
                    replace t2 := (cell_below b5) t2
                    have B5 := Lib.hid (below_step (below_step B2.out HB.out) b5)
                    clear b5
                    go_wp2_with fail
                    have n1 : (⟨w.heap.size, 1, none⟩ : Addr) ≠ ⟨w.heap.size, 0, none⟩ := fun e => by injection e with _ e; cases e
                    have y1 := (World.cell?_setCell_other w5 ⟨w.heap.size, 1, none⟩ ⟨w.heap.size, 0, none⟩ (.int .i64 ((b : Int) + 1)) n1).trans t1
                    have y2 := World.cell?_setCell_same w5 ⟨w.heap.size, 1, none⟩ (.int .i64 ((b : Int) + 1)) t2
                    have B6 : Hid (Below w.heap.size w (w5.setCell ⟨w.heap.size, 1, none⟩ (.int .i64 ((b : Int) + 1)))) := B5.out.setCell (Nat.le_refl _) _
                    have HT6 := Lib.hid (H0.out.below B6.out)
                    clear n1
                    go_wp2_with fail
                    refine (HN.out _ HT6.out).mono ?_
                    rintro e w7 ⟨rfl, b7⟩
                    replace y1 := cell_below b7 y1
                    replace y2 := cell_below b7 y2
                    have B7 := Lib.hid (below_step B6.out b7)
                    clear b7
                    go_wp2_with fail
                    refine (knows10_any _).mono ?_
                    rintro e w8 ⟨rfl, b8⟩
                    have B8 := Lib.hid (below_step B7.out b8)
                    clear b8
                    go_wp2_with fail
                    go_ret
                    exact ⟨rfl, B8.out⟩
                | false =>
                  by_cases hbp : (b : Int) + 1 ≤ (p : Int)
                  · obtain ⟨rfl, rfl⟩ := HMO.out hbp
                    go_wp2_with fail
                    refine (HM.out A' c' m HMM.out _ HTM.out).mono ?_
                    rintro e w5 ⟨rfl, b5⟩
                    replace t3 := frozen_below b5 t2 t3
                    replace t1 := (cell_below b5) t1
                    replace t2 := (cell_below b5) t2
                    have B5 := Lib.hid (below_step (below_step B2.out HB.out) b5)
                    clear b5
                    go_wp2_with fail
                    have n1 : (⟨w.heap.size, 1, none⟩ : Addr) ≠ ⟨w.heap.size, 0, none⟩ := fun e => by injection e with _ e; cases e
                    have y1 := (World.cell?_setCell_other w5 ⟨w.heap.size, 1, none⟩ ⟨w.heap.size, 0, none⟩ (.int .i64 ((b : Int) + 1)) n1).trans t1
                    have y2 := World.cell?_setCell_same w5 ⟨w.heap.size, 1, none⟩ (.int .i64 ((b : Int) + 1)) t2
                    have B6 : Hid (Below w.heap.size w (w5.setCell ⟨w.heap.size, 1, none⟩ (.int .i64 ((b : Int) + 1)))) := B5.out.setCell (Nat.le_refl _) _
                    have HT6 := Lib.hid (H0.out.below B6.out)
                    clear n1
                    go_wp2_with fail
                    refine (HN.out _ HT6.out).mono ?_
                    rintro e w7 ⟨rfl, b7⟩
                    replace y1 := cell_below b7 y1
                    replace y2 := cell_below b7 y2
                    have B7 := Lib.hid (below_step B6.out b7)
                    clear b7
                    go_wp2_with fail
                    refine (knows10_any _).mono ?_
                    rintro e w8 ⟨rfl, b8⟩
                    have B8 := Lib.hid (below_step B7.out b8)
                    clear b8
                    go_wp2_with fail
                    go_ret
                    exact ⟨rfl, B8.out⟩
                  · skip
                    go_wp2_with fail
                    refine (HM.out A' c' m HMM.out _ HTM.out).mono ?_
                    rintro e w5 ⟨rfl, b5⟩
                    replace t3 := frozen_below b5 t2 t3
                    replace t1 := (cell_below b5) t1
                    replace t2 := (cell_below b5) t2
                    have B5 := Lib.hid (below_step (below_step B2.out HB.out) b5)
                    clear b5
                    go_wp2_with fail
                    have n1 : (⟨w.heap.size, 1, none⟩ : Addr) ≠ ⟨w.heap.size, 0, none⟩ := fun e => by injection e with _ e; cases e
                    have y1 := (World.cell?_setCell_other w5 ⟨w.heap.size, 1, none⟩ ⟨w.heap.size, 0, none⟩ (.int .i64 ((b : Int) + 1)) n1).trans t1
                    have y2 := World.cell?_setCell_same w5 ⟨w.heap.size, 1, none⟩ (.int .i64 ((b : Int) + 1)) t2
                    have B6 : Hid (Below w.heap.size w (w5.setCell ⟨w.heap.size, 1, none⟩ (.int .i64 ((b : Int) + 1)))) := B5.out.setCell (Nat.le_refl _) _
                    have HT6 := Lib.hid (H0.out.below B6.out)
                    clear n1
                    go_wp2_with fail
                    refine (HN.out _ HT6.out).mono ?_
                    rintro e w7 ⟨rfl, b7⟩
                    replace y1 := cell_below b7 y1
                    replace y2 := cell_below b7 y2
                    have B7 := Lib.hid (below_step B6.out b7)
                    clear b7
                    go_wp2_with fail
                    refine (knows10_any _).mono ?_
                    rintro e w8 ⟨rfl, b8⟩
                    have B8 := Lib.hid (below_step B7.out b8)
                    clear b8
                    go_wp2_with fail
                    go_ret
                    exact ⟨rfl, B8.out⟩

set_option maxRecDepth 100000 in
theorem lifted (os : Os) (started : os.Started) (H : Type) (enc : TypeId × Value → H) :
    ReturnsInHanded {} Try.checked os 8 .any (Rows.verdictLessSpec.pre6 enc Try.prog Try.f8 Rows.verdictLessRow.domain false) (Rows.verdictLessSpec.post enc Try.prog Try.f8 false true false false) := by
  refine returnsInHanded_of_change (C := Try.checked) own started (by kernel_rfl) Try.func8
    (ChangeSpec.witness6 (enc := enc) (C := Try.checked) false ⟨#[], #[.slice none 0 0, .agg #[.int .i64 0, .int .i64 0], .int .u8 0], []⟩ 8 (by kernel_rfl) (by kernel_rfl) (by kernel_rfl) (by kernel_rfl)) ?_
  intro W base args ds gs before hval0 hW hcnd _
  have hval : ∀ (j : Nat) t v, Try.f8.params[j]? = some t → args[j]? = some v → Value.okWide Try.prog W .any base t v := hval0
  have hW' := hW
  obtain ⟨p, q, hA0, hV, rfl, hfz, hnd⟩ := hW
  have hA : DataW.TrodAll enc Try.prog W 0 (fun _ => true) true Try.f8.params.toList args.toList ds p := hA0
  rw [Try.params8] at hA hval
  obtain ⟨v0, v1, v2, d0, d1, d2, p0, p1, p2, rfl, rfl, rfl, h0, h1, h2⟩ := trodAll_three hA
  obtain ⟨rfl, rfl⟩ := trodVars_none hV
  obtain ⟨A0, c0, l0, rfl, hr0⟩ := Mm.open_list (α := Tk.Tsk) Try.underlying22 Tk.opTasks (hval 0 22 v0 rfl rfl) h0
  obtain ⟨P1, B1, rfl, fp1, fb1⟩ := Sp.open_face (hval 1 31 v1 rfl rfl) h1
  obtain ⟨n2, rfl, f2⟩ := Mm.open_u8' Try.underlying5 (hval 2 5 v2 rfl rfl) h2
  clear hA0 hval0
  refine (walk A0 c0 l0 P1 B1 n2 W hr0 fp1 fb1 f2).mono fun e W' ⟨he, bel⟩ => ?_
  subst he
  have hlt0 : ∀ x ∈ p0, x.block < W.heap.size := fun x hx => hW'.lt x (by simp [hx])
  have hlt1 : ∀ x ∈ p1, x.block < W.heap.size := fun x hx => hW'.lt x (by simp [hx])
  have hlt2 : ∀ x ∈ p2, x.block < W.heap.size := fun x hx => hW'.lt x (by simp [hx])
  exact ⟨_, rfl, _, _, _, [], _, [], hW', trodAll_mk1 (shut_bool Try.underlying4 _), trodAll_mk3 (Below.trod laidOut (by kernel_rfl) (of_decide_eq_true (by kernel_rfl)) h0 bel hlt0) (Below.trod laidOut (by kernel_rfl) (of_decide_eq_true (by kernel_rfl)) h1 bel hlt1) (Below.trod laidOut (by kernel_rfl) (of_decide_eq_true (by kernel_rfl)) h2 bel hlt2), rfl, bel.frame _, fun h => by cases h⟩

/-- The statement. -/
theorem proved : Rows.VerdictLessSaid :=
  OpenClaim.holds_of_wide 8 Try.f8 rfl rfl rfl rfl rfl rfl rfl ⟨rfl, rfl, rfl, rfl, rfl⟩ rfl rfl rfl rfl rfl (by kernel_rfl) Try.func8 (by kernel_rfl)
    (of_decide_eq_true (by kernel_rfl)) (by unfold Func.isWrapper; first | (rw [if_pos (by decide +kernel)]; kernel_rfl) | (rw [if_neg (by decide +kernel)]; exact ⟨rfl, rfl⟩))
    (fun os started H enc _ => lifted os started H enc)
#print axioms proved

end Go.Proofs.Ytldiplnccgoeiaa.verdictLess
