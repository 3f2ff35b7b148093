/-
  For all tasks and any number the statement BlockNone of layer 8 returns true (tasks without sections, and tasks of one deadline, never block), and its arguments read as before. No condition.
-/
import Derived.Test.YtnkgfkmdfplneaaLaw05Args
import Derived.Test.YtnkgfkmdfplneaaLaw08Knows
import Derived.Test.YtnkgfkmdfplneaaTaskOwn
import Derived.Test.YtnkgfkmdfplneaaMemTwo
namespace Go.Proofs.Ytnkgfkmdfplneaa.blockNone
open Go.ChangeShapes Go.WideShapes Go.ChangeAt Go.RowKit
open Mm Tk Bk
attribute [local go_sem ↓] buildTask3

/-- a task without its sections; the tasks due as the first one -/
def strip (x : Tsk) : Tsk := (x.1, x.2.1, x.2.2.1, [])
def plains (L : List Tsk) (k : Nat) : List Tsk := (L.take k).map strip
def ones (L : List Tsk) (k : Nat) : List Tsk := (L.take k).filter fun y => decide (y.2.1 = (at_ L 0).2.1)
theorem plains_succ {L : List Tsk} {k : Nat} (h : k < L.length) : plains L (k + 1) = plains L k ++ [strip (at_ L k)] := by
  unfold plains
  rw [take_succ_at h, List.map_append]
  rfl
theorem plains_len {L : List Tsk} {k : Nat} (h : k ≤ L.length) : (plains L k).length = k := by
  unfold plains
  rw [List.length_map, List.length_take]
  omega
theorem ones_yes {L : List Tsk} {k : Nat} (h : k < L.length) (hd : (at_ L k).2.1 = (at_ L 0).2.1) : ones L (k + 1) = ones L k ++ [at_ L k] := by
  unfold ones
  rw [take_succ_at h, List.filter_append]
  simp [hd]
theorem ones_no {L : List Tsk} {k : Nat} (h : k < L.length) (hd : ¬ (at_ L k).2.1 = (at_ L 0).2.1) : ones L (k + 1) = ones L k := by
  unfold ones
  rw [take_succ_at h, List.filter_append]
  simp [hd]
theorem ones_len (L : List Tsk) (k : Nat) : (ones L k).length ≤ k := by
  unfold ones
  exact Nat.le_trans (List.length_filter_le _ _) (by rw [List.length_take]; omega)
theorem strip_right {x : Tsk} (h : rightT x = true) : rightT (strip x) = true := by
  have h1 := (rightB_iff.1 (show rightB x.1 x.2.1 x.2.2.1 x.2.2.2 = true from h)).1
  exact rightB_iff.2 ⟨h1, Nat.zero_le _, rfl, rfl⟩
theorem all_plain {L : List Tsk} (h : allB L = true) : allB (plains L L.length) = true := by
  unfold allB at h ⊢
  rw [Bool.and_eq_true, decide_eq_true_eq, List.all_eq_true] at h ⊢
  refine ⟨by rw [plains_len (Nat.le_refl _)]; exact h.1, fun y hy => ?_⟩
  unfold plains at hy
  rw [List.take_length] at hy
  obtain ⟨x, hx, rfl⟩ := List.mem_map.1 hy
  exact strip_right (h.2 x hx)
theorem all_one {L : List Tsk} (h : allB L = true) : allB (ones L L.length) = true := by
  unfold allB at h ⊢
  rw [Bool.and_eq_true, decide_eq_true_eq, List.all_eq_true] at h ⊢
  refine ⟨Nat.le_trans (ones_len L L.length) h.1, fun y hy => ?_⟩
  unfold ones at hy
  rw [List.take_length] at hy
  exact h.2 y (List.mem_filter.1 hy).1
theorem blk_plains (L : List Tsk) (t : Int) : blk (plains L L.length) t = 0 := blk_plain (fun y hy => by
  unfold plains at hy
  obtain ⟨x, _, rfl⟩ := List.mem_map.1 hy
  rfl) t
theorem blk_ones (L : List Tsk) (t : Int) : blk (ones L L.length) t = 0 := blk_one (d := (at_ L 0).2.1) (fun y hy => by
  unfold ones at hy
  exact of_decide_eq_true (List.mem_filter.1 hy).2) t

theorem tl_of {w : World} {A : Option Addr} {c : Nat} {M : List Tsk} (h1 : M.length ≤ 1000000) (h2 : ∀ y ∈ M, y.2.2.2.length ≤ 1000000) (hr : Rd w A c M) : TL w A c M := ⟨h1, fun j hj => h2 _ (at_mem hj), hr⟩
theorem cells4 (w : World) (a b c d : Value) (e : TypeId) : ∀ j u, [a, b, c, d][j]? = some u → (w.alloc (.cells #[a, b, c, d] e)).cell? ⟨w.heap.size, 0 + j, none⟩ = some u := fun j u h => by
  rw [Nat.zero_add, World.cell?_alloc_new]
  match j, h with
  | 0, h => injection h with h; subst h; rfl
  | 1, h => injection h with h; subst h; rfl
  | 2, h => injection h with h; subst h; rfl
  | 3, h => injection h with h; subst h; rfl
  | j + 4, h => simp at h

set_option maxRecDepth 20000 in
set_option maxHeartbeats 4000000 in
theorem walk (A : Option Addr) (c : Nat) (L : List Tsk) (t : Int) (w : World) (hr : Rd w A c L) (ft : Fit t) :
    Calls Try.prog 6 #[.slice A L.length c, .int .i64 t] w fun e w' => e = .returned (.bool true) ∧ Below w.heap.size w w' := by
  have HR := Lib.hid hr
  have FT := Lib.hid ft
  clear hr ft
  cases hg : greatB L with
  | true =>
    go_enter Try.func6, Try.ntmps6
    go_wp2_with fail
    refine (great_any A c L _ HR.out).mono ?_
    rintro e w1 ⟨rfl, b1⟩
    rw [hg]
    have B1 := Lib.hid b1
    clear b1
    go_wp2_with fail
    refine (knows8_any _).mono ?_
    rintro e w2 ⟨rfl, b2⟩
    have B2 := Lib.hid (below_step B1.out b2)
    clear b2
    go_wp2_with fail
    go_ret
    exact ⟨rfl, B2.out⟩
  | false =>
    obtain ⟨hL, hin⟩ := great_no hg
    have HT : Hid (TL w A c L) := ⟨by omega, fun j hj => by have := hin j hj; omega, HR.out⟩
    have HIN := Lib.hid hin
    have HGR := Lib.hid hg
    clear hg hin
    have hb1 : L.length ≤ 1000000 := by omega
    have HL := Lib.hid hL
    clear hL
    cases hv : allB L with
    | false =>
      have HV := Lib.hid hv
      clear hv
      go_enter Try.func6, Try.ntmps6
      go_wp2_with fail
      refine (great_any A c L _ HR.out).mono ?_
      rintro e w1 ⟨rfl, b1⟩
      rw [HGR.out]
      replace HT := Lib.hid (HT.out.below b1)
      have B1 := Lib.hid b1
      clear b1
      go_wp2_with fail
      refine (refAll_v A c L false HV.out _ rfl _ HT.out).mono ?_
      rintro e w2 ⟨rfl, b2⟩
      have B2 := Lib.hid (below_step B1.out b2)
      replace HT := Lib.hid (HT.out.below b2)
      clear b2
      go_wp2_with fail
      refine (knows8_any _).mono ?_
      rintro e w3 ⟨rfl, b3⟩
      have B3 := Lib.hid (below_step B2.out b3)
      clear b3
      go_wp2_with fail
      go_ret
      exact ⟨rfl, B3.out⟩
    | true =>
      obtain ⟨p1, p2, _⟩ := of_good (all_plain hv) t
      obtain ⟨q1, q2, _⟩ := of_good (all_one hv) t
      rw [blk_plains] at p1
      rw [blk_ones] at q1
      have HV := Lib.hid hv
      have P1 := Lib.hid p1
      have P2 := Lib.hid p2
      have Q1 := Lib.hid q1
      have Q2 := Lib.hid q2
      clear hv p1 p2 q1 q2
      go_enter Try.func6, Try.ntmps6
      go_wp2_with fail
      refine (great_any A c L _ HR.out).mono ?_
      rintro e w1 ⟨rfl, b1⟩
      rw [HGR.out]
      have HT1 := Lib.hid (HT.out.below b1)
      have B1 := Lib.hid b1
      clear b1
      go_wp2_with fail
      refine (refAll_v A c L true HV.out _ rfl _ HT1.out).mono ?_
      rintro e w2 ⟨rfl, b2⟩
      have B2 := Lib.hid (below_step B1.out b2)
      clear b2
      go_wp2_with fail
      go_loopw [5, 6, 7] (fun pv ov iv wr => ∃ (k : Nat) (Bp : Option Addr) (cp : Nat) (Bo : Option Addr) (m co : Nat), iv = .int .i64 k ∧ pv = .slice Bp k cp ∧ ov = .slice Bo m co ∧ k ≤ L.length ∧ Hid ((ones L k).length = m) ∧
        Hid (OwL wr w.heap.size 37 Bp cp (plains L k)) ∧ Hid (OwL wr w.heap.size 37 Bo co (ones L k)) ∧ Hid (Two Bp Bo) ∧ Hid (Below w.heap.size w wr)) (fun _ _ iv _ => L.length - (intOf iv).toNat)
      case atStart => exact ⟨0, none, 0, none, 0, 0, rfl, rfl, rfl, Nat.zero_le _, rfl, owl_nil _ _ _, owl_nil _ _ _, two_nil _, B2.out⟩
      case round =>
        obtain ⟨k, Bp, cp, Bo, m, co, rfl, rfl, rfl, hk, HM, HP, HO, HTW, HB⟩ := hrel
        by_cases hlt : k < L.length
        · obtain ⟨b, off, rfl, hc⟩ := task_at HT.out.2.2 (by omega)
          obtain ⟨B, d, x1, x2, x3, x4, f1, f2, f3, r⟩ := hc k hlt
          obtain ⟨_, _, _, y2, _, _, _, _, _, _⟩ := hc 0 (by omega)
          have HX1 := Lib.hid x1
          have HX2 := Lib.hid x2
          have HX3 := Lib.hid x3
          have KX1 := HX1
          have KX2 := HX2
          have KX3 := HX3
          have HX4 := Lib.hid x4
          rw [Nat.zero_mul, Nat.add_zero] at y2
          have HY2 := Lib.hid y2
          have HRX := Lib.hid r.rd.old
          replace x1 := (cell_below HB.out) x1
          replace x2 := (cell_below HB.out) x2
          replace x3 := (cell_below HB.out) x3
          replace x4 := (cell_below HB.out) x4
          clear hc r y2
          have i1 : (0 : Int) ≤ (k : Int) := by omega
          have i2 : (k : Int) < (L.length : Int) := by omega
          have i3 : (0 : Int) < (L.length : Int) := by omega
          have i4 : 0 < L.length := by omega
          have i5 : decide (0 < L.length) = true := decide_eq_true i4
          have HPS := Lib.hid (plains_succ hlt)
          have HPL : Hid ((plains L k).length = k) := plains_len hk
          have HOY : Hid ((at_ L k).2.1 = (at_ L 0).2.1 → ones L (k + 1) = ones L k ++ [at_ L k]) := fun h => ones_yes hlt h
          have HON : Hid (¬ (at_ L k).2.1 = (at_ L 0).2.1 → ones L (k + 1) = ones L k) := fun h => ones_no hlt h
          have HMK : Hid (m + 1 ≤ 1000000) := by have := ones_len L k; have := HM.out; show _ ≤ _; omega
          have F1 := Lib.hid f1
          have F2 := Lib.hid f2
          have F3 := Lib.hid f3
          clear f1 f2 f3
          have n1 : k + 1 ≤ 1000000 := by omega
          generalize at_ L 0 = y at *
          generalize at_ L k = x at *
          have BD := Lib.hid ((Below.refl wr.heap.size wr).drew.alloc (Nat.le_refl _) (Obj.cells #[.int .i64 x.1, .int .i64 x.2.1, .int .i64 x.2.2.1, .slice none 0 0] 37))
          have BA := Lib.hid (below_step HB.out BD.out)
          have PA := Lib.hid (HP.out.below BD.out)
          have OA := Lib.hid (HO.out.below BD.out)
          have RC : Hid (Mm.Rows (wr.drew.alloc (Obj.cells #[.int .i64 x.1, .int .i64 x.2.1, .int .i64 x.2.2.1, .slice none 0 0] 37)) (fun b => b < w.heap.size) [.int .i64 x.1, .int .i64 x.2.1, .int .i64 x.2.2.1, .slice none 0 0] [strip x]) :=
            rows_task (strip x) rfl F1.out F2.out F3.out (rd_nil (fun _ => rfl) (Nat.zero_le _)) rows_none
          have CC := Lib.hid (cells4 wr.drew (.int .i64 x.1) (.int .i64 x.2.1) (.int .i64 x.2.2.1) (.slice none 0 0) 37)
          go_wp2_with fail
          go_region_held3 (fun w' => w'.cell? ⟨b, off + k * 4, none⟩ = some (.int .i64 x.1) ∧ w'.cell? ⟨b, off + k * 4 + 1, none⟩ = some (.int .i64 x.2.1) ∧ w'.cell? ⟨b, off + k * 4 + 2, none⟩ = some (.int .i64 x.2.2.1))
            (first
              | (exact ⟨cell_below B5.out HX1.out, cell_below B5.out HX2.out, cell_below B5.out HX3.out⟩)
              | (exact ⟨cell_below BA.out HX1.out, cell_below BA.out HX2.out, cell_below BA.out HX3.out⟩)
              | (exact ⟨x1, x2, x3⟩))
            (first
              | (refine step_two slTask (by rfl) _ _ (by rfl) (base := w.heap.size) (B := Bo) (co := co) (lo := ones L k) (l := plains L k) (r := [strip x]) (n := k) (m := 1) HPL.out rfl (by rfl) (by rfl) (by exact PA.out) (by exact OA.out) HTW.out (by exact RC.out) (by exact CC.out) n1 BA.out.size ?_
                 intro A5 c5 w5 k1 k2 k3 k4
                 have B5 := Lib.hid (BA.out.trans k4)
                 have P5 := Lib.hid k1
                 have O5 := Lib.hid k2
                 have T5 := Lib.hid k3
                 clear k1 k2 k3 k4))
          clear x1 x2 x3 x4
          go_split_ands
          have x1 := cell_below B5.out HX1.out
          have x2 := cell_below B5.out HX2.out
          have x3 := cell_below B5.out HX3.out
          have x4 := cell_below B5.out HX4.out
          have y2 := cell_below B5.out HY2.out
          have P6 : Hid (OwL w5 w.heap.size 37 A5 c5 (plains L (k + 1))) := by show OwL _ _ _ _ _ _; rw [HPS.out]; exact P5.out
          have HP6L : Hid ((plains L (k + 1)).length = k + 1) := plains_len hlt
          clear HP HO HTW PA OA RC CC BD BA P5 HX1 HX2 HX3
          by_cases he : x.2.1 = y.2.1
          · have HEQ := Lib.hid (HOY.out he)
            have hbe : (x.2.1 == y.2.1) = true := by simp [he]
            have hde : decide (x.2.1 = y.2.1) = true := decide_eq_true he
            have HE := Lib.hid he
            clear he
            go_wp2_with fail
            replace x1 := cell_bw x1
            replace x2 := cell_bw x2
            replace x3 := cell_bw x3
            replace x4 := cell_bw x4
            replace y2 := cell_bw y2
            refine wp_region_bw (by kernel_rfl) (by kernel_rfl) ?_
            repeat
              (with_reducible refine wpQuiet_step (fun K hK => ?_)
               go_simp
               first
                 | (with_reducible refine hK _ ?_
                    clear hK K)
                 | (rw [if_neg]
                    rotate_left
                    focus (intro h; cases h; done)
                    with_reducible refine hK _ ?_
                    clear hK K)
                 | (apply Exists.intro
                    refine ⟨fun _ => ?_, hK _ ?_⟩
                    (fail)
                    clear hK K))
            with_reducible refine wpQuiet_nil ?_
            intro wb hw'
            obtain ⟨⟨wb', lb⟩, hw''⟩ := hw'
            subst hw''
            have B6 := Lib.hid (B5.out.trans (lb.mono B5.out.size))
            replace P6 := Lib.hid (P6.out.below lb)
            replace O5 := Lib.hid (O5.out.below lb)
            have hb0 := below_one wb (Obj.cells #[.int .i64 x.1, .int .i64 x.2.1, .int .i64 x.2.2.1, .slice B x.2.2.2.length d] 37)
            have PB := Lib.hid (P6.out.below hb0)
            have OB := Lib.hid (O5.out.below hb0)
            have BB := Lib.hid (below_step B6.out hb0)
            have RX : Hid (Mm.Rows (wb.alloc (Obj.cells #[.int .i64 x.1, .int .i64 x.2.1, .int .i64 x.2.2.1, .slice B x.2.2.2.length d] 37)) (fun b => b < w.heap.size) [.int .i64 x.1, .int .i64 x.2.1, .int .i64 x.2.2.1, .slice B x.2.2.2.length d] [x]) :=
              rows_task x rfl F1.out F2.out F3.out (HRX.out.below BB.out) rows_none
            have CX := Lib.hid (cells4 wb (.int .i64 x.1) (.int .i64 x.2.1) (.int .i64 x.2.2.1) (.slice B x.2.2.2.length d) 37)
            have v1 := cell_below lb (cell_below B5.out KX1.out)
            have v2 := cell_below lb (cell_below B5.out KX2.out)
            have v3 := cell_below lb (cell_below B5.out KX3.out)
            have v4 := cell_below lb (cell_below B5.out HX4.out)
            clear lb hb0 x1 x2 x3 x4 y2
            go_wp2_with (at_builtin
                         refine list_two slTask rfl _ _ rfl (base := w.heap.size) (A := Bo) (B := A5) (l := ones L k) (lo := plains L (k + 1)) (r := [x]) (n := m) (m := 1) HM.out rfl rfl rfl OB.out PB.out T5.out.swap RX.out CX.out HMK.out BB.out.size ?_
                         intro A6 c6 w6 k1 k2 k3 k4
                         have B7 := Lib.hid (BB.out.trans k4)
                         have O7 := Lib.hid k1
                         have P7 := Lib.hid k2
                         have T7 := Lib.hid k3.swap
                         clear k1 k2 k3 k4)
            go_roundw
            case rel => exact ⟨k + 1, A5, c5, A6, m + 1, c6, by go_num, rfl, rfl, hlt, by rw [HEQ.out, List.length_append, HM.out]; rfl, P7.out, by rw [HEQ.out]; exact O7.out, T7.out, B7.out⟩
            case measure => simp [intOf]; omega
          · have HEQ := Lib.hid (HON.out he)
            have hbe : (x.2.1 == y.2.1) = false := by simp [he]
            have hde : decide (x.2.1 = y.2.1) = false := decide_eq_false he
            have HE := Lib.hid he
            clear he
            go_wp2_with fail
            replace x2 := cell_bw x2
            replace y2 := cell_bw y2
            refine wp_region_bw (by kernel_rfl) (by kernel_rfl) ?_
            repeat
              (with_reducible refine wpQuiet_step (fun K hK => ?_)
               go_simp
               first
                 | (with_reducible refine hK _ ?_
                    clear hK K)
                 | (rw [if_neg]
                    rotate_left
                    focus (intro h; cases h; done)
                    with_reducible refine hK _ ?_
                    clear hK K)
                 | (apply Exists.intro
                    refine ⟨fun _ => ?_, hK _ ?_⟩
                    (fail)
                    clear hK K))
            with_reducible refine wpQuiet_nil ?_
            intro wb hw'
            obtain ⟨⟨wb', lb⟩, hw''⟩ := hw'
            subst hw''
            have B6 := Lib.hid (B5.out.trans (lb.mono B5.out.size))
            replace P6 := Lib.hid (P6.out.below lb)
            replace O5 := Lib.hid (O5.out.below lb)
            clear lb
            go_wp2_with fail
            go_roundw
            case rel => exact ⟨k + 1, A5, c5, Bo, m, co, by go_num, rfl, rfl, hlt, by rw [HEQ.out]; exact HM.out, P6.out, by rw [HEQ.out]; exact O5.out, T5.out, B6.out⟩
            case measure => simp [intOf]; omega
        · have hkl : k = L.length := by omega
          subst hkl
          have HTP := Lib.hid (show TL wr Bp cp (plains L L.length) from tl_of (by rw [plains_len (Nat.le_refl _)]; exact hb1) (fun y hy => by
            unfold plains at hy
            obtain ⟨x, _, rfl⟩ := List.mem_map.1 hy
            exact Nat.zero_le _) HP.out.rd)
          have HTO := Lib.hid (show TL wr Bo co (ones L L.length) from tl_of (Nat.le_trans (ones_len L L.length) hb1) (fun y hy => by
            unfold ones at hy
            rw [List.take_length] at hy
            obtain ⟨j, hj, rfl⟩ := mem_at (List.mem_filter.1 hy).1
            have := HIN.out j hj
            omega) HO.out.rd)
          have HPL : Hid ((plains L L.length).length = L.length) := plains_len (Nat.le_refl _)
          go_wp2_with fail
          refine (of_v Bp cp (plains L L.length) t 0 0 P1.out P2.out L.length HPL.out _ HTP.out).mono ?_
          rintro e w3 ⟨rfl, b3⟩
          have B3 := Lib.hid (below_step HB.out b3)
          replace HTO := Lib.hid (HTO.out.below b3)
          clear b3
          go_wp2_with fail
          refine (of_v Bo co (ones L L.length) t 0 0 Q1.out Q2.out m HM.out _ HTO.out).mono ?_
          rintro e w4 ⟨rfl, b4⟩
          have B4 := Lib.hid (below_step B3.out b4)
          clear b4
          go_wp2_with fail
          refine (knows8_any _).mono ?_
          rintro e w5 ⟨rfl, b5⟩
          have B5 := Lib.hid (below_step B4.out b5)
          clear b5
          go_wp2_with fail
          go_ret
          exact ⟨rfl, B5.out⟩

set_option maxRecDepth 100000 in
theorem lifted (os : Os) (started : os.Started) (H : Type) (enc : TypeId × Value → H) :
    ReturnsInHanded {} Try.checked os 6 .any (Rows.blockNoneSpec.pre6 enc Try.prog Try.f6 Rows.blockNoneRow.domain false) (Rows.blockNoneSpec.post enc Try.prog Try.f6 false true false false) := by
  refine returnsInHanded_of_change (C := Try.checked) own started (by kernel_rfl) Try.func6
    (ChangeSpec.witness6 (enc := enc) (C := Try.checked) false ⟨#[], #[.slice none 0 0, .int .i64 0], []⟩ 8 (by kernel_rfl) (by kernel_rfl) (by kernel_rfl) (by kernel_rfl)) ?_
  intro W base args ds gs before hval0 hW hcnd _
  have hval : ∀ (j : Nat) t v, Try.f6.params[j]? = some t → args[j]? = some v → Value.okWide Try.prog W .any base t v := hval0
  have hW' := hW
  obtain ⟨p, q, hA0, hV, rfl, hfz, hnd⟩ := hW
  have hA : DataW.TrodAll enc Try.prog W 0 (fun _ => true) true Try.f6.params.toList args.toList ds p := hA0
  rw [Try.params6] at hA hval
  obtain ⟨v0, v1, d0, d1, p0, p1, rfl, rfl, rfl, h0, h1⟩ := trodAll_two hA
  obtain ⟨rfl, rfl⟩ := trodVars_none hV
  obtain ⟨A0, c0, l0, rfl, hr0⟩ := Mm.open_list (α := Tk.Tsk) Try.underlying22 Tk.opTasks (hval 0 22 v0 rfl rfl) h0
  obtain ⟨n1, rfl, f1⟩ := Mm.open_num' Try.underlying3 (hval 1 3 v1 rfl rfl) h1
  clear hA0 hval0
  refine (walk A0 c0 l0 n1 W hr0 f1).mono fun e W' ⟨he, bel⟩ => ?_
  subst he
  have hlt0 : ∀ x ∈ p0, x.block < W.heap.size := fun x hx => hW'.lt x (by simp [hx])
  have hlt1 : ∀ x ∈ p1, x.block < W.heap.size := fun x hx => hW'.lt x (by simp [hx])
  exact ⟨_, rfl, _, _, _, [], _, [], hW', trodAll_mk1 (shut_bool Try.underlying4 _), trodAll_mk2 (Below.trod laidOut (by kernel_rfl) (of_decide_eq_true (by kernel_rfl)) h0 bel hlt0) (Below.trod laidOut (by kernel_rfl) (of_decide_eq_true (by kernel_rfl)) h1 bel hlt1), rfl, bel.frame _, fun h => by cases h⟩

/-- The statement. -/
theorem proved : Rows.BlockNoneSaid :=
  OpenClaim.holds_of_wide 6 Try.f6 rfl rfl rfl rfl rfl rfl rfl ⟨rfl, rfl, rfl, rfl, rfl⟩ rfl rfl rfl rfl rfl (by kernel_rfl) Try.func6 (by kernel_rfl)
    (of_decide_eq_true (by kernel_rfl)) (by unfold Func.isWrapper; first | (rw [if_pos (by decide +kernel)]; kernel_rfl) | (rw [if_neg (by decide +kernel)]; exact ⟨rfl, rfl⟩))
    (fun os started H enc _ => lifted os started H enc)
#print axioms proved

end Go.Proofs.Ytnkgfkmdfplneaa.blockNone
