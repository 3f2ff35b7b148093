/-
  Merged texts: Law18Knows, Law18Args, Law18Right, Law18Same, Law18As, Law18Deliver.
-/
import Derived.Test.YtfkcplnjhelclaaOPortOpen
import Derived.Test.YtfkcplnjhelclaaGmem
import Derived.Test.YtfkcplnjhelclaaGport
import Derived.Test.YtfkcplnjhelclaaGlaw03
import Derived.Deep.RegionLaw
/-
  Layer 18: the statements' helper knows: the document's example; a literal of a port.
-/
namespace Go.Proofs.Ytfkcplnjhelclaa
open Go.RowKit Mm
namespace Po

theorem buildPort (a b c : Int) (w : World) : (Instr.build 34 #[(0, .int .i64 a), (1, .int .i64 b), (2, .int .i64 c)]).run Try.prog w = .ok (.agg #[.int .i64 a, .int .i64 b, .int .i64 c]) w := by kernel_rfl
theorem rd_lit (w : World) (a b c : Int) (f1 : Fit a) (f2 : Fit b) (f3 : Fit c) : Rd (w.alloc (.cells #[.int .i64 a, .int .i64 b, .int .i64 c] 34)) (some ⟨w.heap.size, 0, none⟩) 1 [((a, b, c) : Pt)] :=
  OwS.rd (ow_lit (l := [((a, b, c) : Pt)]) w (fun _ => True) w.heap.size 34 #[.int .i64 a, .int .i64 b, .int .i64 c] (Nat.le_refl _) (by simp) ⟨_, [], (List.append_nil _).symm, rd_port.2 ⟨rfl, f1, f2, f3⟩, rfl⟩)

set_option synthInstance.maxSize 2000
def kP : List Pt := [(0, 1, 2)]
def k0 : List Lin := [((0, 1, 2), ([0, 0], 0, 0), ([0, 0], 0, 0))]
def k1 : List Lin := [((0, 1, 2), ([7, 0], 0, 1), ([0, 0], 0, 0))]
def k2 : List Lin := [((0, 1, 2), ([0, 0], 0, 0), ([7, 0], 0, 1))]
def k3 : List Lin := [((0, 1, 2), ([0, 0], 0, 0), ([7, 0], 1, 0))]
theorem ko : openS kP = k0 := by decide +kernel
theorem koe : openE kP = 0 := by decide +kernel
theorem ks : sendL k0 0 0 7 = k1 := by decide +kernel
theorem kse : sendE k0 0 0 = 0 := by decide +kernel
theorem kr : readL k1 1 0 = k1 := by decide +kernel
theorem krv : readV k1 1 0 = 0 := by decide +kernel
theorem kre : readE k1 1 0 = 4 := by decide +kernel
theorem kd : delS k1 = k2 := by decide +kernel
theorem kt : readL k2 1 0 = k3 := by decide +kernel
theorem ktv : readV k2 1 0 = 7 := by decide +kernel
theorem kte : readE k2 1 0 = 0 := by decide +kernel
theorem kok : okS k1 = true := by decide +kernel
theorem f7 : Fit 7 := ⟨by decide, by decide⟩

section
attribute [local go_sem ↓] buildPort
set_option maxHeartbeats 1600000 in
theorem knows18_any (w : World) : Calls Try.prog 8 #[] w fun e w' => e = .returned (.bool true) ∧ Below w.heap.size w w' := by
  have HL : Hid (Rd (w.alloc (.cells #[.int .i64 0, .int .i64 1, .int .i64 2] 34)) (some ⟨w.heap.size, 0, none⟩) 1 kP) := rd_lit w 0 1 2 ⟨by decide, by decide⟩ ⟨by decide, by decide⟩ ⟨by decide, by decide⟩
  have HB := Lib.hid (below_one w (.cells #[.int .i64 0, .int .i64 1, .int .i64 2] 34))
  go_enter Try.func8, Try.ntmps8
  go_wp2_with fail
  generalize w.alloc (.cells #[.int .i64 0, .int .i64 1, .int .i64 2] 34) = w0 at *
  refine (open_v 1 k0 0 rfl ko koe _ (by decide) HL.out).mono ?_
  rintro e w1 ⟨A1, c1, rfl, r1, b1⟩
  have R1 := Lib.hid (RdS.rd r1)
  replace HB := Lib.hid (below_step HB.out b1)
  clear r1 b1 HL
  go_wp2_with fail
  refine (send_v (S := fun _ => True) 0 0 7 1 k1 0 rfl ks kse _ (by decide) R1.out f7).mono ?_
  rintro e w2 ⟨A2, c2, rfl, r2, b2⟩
  have R2 := Lib.hid (RdS.rd r2)
  replace HB := Lib.hid (below_step HB.out b2)
  clear r2 b2 R1
  go_wp2_with fail
  refine (read_v (S := fun _ => True) 1 0 1 k1 0 4 rfl kr krv kre _ (by decide) R2.out).mono ?_
  rintro e w3 ⟨A3, c3, rfl, r3, b3⟩
  replace R2 := Lib.hid (R2.out.below b3)
  replace HB := Lib.hid (below_step HB.out b3)
  clear r3 b3
  go_wp2_with fail
  refine (deliver_v (S := fun _ => True) 1 k2 rfl kd _ (by decide) R2.out).mono ?_
  rintro e w4 ⟨A4, c4, rfl, r4, b4⟩
  have R4 := Lib.hid (RdS.rd r4)
  replace R2 := Lib.hid (R2.out.below b4)
  replace HB := Lib.hid (below_step HB.out b4)
  clear r4 b4
  go_wp2_with fail
  refine (read_v (S := fun _ => True) 1 0 1 k3 7 0 rfl kt ktv kte _ (by decide) R4.out).mono ?_
  rintro e w5 ⟨A5, c5, rfl, r5, b5⟩
  replace R2 := Lib.hid (R2.out.below b5)
  replace HB := Lib.hid (below_step HB.out b5)
  clear r5 b5
  go_wp2_with fail
  refine (right_n A2 c2 k1 1 true rfl kok _ (by decide) R2.out).mono ?_
  rintro e w6 ⟨rfl, b6⟩
  replace HB := Lib.hid (below_step HB.out b6)
  clear b6
  go_wp2_with fail
  go_ret
  exact ⟨rfl, HB.out⟩
end

end Po
end Go.Proofs.Ytfkcplnjhelclaa

/-
  Layer 18: the arguments of the statements, opened: lines.
-/
namespace Go.Proofs.Ytfkcplnjhelclaa
open Go.ChangeShapes Go.WideShapes Go.ChangeAt Go.RowKit Go.Deep Go.Joins Mm
namespace Po

theorem opInt : Opens Try.prog 3 Int := opens_int Try.underlying3 (by kernel_rfl)
theorem opInts : Opens Try.prog 35 (List Int) := opens_slice Try.underlying35 (by kernel_rfl) opInt
theorem opPort : Opens Try.prog 34 Pt := opens_struct Try.underlying34 (by kernel_rfl) (fieldsOpen_cons rfl opInt (fieldsOpen_cons rfl opInt (fieldsOpen_one rfl opInt)))
theorem opRing : Opens Try.prog 52 Rg := opens_struct Try.underlying52 (by kernel_rfl) (fieldsOpen_cons rfl opInts (fieldsOpen_cons rfl opInt (fieldsOpen_one rfl opInt)))
theorem opLine : Opens Try.prog 54 Lin := opens_struct Try.underlying54 (by kernel_rfl) (fieldsOpen_cons rfl opPort (fieldsOpen_cons rfl opRing (fieldsOpen_one rfl opRing)))
theorem opLines : Opens Try.prog 22 (List Lin) := opens_slice Try.underlying22 (by kernel_rfl) opLine

end Po
end Go.Proofs.Ytfkcplnjhelclaa

/-
  Layer 18: the references of the statements: May; great; right.
-/
namespace Go.Proofs.Ytfkcplnjhelclaa
open Go.RowKit Mm
namespace Po

set_option maxHeartbeats 800000 in
theorem may_any (x : Pt) (w : World) : Calls Try.prog 27 #[.agg #[.int .i64 x.1, .int .i64 x.2.1, .int .i64 x.2.2]] w fun e w' => e = .returned (.bool (okP x)) ∧ Below w.heap.size w w' := by
  obtain ⟨f, t, k⟩ := x
  have B0 := Lib.hid (below_one w (Obj.cells #[.int .i64 f, .int .i64 t, .int .i64 k] 34))
  show Calls Try.prog 27 #[.agg #[.int .i64 f, .int .i64 t, .int .i64 k]] w _
  by_cases h1 : 0 ≤ f
  · by_cases h2 : f < 4
    · by_cases h3 : 0 ≤ t
      · by_cases h4 : t < 4
        · by_cases h5 : f = t
          · have HF : Hid (okP (f, t, k) = false) := decide_eq_false (fun h => h.2.2.2.2.1 h5)
            have h6 : (t != f) = false := by simp [h5]
            have H5 := Lib.hid h5
            clear h5
            go_enter Try.func27, Try.ntmps27
            go_wp2_with fail
            go_ret
            exact ⟨ret_bool (by first | exact HF.out.symm | (rw [HF.out]; first | exact decide_eq_true (by omega) | exact decide_eq_false (by omega) | simp_all)), B0.out⟩
          · have h6 : (t != f) = true := by simp; omega
            by_cases h7 : 0 < k
            · by_cases h8 : k < 5
              · have HF : Hid (okP (f, t, k) = true) := decide_eq_true ⟨h1, h2, h3, h4, h5, by show 1 ≤ k; omega, by show k ≤ 4; omega⟩
                have H5 := Lib.hid h5
                clear h5
                go_enter Try.func27, Try.ntmps27
                go_wp2_with fail
                go_ret
                exact ⟨ret_bool (by first | exact HF.out.symm | (rw [HF.out]; first | exact decide_eq_true (by omega) | exact decide_eq_false (by omega) | simp_all)), B0.out⟩
              · have HF : Hid (okP (f, t, k) = false) := decide_eq_false (fun h => by have : k ≤ 4 := h.2.2.2.2.2.2; omega)
                have h9 : 5 ≤ k := by omega
                have H5 := Lib.hid h5
                clear h5
                go_enter Try.func27, Try.ntmps27
                go_wp2_with fail
                go_ret
                exact ⟨ret_bool (by first | exact HF.out.symm | (rw [HF.out]; first | exact decide_eq_true (by omega) | exact decide_eq_false (by omega) | simp_all)), B0.out⟩
            · have HF : Hid (okP (f, t, k) = false) := decide_eq_false (fun h => by have : 1 ≤ k := h.2.2.2.2.2.1; omega)
              have h9 : k ≤ 0 := by omega
              have H5 := Lib.hid h5
              clear h5
              go_enter Try.func27, Try.ntmps27
              go_wp2_with fail
              go_ret
              exact ⟨ret_bool (by first | exact HF.out.symm | (rw [HF.out]; first | exact decide_eq_true (by omega) | exact decide_eq_false (by omega) | simp_all)), B0.out⟩
        · have HF : Hid (okP (f, t, k) = false) := decide_eq_false (fun h => h4 h.2.2.2.1)
          have h9 : 4 ≤ t := by omega
          go_enter Try.func27, Try.ntmps27
          go_wp2_with fail
          go_ret
          exact ⟨ret_bool (by first | exact HF.out.symm | (rw [HF.out]; first | exact decide_eq_true (by omega) | exact decide_eq_false (by omega) | simp_all)), B0.out⟩
      · have HF : Hid (okP (f, t, k) = false) := decide_eq_false (fun h => h3 h.2.2.1)
        have h9 : t < 0 := by omega
        go_enter Try.func27, Try.ntmps27
        go_wp2_with fail
        go_ret
        exact ⟨ret_bool (by first | exact HF.out.symm | (rw [HF.out]; first | exact decide_eq_true (by omega) | exact decide_eq_false (by omega) | simp_all)), B0.out⟩
    · have HF : Hid (okP (f, t, k) = false) := decide_eq_false (fun h => h2 h.2.1)
      have h9 : 4 ≤ f := by omega
      go_enter Try.func27, Try.ntmps27
      go_wp2_with fail
      go_ret
      exact ⟨ret_bool (by first | exact HF.out.symm | (rw [HF.out]; first | exact decide_eq_true (by omega) | exact decide_eq_false (by omega) | simp_all)), B0.out⟩
  · have HF : Hid (okP (f, t, k) = false) := decide_eq_false (fun h => h1 h.1)
    have h9 : f < 0 := by omega
    go_enter Try.func27, Try.ntmps27
    go_wp2_with fail
    go_ret
    exact ⟨ret_bool (by first | exact HF.out.symm | (rw [HF.out]; first | exact decide_eq_true (by omega) | exact decide_eq_false (by omega) | simp_all)), B0.out⟩

/-- more than is looked at -/
def bigL (x : Lin) : Bool := decide ((20 : Int) < (x.2.1.1.length : Int)) || decide ((20 : Int) < (x.2.2.1.length : Int))
def greatS (L : List Lin) : Bool := L.any bigL || decide (20 < L.length)
theorem great_no {L : List Lin} (h : greatS L = false) : L.length ≤ 20 ∧ ∀ j, j < L.length → (at_ L j).2.1.1.length ≤ 20 ∧ (at_ L j).2.2.1.length ≤ 20 := by
  unfold greatS at h
  rw [Bool.or_eq_false_iff, decide_eq_false_iff_not] at h
  refine ⟨by omega, fun j hj => ?_⟩
  have := List.any_eq_false.1 h.1 _ (at_mem hj)
  unfold bigL at this
  rw [Bool.or_eq_true, decide_eq_true_iff, decide_eq_true_iff] at this
  omega
set_option maxHeartbeats 800000 in
theorem great_any (A : Option Addr) (c : Nat) (L : List Lin) (w : World) (hr : Rd w A c L) :
    Calls Try.prog 7 #[.slice A L.length c] w fun e w' => e = .returned (.bool (greatS L)) ∧ Below w.heap.size w w' := by
  have hm : L.length ≤ 9223372036854775807 := by
    have h1 := hr.le
    have h2 := hr.max
    unfold maxLen at h2
    omega
  have HR := Lib.hid hr
  clear hr
  go_enter Try.func7, Try.ntmps7
  go_wp2_with fail
  go_loopw [3] (fun i wr => ∃ k : Nat, i = .int .i64 (k : Int) ∧ k ≤ L.length ∧ Hid (∀ j, j < k → bigL (at_ L j) = false) ∧ Hid (Below w.heap.size w wr)) (fun i _ => L.length - (intOf i).toNat)
  case atStart => exact ⟨0, rfl, Nat.zero_le _, (fun j h => by omega), Below.refl _ _⟩
  case round =>
    obtain ⟨k, rfl, hk, HH, HB⟩ := hrel
    by_cases hlt : k < L.length
    · obtain ⟨b, off, rfl, _, hc⟩ := line_at (HR.out.below HB.out) (by omega)
      obtain ⟨P, p, Q, q, ⟨-, -, -, x3, -, -, x6, -, -⟩, -, -, -⟩ := hc k hlt
      have i1 : (k : Int) < (L.length : Int) := by omega
      have i0 : (0 : Int) ≤ (k : Int) := by omega
      have i2 : IntKind.i64.wrap ((k : Int) + 1) = (k : Int) + 1 := IntWalk.i64_in _ (by omega)
      clear hc
      have hbg : bigL (at_ L k) = (decide ((20 : Int) < ((at_ L k).2.1.1.length : Int)) || decide ((20 : Int) < ((at_ L k).2.2.1.length : Int))) := rfl
      have hyes : bigL (at_ L k) = true → greatS L = true := fun h => by
        unfold greatS
        rw [any_take_yes hlt h]
        rfl
      have HNX : Hid (bigL (at_ L k) = false → ∀ j, j < k + 1 → bigL (at_ L j) = false) := fun h j hj => by
        by_cases e : j = k
        · subst e; exact h
        · exact HH.out j (by omega)
      generalize at_ L k = x at *
      by_cases h1 : (20 : Int) < (x.2.1.1.length : Int)
      · have HY := Lib.hid (hyes (by rw [hbg, decide_eq_true h1]; rfl))
        clear hbg hyes
        go_wp2_with fail
        go_ret
        exact ⟨ret_bool HY.out.symm, HB.out⟩
      · have h1' : (x.2.1.1.length : Int) ≤ 20 := by omega
        by_cases h2 : (20 : Int) < (x.2.2.1.length : Int)
        · have HY := Lib.hid (hyes (by rw [hbg, decide_eq_true h2, Bool.or_true]))
          clear hbg hyes
          go_wp2_with fail
          go_ret
          exact ⟨ret_bool HY.out.symm, HB.out⟩
        · have h2' : (x.2.2.1.length : Int) ≤ 20 := by omega
          have HN := Lib.hid (HNX.out (by rw [hbg, decide_eq_false h1, decide_eq_false h2]; rfl))
          clear hbg hyes
          go_wp2_with fail
          go_roundw
          case rel => exact ⟨k + 1, by go_num, hlt, HN, HB⟩
          case measure => simp [intOf]; omega
    · have HF : Hid (greatS L = decide (20 < L.length)) := by
        show _ = _
        unfold greatS
        rw [any_take_no (p := bigL) (l := L) fun j hj => HH.out j (by omega)]
        rfl
      go_wp2_with fail
      go_ret
      exact ⟨ret_bool (by rw [HF.out, decide_eq_decide]; omega), HB.out⟩

end Po
end Go.Proofs.Ytfkcplnjhelclaa

/-
  Layer 18: the statements' helpers stays and Same, at equal lines.
-/
namespace Go.Proofs.Ytfkcplnjhelclaa
open Go.RowKit Mm
namespace Po

theorem neqPort (a b c : Int) (w : World) : (binOp .neq 34 (.agg #[.int .i64 a, .int .i64 b, .int .i64 c]) (.agg #[.int .i64 a, .int .i64 b, .int .i64 c])).run Try.prog w = .ok (.bool false) w := by
  have h := run_neq_ints (P := Try.prog) (t := 34) 3 Try.underlying3 (by kernel_rfl) (by kernel_rfl) (by kernel_rfl) w [a, b, c] [a, b, c] rfl rfl
  rw [show false = !decide ([a, b, c] = [a, b, c]) from by simp]
  exact h
theorem rn_bw {w : World} {S : Nat → Prop} {A : Option Addr} {c : Nat} {l : List Int} (h : RdS w S A c l) (p : BW w) : Rn.Rd p.to A c l := rn_of (RdS.below h p.low)
section
attribute [local go_sem ↓] neqPort
set_option maxRecDepth 20000 in
set_option maxHeartbeats 3200000 in
theorem stays_one (A B : Option Addr) (c d : Nat) (L : List Lin) (n : Nat) (hn : L.length = n) (hbig : n ≤ 1000000) (hin : ∀ j, j < n → (at_ L j).2.1.1.length ≤ 1000 ∧ (at_ L j).2.2.1.length ≤ 1000) (w : World) (H1 : Rd w A c L) (H2 : Rd w B d L) :
    Calls Try.prog 12 #[.slice A n c, .slice B n d] w fun e w' => e = .returned (.bool true) ∧ Below w.heap.size w w' := by
  subst hn
  have HA := Lib.hid H1
  have HB := Lib.hid H2
  have HIN := Lib.hid hin
  clear hin
  clear H1 H2
  go_enter Try.func12, Try.ntmps12
  go_wp2_with fail
  go_loopw [5] (fun i wr => ∃ k : Nat, i = .int .i64 k ∧ k ≤ L.length ∧ Hid (Below w.heap.size w wr)) (fun i _ => L.length - (intOf i).toNat)
  case atStart => exact ⟨0, rfl, Nat.zero_le _, Below.refl _ _⟩
  case round =>
    obtain ⟨k, rfl, hk, HBL⟩ := hrel
    by_cases hlt : k < L.length
    · obtain ⟨b, off, rfl, -, hc⟩ := line_at (HA.out.below HBL.out) (by omega)
      obtain ⟨P, p, Q, q, ⟨x0, x1, x2, x3, x4, x5, x6, x7, x8⟩, -, hp, hq⟩ := hc k hlt
      clear hc
      obtain ⟨b2, off2, rfl, -, hc⟩ := line_at (HB.out.below HBL.out) (by omega)
      obtain ⟨P2, p2, Q2, q2, ⟨y0, y1, y2, y3, y4, y5, y6, y7, y8⟩, -, hp2, hq2⟩ := hc k hlt
      clear hc
      have hl := HIN.out k hlt
      generalize at_ L k = x at *
      have hl1 : x.2.1.1.length ≤ 1000000 := Nat.le_trans hl.1 (by decide)
      have hl2 : x.2.2.1.length ≤ 1000000 := Nat.le_trans hl.2 (by decide)
      clear hl
      have HP := Lib.hid hp
      have HQ := Lib.hid hq
      have HP2 := Lib.hid hp2
      have HQ2 := Lib.hid hq2
      have HL1 := Lib.hid hl1
      have HL2 := Lib.hid hl2
      clear hp hq hp2 hq2 hl1 hl2
      have i1 : (0 : Int) ≤ (k : Int) := by omega
      have i2 : (k : Int) < (L.length : Int) := by omega
      have i3 : IntKind.i64.wrap ((k : Int) + 1) = (k : Int) + 1 := IntWalk.i64_in _ (by omega)
      go_wp2_with fail
      replace x0 := cell_bw x0
      replace x1 := cell_bw x1
      replace x2 := cell_bw x2
      replace x3 := cell_bw x3
      replace x4 := cell_bw x4
      replace x5 := cell_bw x5
      replace x6 := cell_bw x6
      replace x7 := cell_bw x7
      replace x8 := cell_bw x8
      replace y0 := cell_bw y0
      replace y1 := cell_bw y1
      replace y2 := cell_bw y2
      replace y3 := cell_bw y3
      replace y4 := cell_bw y4
      replace y5 := cell_bw y5
      replace y6 := cell_bw y6
      replace y7 := cell_bw y7
      replace y8 := cell_bw y8
      refine wp_region_bw (by kernel_rfl) (by kernel_rfl) ?_
      repeat
        (with_reducible refine wpQuiet_step (fun K hK => ?_)
         go_simp
         first
           | (with_reducible refine hK _ ?_
              clear hK K)
           | (rw [if_neg]
              rotate_left
              focus (intro h; cases h; done)
              with_reducible refine hK _ ?_
              clear hK K)
           | (apply Exists.intro
              refine ⟨fun _ => ?_, hK _ ?_⟩
              (first | (with_reducible exact Calls.bw (Rn.as_any P x.2.1.1.length p x.2.1.2.1 x.2.1.2.2 _)) | (with_reducible exact Calls.bw (Rn.as_any P2 x.2.1.1.length p2 x.2.1.2.1 x.2.1.2.2 _)) | (with_reducible exact Calls.bw (Rn.as_any Q x.2.2.1.length q x.2.2.2.1 x.2.2.2.2 _)) | (with_reducible exact Calls.bw (Rn.as_any Q2 x.2.2.1.length q2 x.2.2.2.1 x.2.2.2.2 _)) | (with_reducible exact Calls.bw (Rn.same_n x.2.1.1.length x.2.1.1.length P P2 p p2 x.2.1.2.1 x.2.1.2.2 x.2.1.1 _ rfl rfl HL1.out (rn_bw HP.out _) (rn_bw HP2.out _))) | (with_reducible exact Calls.bw (Rn.same_n x.2.2.1.length x.2.2.1.length Q Q2 q q2 x.2.2.2.1 x.2.2.2.2 x.2.2.1 _ rfl rfl HL2.out (rn_bw HQ.out _) (rn_bw HQ2.out _))))
              clear hK K))
      with_reducible refine wpQuiet_nil ?_
      intro wb hw'
      obtain ⟨⟨wb', lb⟩, hw''⟩ := hw'
      subst hw''
      have HB2 := Lib.hid (below_step HBL.out lb)
      clear lb
      go_wp2_with fail
      go_roundw
      case rel => exact ⟨k + 1, by go_num, hlt, HB2⟩
      case measure => (simp [intOf] <;> omega)
    · go_wp2_with fail
      go_ret
      exact ⟨rfl, HBL.out⟩
set_option maxRecDepth 20000 in
set_option maxHeartbeats 3200000 in
theorem sameW_one (A B : Option Addr) (c d : Nat) (L : List Rw) (n : Nat) (hn : L.length = n) (hbig : n ≤ 1000000) (hin : ∀ j, j < n → (at_ L j).2.1.length ≤ 1000 ∧ (at_ L j).2.2.length ≤ 1000) (w : World) (H1 : Rd w A c L) (H2 : Rd w B d L) :
    Calls Try.prog 16 #[.slice A n c, .slice B n d] w fun e w' => e = .returned (.bool true) ∧ Below w.heap.size w w' := by
  subst hn
  have HA := Lib.hid H1
  have HB := Lib.hid H2
  have HIN := Lib.hid hin
  clear hin
  clear H1 H2
  go_enter Try.func16, Try.ntmps16
  go_wp2_with fail
  go_loopw [5] (fun i wr => ∃ k : Nat, i = .int .i64 k ∧ k ≤ L.length ∧ Hid (Below w.heap.size w wr)) (fun i _ => L.length - (intOf i).toNat)
  case atStart => exact ⟨0, rfl, Nat.zero_le _, Below.refl _ _⟩
  case round =>
    obtain ⟨k, rfl, hk, HBL⟩ := hrel
    by_cases hlt : k < L.length
    · obtain ⟨b, off, rfl, -, hc⟩ := row_at (HA.out.below HBL.out) (by omega)
      obtain ⟨P, p, Q, q, ⟨x0, x1, x2, x3, x4⟩, -, hp, hq⟩ := hc k hlt
      clear hc
      obtain ⟨b2, off2, rfl, -, hc⟩ := row_at (HB.out.below HBL.out) (by omega)
      obtain ⟨P2, p2, Q2, q2, ⟨y0, y1, y2, y3, y4⟩, -, hp2, hq2⟩ := hc k hlt
      clear hc
      have hl := HIN.out k hlt
      generalize at_ L k = x at *
      have hl1 : x.2.1.length ≤ 1000000 := Nat.le_trans hl.1 (by decide)
      have hl2 : x.2.2.length ≤ 1000000 := Nat.le_trans hl.2 (by decide)
      clear hl
      have HP := Lib.hid hp
      have HQ := Lib.hid hq
      have HP2 := Lib.hid hp2
      have HQ2 := Lib.hid hq2
      have HL1 := Lib.hid hl1
      have HL2 := Lib.hid hl2
      clear hp hq hp2 hq2 hl1 hl2
      have i1 : (0 : Int) ≤ (k : Int) := by omega
      have i2 : (k : Int) < (L.length : Int) := by omega
      have i3 : IntKind.i64.wrap ((k : Int) + 1) = (k : Int) + 1 := IntWalk.i64_in _ (by omega)
      go_wp2_with fail
      replace x0 := cell_bw x0
      replace x1 := cell_bw x1
      replace x2 := cell_bw x2
      replace x3 := cell_bw x3
      replace x4 := cell_bw x4
      replace y0 := cell_bw y0
      replace y1 := cell_bw y1
      replace y2 := cell_bw y2
      replace y3 := cell_bw y3
      replace y4 := cell_bw y4
      refine wp_region_bw (by kernel_rfl) (by kernel_rfl) ?_
      repeat
        (with_reducible refine wpQuiet_step (fun K hK => ?_)
         go_simp
         first
           | (with_reducible refine hK _ ?_
              clear hK K)
           | (rw [if_neg]
              rotate_left
              focus (intro h; cases h; done)
              with_reducible refine hK _ ?_
              clear hK K)
           | (apply Exists.intro
              refine ⟨fun _ => ?_, hK _ ?_⟩
              (first | (with_reducible exact Calls.bw (Rn.sameList_n x.2.1.length x.2.1.length P P2 p p2 x.2.1 _ rfl rfl HL1.out (rn_bw HP.out _) (rn_bw HP2.out _))) | (with_reducible exact Calls.bw (Rn.sameList_n x.2.2.length x.2.2.length Q Q2 q q2 x.2.2 _ rfl rfl HL2.out (rn_bw HQ.out _) (rn_bw HQ2.out _))))
              clear hK K))
      with_reducible refine wpQuiet_nil ?_
      intro wb hw'
      obtain ⟨⟨wb', lb⟩, hw''⟩ := hw'
      subst hw''
      have HB2 := Lib.hid (below_step HBL.out lb)
      clear lb
      go_wp2_with fail
      go_roundw
      case rel => exact ⟨k + 1, by go_num, hlt, HB2⟩
      case measure => (simp [intOf] <;> omega)
    · go_wp2_with fail
      go_ret
      exact ⟨rfl, HBL.out⟩
end

end Po
end Go.Proofs.Ytfkcplnjhelclaa

/-
  Layer 18: the statements' helper As: lines as the document's.
-/
namespace Go.Proofs.Ytfkcplnjhelclaa
open Go.RowKit Mm
namespace Po

theorem slW : SlT Try.prog 31 37 (Dat.k Rw) := slT_of Try.underlying31 (show _ = some (some (.agg #[.int .i64 0, .int .i64 0, .int .i64 0, .slice none 0 0, .slice none 0 0]), 5, 72) by kernel_rfl) rfl (by omega)
theorem buildRow (a b c : Int) (P : Option Addr) (n p : Nat) (Q : Option Addr) (o q : Nat) (w : World) : (Instr.build 37 #[(0, .agg #[.int .i64 a, .int .i64 b, .int .i64 c]), (1, .slice P n p), (2, .slice Q o q)]).run Try.prog w = .ok (.agg #[.int .i64 a, .int .i64 b, .int .i64 c, .slice P n p, .slice Q o q]) w := by kernel_rfl
theorem step_own_n {α : Type} [Inhabited α] [Dat α] {P : Program} {t e : TypeId} (hT : SlT P t e (Dat.k α)) {w : World} {ops : Array Oper} {o : Oper} {a : Act} {K : Act → World → Prop} {Q : Exit → Act → World → Prop} {E : Prop} (hg : o.guard = none) (s x : Operand) (ho : o.op = .call { callee := .builtin .append, args := #[s, x], argTypes := #[t, t] })
    {base : Nat} {A B : Option Addr} {c d : Nat} {l r : List α} {n m : Nat} (hn : l.length = n) (hm : r.length = m) (h1 : a.eval s = .slice A n c) (h2 : a.eval x = .slice B m d) (h : OwN w base e A c l) (hr : RdS w (Else w A) B d r) (hbig : n + m ≤ 1000000) (hbase : base ≤ w.heap.size)
    (hK : ∀ A' c' w', OwN w' base e A' c' (l ++ r) → Below base w w' → K (a.put o.dst (.slice A' (n + m) c')) w') :
    if Region.wanted o (yielded ops a.tmps) = true then Oper.wp P o a w K Q else E := by
  subst hn; subst hm
  obtain ⟨A', c', w', hrun, k1, k2⟩ := run_own o.type hT h hr hbig hbase
  rw [if_pos (by simp [Region.wanted, hg])]
  exact wp_app_run s x t ho _ _ _ _ h1 h2 hrun (hK A' c' w' k1 k2)

theorem cell_under {B : Nat} {w w' : World} {p : Addr} {v : Value} (b : Below B w w') (hB : p.block < B) (h : w.cell? p = some v) : w'.cell? p = some v := (b.cell hB).trans h
/-- a document's line, as a literal, behind rows of the call's own -/
theorem row_lit {wr w5 : World} {base : Nat} {B : Option Addr} {d : Nat} {M : List Rw} {t : Pt} {m1 m2 : List Int} {A4 A5 : Option Addr} {c4 c5 : Nat} (ho : OwN wr base 37 B d M) (b5 : Below wr.heap.size wr w5) (r4 : RdS w5 (fun b => wr.heap.size ≤ b) A4 c4 m1) (r5 : RdS w5 (fun b => wr.heap.size ≤ b) A5 c5 m2) (hf : FitP t) :
    RdS (w5.alloc (.cells #[.int .i64 t.1, .int .i64 t.2.1, .int .i64 t.2.2, .slice A4 m1.length c4, .slice A5 m2.length c5] 37)) (Else (w5.alloc (.cells #[.int .i64 t.1, .int .i64 t.2.1, .int .i64 t.2.2, .slice A4 m1.length c4, .slice A5 m2.length c5] 37)) B) (some ⟨w5.heap.size, 0, none⟩) 1 [((t, m1, m2) : Rw)] ∧
      OwN (w5.alloc (.cells #[.int .i64 t.1, .int .i64 t.2.1, .int .i64 t.2.2, .slice A4 m1.length c4, .slice A5 m2.length c5] 37)) base 37 B d M := by
  have hB : ∀ g, B = some ⟨g, 0, none⟩ → g < wr.heap.size := fun g e => (OwS.new ho g e).2
  have hs := b5.size
  refine ⟨?_, (ho.below b5).below (below_one _ _)⟩
  have e : ∀ b, wr.heap.size ≤ b → b < (w5.alloc (.cells #[.int .i64 t.1, .int .i64 t.2.1, .int .i64 t.2.2, .slice A4 m1.length c4, .slice A5 m2.length c5] 37)).heap.size → Else (w5.alloc (.cells #[.int .i64 t.1, .int .i64 t.2.1, .int .i64 t.2.2, .slice A4 m1.length c4, .slice A5 m2.length c5] 37)) B b := fun b hb hlt => ⟨hlt, fun e => by have := hB b e; omega⟩
  have k4 := (RdS.below r4 (below_one w5 (.cells #[.int .i64 t.1, .int .i64 t.2.1, .int .i64 t.2.2, .slice A4 m1.length c4, .slice A5 m2.length c5] 37))).sub fun b hlt hb => e b hb hlt
  have k5 := (RdS.below r5 (below_one w5 (.cells #[.int .i64 t.1, .int .i64 t.2.1, .int .i64 t.2.2, .slice A4 m1.length c4, .slice A5 m2.length c5] 37))).sub fun b hlt hb => e b hb hlt
  exact OwS.rdS (ow_lit (l := [((t, m1, m2) : Rw)]) w5 _ w5.heap.size 37 #[.int .i64 t.1, .int .i64 t.2.1, .int .i64 t.2.2, .slice A4 m1.length c4, .slice A5 m2.length c5] (Nat.le_refl _) (by simp) ⟨_, [], (List.append_nil _).symm, rd_row.2 ⟨A4, c4, A5, c5, rfl, hf, k4, k5⟩, rfl⟩) (fun _ h => h) fun g hg => by
    injection hg with hg
    injection hg with hg
    subst hg
    exact e _ hs (by simp)

/-- the loop of As -/
def AsRel (w : World) (L : List Lin) (k : Nat) (A : Option Addr) (c : Nat) (wr : World) : Prop :=
  OwN wr w.heap.size 37 A c ((L.take k).map rowOf) ∧ Below w.heap.size w wr
section
attribute [local go_sem ↓] buildRow
set_option maxHeartbeats 1600000 in
theorem as_rows (S : Nat → Prop) (A : Option Addr) (c : Nat) (L : List Lin) (n : Nat) (hn : L.length = n) (hok : okS L = true) (w : World) (hr : RdS w S A c L) :
    Calls Try.prog 13 #[.slice A n c] w fun e w' => ∃ A' c', e = .returned (.slice A' n c') ∧ OwN w' w.heap.size 37 A' c' (L.map rowOf) ∧ Below w.heap.size w w' := by
  subst hn
  have h4 := okS_len hok
  have HR := Lib.hid hr
  have HOK := Lib.hid hok
  clear hr hok
  go_enter Try.func13, Try.ntmps13
  go_wp2_with fail
  go_loopw [3, 4] (fun so i wr => ∃ (k : Nat) (B : Option Addr) (d : Nat), so = .slice B k d ∧ i = .int .i64 (k : Int) ∧ k ≤ L.length ∧ Hid (AsRel w L k B d wr)) (fun _ i _ => L.length - (intOf i).toNat)
  case atStart => exact ⟨0, none, 0, rfl, rfl, Nat.zero_le _, ⟨own_nil _ _ _, Below.refl _ _⟩⟩
  case round =>
    obtain ⟨k, B, d, rfl, rfl, hk, HR2⟩ := hrel
    have ho := HR2.out.1
    have hb := HR2.out.2
    clear HR2
    by_cases hlt : k < L.length
    · obtain ⟨b, off, rfl, -, hc⟩ := line_at HR.out (by omega)
      obtain ⟨P, p, Q, q, h9, hf, r1, r2⟩ := hc k hlt
      have hbw : b < w.heap.size := h9.lt
      replace r1 := RdS.below r1 hb
      replace r2 := RdS.below r2 hb
      obtain ⟨x0, x1, x2, x3, x4, x5, x6, x7, x8⟩ := h9.below hb
      clear hc
      obtain ⟨N, -, n1, n4, -, g1, g2⟩ := okL_good (okS_at HOK.out hlt)
      have hsn : ((L.take k).map rowOf) ++ [rowOf (at_ L k)] = (L.take (k + 1)).map rowOf := by rw [take_succ_at hlt, List.map_append]; rfl
      have hlk : ((L.take k).map rowOf).length = k := by rw [List.length_map, List.length_take]; omega
      generalize (L.take k).map rowOf = M at *
      generalize at_ L k = x at *
      have i1 : (k : Int) < (L.length : Int) := by omega
      have i0 : (0 : Int) ≤ (k : Int) := by omega
      have i2 : IntKind.i64.wrap ((k : Int) + 1) = (k : Int) + 1 := IntWalk.i64_in _ (by omega)
      have hn4 : N ≤ 1000 := by omega
      have BD := Lib.hid ((Below.refl wr.heap.size wr).drew)
      have HO := Lib.hid ho
      have HB := Lib.hid hb
      have R1 := Lib.hid r1
      have R2 := Lib.hid r2
      have G1 := Lib.hid g1
      have G2 := Lib.hid g2
      have HSN := Lib.hid hsn
      have HLK := Lib.hid hlk
      have HF := Lib.hid hf
      clear ho hb r1 r2 g1 g2 hsn hlk hf
      go_wp2_with fail
      go_region_held3 (fun w' => w'.cell? ⟨b, off + k * 9, none⟩ = some (.int .i64 x.1.1) ∧ w'.cell? ⟨b, off + k * 9 + 1, none⟩ = some (.int .i64 x.1.2.1) ∧ w'.cell? ⟨b, off + k * 9 + 2, none⟩ = some (.int .i64 x.1.2.2) ∧ w'.cell? ⟨b, off + k * 9 + 3, none⟩ = some (.slice P x.2.1.1.length p) ∧ w'.cell? ⟨b, off + k * 9 + 4, none⟩ = some (.int .i64 x.2.1.2.1) ∧ w'.cell? ⟨b, off + k * 9 + 5, none⟩ = some (.int .i64 x.2.1.2.2) ∧ w'.cell? ⟨b, off + k * 9 + 6, none⟩ = some (.slice Q x.2.2.1.length q) ∧ w'.cell? ⟨b, off + k * 9 + 7, none⟩ = some (.int .i64 x.2.2.2.1) ∧ w'.cell? ⟨b, off + k * 9 + 8, none⟩ = some (.int .i64 x.2.2.2.2) )
        (first
          | (with_reducible exact ⟨cell_under b7 hbw (cell_below b6 x0), cell_under b7 hbw (cell_below b6 x1), cell_under b7 hbw (cell_below b6 x2), cell_under b7 hbw (cell_below b6 x3), cell_under b7 hbw (cell_below b6 x4), cell_under b7 hbw (cell_below b6 x5), cell_under b7 hbw (cell_below b6 x6), cell_under b7 hbw (cell_below b6 x7), cell_under b7 hbw (cell_below b6 x8)⟩)
          | (with_reducible exact ⟨cell_below b6 x0, cell_below b6 x1, cell_below b6 x2, cell_below b6 x3, cell_below b6 x4, cell_below b6 x5, cell_below b6 x6, cell_below b6 x7, cell_below b6 x8⟩)
          | (with_reducible exact ⟨cell_below b5 x0, cell_below b5 x1, cell_below b5 x2, cell_below b5 x3, cell_below b5 x4, cell_below b5 x5, cell_below b5 x6, cell_below b5 x7, cell_below b5 x8⟩)
          | (with_reducible exact ⟨cell_below b4 x0, cell_below b4 x1, cell_below b4 x2, cell_below b4 x3, cell_below b4 x4, cell_below b4 x5, cell_below b4 x6, cell_below b4 x7, cell_below b4 x8⟩)
          | (exact ⟨x0, x1, x2, x3, x4, x5, x6, x7, x8⟩))
        (first
          | (go_at_call 30
             with_reducible refine (list_r (S := S) (A := P) (c := p) (r := x.2.1) (n := N) G1.out hn4 (RdS.below R1.out BD.out)).mono ?_
             rintro e w4 ⟨A4, c4, rfl, l4, k4⟩
             have b4 : Below wr.heap.size wr w4 := BD.out.trans k4
             have L4 := Lib.hid l4
             have K4 := Lib.hid k4
             clear l4 k4)
          | (go_at_call 30
             with_reducible refine (list_r (S := S) (A := Q) (c := q) (r := x.2.2) (n := N) G2.out hn4 (RdS.below R2.out b4)).mono ?_
             rintro e w5 ⟨A5, c5, rfl, l5, k5⟩
             have b5 : Below wr.heap.size wr w5 := b4.trans (k5.mono b4.size)
             have L5 := Lib.hid l5
             have K5 := Lib.hid k5
             have b6 : Below wr.heap.size wr (w5.alloc (.cells #[.int .i64 x.1.1, .int .i64 x.1.2.1, .int .i64 x.1.2.2, .slice A4 (msgR x.2.1).length c4, .slice A5 (msgR x.2.2).length c5] 37)) := b5.alloc b5.size _
             have hlit := row_lit (t := x.1) HO.out b5 (RdS.below L4.out k5) (l5.sub fun b _ hb => Nat.le_trans b4.size hb) HF.out.1
             have HLIT := Lib.hid hlit.1
             have HO6 := Lib.hid hlit.2
             have HB6 := Lib.hid (HB.out.trans (b6.mono HB.out.size))
             clear l5 k5 hlit)
          | (refine step_own_n slW (by rfl) _ _ (by rfl) (base := w.heap.size) (l := M) (r := [rowOf x]) (n := k) (m := 1) HLK.out rfl (by rfl) (by rfl) (by exact HO6.out) (by exact HLIT.out) (by omega) HB6.out.size ?_
             intro A7 c7 w7 k1 k2
             have b7 := k2
             have O7 := Lib.hid k1
             have HB7 := Lib.hid (HB6.out.trans k2)
             clear k1 k2))
      all_goals
        go_split_ands
        go_wp2_with fail
        go_roundw
        case rel => exact ⟨k + 1, A7, c7, rfl, by go_num, hlt, ⟨by rw [← HSN.out]; exact O7.out, HB7.out⟩⟩
        case measure => (simp [intOf] <;> omega)
    · have ek : k = L.length := by omega
      subst ek
      rw [List.take_length] at ho
      have HO := Lib.hid ho
      have HB := Lib.hid hb
      clear ho hb
      go_wp2_with fail
      go_ret
      exact ⟨B, d, rfl, HO.out, HB.out⟩
end

end Po
end Go.Proofs.Ytfkcplnjhelclaa

/-
  Layer 18: the reference's Deliver.
-/
namespace Go.Proofs.Ytfkcplnjhelclaa
open Go.RowKit Mm
namespace Po

/-- append of ints as a step, the lengths named -/
theorem step_app_i {w : World} {ops : Array Oper} {o : Oper} {a : Act} {K : Act → World → Prop} {Q : Exit → Act → World → Prop} {E : Prop} (hg : o.guard = none) (s x : Operand) (ho : o.op = .call { callee := .builtin .append, args := #[s, x], argTypes := #[35, 35] })
    {base : Nat} {A B : Option Addr} {c d : Nat} {l r : List Int} {n m N : Nat} (hn : l.length = n) (hm : r.length = m) (hN : n + m = N) (h1 : a.eval s = .slice A n c) (h2 : a.eval x = .slice B m d) (h : Ow w base 3 A c l) (hr : Rd w B d r) (hbig : n + m ≤ 1000000) (hbase : base ≤ w.heap.size)
    (hK : ∀ A' c' w', Ow w' base 3 A' c' (l ++ r) → Below base w w' → K (a.put o.dst (.slice A' N c')) w') :
    if Region.wanted o (yielded ops a.tmps) = true then Oper.wp Try.prog o a w K Q else E := by
  subst hn; subst hm; subst hN
  exact step_app_flat slI hg s x ho h1 h2 h hr hbig hbase fun A' c' w' k1 k2 _ => hK A' c' w' k1 k2
/-- block X holds this line of the document's, and may be written -/
structure Bw (w : World) (X : Nat) (P : Option Addr) (p : Nat) (Q : Option Addr) (q : Nat) (x : Rw) : Prop where
  c : CW w X 0 P p Q q x
  f : ∀ o, w.frozen? ⟨X, o, none⟩ = false
def noW : Rw := ((0, 0, 0), [], [])
theorem buildGot (a b c : Int) (Q : Option Addr) (o q : Nat) (w : World) : (Instr.build 37 #[(0, .agg #[.int .i64 a, .int .i64 b, .int .i64 c]), (2, .slice Q o q)]).run Try.prog w = .ok (.agg #[.int .i64 a, .int .i64 b, .int .i64 c, .slice none 0 0, .slice Q o q]) w := by kernel_rfl
section
variable {w w' : World} {X : Nat} {P P' Q Q' : Option Addr} {p p' q q' : Nat} {x y : Rw}
theorem bw_new (w : World) (P : Option Addr) (p : Nat) (Q : Option Addr) (q : Nat) (x : Rw) (X : Nat) (h : w.heap.size = X) : Bw (w.alloc (.cells #[.int .i64 x.1.1, .int .i64 x.1.2.1, .int .i64 x.1.2.2, .slice P x.2.1.length p, .slice Q x.2.2.length q] 37)) X P p Q q x :=
  ⟨cw_new w P p Q q x _ h, fun o => by subst h; simp⟩
theorem Bw.below (h : Bw w X P p Q q x) (b : Below w.heap.size w w') : Bw w' X P p Q q x := ⟨h.c.below b, fun o => (by rw [b.frozen (p := ⟨X, o, none⟩) h.c.lt]; exact h.f o)⟩
theorem Bw.lt (h : Bw w X P p Q q x) : X < w.heap.size := h.c.lt
theorem Bw.cells (h : Bw w X P p Q q x) :
    w.cell? ⟨X, 0, none⟩ = some (.int .i64 x.1.1) ∧ w.cell? ⟨X, 1, none⟩ = some (.int .i64 x.1.2.1) ∧ w.cell? ⟨X, 2, none⟩ = some (.int .i64 x.1.2.2) ∧
    w.cell? ⟨X, 3, none⟩ = some (.slice P x.2.1.length p) ∧ w.cell? ⟨X, 4, none⟩ = some (.slice Q x.2.2.length q) := by
  obtain ⟨y0, y1, y2, y3, y4⟩ := h.c
  rw [Nat.zero_add] at y1 y2 y3 y4
  exact ⟨y0, y1, y2, y3, y4⟩
theorem put5 (w : World) (X : Nat) (v0 v1 v2 v3 v4 : Value) : (((((w.setCell ⟨X, 0, none⟩ v0).setCell ⟨X, 1, none⟩ v1).setCell ⟨X, 2, none⟩ v2).setCell ⟨X, 3, none⟩ v3).setCell ⟨X, 4, none⟩ v4) = putC w X 0 [v0, v1, v2, v3, v4] := by simp only [putC, Nat.zero_add, Nat.reduceAdd]
theorem Bw.any (h : Bw w X P p Q q x) : ∀ j, j < 5 → ∃ u, w.cell? ⟨X, 0 + j, none⟩ = some u := fun j hj => by
  match j, hj with
  | 0, _ => exact ⟨_, h.c.c0⟩
  | 1, _ => exact ⟨_, h.c.c1⟩
  | 2, _ => exact ⟨_, h.c.c2⟩
  | 3, _ => exact ⟨_, h.c.c3⟩
  | 4, _ => exact ⟨_, h.c.c4⟩
theorem Bw.put (h : Bw w X P p Q q x) (P' : Option Addr) (p' : Nat) (Q' : Option Addr) (q' : Nat) (y : Rw) : Bw (((((w.setCell ⟨X, 0, none⟩ (.int .i64 y.1.1)).setCell ⟨X, 1, none⟩ (.int .i64 y.1.2.1)).setCell ⟨X, 2, none⟩ (.int .i64 y.1.2.2)).setCell ⟨X, 3, none⟩ (.slice (P') y.2.1.length (p'))).setCell ⟨X, 4, none⟩ (.slice (Q') y.2.2.length (q'))) X P' p' Q' q' y := by
  rw [put5]
  have k := cell_put [.int .i64 y.1.1, .int .i64 y.1.2.1, .int .i64 y.1.2.2, .slice P' y.2.1.length p', .slice Q' y.2.2.length q'] 0 w h.any
  exact ⟨⟨k 0 _ rfl, k 1 _ rfl, k 2 _ rfl, k 3 _ rfl, k 4 _ rfl⟩, fun o => fr_putC o _ 0 w (h.f o)⟩
theorem below_SW {B : Nat} {a w : World} (h : Below B a w) {X : Nat} (hX : B ≤ X) (P : Option Addr) (p : Nat) (Q : Option Addr) (q : Nat) (x : Rw) : Below B a (((((w.setCell ⟨X, 0, none⟩ (.int .i64 x.1.1)).setCell ⟨X, 1, none⟩ (.int .i64 x.1.2.1)).setCell ⟨X, 2, none⟩ (.int .i64 x.1.2.2)).setCell ⟨X, 3, none⟩ (.slice P x.2.1.length p)).setCell ⟨X, 4, none⟩ (.slice Q x.2.2.length q)) := by rw [put5]; exact below_putC hX _ 0 w h
end
/-- a document's line as an answer -/
def RowOf (w : World) (S : Nat → Prop) (y : Rw) (e : Ending) (w' : World) : Prop :=
  ∃ P p Q q, e = .returned (.agg #[.int .i64 y.1.1, .int .i64 y.1.2.1, .int .i64 y.1.2.2, .slice P y.2.1.length p, .slice Q y.2.2.length q]) ∧ RdS w' (Upw S w) P p y.2.1 ∧ RdS w' (Upw S w) Q q y.2.2 ∧ Below w.heap.size w w'

theorem rdel_end {w w5 : World} {N Y k q : Nat} {Q : Option Addr} {t : Pt} {l : List Int} (hl : l.length = k) (hr : RdS w5 (fun b => N ≤ b) Q q l) (hw : w.heap.size ≤ Y) (hY : Y < N) (hb : Below w.heap.size w w5) :
    RowOf w (fun _ => False) (t, [], l) (.returned (.agg #[.int .i64 t.1, .int .i64 t.2.1, .int .i64 t.2.2, .slice none 0 0, .slice Q k q]))
      (((((w5.setCell ⟨Y, 0, none⟩ (.int .i64 t.1)).setCell ⟨Y, 1, none⟩ (.int .i64 t.2.1)).setCell ⟨Y, 2, none⟩ (.int .i64 t.2.2)).setCell ⟨Y, 3, none⟩ (.slice none 0 0)).setCell ⟨Y, 4, none⟩ (.slice Q k q)).drew := by
  subst hl
  rw [put5]
  have h1 := below_putC hw [.int .i64 t.1, .int .i64 t.2.1, .int .i64 t.2.2, .slice none 0 0, .slice Q l.length q] 0 w5 hb
  have h2 := rd_putC hr (fun h : N ≤ Y => by omega) [.int .i64 t.1, .int .i64 t.2.1, .int .i64 t.2.2, .slice none 0 0, .slice Q l.length q] 0
  generalize putC w5 Y 0 [.int .i64 t.1, .int .i64 t.2.1, .int .i64 t.2.2, .slice none 0 0, .slice Q l.length q] = W at *
  exact ⟨none, 0, Q, q, rfl, rd_nil (fun _ => rfl) (Nat.zero_le _), (RdS.below h2 (Below.refl _ W).drew).sub fun b _ hb => .inr (by have hb : N ≤ b := hb; omega), h1.drew⟩
section
attribute [local go_sem ↓] buildGot
set_option maxHeartbeats 1600000 in
theorem refDeliver_any (P : Option Addr) (p : Nat) (Q : Option Addr) (q : Nat) (x : Rw) (n : Nat) (hcap : x.1.2.2 = (n : Int)) (hn1 : 1 ≤ n) (hn : n ≤ 4) (l1 : x.2.1.length ≤ 1000) (l2 : x.2.2.length ≤ 1000) (w : World) (h1 : Rd w P p x.2.1) (h2 : Rd w Q q x.2.2) :
    Calls Try.prog 19 #[(.agg #[.int .i64 x.1.1, .int .i64 x.1.2.1, .int .i64 x.1.2.2, .slice P x.2.1.length p, .slice Q x.2.2.length q])] w (RowOf w (fun _ => False) (delivW x)) := by
  have B0 := Lib.hid (below_two w (.cells #[.int .i64 x.1.1, .int .i64 x.1.2.1, .int .i64 x.1.2.2, .slice P x.2.1.length p, .slice Q x.2.2.length q] 37) (.cells #[.int .i64 0, .int .i64 0, .int .i64 0, .slice none 0 0, .slice none 0 0] 37))
  have HX : Hid (Bw ((w.alloc (.cells #[.int .i64 x.1.1, .int .i64 x.1.2.1, .int .i64 x.1.2.2, .slice P x.2.1.length p, .slice Q x.2.2.length q] 37)).alloc (.cells #[.int .i64 0, .int .i64 0, .int .i64 0, .slice none 0 0, .slice none 0 0] 37)) w.heap.size P p Q q x) := (bw_new w P p Q q x _ rfl).below (below_one _ _)
  have HY : Hid (Bw ((w.alloc (.cells #[.int .i64 x.1.1, .int .i64 x.1.2.1, .int .i64 x.1.2.2, .slice P x.2.1.length p, .slice Q x.2.2.length q] 37)).alloc (.cells #[.int .i64 0, .int .i64 0, .int .i64 0, .slice none 0 0, .slice none 0 0] 37)) (w.heap.size + 1) none 0 none 0 noW) := bw_new _ none 0 none 0 noW _ (by simp)
  have H1 := Lib.hid (h1.below B0.out)
  have H2 := Lib.hid (h2.below B0.out)
  clear h1 h2
  have HCAP := Lib.hid hcap
  clear hcap
  go_enter Try.func19, Try.ntmps19
  go_wp2_with fail
  generalize (w.alloc (.cells #[.int .i64 x.1.1, .int .i64 x.1.2.1, .int .i64 x.1.2.2, .slice P x.2.1.length p, .slice Q x.2.2.length q] 37)).alloc (.cells #[.int .i64 0, .int .i64 0, .int .i64 0, .slice none 0 0, .slice none 0 0] 37) = w0 at *
  have HYL := Lib.hid HY.out.lt
  obtain ⟨y0, y1, y2, y3, y4⟩ := HX.out.cells
  have BD := Lib.hid ((Below.refl w0.heap.size w0).drew)
  have BA := Lib.hid ((Below.refl w0.heap.size w0).drew.alloc (Nat.le_refl _) (.cells #[] 3))
  have O1 : Hid (Ow (w0.drew.alloc (.cells #[] 3)) w0.heap.size 3 (some ⟨w0.heap.size, 0, none⟩) 0 ([] : List Int)) := ow_empty w0.drew w0.heap.size 3 (Nat.le_refl _)
  have R2 := Lib.hid (H2.out.below BA.out)
  go_region_held3 (fun w' => w'.cell? ⟨w.heap.size, 3, none⟩ = some (.slice P x.2.1.length p) ∧ w'.cell? ⟨w.heap.size, 4, none⟩ = some (.slice Q x.2.2.length q))
    (first
      | (with_reducible exact ⟨cell_below B5.out y3, cell_below B5.out y4⟩)
      | (with_reducible exact ⟨cell_below B4.out y3, cell_below B4.out y4⟩)
      | (with_reducible exact ⟨cell_below BA.out y3, cell_below BA.out y4⟩)
      | (exact ⟨y3, y4⟩))
    (first
      | (refine step_app_i (by rfl) _ _ (by rfl) (base := w0.heap.size) (l := ([] : List Int)) (r := x.2.2) (n := 0) (m := x.2.2.length) (N := x.2.2.length) rfl rfl (by omega) (by rfl) (by rfl) (by exact O1.out) (by exact R2.out) (by omega) BA.out.size ?_
         intro A4 c4 w4 k1 k2
         have O4 := Lib.hid k1
         have B4 := Lib.hid (BA.out.trans k2)
         have R1 := Lib.hid (H1.out.below B4.out)
         clear k1 k2)
      | (refine step_app_i (by rfl) _ _ (by rfl) (base := w0.heap.size) (l := x.2.2) (r := x.2.1) (n := x.2.2.length) (m := x.2.1.length) (N := x.2.2.length + x.2.1.length) rfl rfl rfl (by rfl) (by rfl) (by exact O4.out) (by exact R1.out) (by omega) B4.out.size ?_
         intro A5 c5 w5 k1 k2
         have O5 := Lib.hid k1
         have B5 := Lib.hid (B4.out.trans k2)
         clear k1 k2))
  all_goals
    go_split_ands
    replace HX := Lib.hid (HX.out.below B5.out)
    replace HY := Lib.hid (HY.out.below B5.out)
    replace B0 := Lib.hid (below_step B0.out B5.out)
    have HD : Hid (delivW x = (x.1, [], deliL n x.2.2 x.2.1)) := by
      show (x.1, [], deliL x.1.2.2.toNat x.2.2 x.2.1) = _
      rw [HCAP.out, Int.toNat_natCast]
    have hlen : (x.2.2 ++ x.2.1).length = x.2.2.length + x.2.1.length := List.length_append
    have hdl : deliL n x.2.2 x.2.1 = (x.2.2 ++ x.2.1).drop (x.2.2.length + x.2.1.length - n) := by unfold deliL; rw [hlen]
    rw [hdl] at HD
    have hT2 : x.2.2.length + x.2.1.length ≤ 2000 := by omega
    generalize x.2.2.length + x.2.1.length = T at *
    generalize x.2.2 ++ x.2.1 = all at *
    clear hdl y0 y1 y2 y3 y4 H1 H2 R1 R2 O1 O4 B4 BD BA
    obtain ⟨y0, y1, y2, -, -⟩ := HX.out.cells
    obtain ⟨z0, z1, z2, z3, z4⟩ := HY.out.cells
    have f0 := HY.out.f 0
    have f1 := HY.out.f 1
    have f2 := HY.out.f 2
    have f3 := HY.out.f 3
    have f4 := HY.out.f 4
    have HCP := HCAP.out
    rw [HCP] at y2
    clear HCP
    have HYW : Hid (w.heap.size + 1 < w0.heap.size) := HYL.out
    have HLEN := Lib.hid hlen
    clear hlen
    skip
  all_goals
    by_cases hT : T ≤ n
    · rw [show T - n = 0 by omega, List.drop_zero] at HD
      have hcs := OwS.cases O5.out
      by_cases hl : T = n
      · subst hl
        have e1 : IntKind.i64.wrap ((T : Int) - (T : Int)) = 0 := by rw [Int.sub_self]; rfl
        obtain ⟨g, rfl, hg1, hg2, hg3⟩ := OwS.form O5.out (by rw [HLEN.out]; omega)
        rw [HLEN.out] at hg3
        have HE := Lib.hid (rdel_end (w := w) (w5 := w5) (N := w0.heap.size) (Y := w.heap.size + 1) (Q := some ⟨g, 0, none⟩) (q := c5) (t := x.1) (l := all) (k := T) HLEN.out (OwS.rdS O5.out (fun _ h => h.elim) (fun g' hg => by injection hg with hg; injection hg with hg; subst hg; exact hg1)) (by omega) HYW.out B0.out)
        have i1 : (0 : Int) ≤ (T : Int) := by omega
        have hc0 : ¬ c5 = 0 := by omega
        clear hcs
        go_wp2_with fail
        go_region
        all_goals
          go_wp2_with fail
          refine bodyPost_ret (v := .agg #[.int .i64 x.1.1, .int .i64 x.1.2.1, .int .i64 (T : Int), .slice none 0 0, .slice (some ⟨g, 0, none⟩) T c5]) (by simp [results, Try.results19, go_sem, z0, z1, z2, z3, z4]) rfl ?_
          rw [HD.out, ← HCAP.out]
          exact HE.out
      · have e1 : IntKind.i64.wrap ((T : Int) - (n : Int)) = (T : Int) - (n : Int) := IntWalk.i64_in _ (by omega)
        have e2 : (T : Int) - (n : Int) < 0 := by omega
        rcases hcs with ⟨rfl, rfl, hnil⟩ | ⟨g, rfl, hg1, hg2, hg3⟩
        · have hT0 : T = 0 := by rw [← HLEN.out, hnil]; rfl
          subst hT0
          have HE := Lib.hid (rdel_end (w := w) (w5 := w5) (N := w0.heap.size) (Y := w.heap.size + 1) (Q := none) (q := 0) (t := x.1) (l := all) (k := 0) HLEN.out (OwS.rdS O5.out (fun _ h => h.elim) (fun g hg => by cases hg)) (by omega) HYW.out B0.out)
          clear hnil
          go_wp2_with fail
          go_region
          all_goals
            go_wp2_with fail
            refine bodyPost_ret (v := .agg #[.int .i64 x.1.1, .int .i64 x.1.2.1, .int .i64 (n : Int), .slice none 0 0, .slice none 0 0]) (by simp [results, Try.results19, go_sem, z0, z1, z2, z3, z4]) rfl ?_
            rw [HD.out, ← HCAP.out]
            exact HE.out
        · rw [HLEN.out] at hg3
          have HE := Lib.hid (rdel_end (w := w) (w5 := w5) (N := w0.heap.size) (Y := w.heap.size + 1) (Q := some ⟨g, 0, none⟩) (q := c5) (t := x.1) (l := all) (k := T) HLEN.out (OwS.rdS O5.out (fun _ h => h.elim) (fun g' hg => by injection hg with hg; injection hg with hg; subst hg; exact hg1)) (by omega) HYW.out B0.out)
          have i1 : (0 : Int) ≤ (T : Int) := by omega
          by_cases hc0 : c5 = 0
          · subst hc0
            have hT0 : T = 0 := by omega
            subst hT0
            go_wp2_with fail
            go_region
            all_goals
              go_wp2_with fail
              refine bodyPost_ret (v := .agg #[.int .i64 x.1.1, .int .i64 x.1.2.1, .int .i64 (n : Int), .slice none 0 0, .slice (some ⟨g, 0, none⟩) 0 0]) (by simp [results, Try.results19, go_sem, z0, z1, z2, z3, z4]) rfl ?_
              rw [HD.out, ← HCAP.out]
              exact HE.out
          · skip
            go_wp2_with fail
            go_region
            all_goals
              go_wp2_with fail
              refine bodyPost_ret (v := .agg #[.int .i64 x.1.1, .int .i64 x.1.2.1, .int .i64 (n : Int), .slice none 0 0, .slice (some ⟨g, 0, none⟩) T c5]) (by simp [results, Try.results19, go_sem, z0, z1, z2, z3, z4]) rfl ?_
              rw [HD.out, ← HCAP.out]
              exact HE.out
    · obtain ⟨m, hm⟩ : ∃ m : Nat, m = T - n := ⟨_, rfl⟩
      rw [← hm] at HD
      obtain ⟨g, rfl, hg1, hg2, hg3⟩ := OwS.form O5.out (by rw [HLEN.out]; omega)
      rw [HLEN.out] at hg3
      have e1 : IntKind.i64.wrap ((T : Int) - (n : Int)) = (m : Int) := by rw [IntWalk.i64_in _ (by omega)]; omega
      have e2 : (0 : Int) ≤ (m : Int) := by omega
      have e3 : (m : Int) ≤ (T : Int) := by omega
      have e4 : m ≤ T := by omega
      have e5 : ¬ c5 = m := by omega
      have e6 : T ≤ c5 := hg3
      have hbk := RdS.back (OwS.rdS (S' := fun b => w0.heap.size ≤ b) O5.out (fun _ h => h.elim) (fun g' hg => by injection hg with hg; injection hg with hg; subst hg; exact hg1)) m (c5 - m) (by rw [HLEN.out]; omega) (by have := OwS.max O5.out; omega)
      rw [show 0 + m * Dat.k Int = m from by show 0 + m * 1 = m; omega] at hbk
      have HE := Lib.hid (rdel_end (w := w) (w5 := w5) (N := w0.heap.size) (Y := w.heap.size + 1) (t := x.1) (k := T - m) (by rw [List.length_drop, HLEN.out]) hbk (by omega) HYW.out B0.out)
      clear hm hT hbk
      go_wp2_with fail
      go_region
      all_goals
        go_wp2_with fail
        refine bodyPost_ret (v := .agg #[.int .i64 x.1.1, .int .i64 x.1.2.1, .int .i64 (n : Int), .slice none 0 0, .slice (some ⟨g, m, none⟩) (T - m) (c5 - m)]) (by simp [results, Try.results19, go_sem, z0, z1, z2, z3, z4]) rfl ?_
        rw [HD.out, ← HCAP.out]
        exact HE.out
end

end Po
end Go.Proofs.Ytfkcplnjhelclaa

