/-
  For all lines, and any numbers, the statement PortSends of layer 18 returns true (what is sent, and what is read, is what the document says), and its arguments read as before. No condition.
-/
import Derived.Test.YtfkcplnjhelclaaGlaw18
import Derived.Test.YtfkcplnjhelclaaOLaw18Lines
import Derived.Test.YtfkcplnjhelclaaGlaw18b
namespace Go.Proofs.Ytfkcplnjhelclaa.portSends
open Go.ChangeShapes Go.WideShapes Go.ChangeAt Go.RowKit
open Mm Po

theorem send_bad' {L : List Lin} (who i v : Int) (h : okS L = false) : sendE L who i = 1 ∧ sendL L who i v = L := by
  have e : sendE L who i = 1 := by unfold sendE; rw [if_pos h]
  exact ⟨e, by unfold sendL; rw [e]; rfl⟩
theorem read_bad' {L : List Lin} (who i : Int) (h : okS L = false) : readE L who i = 1 ∧ readV L who i = 0 ∧ readL L who i = L := by
  have e : readE L who i = 1 := by unfold readE; rw [if_pos h]
  exact ⟨e, by unfold readV; rw [e]; rfl, by unfold readL; rw [e]; rfl⟩
theorem send_out {L : List Lin} (who i v : Int) (hok : okS L = true) : okS (sendL L who i v) = true ∧ (sendL L who i v).length = L.length ∧ (sendE L who i ≠ 0 → sendL L who i v = L) ∧ (sendE L who i = 0 → i.toNat < L.length ∧ i = (i.toNat : Int) ∧ (L.map rowOf).set i.toNat (rowOf (sentL (at_ L i.toNat) v)) = (sendL L who i v).map rowOf ∧ FitP (rowOf (sentL (at_ L i.toNat) v)).1) := by
  by_cases he : sendE L who i = 0
  · obtain ⟨k1, k2, k3, k4, k5, k6⟩ := send_in v hok he
    exact ⟨k4, by rw [k3, List.length_set], fun h => absurd he h, fun _ => ⟨k1, k2, k5.symm, k6⟩⟩
  · have e : sendL L who i v = L := by unfold sendL; rw [if_neg he]
    exact ⟨by rw [e]; exact hok, by rw [e], fun _ => e, fun h => absurd h he⟩
theorem read_out {L : List Lin} (who i : Int) (hok : okS L = true) : okS (readL L who i) = true ∧ (readL L who i).length = L.length ∧ (readE L who i ≠ 0 → readL L who i = L) ∧ (readE L who i = 0 → i.toNat < L.length ∧ i = (i.toNat : Int) ∧ (L.map rowOf).set i.toNat (rowOf (gotL (at_ L i.toNat))) = (readL L who i).map rowOf ∧ FitP (rowOf (gotL (at_ L i.toNat))).1) := by
  by_cases he : readE L who i = 0
  · obtain ⟨k1, k2, k3, k4, k5, k6⟩ := read_in hok he
    exact ⟨k4, by rw [k3, List.length_set], fun h => absurd he h, fun _ => ⟨k1, k2, k5.symm, k6⟩⟩
  · have e : readL L who i = L := by unfold readL; rw [if_neg he]
    exact ⟨by rw [e]; exact hok, by rw [e], fun _ => e, fun h => absurd h he⟩
theorem sendE_of {L : List Lin} (who i : Int) (hok : okS L = true) : sendE L who i ≠ 0 → sendE L who i = 3 ∨ sendE L who i = 4 ∨ sendE L who i = 7 := by
  have h1 : ¬ okS L = false := by rw [hok]; simp
  unfold sendE
  rw [if_neg h1]
  repeat' split
  all_goals simp
theorem readE_of {L : List Lin} (who i : Int) (hok : okS L = true) : readE L who i ≠ 0 → readE L who i = 4 ∨ readE L who i = 7 := by
  have h1 : ¬ okS L = false := by rw [hok]; simp
  unfold readE
  rw [if_neg h1]
  repeat' split
  all_goals simp
theorem as_rd (A : Option Addr) (c : Nat) (L : List Lin) (n : Nat) (hn : L.length = n) (hok : okS L = true) (w : World) (hr : Rd w A c L) :
    Calls Try.prog 13 #[.slice A n c] w fun e w' => ∃ A' c', e = .returned (.slice A' n c') ∧ OwN w' w.heap.size 37 A' c' (L.map rowOf) ∧ Below w.heap.size w w' := as_rows (fun _ => True) A c L n hn hok w hr
theorem small {L : List Lin} (h : okS L = true) : ∀ j, j < L.length → (at_ L j).2.1.1.length ≤ 20 ∧ (at_ L j).2.2.1.length ≤ 20 := fun j hj => by
  obtain ⟨n, e, n1, n4, hp, g1, g2⟩ := okL_good (okS_at h hj)
  have := g1.len
  have := g2.len
  omega
theorem rows_small {L : List Lin} {n : Nat} (h : okS L = true) (hn : L.length = n) : (L.map rowOf).length = n ∧ ∀ j, j < n → (at_ (L.map rowOf) j).2.1.length ≤ 1000 ∧ (at_ (L.map rowOf) j).2.2.length ≤ 1000 := by
  refine ⟨by rw [List.length_map]; exact hn, fun j hj => ?_⟩
  have hj : j < L.length := by omega
  rw [rows_at hj]
  obtain ⟨n, e, n1, n4, hp, g1, g2⟩ := okL_good (okS_at h hj)
  have a1 := g1.m1
  have a2 := g2.m1
  refine ⟨?_, ?_⟩
  · show (msgR _).length ≤ 1000
    rw [msgR_length]; omega
  · show (msgR _).length ≤ 1000
    rw [msgR_length]; omega
theorem rightS_n (A : Option Addr) (c : Nat) (L : List Lin) (n : Nat) (b : Bool) (hn : L.length = n) (h : okS L = b) (w : World) (hb : n ≤ 1000000) (hin : ∀ j, j < L.length → (at_ L j).2.1.1.length ≤ 20 ∧ (at_ L j).2.2.1.length ≤ 20) (hr : Rd w A c L) :
    Calls Try.prog 11 #[.slice A n c] w fun e w' => e = .returned (.bool b) ∧ Below w.heap.size w w' := by
  subst hn
  subst h
  exact rightS_any A c L w hb hin hr
theorem with_v (A : Option Addr) (c : Nat) (R D : List Rw) (n k : Nat) (hn : R.length = n) (i : Int) (hi : i = (k : Int)) (hk : k < n) (hb : n ≤ 900000) (P : Option Addr) (p : Nat) (Q : Option Addr) (q : Nat) (y : Rw) (hD : R.set k y = D) (w : World) (hr : Rd w A c R) (hf : FitP y.1) (h1 : Rd w P p y.2.1) (h2 : Rd w Q q y.2.2) :
    Calls Try.prog 17 #[.slice A n c, .int .i64 i, (.agg #[.int .i64 y.1.1, .int .i64 y.1.2.1, .int .i64 y.1.2.2, .slice P y.2.1.length p, .slice Q y.2.2.length q])] w fun e w' => ∃ A' c', e = .returned (.slice A' n c') ∧ Rd w' A' c' D ∧ Below w.heap.size w w' := by
  subst hn
  subst hD
  exact refWith_any k i hi hk hb P p Q q y w hr hf h1 h2

set_option maxHeartbeats 1600000 in
theorem bad (A : Option Addr) (c : Nat) (L : List Lin) (who i v : Int) (w : World) (hg : greatS L = false) (h : okS L = false) (hr : Rd w A c L) (hv : Fit v) :
    Calls Try.prog 3 #[.slice A L.length c, .int .i64 who, .int .i64 i, .int .i64 v] w fun e w' => e = .returned (.bool true) ∧ Below w.heap.size w w' := by
  obtain ⟨hl, hin⟩ := great_no hg
  obtain ⟨s1, s2⟩ := send_bad' who i v h
  obtain ⟨t1, t2, t3⟩ := read_bad' who i h
  have hb : L.length ≤ 900000 := by omega
  have hb2 : L.length ≤ 1000000 := by omega
  have hin2 : ∀ j, j < L.length → (at_ L j).2.1.1.length ≤ 1000 ∧ (at_ L j).2.2.1.length ≤ 1000 := fun j hj => ⟨Nat.le_trans (hin j hj).1 (by decide), Nat.le_trans (hin j hj).2 (by decide)⟩
  have HR := Lib.hid hr
  have HIN := Lib.hid hin
  have HIN2 := Lib.hid hin2
  have HL := Lib.hid hl
  have S1 := Lib.hid s1
  have S2 := Lib.hid s2
  have T1 := Lib.hid t1
  have T2 := Lib.hid t2
  have T3 := Lib.hid t3
  have HV := Lib.hid hv
  clear hr hin hin2 hl s1 s2 t1 t2 t3 hv
  go_enter Try.func3, Try.ntmps3
  go_wp2_with fail
  refine (great_any A c L _ HR.out).mono ?_
  rintro e w1 ⟨rfl, b1⟩
  rw [hg]
  replace HR := Lib.hid (HR.out.below b1)
  have B1 := Lib.hid b1
  clear b1
  go_wp2_with fail
  refine (send_v (S := fun _ => True) who i v L.length L 1 rfl S2.out S1.out _ hb HR.out HV.out).mono ?_
  rintro e w2 ⟨A2, c2, rfl, r2, b2⟩
  have RA := Lib.hid (RdS.rd r2)
  replace HR := Lib.hid (HR.out.below b2)
  replace B1 := Lib.hid (below_step B1.out b2)
  clear r2 b2
  go_wp2_with fail
  refine (read_v (S := fun _ => True) who i L.length L 0 1 rfl T3.out T2.out T1.out _ hb HR.out).mono ?_
  rintro e w3 ⟨A3, c3, rfl, r3, b3⟩
  have RB := Lib.hid (RdS.rd r3)
  replace RA := Lib.hid (RA.out.below b3)
  replace HR := Lib.hid (HR.out.below b3)
  replace B1 := Lib.hid (below_step B1.out b3)
  clear r3 b3
  go_wp2_with fail
  refine (rightS_any A c L _ hb2 HIN.out HR.out).mono ?_
  rintro e w4 ⟨rfl, b4⟩
  rw [h]
  replace RA := Lib.hid (RA.out.below b4)
  replace RB := Lib.hid (RB.out.below b4)
  replace HR := Lib.hid (HR.out.below b4)
  replace B1 := Lib.hid (below_step B1.out b4)
  clear b4
  go_wp2_with fail
  refine (stays_one A2 A c2 c L L.length rfl hb2 HIN2.out _ RA.out HR.out).mono ?_
  rintro e w5 ⟨rfl, b5⟩
  replace RB := Lib.hid (RB.out.below b5)
  replace HR := Lib.hid (HR.out.below b5)
  replace B1 := Lib.hid (below_step B1.out b5)
  clear b5
  go_wp2_with fail
  refine (stays_one A3 A c3 c L L.length rfl hb2 HIN2.out _ RB.out HR.out).mono ?_
  rintro e w6 ⟨rfl, b6⟩
  replace B1 := Lib.hid (below_step B1.out b6)
  clear b6
  go_wp2_with fail
  refine (knows18_any _).mono ?_
  rintro e w7 ⟨rfl, b7⟩
  replace B1 := Lib.hid (below_step B1.out b7)
  clear b7
  go_wp2_with fail
  go_ret
  exact ⟨rfl, B1.out⟩

set_option linter.unusedSimpArgs false in
set_option maxRecDepth 20000 in
set_option maxHeartbeats 3200000 in
theorem ok (A : Option Addr) (c : Nat) (L : List Lin) (who i v : Int) (w : World) (hg : greatS L = false) (h : okS L = true) (hr : Rd w A c L) (hv : Fit v) :
    Calls Try.prog 3 #[.slice A L.length c, .int .i64 who, .int .i64 i, .int .i64 v] w fun e w' => e = .returned (.bool true) ∧ Below w.heap.size w w' := by
  obtain ⟨hl, hin⟩ := great_no hg
  obtain ⟨n, hn⟩ : ∃ n, L.length = n := ⟨_, rfl⟩
  obtain ⟨k, hk⟩ : ∃ k, i.toNat = k := ⟨_, rfl⟩
  obtain ⟨s1, s2, s3, s4⟩ := send_out who i v h
  obtain ⟨t1, t2, t3, t4⟩ := read_out who i h
  have s5 := sendE_of who i h
  have t5 := readE_of who i h
  obtain ⟨La, hLa⟩ : ∃ x, sendL L who i v = x := ⟨_, rfl⟩
  obtain ⟨E, hE⟩ : ∃ x, sendE L who i = x := ⟨_, rfl⟩
  obtain ⟨Lb, hLb⟩ : ∃ x, readL L who i = x := ⟨_, rfl⟩
  obtain ⟨F, hF⟩ : ∃ x, readE L who i = x := ⟨_, rfl⟩
  obtain ⟨M, hM⟩ : ∃ x, readV L who i = x := ⟨_, rfl⟩
  rw [hLa, hn] at s2
  rw [hLa] at s1 s3 s4
  rw [hE] at s3 s4 s5
  rw [hn] at s4 t4
  rw [hLb, hn] at t2
  rw [hLb] at t1 t3 t4
  rw [hF] at t3 t4 t5
  rw [hk] at s4 t4
  have hb : n ≤ 900000 := by omega
  have hb2 : n ≤ 1000000 := by omega
  have hin2 : ∀ j, j < n → (at_ L j).2.1.1.length ≤ 1000 ∧ (at_ L j).2.2.1.length ≤ 1000 := fun j hj => ⟨Nat.le_trans (hin j (by omega)).1 (by decide), Nat.le_trans (hin j (by omega)).2 (by decide)⟩
  have RGT := Lib.hid (rightS_n A c L n true hn h)
  have INA := Lib.hid (small s1)
  have INB := Lib.hid (small t1)
  have L4 := Lib.hid (rows_small h hn).1
  obtain ⟨ma, mas⟩ := rows_small s1 s2
  obtain ⟨mb, mbs⟩ := rows_small t1 t2
  have A1H := Lib.hid s1
  have A2H := Lib.hid s2
  have A3H := Lib.hid s3
  have A4H := Lib.hid s4
  have A5H := Lib.hid s5
  have B1H := Lib.hid t1
  have B2H := Lib.hid t2
  have B3H := Lib.hid t3
  have B4H := Lib.hid t4
  have B5H := Lib.hid t5
  have MA := Lib.hid ma
  have MAS := Lib.hid mas
  have MB := Lib.hid mb
  have MBS := Lib.hid mbs
  have HN := Lib.hid hn
  have HEE := Lib.hid hE
  have HFF := Lib.hid hF
  have HMM := Lib.hid hM
  have HKK := Lib.hid hk
  have hee : (E != E) = false := by simp
  have hff : (F != F) = false := by simp
  have hmm : (M != M) = false := by simp
  have HOK := Lib.hid h
  rw [hn]
  clear s1 s2 s3 s4 s5 t1 t2 t3 t4 t5 ma mas mb mbs hE hF hM hk
  have HR := Lib.hid hr
  have HIN := Lib.hid hin
  have HIN2 := Lib.hid hin2
  have HL := Lib.hid hl
  have HV := Lib.hid hv
  have HLA := Lib.hid hLa
  have HLB := Lib.hid hLb
  clear hr hin hin2 hl hv hLa hLb
  have GR := Lib.hid (show Calls Try.prog 7 #[.slice A n c] w fun e w' => e = .returned (.bool false) ∧ Below w.heap.size w w' by have := great_any A c L w HR.out; rw [hg, hn] at this; exact this)
  clear hn hg
  go_enter Try.func3, Try.ntmps3
  go_wp2_with fail
  refine GR.out.mono ?_
  rintro e w1 ⟨rfl, b1⟩
  replace HR := Lib.hid (HR.out.below b1)
  have B1 := Lib.hid b1
  clear b1
  clear GR
  go_wp2_with fail
  refine (send_v (S := fun _ => True) who i v n La E HN.out HLA.out HEE.out _ hb HR.out HV.out).mono ?_
  rintro e w2 ⟨A2, c2, rfl, r2, b2⟩
  rw [A2H.out]
  have RA := Lib.hid (RdS.rd r2)
  replace HR := Lib.hid (HR.out.below b2)
  replace B1 := Lib.hid (below_step B1.out b2)
  clear r2 b2
  go_wp2_with fail
  refine (read_v (S := fun _ => True) who i n Lb M F HN.out HLB.out HMM.out HFF.out _ hb HR.out).mono ?_
  rintro e w3 ⟨A3, c3, rfl, r3, b3⟩
  rw [B2H.out]
  have RB := Lib.hid (RdS.rd r3)
  replace RA := Lib.hid (RA.out.below b3)
  replace HR := Lib.hid (HR.out.below b3)
  replace B1 := Lib.hid (below_step B1.out b3)
  clear r3 b3
  go_wp2_with fail
  refine (RGT.out _ hb2 HIN.out HR.out).mono ?_
  rintro e w4 ⟨rfl, b4⟩
  replace RA := Lib.hid (RA.out.below b4)
  replace RB := Lib.hid (RB.out.below b4)
  replace HR := Lib.hid (HR.out.below b4)
  replace B1 := Lib.hid (below_step B1.out b4)
  clear b4 RGT
  go_wp2_with fail
  refine (as_rows (fun _ => True) A c L n HN.out HOK.out _ HR.out).mono ?_
  rintro e w5 ⟨A4, c4, rfl, o5, b5⟩
  have R4 := Lib.hid o5.rd
  replace RA := Lib.hid (RA.out.below b5)
  replace RB := Lib.hid (RB.out.below b5)
  replace HR := Lib.hid (HR.out.below b5)
  replace B1 := Lib.hid (below_step B1.out b5)
  clear b5 o5
  go_wp2_with fail
  refine (refSend_v HN.out who i v _ HOK.out R4.out HV.out).mono ?_
  rintro e w6 ⟨x, P, p, Q, q, rfl, hx, r1, r2, b6⟩
  rw [HEE.out] at hx ⊢
  have HXX := Lib.hid hx
  have b6 := b6.trans ((Below.refl w6.heap.size w6).alloc (Nat.le_refl _) (.cells #[.int .i64 x.1.1, .int .i64 x.1.2.1, .int .i64 x.1.2.2, .slice P x.2.1.length p, .slice Q x.2.2.length q] 37) |>.mono b6.size)
  have bn := below_one w6 (.cells #[.int .i64 x.1.1, .int .i64 x.1.2.1, .int .i64 x.1.2.2, .slice P x.2.1.length p, .slice Q x.2.2.length q] 37)
  have X1 : Hid (Rd (w6.alloc (.cells #[.int .i64 x.1.1, .int .i64 x.1.2.1, .int .i64 x.1.2.2, .slice P x.2.1.length p, .slice Q x.2.2.length q] 37)) P p x.2.1) := Lib.hid (r1.below bn)
  have X2 : Hid (Rd (w6.alloc (.cells #[.int .i64 x.1.1, .int .i64 x.1.2.1, .int .i64 x.1.2.2, .slice P x.2.1.length p, .slice Q x.2.2.length q] 37)) Q q x.2.2) := Lib.hid (r2.below bn)
  have CX : Hid (Bw (w6.alloc (.cells #[.int .i64 x.1.1, .int .i64 x.1.2.1, .int .i64 x.1.2.2, .slice P x.2.1.length p, .slice Q x.2.2.length q] 37)) w6.heap.size P p Q q x) := bw_new w6 P p Q q x _ rfl
  replace R4 := Lib.hid (R4.out.below b6)
  replace RA := Lib.hid (RA.out.below b6)
  replace RB := Lib.hid (RB.out.below b6)
  replace HR := Lib.hid (HR.out.below b6)
  replace B1 := Lib.hid (below_step B1.out b6)
  clear b6 bn r1 r2 hx
  go_wp2_with fail
  generalize w6.alloc (.cells #[.int .i64 x.1.1, .int .i64 x.1.2.1, .int .i64 x.1.2.2, .slice P x.2.1.length p, .slice Q x.2.2.length q] 37) = w7 at *
  generalize w6.heap.size = X at *
  refine (refRead_v HN.out who i _ HOK.out R4.out).mono ?_
  rintro e w8 ⟨y, P2, p2, Q2, q2, rfl, hy, r1, r2, b8⟩
  rw [HFF.out] at hy ⊢
  rw [HMM.out]
  have HYY := Lib.hid hy
  have b8 := b8.trans ((Below.refl w8.heap.size w8).alloc (Nat.le_refl _) (.cells #[.int .i64 y.1.1, .int .i64 y.1.2.1, .int .i64 y.1.2.2, .slice P2 y.2.1.length p2, .slice Q2 y.2.2.length q2] 37) |>.mono b8.size)
  have bn := below_one w8 (.cells #[.int .i64 y.1.1, .int .i64 y.1.2.1, .int .i64 y.1.2.2, .slice P2 y.2.1.length p2, .slice Q2 y.2.2.length q2] 37)
  have Y1 : Hid (Rd (w8.alloc (.cells #[.int .i64 y.1.1, .int .i64 y.1.2.1, .int .i64 y.1.2.2, .slice P2 y.2.1.length p2, .slice Q2 y.2.2.length q2] 37)) P2 p2 y.2.1) := Lib.hid (r1.below bn)
  have Y2 : Hid (Rd (w8.alloc (.cells #[.int .i64 y.1.1, .int .i64 y.1.2.1, .int .i64 y.1.2.2, .slice P2 y.2.1.length p2, .slice Q2 y.2.2.length q2] 37)) Q2 q2 y.2.2) := Lib.hid (r2.below bn)
  have CY : Hid (Bw (w8.alloc (.cells #[.int .i64 y.1.1, .int .i64 y.1.2.1, .int .i64 y.1.2.2, .slice P2 y.2.1.length p2, .slice Q2 y.2.2.length q2] 37)) w8.heap.size P2 p2 Q2 q2 y) := bw_new w8 P2 p2 Q2 q2 y _ rfl
  replace X1 := Lib.hid (X1.out.below b8)
  replace X2 := Lib.hid (X2.out.below b8)
  replace CX := Lib.hid (CX.out.below b8)
  replace R4 := Lib.hid (R4.out.below b8)
  replace RA := Lib.hid (RA.out.below b8)
  replace RB := Lib.hid (RB.out.below b8)
  replace HR := Lib.hid (HR.out.below b8)
  replace B1 := Lib.hid (below_step B1.out b8)
  clear b8 bn r1 r2 hy
  go_wp2_with fail
  generalize w8.alloc (.cells #[.int .i64 y.1.1, .int .i64 y.1.2.1, .int .i64 y.1.2.2, .slice P2 y.2.1.length p2, .slice Q2 y.2.2.length q2] 37) = w9 at *
  generalize w8.heap.size = Y at *
  refine (rightS_n A2 c2 La n true A2H.out A1H.out _ hb2 INA.out RA.out).mono ?_
  rintro e w10 ⟨rfl, b10⟩
  replace HR := Lib.hid (HR.out.below b10)
  replace RA := Lib.hid (RA.out.below b10)
  replace RB := Lib.hid (RB.out.below b10)
  replace R4 := Lib.hid (R4.out.below b10)
  replace B1 := Lib.hid (below_step B1.out b10)
  replace X1 := Lib.hid (X1.out.below b10)
  replace X2 := Lib.hid (X2.out.below b10)
  replace CX := Lib.hid (CX.out.below b10)
  replace Y1 := Lib.hid (Y1.out.below b10)
  replace Y2 := Lib.hid (Y2.out.below b10)
  replace CY := Lib.hid (CY.out.below b10)
  clear b10
  go_wp2_with fail
  refine (rightS_n A3 c3 Lb n true B2H.out B1H.out _ hb2 INB.out RB.out).mono ?_
  rintro e wz ⟨rfl, b11⟩
  replace HR := Lib.hid (HR.out.below b11)
  replace RA := Lib.hid (RA.out.below b11)
  replace RB := Lib.hid (RB.out.below b11)
  replace R4 := Lib.hid (R4.out.below b11)
  replace B1 := Lib.hid (below_step B1.out b11)
  replace X1 := Lib.hid (X1.out.below b11)
  replace X2 := Lib.hid (X2.out.below b11)
  replace CX := Lib.hid (CX.out.below b11)
  replace Y1 := Lib.hid (Y1.out.below b11)
  replace Y2 := Lib.hid (Y2.out.below b11)
  replace CY := Lib.hid (CY.out.below b11)
  clear b11
  clear hee hff hmm
  by_cases hE0 : E = 0
  · subst hE0
    obtain ⟨hk1, hi1, hD1, hF1⟩ := A4H.out rfl
    have ex := HXX.out rfl
    rw [HKK.out] at ex
    have HXA : Hid ((L.map rowOf).set k x = La.map rowOf) := by rw [ex]; exact hD1
    have HXF : Hid (FitP x.1) := by rw [ex]; exact hF1
    have HK := Lib.hid hk1
    have HI := Lib.hid hi1
    clear hk1 hi1 hD1 hF1 ex
    by_cases hF0 : F = 0
    · subst hF0
      obtain ⟨hk1, hi1, hD1, hF1⟩ := B4H.out rfl
      have ex := HYY.out rfl
      rw [HKK.out] at ex
      have HYB : Hid ((L.map rowOf).set k y = Lb.map rowOf) := by rw [ex]; exact hD1
      have HYF : Hid (FitP y.1) := by rw [ex]; exact hF1
      have HK := Lib.hid hk1
      have HI := Lib.hid hi1
      clear hk1 hi1 hD1 hF1 ex
      go_wp2_with fail
      have BD := ((Below.refl wz.heap.size wz).drew)
      replace HR := Lib.hid (HR.out.below BD)
      replace RA := Lib.hid (RA.out.below BD)
      replace RB := Lib.hid (RB.out.below BD)
      replace R4 := Lib.hid (R4.out.below BD)
      replace B1 := Lib.hid (below_step B1.out BD)
      replace X1 := Lib.hid (X1.out.below BD)
      replace X2 := Lib.hid (X2.out.below BD)
      replace CX := Lib.hid (CX.out.below BD)
      replace Y1 := Lib.hid (Y1.out.below BD)
      replace Y2 := Lib.hid (Y2.out.below BD)
      replace CY := Lib.hid (CY.out.below BD)
      clear BD
      refine wp_region_held_drew (S := (fun w' => w'.cell? ⟨X, 0, none⟩ = some (.int .i64 x.1.1) ∧ w'.cell? ⟨X, 1, none⟩ = some (.int .i64 x.1.2.1) ∧ w'.cell? ⟨X, 2, none⟩ = some (.int .i64 x.1.2.2) ∧ w'.cell? ⟨X, 3, none⟩ = some (.slice P x.2.1.length p) ∧ w'.cell? ⟨X, 4, none⟩ = some (.slice Q x.2.2.length q) ∧ w'.cell? ⟨Y, 0, none⟩ = some (.int .i64 y.1.1) ∧ w'.cell? ⟨Y, 1, none⟩ = some (.int .i64 y.1.2.1) ∧ w'.cell? ⟨Y, 2, none⟩ = some (.int .i64 y.1.2.2) ∧ w'.cell? ⟨Y, 3, none⟩ = some (.slice P2 y.2.1.length p2) ∧ w'.cell? ⟨Y, 4, none⟩ = some (.slice Q2 y.2.2.length q2))) (by kernel_rfl) ⟨CX.out.c.c0, CX.out.c.c1, CX.out.c.c2, CX.out.c.c3, CX.out.c.c4, CY.out.c.c0, CY.out.c.c1, CY.out.c.c2, CY.out.c.c3, CY.out.c.c4⟩ (fun hHeld => ?_)
      refine wpAnyH_take (i := 0) (v := ?_) rfl (by kernel_rfl) (by kernel_rfl) (by kernel_rfl) (fun _ _ _ h => h) (Or.inl ⟨by kernel_rfl, ?_⟩) (by assumption) ?_
      rotate_left
      focus
        intro w hSw
        try dsimp only at hSw
        go_simp
        try with_reducible rfl
      try simp only [Act.put, List.setIfInBounds_toArray, List.set_cons_zero, List.set_cons_succ, List.getElem_toArray, List.getElem_cons_zero, List.getElem_cons_succ]
      refine wpAnyH_take (i := 1) (v := ?_) rfl (by kernel_rfl) (by kernel_rfl) (by kernel_rfl) (fun _ _ _ h => h) (Or.inl ⟨by kernel_rfl, ?_⟩) (by assumption) ?_
      rotate_left
      focus
        intro w hSw
        try dsimp only at hSw
        go_simp
        try with_reducible rfl
      try simp only [Act.put, List.setIfInBounds_toArray, List.set_cons_zero, List.set_cons_succ, List.getElem_toArray, List.getElem_cons_zero, List.getElem_cons_succ]
      refine wpAnyH_take (i := 2) (v := ?_) rfl (by kernel_rfl) (by kernel_rfl) (by kernel_rfl) (fun _ _ _ h => h) (Or.inl ⟨by kernel_rfl, ?_⟩) (by assumption) ?_
      rotate_left
      focus
        intro w hSw
        try dsimp only at hSw
        go_simp
        try with_reducible rfl
      try simp only [Act.put, List.setIfInBounds_toArray, List.set_cons_zero, List.set_cons_succ, List.getElem_toArray, List.getElem_cons_zero, List.getElem_cons_succ]
      refine wpAnyH_take (i := 3) (v := ?_) rfl (by kernel_rfl) (by kernel_rfl) (by kernel_rfl) (fun _ _ _ h => h) (Or.inl ⟨by kernel_rfl, ?_⟩) (by assumption) ?_
      rotate_left
      focus
        intro w hSw
        try dsimp only at hSw
        go_simp
        try with_reducible rfl
      try simp only [Act.put, List.setIfInBounds_toArray, List.set_cons_zero, List.set_cons_succ, List.getElem_toArray, List.getElem_cons_zero, List.getElem_cons_succ]
      refine wpAnyH_take (i := 5) (v := ?_) rfl (by kernel_rfl) (by kernel_rfl) (by kernel_rfl) (fun _ _ _ h => h) (Or.inl ⟨by kernel_rfl, ?_⟩) (by assumption) ?_
      rotate_left
      focus
        intro w hSw
        try dsimp only at hSw
        go_simp
        try with_reducible rfl
      try simp only [Act.put, List.setIfInBounds_toArray, List.set_cons_zero, List.set_cons_succ, List.getElem_toArray, List.getElem_cons_zero, List.getElem_cons_succ]
      refine wpAnyH_take (i := 6) (v := ?_) rfl (by kernel_rfl) (by kernel_rfl) (by kernel_rfl) (fun _ _ _ h => h) (Or.inl ⟨by kernel_rfl, ?_⟩) (by assumption) ?_
      rotate_left
      focus
        intro w hSw
        try dsimp only at hSw
        go_simp
        try with_reducible rfl
      try simp only [Act.put, List.setIfInBounds_toArray, List.set_cons_zero, List.set_cons_succ, List.getElem_toArray, List.getElem_cons_zero, List.getElem_cons_succ]
      refine wpAnyH_take (i := 7) (v := ?_) rfl (by kernel_rfl) (by kernel_rfl) (by kernel_rfl) (fun _ _ _ h => h) (Or.inl ⟨by kernel_rfl, ?_⟩) (by assumption) ?_
      rotate_left
      focus
        intro w hSw
        try dsimp only at hSw
        go_simp
        try with_reducible rfl
      try simp only [Act.put, List.setIfInBounds_toArray, List.set_cons_zero, List.set_cons_succ, List.getElem_toArray, List.getElem_cons_zero, List.getElem_cons_succ]
      refine wpAnyH_ready (rs := [4]) (by kernel_rfl) (by simp) ?_
      refine AllReadyH.cons rfl (fun K hK => ?_) AllReadyH.nil
      go_simp
      (first
        | (go_at_call 8
           refine (knows18_any _).mono ?_
           rintro e w20 ⟨rfl, b20⟩
           replace HR := Lib.hid (HR.out.below b20)
           replace RA := Lib.hid (RA.out.below b20)
           replace RB := Lib.hid (RB.out.below b20)
           replace R4 := Lib.hid (R4.out.below b20)
           replace B1 := Lib.hid (below_step B1.out b20)
           replace X1 := Lib.hid (X1.out.below b20)
           replace X2 := Lib.hid (X2.out.below b20)
           replace CX := Lib.hid (CX.out.below b20)
           replace Y1 := Lib.hid (Y1.out.below b20)
           replace Y2 := Lib.hid (Y2.out.below b20)
           replace CY := Lib.hid (CY.out.below b20)
           clear b20
           skip)
        | (go_at_call 13
           first
             | with_reducible refine (as_rd A2 c2 La n A2H.out A1H.out _ RA.out).mono ?_
             | with_reducible refine (as_rd A3 c3 Lb n B2H.out B1H.out _ RB.out).mono ?_
           rintro e w21 ⟨A21, c21, rfl, o21, b21⟩
           have O := Lib.hid o21.rd
           clear o21
           replace HR := Lib.hid (HR.out.below b21)
           replace RA := Lib.hid (RA.out.below b21)
           replace RB := Lib.hid (RB.out.below b21)
           replace R4 := Lib.hid (R4.out.below b21)
           replace B1 := Lib.hid (below_step B1.out b21)
           replace X1 := Lib.hid (X1.out.below b21)
           replace X2 := Lib.hid (X2.out.below b21)
           replace CX := Lib.hid (CX.out.below b21)
           replace Y1 := Lib.hid (Y1.out.below b21)
           replace Y2 := Lib.hid (Y2.out.below b21)
           replace CY := Lib.hid (CY.out.below b21)
           clear b21)
        | (go_at_call 17
           first
             | with_reducible refine (with_v A4 c4 (L.map rowOf) (La.map rowOf) n k L4.out i HI.out HK.out hb P p Q q x HXA.out _ R4.out HXF.out X1.out X2.out).mono ?_
             | with_reducible refine (with_v A4 c4 (L.map rowOf) (Lb.map rowOf) n k L4.out i HI.out HK.out hb P2 p2 Q2 q2 y HYB.out _ R4.out HYF.out Y1.out Y2.out).mono ?_
           rintro e w22 ⟨A22, c22, rfl, o22, b22⟩
           replace O := Lib.hid (O.out.below b22)
           have V := Lib.hid o22
           clear o22
           replace HR := Lib.hid (HR.out.below b22)
           replace RA := Lib.hid (RA.out.below b22)
           replace RB := Lib.hid (RB.out.below b22)
           replace R4 := Lib.hid (R4.out.below b22)
           replace B1 := Lib.hid (below_step B1.out b22)
           replace X1 := Lib.hid (X1.out.below b22)
           replace X2 := Lib.hid (X2.out.below b22)
           replace CX := Lib.hid (CX.out.below b22)
           replace Y1 := Lib.hid (Y1.out.below b22)
           replace Y2 := Lib.hid (Y2.out.below b22)
           replace CY := Lib.hid (CY.out.below b22)
           clear b22)
        | (go_at_call 16
           first
             | with_reducible refine (sameW_one A21 A22 c21 c22 (La.map rowOf) n MA.out hb2 MAS.out _ O.out V.out).mono ?_
             | with_reducible refine (sameW_one A21 A22 c21 c22 (Lb.map rowOf) n MB.out hb2 MBS.out _ O.out V.out).mono ?_
           rintro e w23 ⟨rfl, b23⟩
           clear O V
           replace HR := Lib.hid (HR.out.below b23)
           replace RA := Lib.hid (RA.out.below b23)
           replace RB := Lib.hid (RB.out.below b23)
           replace R4 := Lib.hid (R4.out.below b23)
           replace B1 := Lib.hid (below_step B1.out b23)
           replace X1 := Lib.hid (X1.out.below b23)
           replace X2 := Lib.hid (X2.out.below b23)
           replace CX := Lib.hid (CX.out.below b23)
           replace Y1 := Lib.hid (Y1.out.below b23)
           replace Y2 := Lib.hid (Y2.out.below b23)
           replace CY := Lib.hid (CY.out.below b23)
           clear b23))
      refine hK.out _ _ ⟨CX.out.c.c0, CX.out.c.c1, CX.out.c.c2, CX.out.c.c3, CX.out.c.c4, CY.out.c.c0, CY.out.c.c1, CY.out.c.c2, CY.out.c.c3, CY.out.c.c4⟩ (fun hHeld => ?_)
      clear hK K
      try simp only [Act.put, List.setIfInBounds_toArray, List.set_cons_zero, List.set_cons_succ, List.getElem_toArray, List.getElem_cons_zero, List.getElem_cons_succ]
      refine wpAnyH_ready (rs := [8]) (by kernel_rfl) (by simp) ?_
      refine AllReadyH.cons rfl (fun K hK => ?_) AllReadyH.nil
      go_simp
      (first
        | (go_at_call 8
           refine (knows18_any _).mono ?_
           rintro e w20 ⟨rfl, b20⟩
           replace HR := Lib.hid (HR.out.below b20)
           replace RA := Lib.hid (RA.out.below b20)
           replace RB := Lib.hid (RB.out.below b20)
           replace R4 := Lib.hid (R4.out.below b20)
           replace B1 := Lib.hid (below_step B1.out b20)
           replace X1 := Lib.hid (X1.out.below b20)
           replace X2 := Lib.hid (X2.out.below b20)
           replace CX := Lib.hid (CX.out.below b20)
           replace Y1 := Lib.hid (Y1.out.below b20)
           replace Y2 := Lib.hid (Y2.out.below b20)
           replace CY := Lib.hid (CY.out.below b20)
           clear b20
           skip)
        | (go_at_call 13
           first
             | with_reducible refine (as_rd A2 c2 La n A2H.out A1H.out _ RA.out).mono ?_
             | with_reducible refine (as_rd A3 c3 Lb n B2H.out B1H.out _ RB.out).mono ?_
           rintro e w21 ⟨A21, c21, rfl, o21, b21⟩
           have O := Lib.hid o21.rd
           clear o21
           replace HR := Lib.hid (HR.out.below b21)
           replace RA := Lib.hid (RA.out.below b21)
           replace RB := Lib.hid (RB.out.below b21)
           replace R4 := Lib.hid (R4.out.below b21)
           replace B1 := Lib.hid (below_step B1.out b21)
           replace X1 := Lib.hid (X1.out.below b21)
           replace X2 := Lib.hid (X2.out.below b21)
           replace CX := Lib.hid (CX.out.below b21)
           replace Y1 := Lib.hid (Y1.out.below b21)
           replace Y2 := Lib.hid (Y2.out.below b21)
           replace CY := Lib.hid (CY.out.below b21)
           clear b21)
        | (go_at_call 17
           first
             | with_reducible refine (with_v A4 c4 (L.map rowOf) (La.map rowOf) n k L4.out i HI.out HK.out hb P p Q q x HXA.out _ R4.out HXF.out X1.out X2.out).mono ?_
             | with_reducible refine (with_v A4 c4 (L.map rowOf) (Lb.map rowOf) n k L4.out i HI.out HK.out hb P2 p2 Q2 q2 y HYB.out _ R4.out HYF.out Y1.out Y2.out).mono ?_
           rintro e w22 ⟨A22, c22, rfl, o22, b22⟩
           replace O := Lib.hid (O.out.below b22)
           have V := Lib.hid o22
           clear o22
           replace HR := Lib.hid (HR.out.below b22)
           replace RA := Lib.hid (RA.out.below b22)
           replace RB := Lib.hid (RB.out.below b22)
           replace R4 := Lib.hid (R4.out.below b22)
           replace B1 := Lib.hid (below_step B1.out b22)
           replace X1 := Lib.hid (X1.out.below b22)
           replace X2 := Lib.hid (X2.out.below b22)
           replace CX := Lib.hid (CX.out.below b22)
           replace Y1 := Lib.hid (Y1.out.below b22)
           replace Y2 := Lib.hid (Y2.out.below b22)
           replace CY := Lib.hid (CY.out.below b22)
           clear b22)
        | (go_at_call 16
           first
             | with_reducible refine (sameW_one A21 A22 c21 c22 (La.map rowOf) n MA.out hb2 MAS.out _ O.out V.out).mono ?_
             | with_reducible refine (sameW_one A21 A22 c21 c22 (Lb.map rowOf) n MB.out hb2 MBS.out _ O.out V.out).mono ?_
           rintro e w23 ⟨rfl, b23⟩
           clear O V
           replace HR := Lib.hid (HR.out.below b23)
           replace RA := Lib.hid (RA.out.below b23)
           replace RB := Lib.hid (RB.out.below b23)
           replace R4 := Lib.hid (R4.out.below b23)
           replace B1 := Lib.hid (below_step B1.out b23)
           replace X1 := Lib.hid (X1.out.below b23)
           replace X2 := Lib.hid (X2.out.below b23)
           replace CX := Lib.hid (CX.out.below b23)
           replace Y1 := Lib.hid (Y1.out.below b23)
           replace Y2 := Lib.hid (Y2.out.below b23)
           replace CY := Lib.hid (CY.out.below b23)
           clear b23))
      refine hK.out _ _ ⟨CX.out.c.c0, CX.out.c.c1, CX.out.c.c2, CX.out.c.c3, CX.out.c.c4, CY.out.c.c0, CY.out.c.c1, CY.out.c.c2, CY.out.c.c3, CY.out.c.c4⟩ (fun hHeld => ?_)
      clear hK K
      try simp only [Act.put, List.setIfInBounds_toArray, List.set_cons_zero, List.set_cons_succ, List.getElem_toArray, List.getElem_cons_zero, List.getElem_cons_succ]
      refine wpAnyH_ready (rs := [9]) (by kernel_rfl) (by simp) ?_
      refine AllReadyH.cons rfl (fun K hK => ?_) AllReadyH.nil
      go_simp
      (first
        | (go_at_call 8
           refine (knows18_any _).mono ?_
           rintro e w20 ⟨rfl, b20⟩
           replace HR := Lib.hid (HR.out.below b20)
           replace RA := Lib.hid (RA.out.below b20)
           replace RB := Lib.hid (RB.out.below b20)
           replace R4 := Lib.hid (R4.out.below b20)
           replace B1 := Lib.hid (below_step B1.out b20)
           replace X1 := Lib.hid (X1.out.below b20)
           replace X2 := Lib.hid (X2.out.below b20)
           replace CX := Lib.hid (CX.out.below b20)
           replace Y1 := Lib.hid (Y1.out.below b20)
           replace Y2 := Lib.hid (Y2.out.below b20)
           replace CY := Lib.hid (CY.out.below b20)
           clear b20
           skip)
        | (go_at_call 13
           first
             | with_reducible refine (as_rd A2 c2 La n A2H.out A1H.out _ RA.out).mono ?_
             | with_reducible refine (as_rd A3 c3 Lb n B2H.out B1H.out _ RB.out).mono ?_
           rintro e w21 ⟨A21, c21, rfl, o21, b21⟩
           have O := Lib.hid o21.rd
           clear o21
           replace HR := Lib.hid (HR.out.below b21)
           replace RA := Lib.hid (RA.out.below b21)
           replace RB := Lib.hid (RB.out.below b21)
           replace R4 := Lib.hid (R4.out.below b21)
           replace B1 := Lib.hid (below_step B1.out b21)
           replace X1 := Lib.hid (X1.out.below b21)
           replace X2 := Lib.hid (X2.out.below b21)
           replace CX := Lib.hid (CX.out.below b21)
           replace Y1 := Lib.hid (Y1.out.below b21)
           replace Y2 := Lib.hid (Y2.out.below b21)
           replace CY := Lib.hid (CY.out.below b21)
           clear b21)
        | (go_at_call 17
           first
             | with_reducible refine (with_v A4 c4 (L.map rowOf) (La.map rowOf) n k L4.out i HI.out HK.out hb P p Q q x HXA.out _ R4.out HXF.out X1.out X2.out).mono ?_
             | with_reducible refine (with_v A4 c4 (L.map rowOf) (Lb.map rowOf) n k L4.out i HI.out HK.out hb P2 p2 Q2 q2 y HYB.out _ R4.out HYF.out Y1.out Y2.out).mono ?_
           rintro e w22 ⟨A22, c22, rfl, o22, b22⟩
           replace O := Lib.hid (O.out.below b22)
           have V := Lib.hid o22
           clear o22
           replace HR := Lib.hid (HR.out.below b22)
           replace RA := Lib.hid (RA.out.below b22)
           replace RB := Lib.hid (RB.out.below b22)
           replace R4 := Lib.hid (R4.out.below b22)
           replace B1 := Lib.hid (below_step B1.out b22)
           replace X1 := Lib.hid (X1.out.below b22)
           replace X2 := Lib.hid (X2.out.below b22)
           replace CX := Lib.hid (CX.out.below b22)
           replace Y1 := Lib.hid (Y1.out.below b22)
           replace Y2 := Lib.hid (Y2.out.below b22)
           replace CY := Lib.hid (CY.out.below b22)
           clear b22)
        | (go_at_call 16
           first
             | with_reducible refine (sameW_one A21 A22 c21 c22 (La.map rowOf) n MA.out hb2 MAS.out _ O.out V.out).mono ?_
             | with_reducible refine (sameW_one A21 A22 c21 c22 (Lb.map rowOf) n MB.out hb2 MBS.out _ O.out V.out).mono ?_
           rintro e w23 ⟨rfl, b23⟩
           clear O V
           replace HR := Lib.hid (HR.out.below b23)
           replace RA := Lib.hid (RA.out.below b23)
           replace RB := Lib.hid (RB.out.below b23)
           replace R4 := Lib.hid (R4.out.below b23)
           replace B1 := Lib.hid (below_step B1.out b23)
           replace X1 := Lib.hid (X1.out.below b23)
           replace X2 := Lib.hid (X2.out.below b23)
           replace CX := Lib.hid (CX.out.below b23)
           replace Y1 := Lib.hid (Y1.out.below b23)
           replace Y2 := Lib.hid (Y2.out.below b23)
           replace CY := Lib.hid (CY.out.below b23)
           clear b23))
      refine hK.out _ _ ⟨CX.out.c.c0, CX.out.c.c1, CX.out.c.c2, CX.out.c.c3, CX.out.c.c4, CY.out.c.c0, CY.out.c.c1, CY.out.c.c2, CY.out.c.c3, CY.out.c.c4⟩ (fun hHeld => ?_)
      clear hK K
      try simp only [Act.put, List.setIfInBounds_toArray, List.set_cons_zero, List.set_cons_succ, List.getElem_toArray, List.getElem_cons_zero, List.getElem_cons_succ]
      refine wpAnyH_take (i := 10) (v := ?_) rfl (by kernel_rfl) (by kernel_rfl) (by kernel_rfl) (fun _ _ _ h => h) (Or.inl ⟨by kernel_rfl, ?_⟩) (by assumption) ?_
      rotate_left
      focus
        intro w hSw
        try dsimp only at hSw
        go_simp
        try with_reducible rfl
      try simp only [Act.put, List.setIfInBounds_toArray, List.set_cons_zero, List.set_cons_succ, List.getElem_toArray, List.getElem_cons_zero, List.getElem_cons_succ]
      refine wpAnyH_take (i := 11) (v := ?_) rfl (by kernel_rfl) (by kernel_rfl) (by kernel_rfl) (fun _ _ _ h => h) (Or.inl ⟨by kernel_rfl, ?_⟩) (by assumption) ?_
      rotate_left
      focus
        intro w hSw
        try dsimp only at hSw
        go_simp
        try with_reducible rfl
      try simp only [Act.put, List.setIfInBounds_toArray, List.set_cons_zero, List.set_cons_succ, List.getElem_toArray, List.getElem_cons_zero, List.getElem_cons_succ]
      refine wpAnyH_take (i := 12) (v := ?_) rfl (by kernel_rfl) (by kernel_rfl) (by kernel_rfl) (fun _ _ _ h => h) (Or.inl ⟨by kernel_rfl, ?_⟩) (by assumption) ?_
      rotate_left
      focus
        intro w hSw
        try dsimp only at hSw
        go_simp
        try with_reducible rfl
      try simp only [Act.put, List.setIfInBounds_toArray, List.set_cons_zero, List.set_cons_succ, List.getElem_toArray, List.getElem_cons_zero, List.getElem_cons_succ]
      refine wpAnyH_take (i := 13) (v := ?_) rfl (by kernel_rfl) (by kernel_rfl) (by kernel_rfl) (fun _ _ _ h => h) (Or.inl ⟨by kernel_rfl, ?_⟩) (by assumption) ?_
      rotate_left
      focus
        intro w hSw
        try dsimp only at hSw
        go_simp
        try with_reducible rfl
      try simp only [Act.put, List.setIfInBounds_toArray, List.set_cons_zero, List.set_cons_succ, List.getElem_toArray, List.getElem_cons_zero, List.getElem_cons_succ]
      refine wpAnyH_take (i := 14) (v := ?_) rfl (by kernel_rfl) (by kernel_rfl) (by kernel_rfl) (fun _ _ _ h => h) (Or.inl ⟨by kernel_rfl, ?_⟩) (by assumption) ?_
      rotate_left
      focus
        intro w hSw
        try dsimp only at hSw
        go_simp
        try with_reducible rfl
      try simp only [Act.put, List.setIfInBounds_toArray, List.set_cons_zero, List.set_cons_succ, List.getElem_toArray, List.getElem_cons_zero, List.getElem_cons_succ]
      refine wpAnyH_take (i := 15) (v := ?_) rfl (by kernel_rfl) (by kernel_rfl) (by kernel_rfl) (fun _ _ _ h => h) (Or.inl ⟨by kernel_rfl, ?_⟩) (by assumption) ?_
      rotate_left
      focus
        intro w hSw
        try dsimp only at hSw
        go_simp
        try with_reducible rfl
      try simp only [Act.put, List.setIfInBounds_toArray, List.set_cons_zero, List.set_cons_succ, List.getElem_toArray, List.getElem_cons_zero, List.getElem_cons_succ]
      refine wpAnyH_take (i := 17) (v := ?_) rfl (by kernel_rfl) (by kernel_rfl) (by kernel_rfl) (fun _ _ _ h => h) (Or.inl ⟨by kernel_rfl, ?_⟩) (by assumption) ?_
      rotate_left
      focus
        intro w hSw
        try dsimp only at hSw
        go_simp
        try with_reducible rfl
      try simp only [Act.put, List.setIfInBounds_toArray, List.set_cons_zero, List.set_cons_succ, List.getElem_toArray, List.getElem_cons_zero, List.getElem_cons_succ]
      refine wpAnyH_take (i := 18) (v := ?_) rfl (by kernel_rfl) (by kernel_rfl) (by kernel_rfl) (fun _ _ _ h => h) (Or.inl ⟨by kernel_rfl, ?_⟩) (by assumption) ?_
      rotate_left
      focus
        intro w hSw
        try dsimp only at hSw
        go_simp
        try with_reducible rfl
      try simp only [Act.put, List.setIfInBounds_toArray, List.set_cons_zero, List.set_cons_succ, List.getElem_toArray, List.getElem_cons_zero, List.getElem_cons_succ]
      refine wpAnyH_take (i := 19) (v := ?_) rfl (by kernel_rfl) (by kernel_rfl) (by kernel_rfl) (fun _ _ _ h => h) (Or.inl ⟨by kernel_rfl, ?_⟩) (by assumption) ?_
      rotate_left
      focus
        intro w hSw
        try dsimp only at hSw
        go_simp
        try with_reducible rfl
      try simp only [Act.put, List.setIfInBounds_toArray, List.set_cons_zero, List.set_cons_succ, List.getElem_toArray, List.getElem_cons_zero, List.getElem_cons_succ]
      refine wpAnyH_ready (rs := [16]) (by kernel_rfl) (by simp) ?_
      refine AllReadyH.cons rfl (fun K hK => ?_) AllReadyH.nil
      go_simp
      (first
        | (go_at_call 8
           refine (knows18_any _).mono ?_
           rintro e w20 ⟨rfl, b20⟩
           replace HR := Lib.hid (HR.out.below b20)
           replace RA := Lib.hid (RA.out.below b20)
           replace RB := Lib.hid (RB.out.below b20)
           replace R4 := Lib.hid (R4.out.below b20)
           replace B1 := Lib.hid (below_step B1.out b20)
           replace X1 := Lib.hid (X1.out.below b20)
           replace X2 := Lib.hid (X2.out.below b20)
           replace CX := Lib.hid (CX.out.below b20)
           replace Y1 := Lib.hid (Y1.out.below b20)
           replace Y2 := Lib.hid (Y2.out.below b20)
           replace CY := Lib.hid (CY.out.below b20)
           clear b20
           skip)
        | (go_at_call 13
           first
             | with_reducible refine (as_rd A2 c2 La n A2H.out A1H.out _ RA.out).mono ?_
             | with_reducible refine (as_rd A3 c3 Lb n B2H.out B1H.out _ RB.out).mono ?_
           rintro e w21 ⟨A21, c21, rfl, o21, b21⟩
           have O := Lib.hid o21.rd
           clear o21
           replace HR := Lib.hid (HR.out.below b21)
           replace RA := Lib.hid (RA.out.below b21)
           replace RB := Lib.hid (RB.out.below b21)
           replace R4 := Lib.hid (R4.out.below b21)
           replace B1 := Lib.hid (below_step B1.out b21)
           replace X1 := Lib.hid (X1.out.below b21)
           replace X2 := Lib.hid (X2.out.below b21)
           replace CX := Lib.hid (CX.out.below b21)
           replace Y1 := Lib.hid (Y1.out.below b21)
           replace Y2 := Lib.hid (Y2.out.below b21)
           replace CY := Lib.hid (CY.out.below b21)
           clear b21)
        | (go_at_call 17
           first
             | with_reducible refine (with_v A4 c4 (L.map rowOf) (La.map rowOf) n k L4.out i HI.out HK.out hb P p Q q x HXA.out _ R4.out HXF.out X1.out X2.out).mono ?_
             | with_reducible refine (with_v A4 c4 (L.map rowOf) (Lb.map rowOf) n k L4.out i HI.out HK.out hb P2 p2 Q2 q2 y HYB.out _ R4.out HYF.out Y1.out Y2.out).mono ?_
           rintro e w22 ⟨A22, c22, rfl, o22, b22⟩
           replace O := Lib.hid (O.out.below b22)
           have V := Lib.hid o22
           clear o22
           replace HR := Lib.hid (HR.out.below b22)
           replace RA := Lib.hid (RA.out.below b22)
           replace RB := Lib.hid (RB.out.below b22)
           replace R4 := Lib.hid (R4.out.below b22)
           replace B1 := Lib.hid (below_step B1.out b22)
           replace X1 := Lib.hid (X1.out.below b22)
           replace X2 := Lib.hid (X2.out.below b22)
           replace CX := Lib.hid (CX.out.below b22)
           replace Y1 := Lib.hid (Y1.out.below b22)
           replace Y2 := Lib.hid (Y2.out.below b22)
           replace CY := Lib.hid (CY.out.below b22)
           clear b22)
        | (go_at_call 16
           first
             | with_reducible refine (sameW_one A21 A22 c21 c22 (La.map rowOf) n MA.out hb2 MAS.out _ O.out V.out).mono ?_
             | with_reducible refine (sameW_one A21 A22 c21 c22 (Lb.map rowOf) n MB.out hb2 MBS.out _ O.out V.out).mono ?_
           rintro e w23 ⟨rfl, b23⟩
           clear O V
           replace HR := Lib.hid (HR.out.below b23)
           replace RA := Lib.hid (RA.out.below b23)
           replace RB := Lib.hid (RB.out.below b23)
           replace R4 := Lib.hid (R4.out.below b23)
           replace B1 := Lib.hid (below_step B1.out b23)
           replace X1 := Lib.hid (X1.out.below b23)
           replace X2 := Lib.hid (X2.out.below b23)
           replace CX := Lib.hid (CX.out.below b23)
           replace Y1 := Lib.hid (Y1.out.below b23)
           replace Y2 := Lib.hid (Y2.out.below b23)
           replace CY := Lib.hid (CY.out.below b23)
           clear b23))
      refine hK.out _ _ ⟨CX.out.c.c0, CX.out.c.c1, CX.out.c.c2, CX.out.c.c3, CX.out.c.c4, CY.out.c.c0, CY.out.c.c1, CY.out.c.c2, CY.out.c.c3, CY.out.c.c4⟩ (fun hHeld => ?_)
      clear hK K
      try simp only [Act.put, List.setIfInBounds_toArray, List.set_cons_zero, List.set_cons_succ, List.getElem_toArray, List.getElem_cons_zero, List.getElem_cons_succ]
      refine wpAnyH_ready (rs := [20]) (by kernel_rfl) (by simp) ?_
      refine AllReadyH.cons rfl (fun K hK => ?_) AllReadyH.nil
      go_simp
      (first
        | (go_at_call 8
           refine (knows18_any _).mono ?_
           rintro e w20 ⟨rfl, b20⟩
           replace HR := Lib.hid (HR.out.below b20)
           replace RA := Lib.hid (RA.out.below b20)
           replace RB := Lib.hid (RB.out.below b20)
           replace R4 := Lib.hid (R4.out.below b20)
           replace B1 := Lib.hid (below_step B1.out b20)
           replace X1 := Lib.hid (X1.out.below b20)
           replace X2 := Lib.hid (X2.out.below b20)
           replace CX := Lib.hid (CX.out.below b20)
           replace Y1 := Lib.hid (Y1.out.below b20)
           replace Y2 := Lib.hid (Y2.out.below b20)
           replace CY := Lib.hid (CY.out.below b20)
           clear b20
           skip)
        | (go_at_call 13
           first
             | with_reducible refine (as_rd A2 c2 La n A2H.out A1H.out _ RA.out).mono ?_
             | with_reducible refine (as_rd A3 c3 Lb n B2H.out B1H.out _ RB.out).mono ?_
           rintro e w21 ⟨A21, c21, rfl, o21, b21⟩
           have O := Lib.hid o21.rd
           clear o21
           replace HR := Lib.hid (HR.out.below b21)
           replace RA := Lib.hid (RA.out.below b21)
           replace RB := Lib.hid (RB.out.below b21)
           replace R4 := Lib.hid (R4.out.below b21)
           replace B1 := Lib.hid (below_step B1.out b21)
           replace X1 := Lib.hid (X1.out.below b21)
           replace X2 := Lib.hid (X2.out.below b21)
           replace CX := Lib.hid (CX.out.below b21)
           replace Y1 := Lib.hid (Y1.out.below b21)
           replace Y2 := Lib.hid (Y2.out.below b21)
           replace CY := Lib.hid (CY.out.below b21)
           clear b21)
        | (go_at_call 17
           first
             | with_reducible refine (with_v A4 c4 (L.map rowOf) (La.map rowOf) n k L4.out i HI.out HK.out hb P p Q q x HXA.out _ R4.out HXF.out X1.out X2.out).mono ?_
             | with_reducible refine (with_v A4 c4 (L.map rowOf) (Lb.map rowOf) n k L4.out i HI.out HK.out hb P2 p2 Q2 q2 y HYB.out _ R4.out HYF.out Y1.out Y2.out).mono ?_
           rintro e w22 ⟨A22, c22, rfl, o22, b22⟩
           replace O := Lib.hid (O.out.below b22)
           have V := Lib.hid o22
           clear o22
           replace HR := Lib.hid (HR.out.below b22)
           replace RA := Lib.hid (RA.out.below b22)
           replace RB := Lib.hid (RB.out.below b22)
           replace R4 := Lib.hid (R4.out.below b22)
           replace B1 := Lib.hid (below_step B1.out b22)
           replace X1 := Lib.hid (X1.out.below b22)
           replace X2 := Lib.hid (X2.out.below b22)
           replace CX := Lib.hid (CX.out.below b22)
           replace Y1 := Lib.hid (Y1.out.below b22)
           replace Y2 := Lib.hid (Y2.out.below b22)
           replace CY := Lib.hid (CY.out.below b22)
           clear b22)
        | (go_at_call 16
           first
             | with_reducible refine (sameW_one A21 A22 c21 c22 (La.map rowOf) n MA.out hb2 MAS.out _ O.out V.out).mono ?_
             | with_reducible refine (sameW_one A21 A22 c21 c22 (Lb.map rowOf) n MB.out hb2 MBS.out _ O.out V.out).mono ?_
           rintro e w23 ⟨rfl, b23⟩
           clear O V
           replace HR := Lib.hid (HR.out.below b23)
           replace RA := Lib.hid (RA.out.below b23)
           replace RB := Lib.hid (RB.out.below b23)
           replace R4 := Lib.hid (R4.out.below b23)
           replace B1 := Lib.hid (below_step B1.out b23)
           replace X1 := Lib.hid (X1.out.below b23)
           replace X2 := Lib.hid (X2.out.below b23)
           replace CX := Lib.hid (CX.out.below b23)
           replace Y1 := Lib.hid (Y1.out.below b23)
           replace Y2 := Lib.hid (Y2.out.below b23)
           replace CY := Lib.hid (CY.out.below b23)
           clear b23))
      refine hK.out _ _ ⟨CX.out.c.c0, CX.out.c.c1, CX.out.c.c2, CX.out.c.c3, CX.out.c.c4, CY.out.c.c0, CY.out.c.c1, CY.out.c.c2, CY.out.c.c3, CY.out.c.c4⟩ (fun hHeld => ?_)
      clear hK K
      try simp only [Act.put, List.setIfInBounds_toArray, List.set_cons_zero, List.set_cons_succ, List.getElem_toArray, List.getElem_cons_zero, List.getElem_cons_succ]
      refine wpAnyH_ready (rs := [21]) (by kernel_rfl) (by simp) ?_
      refine AllReadyH.cons rfl (fun K hK => ?_) AllReadyH.nil
      go_simp
      (first
        | (go_at_call 8
           refine (knows18_any _).mono ?_
           rintro e w20 ⟨rfl, b20⟩
           replace HR := Lib.hid (HR.out.below b20)
           replace RA := Lib.hid (RA.out.below b20)
           replace RB := Lib.hid (RB.out.below b20)
           replace R4 := Lib.hid (R4.out.below b20)
           replace B1 := Lib.hid (below_step B1.out b20)
           replace X1 := Lib.hid (X1.out.below b20)
           replace X2 := Lib.hid (X2.out.below b20)
           replace CX := Lib.hid (CX.out.below b20)
           replace Y1 := Lib.hid (Y1.out.below b20)
           replace Y2 := Lib.hid (Y2.out.below b20)
           replace CY := Lib.hid (CY.out.below b20)
           clear b20
           skip)
        | (go_at_call 13
           first
             | with_reducible refine (as_rd A2 c2 La n A2H.out A1H.out _ RA.out).mono ?_
             | with_reducible refine (as_rd A3 c3 Lb n B2H.out B1H.out _ RB.out).mono ?_
           rintro e w21 ⟨A21, c21, rfl, o21, b21⟩
           have O := Lib.hid o21.rd
           clear o21
           replace HR := Lib.hid (HR.out.below b21)
           replace RA := Lib.hid (RA.out.below b21)
           replace RB := Lib.hid (RB.out.below b21)
           replace R4 := Lib.hid (R4.out.below b21)
           replace B1 := Lib.hid (below_step B1.out b21)
           replace X1 := Lib.hid (X1.out.below b21)
           replace X2 := Lib.hid (X2.out.below b21)
           replace CX := Lib.hid (CX.out.below b21)
           replace Y1 := Lib.hid (Y1.out.below b21)
           replace Y2 := Lib.hid (Y2.out.below b21)
           replace CY := Lib.hid (CY.out.below b21)
           clear b21)
        | (go_at_call 17
           first
             | with_reducible refine (with_v A4 c4 (L.map rowOf) (La.map rowOf) n k L4.out i HI.out HK.out hb P p Q q x HXA.out _ R4.out HXF.out X1.out X2.out).mono ?_
             | with_reducible refine (with_v A4 c4 (L.map rowOf) (Lb.map rowOf) n k L4.out i HI.out HK.out hb P2 p2 Q2 q2 y HYB.out _ R4.out HYF.out Y1.out Y2.out).mono ?_
           rintro e w22 ⟨A22, c22, rfl, o22, b22⟩
           replace O := Lib.hid (O.out.below b22)
           have V := Lib.hid o22
           clear o22
           replace HR := Lib.hid (HR.out.below b22)
           replace RA := Lib.hid (RA.out.below b22)
           replace RB := Lib.hid (RB.out.below b22)
           replace R4 := Lib.hid (R4.out.below b22)
           replace B1 := Lib.hid (below_step B1.out b22)
           replace X1 := Lib.hid (X1.out.below b22)
           replace X2 := Lib.hid (X2.out.below b22)
           replace CX := Lib.hid (CX.out.below b22)
           replace Y1 := Lib.hid (Y1.out.below b22)
           replace Y2 := Lib.hid (Y2.out.below b22)
           replace CY := Lib.hid (CY.out.below b22)
           clear b22)
        | (go_at_call 16
           first
             | with_reducible refine (sameW_one A21 A22 c21 c22 (La.map rowOf) n MA.out hb2 MAS.out _ O.out V.out).mono ?_
             | with_reducible refine (sameW_one A21 A22 c21 c22 (Lb.map rowOf) n MB.out hb2 MBS.out _ O.out V.out).mono ?_
           rintro e w23 ⟨rfl, b23⟩
           clear O V
           replace HR := Lib.hid (HR.out.below b23)
           replace RA := Lib.hid (RA.out.below b23)
           replace RB := Lib.hid (RB.out.below b23)
           replace R4 := Lib.hid (R4.out.below b23)
           replace B1 := Lib.hid (below_step B1.out b23)
           replace X1 := Lib.hid (X1.out.below b23)
           replace X2 := Lib.hid (X2.out.below b23)
           replace CX := Lib.hid (CX.out.below b23)
           replace Y1 := Lib.hid (Y1.out.below b23)
           replace Y2 := Lib.hid (Y2.out.below b23)
           replace CY := Lib.hid (CY.out.below b23)
           clear b23))
      refine hK.out _ _ ⟨CX.out.c.c0, CX.out.c.c1, CX.out.c.c2, CX.out.c.c3, CX.out.c.c4, CY.out.c.c0, CY.out.c.c1, CY.out.c.c2, CY.out.c.c3, CY.out.c.c4⟩ (fun hHeld => ?_)
      clear hK K
      try simp only [Act.put, List.setIfInBounds_toArray, List.set_cons_zero, List.set_cons_succ, List.getElem_toArray, List.getElem_cons_zero, List.getElem_cons_succ]
      refine wpAnyH_take (i := 22) (v := ?_) rfl (by kernel_rfl) (by kernel_rfl) (by kernel_rfl) (fun _ _ _ h => h) (Or.inl ⟨by kernel_rfl, ?_⟩) (by assumption) ?_
      rotate_left
      focus
        intro w hSw
        try dsimp only at hSw
        go_simp
        try with_reducible rfl
      try simp only [Act.put, List.setIfInBounds_toArray, List.set_cons_zero, List.set_cons_succ, List.getElem_toArray, List.getElem_cons_zero, List.getElem_cons_succ]
      refine wpAnyH_take (i := 23) (v := ?_) rfl (by kernel_rfl) (by kernel_rfl) (by kernel_rfl) (fun _ _ _ h => h) (Or.inl ⟨by kernel_rfl, ?_⟩) (by assumption) ?_
      rotate_left
      focus
        intro w hSw
        try dsimp only at hSw
        go_simp
        try with_reducible rfl
      try simp only [Act.put, List.setIfInBounds_toArray, List.set_cons_zero, List.set_cons_succ, List.getElem_toArray, List.getElem_cons_zero, List.getElem_cons_succ]
      refine wpAnyH_take (i := 24) (v := ?_) rfl (by kernel_rfl) (by kernel_rfl) (by kernel_rfl) (fun _ _ _ h => h) (Or.inl ⟨by kernel_rfl, ?_⟩) (by assumption) ?_
      rotate_left
      focus
        intro w hSw
        try dsimp only at hSw
        go_simp
        try with_reducible rfl
      try simp only [Act.put, List.setIfInBounds_toArray, List.set_cons_zero, List.set_cons_succ, List.getElem_toArray, List.getElem_cons_zero, List.getElem_cons_succ]
      refine wpAnyH_ready (rs := [25]) (by kernel_rfl) (by simp) ?_
      refine AllReadyH.cons rfl (fun K hK => ?_) AllReadyH.nil
      go_simp
      (first
        | (go_at_call 8
           refine (knows18_any _).mono ?_
           rintro e w20 ⟨rfl, b20⟩
           replace HR := Lib.hid (HR.out.below b20)
           replace RA := Lib.hid (RA.out.below b20)
           replace RB := Lib.hid (RB.out.below b20)
           replace R4 := Lib.hid (R4.out.below b20)
           replace B1 := Lib.hid (below_step B1.out b20)
           replace X1 := Lib.hid (X1.out.below b20)
           replace X2 := Lib.hid (X2.out.below b20)
           replace CX := Lib.hid (CX.out.below b20)
           replace Y1 := Lib.hid (Y1.out.below b20)
           replace Y2 := Lib.hid (Y2.out.below b20)
           replace CY := Lib.hid (CY.out.below b20)
           clear b20
           skip)
        | (go_at_call 13
           first
             | with_reducible refine (as_rd A2 c2 La n A2H.out A1H.out _ RA.out).mono ?_
             | with_reducible refine (as_rd A3 c3 Lb n B2H.out B1H.out _ RB.out).mono ?_
           rintro e w21 ⟨A21, c21, rfl, o21, b21⟩
           have O := Lib.hid o21.rd
           clear o21
           replace HR := Lib.hid (HR.out.below b21)
           replace RA := Lib.hid (RA.out.below b21)
           replace RB := Lib.hid (RB.out.below b21)
           replace R4 := Lib.hid (R4.out.below b21)
           replace B1 := Lib.hid (below_step B1.out b21)
           replace X1 := Lib.hid (X1.out.below b21)
           replace X2 := Lib.hid (X2.out.below b21)
           replace CX := Lib.hid (CX.out.below b21)
           replace Y1 := Lib.hid (Y1.out.below b21)
           replace Y2 := Lib.hid (Y2.out.below b21)
           replace CY := Lib.hid (CY.out.below b21)
           clear b21)
        | (go_at_call 17
           first
             | with_reducible refine (with_v A4 c4 (L.map rowOf) (La.map rowOf) n k L4.out i HI.out HK.out hb P p Q q x HXA.out _ R4.out HXF.out X1.out X2.out).mono ?_
             | with_reducible refine (with_v A4 c4 (L.map rowOf) (Lb.map rowOf) n k L4.out i HI.out HK.out hb P2 p2 Q2 q2 y HYB.out _ R4.out HYF.out Y1.out Y2.out).mono ?_
           rintro e w22 ⟨A22, c22, rfl, o22, b22⟩
           replace O := Lib.hid (O.out.below b22)
           have V := Lib.hid o22
           clear o22
           replace HR := Lib.hid (HR.out.below b22)
           replace RA := Lib.hid (RA.out.below b22)
           replace RB := Lib.hid (RB.out.below b22)
           replace R4 := Lib.hid (R4.out.below b22)
           replace B1 := Lib.hid (below_step B1.out b22)
           replace X1 := Lib.hid (X1.out.below b22)
           replace X2 := Lib.hid (X2.out.below b22)
           replace CX := Lib.hid (CX.out.below b22)
           replace Y1 := Lib.hid (Y1.out.below b22)
           replace Y2 := Lib.hid (Y2.out.below b22)
           replace CY := Lib.hid (CY.out.below b22)
           clear b22)
        | (go_at_call 16
           first
             | with_reducible refine (sameW_one A21 A22 c21 c22 (La.map rowOf) n MA.out hb2 MAS.out _ O.out V.out).mono ?_
             | with_reducible refine (sameW_one A21 A22 c21 c22 (Lb.map rowOf) n MB.out hb2 MBS.out _ O.out V.out).mono ?_
           rintro e w23 ⟨rfl, b23⟩
           clear O V
           replace HR := Lib.hid (HR.out.below b23)
           replace RA := Lib.hid (RA.out.below b23)
           replace RB := Lib.hid (RB.out.below b23)
           replace R4 := Lib.hid (R4.out.below b23)
           replace B1 := Lib.hid (below_step B1.out b23)
           replace X1 := Lib.hid (X1.out.below b23)
           replace X2 := Lib.hid (X2.out.below b23)
           replace CX := Lib.hid (CX.out.below b23)
           replace Y1 := Lib.hid (Y1.out.below b23)
           replace Y2 := Lib.hid (Y2.out.below b23)
           replace CY := Lib.hid (CY.out.below b23)
           clear b23))
      refine hK.out _ _ ⟨CX.out.c.c0, CX.out.c.c1, CX.out.c.c2, CX.out.c.c3, CX.out.c.c4, CY.out.c.c0, CY.out.c.c1, CY.out.c.c2, CY.out.c.c3, CY.out.c.c4⟩ (fun hHeld => ?_)
      clear hK K
      try simp only [Act.put, List.setIfInBounds_toArray, List.set_cons_zero, List.set_cons_succ, List.getElem_toArray, List.getElem_cons_zero, List.getElem_cons_succ]
      refine wpAnyH_take (i := 26) (v := ?_) rfl (by kernel_rfl) (by kernel_rfl) (by kernel_rfl) (fun _ _ _ h => h) (Or.inl ⟨by kernel_rfl, ?_⟩) (by assumption) ?_
      rotate_left
      focus
        intro w hSw
        try dsimp only at hSw
        go_simp
        try with_reducible rfl
      try simp only [Act.put, List.setIfInBounds_toArray, List.set_cons_zero, List.set_cons_succ, List.getElem_toArray, List.getElem_cons_zero, List.getElem_cons_succ]
      refine wpAnyH_take (i := 27) (v := ?_) rfl (by kernel_rfl) (by kernel_rfl) (by kernel_rfl) (fun _ _ _ h => h) (Or.inl ⟨by kernel_rfl, ?_⟩) (by assumption) ?_
      rotate_left
      focus
        intro w hSw
        try dsimp only at hSw
        go_simp
        try with_reducible rfl
      try simp only [Act.put, List.setIfInBounds_toArray, List.set_cons_zero, List.set_cons_succ, List.getElem_toArray, List.getElem_cons_zero, List.getElem_cons_succ]
      refine wpAnyH_done (by kernel_rfl) ?_ _
      go_split_ands
      go_wp2_with fail
      go_ret
      exact ⟨rfl, B1.out⟩
    · skip
      have f1 : (F != 0) = true := bne_iff_ne.2 hF0
      have HF5 := Lib.hid (B5H.out hF0)
      have RBL : Hid (Rd wz A3 c3 L) := by rw [← B3H.out hF0]; exact RB.out
      clear hF0
      go_wp2_with fail
      refine (stays_one A3 A c3 c L n HN.out hb2 HIN2.out _ RBL.out HR.out).mono ?_
      rintro e w13 ⟨rfl, bs⟩
      replace HR := Lib.hid (HR.out.below bs)
      replace RA := Lib.hid (RA.out.below bs)
      replace RB := Lib.hid (RB.out.below bs)
      replace R4 := Lib.hid (R4.out.below bs)
      replace B1 := Lib.hid (below_step B1.out bs)
      replace X1 := Lib.hid (X1.out.below bs)
      replace X2 := Lib.hid (X2.out.below bs)
      replace CX := Lib.hid (CX.out.below bs)
      replace Y1 := Lib.hid (Y1.out.below bs)
      replace Y2 := Lib.hid (Y2.out.below bs)
      replace CY := Lib.hid (CY.out.below bs)
      clear bs RBL
      go_wp2_with fail
      have BD := ((Below.refl w13.heap.size w13).drew)
      replace HR := Lib.hid (HR.out.below BD)
      replace RA := Lib.hid (RA.out.below BD)
      replace RB := Lib.hid (RB.out.below BD)
      replace R4 := Lib.hid (R4.out.below BD)
      replace B1 := Lib.hid (below_step B1.out BD)
      replace X1 := Lib.hid (X1.out.below BD)
      replace X2 := Lib.hid (X2.out.below BD)
      replace CX := Lib.hid (CX.out.below BD)
      replace Y1 := Lib.hid (Y1.out.below BD)
      replace Y2 := Lib.hid (Y2.out.below BD)
      replace CY := Lib.hid (CY.out.below BD)
      clear BD
      refine wp_region_held_drew (S := (fun w' => w'.cell? ⟨X, 0, none⟩ = some (.int .i64 x.1.1) ∧ w'.cell? ⟨X, 1, none⟩ = some (.int .i64 x.1.2.1) ∧ w'.cell? ⟨X, 2, none⟩ = some (.int .i64 x.1.2.2) ∧ w'.cell? ⟨X, 3, none⟩ = some (.slice P x.2.1.length p) ∧ w'.cell? ⟨X, 4, none⟩ = some (.slice Q x.2.2.length q) ∧ w'.cell? ⟨Y, 0, none⟩ = some (.int .i64 y.1.1) ∧ w'.cell? ⟨Y, 1, none⟩ = some (.int .i64 y.1.2.1) ∧ w'.cell? ⟨Y, 2, none⟩ = some (.int .i64 y.1.2.2) ∧ w'.cell? ⟨Y, 3, none⟩ = some (.slice P2 y.2.1.length p2) ∧ w'.cell? ⟨Y, 4, none⟩ = some (.slice Q2 y.2.2.length q2))) (by kernel_rfl) ⟨CX.out.c.c0, CX.out.c.c1, CX.out.c.c2, CX.out.c.c3, CX.out.c.c4, CY.out.c.c0, CY.out.c.c1, CY.out.c.c2, CY.out.c.c3, CY.out.c.c4⟩ (fun hHeld => ?_)
      refine wpAnyH_take (i := 0) (v := ?_) rfl (by kernel_rfl) (by kernel_rfl) (by kernel_rfl) (fun _ _ _ h => h) (Or.inl ⟨by kernel_rfl, ?_⟩) (by assumption) ?_
      rotate_left
      focus
        intro w hSw
        try dsimp only at hSw
        go_simp
        try with_reducible rfl
      try simp only [Act.put, List.setIfInBounds_toArray, List.set_cons_zero, List.set_cons_succ, List.getElem_toArray, List.getElem_cons_zero, List.getElem_cons_succ]
      refine wpAnyH_take (i := 1) (v := ?_) rfl (by kernel_rfl) (by kernel_rfl) (by kernel_rfl) (fun _ _ _ h => h) (Or.inl ⟨by kernel_rfl, ?_⟩) (by assumption) ?_
      rotate_left
      focus
        intro w hSw
        try dsimp only at hSw
        go_simp
        try with_reducible rfl
      try simp only [Act.put, List.setIfInBounds_toArray, List.set_cons_zero, List.set_cons_succ, List.getElem_toArray, List.getElem_cons_zero, List.getElem_cons_succ]
      refine wpAnyH_take (i := 2) (v := ?_) rfl (by kernel_rfl) (by kernel_rfl) (by kernel_rfl) (fun _ _ _ h => h) (Or.inl ⟨by kernel_rfl, ?_⟩) (by assumption) ?_
      rotate_left
      focus
        intro w hSw
        try dsimp only at hSw
        go_simp
        try with_reducible rfl
      try simp only [Act.put, List.setIfInBounds_toArray, List.set_cons_zero, List.set_cons_succ, List.getElem_toArray, List.getElem_cons_zero, List.getElem_cons_succ]
      refine wpAnyH_take (i := 3) (v := ?_) rfl (by kernel_rfl) (by kernel_rfl) (by kernel_rfl) (fun _ _ _ h => h) (Or.inl ⟨by kernel_rfl, ?_⟩) (by assumption) ?_
      rotate_left
      focus
        intro w hSw
        try dsimp only at hSw
        go_simp
        try with_reducible rfl
      try simp only [Act.put, List.setIfInBounds_toArray, List.set_cons_zero, List.set_cons_succ, List.getElem_toArray, List.getElem_cons_zero, List.getElem_cons_succ]
      refine wpAnyH_take (i := 5) (v := ?_) rfl (by kernel_rfl) (by kernel_rfl) (by kernel_rfl) (fun _ _ _ h => h) (Or.inl ⟨by kernel_rfl, ?_⟩) (by assumption) ?_
      rotate_left
      focus
        intro w hSw
        try dsimp only at hSw
        go_simp
        try with_reducible rfl
      try simp only [Act.put, List.setIfInBounds_toArray, List.set_cons_zero, List.set_cons_succ, List.getElem_toArray, List.getElem_cons_zero, List.getElem_cons_succ]
      refine wpAnyH_take (i := 6) (v := ?_) rfl (by kernel_rfl) (by kernel_rfl) (by kernel_rfl) (fun _ _ _ h => h) (Or.inl ⟨by kernel_rfl, ?_⟩) (by assumption) ?_
      rotate_left
      focus
        intro w hSw
        try dsimp only at hSw
        go_simp
        try with_reducible rfl
      try simp only [Act.put, List.setIfInBounds_toArray, List.set_cons_zero, List.set_cons_succ, List.getElem_toArray, List.getElem_cons_zero, List.getElem_cons_succ]
      refine wpAnyH_take (i := 7) (v := ?_) rfl (by kernel_rfl) (by kernel_rfl) (by kernel_rfl) (fun _ _ _ h => h) (Or.inl ⟨by kernel_rfl, ?_⟩) (by assumption) ?_
      rotate_left
      focus
        intro w hSw
        try dsimp only at hSw
        go_simp
        try with_reducible rfl
      try simp only [Act.put, List.setIfInBounds_toArray, List.set_cons_zero, List.set_cons_succ, List.getElem_toArray, List.getElem_cons_zero, List.getElem_cons_succ]
      refine wpAnyH_ready (rs := [4]) (by kernel_rfl) (by simp) ?_
      refine AllReadyH.cons rfl (fun K hK => ?_) AllReadyH.nil
      go_simp
      (first
        | (go_at_call 8
           refine (knows18_any _).mono ?_
           rintro e w20 ⟨rfl, b20⟩
           replace HR := Lib.hid (HR.out.below b20)
           replace RA := Lib.hid (RA.out.below b20)
           replace RB := Lib.hid (RB.out.below b20)
           replace R4 := Lib.hid (R4.out.below b20)
           replace B1 := Lib.hid (below_step B1.out b20)
           replace X1 := Lib.hid (X1.out.below b20)
           replace X2 := Lib.hid (X2.out.below b20)
           replace CX := Lib.hid (CX.out.below b20)
           replace Y1 := Lib.hid (Y1.out.below b20)
           replace Y2 := Lib.hid (Y2.out.below b20)
           replace CY := Lib.hid (CY.out.below b20)
           clear b20
           skip)
        | (go_at_call 13
           first
             | with_reducible refine (as_rd A2 c2 La n A2H.out A1H.out _ RA.out).mono ?_
             | with_reducible refine (as_rd A3 c3 Lb n B2H.out B1H.out _ RB.out).mono ?_
           rintro e w21 ⟨A21, c21, rfl, o21, b21⟩
           have O := Lib.hid o21.rd
           clear o21
           replace HR := Lib.hid (HR.out.below b21)
           replace RA := Lib.hid (RA.out.below b21)
           replace RB := Lib.hid (RB.out.below b21)
           replace R4 := Lib.hid (R4.out.below b21)
           replace B1 := Lib.hid (below_step B1.out b21)
           replace X1 := Lib.hid (X1.out.below b21)
           replace X2 := Lib.hid (X2.out.below b21)
           replace CX := Lib.hid (CX.out.below b21)
           replace Y1 := Lib.hid (Y1.out.below b21)
           replace Y2 := Lib.hid (Y2.out.below b21)
           replace CY := Lib.hid (CY.out.below b21)
           clear b21)
        | (go_at_call 17
           first
             | with_reducible refine (with_v A4 c4 (L.map rowOf) (La.map rowOf) n k L4.out i HI.out HK.out hb P p Q q x HXA.out _ R4.out HXF.out X1.out X2.out).mono ?_
             | with_reducible refine (with_v A4 c4 (L.map rowOf) (Lb.map rowOf) n k L4.out i HI.out HK.out hb P2 p2 Q2 q2 y HYB.out _ R4.out HYF.out Y1.out Y2.out).mono ?_
           rintro e w22 ⟨A22, c22, rfl, o22, b22⟩
           replace O := Lib.hid (O.out.below b22)
           have V := Lib.hid o22
           clear o22
           replace HR := Lib.hid (HR.out.below b22)
           replace RA := Lib.hid (RA.out.below b22)
           replace RB := Lib.hid (RB.out.below b22)
           replace R4 := Lib.hid (R4.out.below b22)
           replace B1 := Lib.hid (below_step B1.out b22)
           replace X1 := Lib.hid (X1.out.below b22)
           replace X2 := Lib.hid (X2.out.below b22)
           replace CX := Lib.hid (CX.out.below b22)
           replace Y1 := Lib.hid (Y1.out.below b22)
           replace Y2 := Lib.hid (Y2.out.below b22)
           replace CY := Lib.hid (CY.out.below b22)
           clear b22)
        | (go_at_call 16
           first
             | with_reducible refine (sameW_one A21 A22 c21 c22 (La.map rowOf) n MA.out hb2 MAS.out _ O.out V.out).mono ?_
             | with_reducible refine (sameW_one A21 A22 c21 c22 (Lb.map rowOf) n MB.out hb2 MBS.out _ O.out V.out).mono ?_
           rintro e w23 ⟨rfl, b23⟩
           clear O V
           replace HR := Lib.hid (HR.out.below b23)
           replace RA := Lib.hid (RA.out.below b23)
           replace RB := Lib.hid (RB.out.below b23)
           replace R4 := Lib.hid (R4.out.below b23)
           replace B1 := Lib.hid (below_step B1.out b23)
           replace X1 := Lib.hid (X1.out.below b23)
           replace X2 := Lib.hid (X2.out.below b23)
           replace CX := Lib.hid (CX.out.below b23)
           replace Y1 := Lib.hid (Y1.out.below b23)
           replace Y2 := Lib.hid (Y2.out.below b23)
           replace CY := Lib.hid (CY.out.below b23)
           clear b23))
      refine hK.out _ _ ⟨CX.out.c.c0, CX.out.c.c1, CX.out.c.c2, CX.out.c.c3, CX.out.c.c4, CY.out.c.c0, CY.out.c.c1, CY.out.c.c2, CY.out.c.c3, CY.out.c.c4⟩ (fun hHeld => ?_)
      clear hK K
      try simp only [Act.put, List.setIfInBounds_toArray, List.set_cons_zero, List.set_cons_succ, List.getElem_toArray, List.getElem_cons_zero, List.getElem_cons_succ]
      refine wpAnyH_ready (rs := [8]) (by kernel_rfl) (by simp) ?_
      refine AllReadyH.cons rfl (fun K hK => ?_) AllReadyH.nil
      go_simp
      (first
        | (go_at_call 8
           refine (knows18_any _).mono ?_
           rintro e w20 ⟨rfl, b20⟩
           replace HR := Lib.hid (HR.out.below b20)
           replace RA := Lib.hid (RA.out.below b20)
           replace RB := Lib.hid (RB.out.below b20)
           replace R4 := Lib.hid (R4.out.below b20)
           replace B1 := Lib.hid (below_step B1.out b20)
           replace X1 := Lib.hid (X1.out.below b20)
           replace X2 := Lib.hid (X2.out.below b20)
           replace CX := Lib.hid (CX.out.below b20)
           replace Y1 := Lib.hid (Y1.out.below b20)
           replace Y2 := Lib.hid (Y2.out.below b20)
           replace CY := Lib.hid (CY.out.below b20)
           clear b20
           skip)
        | (go_at_call 13
           first
             | with_reducible refine (as_rd A2 c2 La n A2H.out A1H.out _ RA.out).mono ?_
             | with_reducible refine (as_rd A3 c3 Lb n B2H.out B1H.out _ RB.out).mono ?_
           rintro e w21 ⟨A21, c21, rfl, o21, b21⟩
           have O := Lib.hid o21.rd
           clear o21
           replace HR := Lib.hid (HR.out.below b21)
           replace RA := Lib.hid (RA.out.below b21)
           replace RB := Lib.hid (RB.out.below b21)
           replace R4 := Lib.hid (R4.out.below b21)
           replace B1 := Lib.hid (below_step B1.out b21)
           replace X1 := Lib.hid (X1.out.below b21)
           replace X2 := Lib.hid (X2.out.below b21)
           replace CX := Lib.hid (CX.out.below b21)
           replace Y1 := Lib.hid (Y1.out.below b21)
           replace Y2 := Lib.hid (Y2.out.below b21)
           replace CY := Lib.hid (CY.out.below b21)
           clear b21)
        | (go_at_call 17
           first
             | with_reducible refine (with_v A4 c4 (L.map rowOf) (La.map rowOf) n k L4.out i HI.out HK.out hb P p Q q x HXA.out _ R4.out HXF.out X1.out X2.out).mono ?_
             | with_reducible refine (with_v A4 c4 (L.map rowOf) (Lb.map rowOf) n k L4.out i HI.out HK.out hb P2 p2 Q2 q2 y HYB.out _ R4.out HYF.out Y1.out Y2.out).mono ?_
           rintro e w22 ⟨A22, c22, rfl, o22, b22⟩
           replace O := Lib.hid (O.out.below b22)
           have V := Lib.hid o22
           clear o22
           replace HR := Lib.hid (HR.out.below b22)
           replace RA := Lib.hid (RA.out.below b22)
           replace RB := Lib.hid (RB.out.below b22)
           replace R4 := Lib.hid (R4.out.below b22)
           replace B1 := Lib.hid (below_step B1.out b22)
           replace X1 := Lib.hid (X1.out.below b22)
           replace X2 := Lib.hid (X2.out.below b22)
           replace CX := Lib.hid (CX.out.below b22)
           replace Y1 := Lib.hid (Y1.out.below b22)
           replace Y2 := Lib.hid (Y2.out.below b22)
           replace CY := Lib.hid (CY.out.below b22)
           clear b22)
        | (go_at_call 16
           first
             | with_reducible refine (sameW_one A21 A22 c21 c22 (La.map rowOf) n MA.out hb2 MAS.out _ O.out V.out).mono ?_
             | with_reducible refine (sameW_one A21 A22 c21 c22 (Lb.map rowOf) n MB.out hb2 MBS.out _ O.out V.out).mono ?_
           rintro e w23 ⟨rfl, b23⟩
           clear O V
           replace HR := Lib.hid (HR.out.below b23)
           replace RA := Lib.hid (RA.out.below b23)
           replace RB := Lib.hid (RB.out.below b23)
           replace R4 := Lib.hid (R4.out.below b23)
           replace B1 := Lib.hid (below_step B1.out b23)
           replace X1 := Lib.hid (X1.out.below b23)
           replace X2 := Lib.hid (X2.out.below b23)
           replace CX := Lib.hid (CX.out.below b23)
           replace Y1 := Lib.hid (Y1.out.below b23)
           replace Y2 := Lib.hid (Y2.out.below b23)
           replace CY := Lib.hid (CY.out.below b23)
           clear b23))
      refine hK.out _ _ ⟨CX.out.c.c0, CX.out.c.c1, CX.out.c.c2, CX.out.c.c3, CX.out.c.c4, CY.out.c.c0, CY.out.c.c1, CY.out.c.c2, CY.out.c.c3, CY.out.c.c4⟩ (fun hHeld => ?_)
      clear hK K
      try simp only [Act.put, List.setIfInBounds_toArray, List.set_cons_zero, List.set_cons_succ, List.getElem_toArray, List.getElem_cons_zero, List.getElem_cons_succ]
      refine wpAnyH_ready (rs := [9]) (by kernel_rfl) (by simp) ?_
      refine AllReadyH.cons rfl (fun K hK => ?_) AllReadyH.nil
      go_simp
      (first
        | (go_at_call 8
           refine (knows18_any _).mono ?_
           rintro e w20 ⟨rfl, b20⟩
           replace HR := Lib.hid (HR.out.below b20)
           replace RA := Lib.hid (RA.out.below b20)
           replace RB := Lib.hid (RB.out.below b20)
           replace R4 := Lib.hid (R4.out.below b20)
           replace B1 := Lib.hid (below_step B1.out b20)
           replace X1 := Lib.hid (X1.out.below b20)
           replace X2 := Lib.hid (X2.out.below b20)
           replace CX := Lib.hid (CX.out.below b20)
           replace Y1 := Lib.hid (Y1.out.below b20)
           replace Y2 := Lib.hid (Y2.out.below b20)
           replace CY := Lib.hid (CY.out.below b20)
           clear b20
           skip)
        | (go_at_call 13
           first
             | with_reducible refine (as_rd A2 c2 La n A2H.out A1H.out _ RA.out).mono ?_
             | with_reducible refine (as_rd A3 c3 Lb n B2H.out B1H.out _ RB.out).mono ?_
           rintro e w21 ⟨A21, c21, rfl, o21, b21⟩
           have O := Lib.hid o21.rd
           clear o21
           replace HR := Lib.hid (HR.out.below b21)
           replace RA := Lib.hid (RA.out.below b21)
           replace RB := Lib.hid (RB.out.below b21)
           replace R4 := Lib.hid (R4.out.below b21)
           replace B1 := Lib.hid (below_step B1.out b21)
           replace X1 := Lib.hid (X1.out.below b21)
           replace X2 := Lib.hid (X2.out.below b21)
           replace CX := Lib.hid (CX.out.below b21)
           replace Y1 := Lib.hid (Y1.out.below b21)
           replace Y2 := Lib.hid (Y2.out.below b21)
           replace CY := Lib.hid (CY.out.below b21)
           clear b21)
        | (go_at_call 17
           first
             | with_reducible refine (with_v A4 c4 (L.map rowOf) (La.map rowOf) n k L4.out i HI.out HK.out hb P p Q q x HXA.out _ R4.out HXF.out X1.out X2.out).mono ?_
             | with_reducible refine (with_v A4 c4 (L.map rowOf) (Lb.map rowOf) n k L4.out i HI.out HK.out hb P2 p2 Q2 q2 y HYB.out _ R4.out HYF.out Y1.out Y2.out).mono ?_
           rintro e w22 ⟨A22, c22, rfl, o22, b22⟩
           replace O := Lib.hid (O.out.below b22)
           have V := Lib.hid o22
           clear o22
           replace HR := Lib.hid (HR.out.below b22)
           replace RA := Lib.hid (RA.out.below b22)
           replace RB := Lib.hid (RB.out.below b22)
           replace R4 := Lib.hid (R4.out.below b22)
           replace B1 := Lib.hid (below_step B1.out b22)
           replace X1 := Lib.hid (X1.out.below b22)
           replace X2 := Lib.hid (X2.out.below b22)
           replace CX := Lib.hid (CX.out.below b22)
           replace Y1 := Lib.hid (Y1.out.below b22)
           replace Y2 := Lib.hid (Y2.out.below b22)
           replace CY := Lib.hid (CY.out.below b22)
           clear b22)
        | (go_at_call 16
           first
             | with_reducible refine (sameW_one A21 A22 c21 c22 (La.map rowOf) n MA.out hb2 MAS.out _ O.out V.out).mono ?_
             | with_reducible refine (sameW_one A21 A22 c21 c22 (Lb.map rowOf) n MB.out hb2 MBS.out _ O.out V.out).mono ?_
           rintro e w23 ⟨rfl, b23⟩
           clear O V
           replace HR := Lib.hid (HR.out.below b23)
           replace RA := Lib.hid (RA.out.below b23)
           replace RB := Lib.hid (RB.out.below b23)
           replace R4 := Lib.hid (R4.out.below b23)
           replace B1 := Lib.hid (below_step B1.out b23)
           replace X1 := Lib.hid (X1.out.below b23)
           replace X2 := Lib.hid (X2.out.below b23)
           replace CX := Lib.hid (CX.out.below b23)
           replace Y1 := Lib.hid (Y1.out.below b23)
           replace Y2 := Lib.hid (Y2.out.below b23)
           replace CY := Lib.hid (CY.out.below b23)
           clear b23))
      refine hK.out _ _ ⟨CX.out.c.c0, CX.out.c.c1, CX.out.c.c2, CX.out.c.c3, CX.out.c.c4, CY.out.c.c0, CY.out.c.c1, CY.out.c.c2, CY.out.c.c3, CY.out.c.c4⟩ (fun hHeld => ?_)
      clear hK K
      try simp only [Act.put, List.setIfInBounds_toArray, List.set_cons_zero, List.set_cons_succ, List.getElem_toArray, List.getElem_cons_zero, List.getElem_cons_succ]
      refine wpAnyH_take (i := 10) (v := ?_) rfl (by kernel_rfl) (by kernel_rfl) (by kernel_rfl) (fun _ _ _ h => h) (Or.inl ⟨by kernel_rfl, ?_⟩) (by assumption) ?_
      rotate_left
      focus
        intro w hSw
        try dsimp only at hSw
        go_simp
        try with_reducible rfl
      try simp only [Act.put, List.setIfInBounds_toArray, List.set_cons_zero, List.set_cons_succ, List.getElem_toArray, List.getElem_cons_zero, List.getElem_cons_succ]
      refine wpAnyH_take (i := 11) (v := ?_) rfl (by kernel_rfl) (by kernel_rfl) (by kernel_rfl) (fun _ _ _ h => h) (Or.inl ⟨by kernel_rfl, ?_⟩) (by assumption) ?_
      rotate_left
      focus
        intro w hSw
        try dsimp only at hSw
        go_simp
        try with_reducible rfl
      try simp only [Act.put, List.setIfInBounds_toArray, List.set_cons_zero, List.set_cons_succ, List.getElem_toArray, List.getElem_cons_zero, List.getElem_cons_succ]
      refine wpAnyH_take (i := 12) (v := ?_) rfl (by kernel_rfl) (by kernel_rfl) (by kernel_rfl) (fun _ _ _ h => h) (Or.inl ⟨by kernel_rfl, ?_⟩) (by assumption) ?_
      rotate_left
      focus
        intro w hSw
        try dsimp only at hSw
        go_simp
        try with_reducible rfl
      try simp only [Act.put, List.setIfInBounds_toArray, List.set_cons_zero, List.set_cons_succ, List.getElem_toArray, List.getElem_cons_zero, List.getElem_cons_succ]
      refine wpAnyH_take (i := 13) (v := ?_) rfl (by kernel_rfl) (by kernel_rfl) (by kernel_rfl) (fun _ _ _ h => h) (Or.inl ⟨by kernel_rfl, ?_⟩) (by assumption) ?_
      rotate_left
      focus
        intro w hSw
        try dsimp only at hSw
        go_simp
        try with_reducible rfl
      try simp only [Act.put, List.setIfInBounds_toArray, List.set_cons_zero, List.set_cons_succ, List.getElem_toArray, List.getElem_cons_zero, List.getElem_cons_succ]
      refine wpAnyH_take (i := 14) (v := ?_) rfl (by kernel_rfl) (by kernel_rfl) (by kernel_rfl) (fun _ _ _ h => h) (Or.inl ⟨by kernel_rfl, ?_⟩) (by assumption) ?_
      rotate_left
      focus
        intro w hSw
        try dsimp only at hSw
        go_simp
        try with_reducible rfl
      try simp only [Act.put, List.setIfInBounds_toArray, List.set_cons_zero, List.set_cons_succ, List.getElem_toArray, List.getElem_cons_zero, List.getElem_cons_succ]
      refine wpAnyH_take (i := 15) (v := undef) rfl (by kernel_rfl) (by kernel_rfl) (by kernel_rfl) (fun _ _ _ h => h) (Or.inr ⟨by kernel_rfl, rfl⟩) (by assumption) ?_
      try simp only [Act.put, List.setIfInBounds_toArray, List.set_cons_zero, List.set_cons_succ, List.getElem_toArray, List.getElem_cons_zero, List.getElem_cons_succ]
      refine wpAnyH_take (i := 16) (v := undef) rfl (by kernel_rfl) (by kernel_rfl) (by kernel_rfl) (fun _ _ _ h => h) (Or.inr ⟨by kernel_rfl, rfl⟩) (by assumption) ?_
      try simp only [Act.put, List.setIfInBounds_toArray, List.set_cons_zero, List.set_cons_succ, List.getElem_toArray, List.getElem_cons_zero, List.getElem_cons_succ]
      refine wpAnyH_take (i := 17) (v := undef) rfl (by kernel_rfl) (by kernel_rfl) (by kernel_rfl) (fun _ _ _ h => h) (Or.inr ⟨by kernel_rfl, rfl⟩) (by assumption) ?_
      try simp only [Act.put, List.setIfInBounds_toArray, List.set_cons_zero, List.set_cons_succ, List.getElem_toArray, List.getElem_cons_zero, List.getElem_cons_succ]
      refine wpAnyH_take (i := 18) (v := undef) rfl (by kernel_rfl) (by kernel_rfl) (by kernel_rfl) (fun _ _ _ h => h) (Or.inr ⟨by kernel_rfl, rfl⟩) (by assumption) ?_
      try simp only [Act.put, List.setIfInBounds_toArray, List.set_cons_zero, List.set_cons_succ, List.getElem_toArray, List.getElem_cons_zero, List.getElem_cons_succ]
      refine wpAnyH_take (i := 19) (v := undef) rfl (by kernel_rfl) (by kernel_rfl) (by kernel_rfl) (fun _ _ _ h => h) (Or.inr ⟨by kernel_rfl, rfl⟩) (by assumption) ?_
      try simp only [Act.put, List.setIfInBounds_toArray, List.set_cons_zero, List.set_cons_succ, List.getElem_toArray, List.getElem_cons_zero, List.getElem_cons_succ]
      refine wpAnyH_take (i := 20) (v := undef) rfl (by kernel_rfl) (by kernel_rfl) (by kernel_rfl) (fun _ _ _ h => h) (Or.inr ⟨by kernel_rfl, rfl⟩) (by assumption) ?_
      try simp only [Act.put, List.setIfInBounds_toArray, List.set_cons_zero, List.set_cons_succ, List.getElem_toArray, List.getElem_cons_zero, List.getElem_cons_succ]
      refine wpAnyH_take (i := 21) (v := undef) rfl (by kernel_rfl) (by kernel_rfl) (by kernel_rfl) (fun _ _ _ h => h) (Or.inr ⟨by kernel_rfl, rfl⟩) (by assumption) ?_
      try simp only [Act.put, List.setIfInBounds_toArray, List.set_cons_zero, List.set_cons_succ, List.getElem_toArray, List.getElem_cons_zero, List.getElem_cons_succ]
      refine wpAnyH_take (i := 22) (v := ?_) rfl (by kernel_rfl) (by kernel_rfl) (by kernel_rfl) (fun _ _ _ h => h) (Or.inl ⟨by kernel_rfl, ?_⟩) (by assumption) ?_
      rotate_left
      focus
        intro w hSw
        try dsimp only at hSw
        go_simp
        try with_reducible rfl
      try simp only [Act.put, List.setIfInBounds_toArray, List.set_cons_zero, List.set_cons_succ, List.getElem_toArray, List.getElem_cons_zero, List.getElem_cons_succ]
      refine wpAnyH_take (i := 23) (v := ?_) rfl (by kernel_rfl) (by kernel_rfl) (by kernel_rfl) (fun _ _ _ h => h) (Or.inl ⟨by kernel_rfl, ?_⟩) (by assumption) ?_
      rotate_left
      focus
        intro w hSw
        try dsimp only at hSw
        go_simp
        try with_reducible rfl
      try simp only [Act.put, List.setIfInBounds_toArray, List.set_cons_zero, List.set_cons_succ, List.getElem_toArray, List.getElem_cons_zero, List.getElem_cons_succ]
      refine wpAnyH_take (i := 24) (v := ?_) rfl (by kernel_rfl) (by kernel_rfl) (by kernel_rfl) (fun _ _ _ h => h) (Or.inl ⟨by kernel_rfl, ?_⟩) (by assumption) ?_
      rotate_left
      focus
        intro w hSw
        try dsimp only at hSw
        go_simp
        try with_reducible rfl
      try simp only [Act.put, List.setIfInBounds_toArray, List.set_cons_zero, List.set_cons_succ, List.getElem_toArray, List.getElem_cons_zero, List.getElem_cons_succ]
      refine wpAnyH_ready (rs := [25]) (by kernel_rfl) (by simp) ?_
      refine AllReadyH.cons rfl (fun K hK => ?_) AllReadyH.nil
      go_simp
      (first
        | (go_at_call 8
           refine (knows18_any _).mono ?_
           rintro e w20 ⟨rfl, b20⟩
           replace HR := Lib.hid (HR.out.below b20)
           replace RA := Lib.hid (RA.out.below b20)
           replace RB := Lib.hid (RB.out.below b20)
           replace R4 := Lib.hid (R4.out.below b20)
           replace B1 := Lib.hid (below_step B1.out b20)
           replace X1 := Lib.hid (X1.out.below b20)
           replace X2 := Lib.hid (X2.out.below b20)
           replace CX := Lib.hid (CX.out.below b20)
           replace Y1 := Lib.hid (Y1.out.below b20)
           replace Y2 := Lib.hid (Y2.out.below b20)
           replace CY := Lib.hid (CY.out.below b20)
           clear b20
           skip)
        | (go_at_call 13
           first
             | with_reducible refine (as_rd A2 c2 La n A2H.out A1H.out _ RA.out).mono ?_
             | with_reducible refine (as_rd A3 c3 Lb n B2H.out B1H.out _ RB.out).mono ?_
           rintro e w21 ⟨A21, c21, rfl, o21, b21⟩
           have O := Lib.hid o21.rd
           clear o21
           replace HR := Lib.hid (HR.out.below b21)
           replace RA := Lib.hid (RA.out.below b21)
           replace RB := Lib.hid (RB.out.below b21)
           replace R4 := Lib.hid (R4.out.below b21)
           replace B1 := Lib.hid (below_step B1.out b21)
           replace X1 := Lib.hid (X1.out.below b21)
           replace X2 := Lib.hid (X2.out.below b21)
           replace CX := Lib.hid (CX.out.below b21)
           replace Y1 := Lib.hid (Y1.out.below b21)
           replace Y2 := Lib.hid (Y2.out.below b21)
           replace CY := Lib.hid (CY.out.below b21)
           clear b21)
        | (go_at_call 17
           first
             | with_reducible refine (with_v A4 c4 (L.map rowOf) (La.map rowOf) n k L4.out i HI.out HK.out hb P p Q q x HXA.out _ R4.out HXF.out X1.out X2.out).mono ?_
             | with_reducible refine (with_v A4 c4 (L.map rowOf) (Lb.map rowOf) n k L4.out i HI.out HK.out hb P2 p2 Q2 q2 y HYB.out _ R4.out HYF.out Y1.out Y2.out).mono ?_
           rintro e w22 ⟨A22, c22, rfl, o22, b22⟩
           replace O := Lib.hid (O.out.below b22)
           have V := Lib.hid o22
           clear o22
           replace HR := Lib.hid (HR.out.below b22)
           replace RA := Lib.hid (RA.out.below b22)
           replace RB := Lib.hid (RB.out.below b22)
           replace R4 := Lib.hid (R4.out.below b22)
           replace B1 := Lib.hid (below_step B1.out b22)
           replace X1 := Lib.hid (X1.out.below b22)
           replace X2 := Lib.hid (X2.out.below b22)
           replace CX := Lib.hid (CX.out.below b22)
           replace Y1 := Lib.hid (Y1.out.below b22)
           replace Y2 := Lib.hid (Y2.out.below b22)
           replace CY := Lib.hid (CY.out.below b22)
           clear b22)
        | (go_at_call 16
           first
             | with_reducible refine (sameW_one A21 A22 c21 c22 (La.map rowOf) n MA.out hb2 MAS.out _ O.out V.out).mono ?_
             | with_reducible refine (sameW_one A21 A22 c21 c22 (Lb.map rowOf) n MB.out hb2 MBS.out _ O.out V.out).mono ?_
           rintro e w23 ⟨rfl, b23⟩
           clear O V
           replace HR := Lib.hid (HR.out.below b23)
           replace RA := Lib.hid (RA.out.below b23)
           replace RB := Lib.hid (RB.out.below b23)
           replace R4 := Lib.hid (R4.out.below b23)
           replace B1 := Lib.hid (below_step B1.out b23)
           replace X1 := Lib.hid (X1.out.below b23)
           replace X2 := Lib.hid (X2.out.below b23)
           replace CX := Lib.hid (CX.out.below b23)
           replace Y1 := Lib.hid (Y1.out.below b23)
           replace Y2 := Lib.hid (Y2.out.below b23)
           replace CY := Lib.hid (CY.out.below b23)
           clear b23))
      refine hK.out _ _ ⟨CX.out.c.c0, CX.out.c.c1, CX.out.c.c2, CX.out.c.c3, CX.out.c.c4, CY.out.c.c0, CY.out.c.c1, CY.out.c.c2, CY.out.c.c3, CY.out.c.c4⟩ (fun hHeld => ?_)
      clear hK K
      try simp only [Act.put, List.setIfInBounds_toArray, List.set_cons_zero, List.set_cons_succ, List.getElem_toArray, List.getElem_cons_zero, List.getElem_cons_succ]
      refine wpAnyH_take (i := 26) (v := ?_) rfl (by kernel_rfl) (by kernel_rfl) (by kernel_rfl) (fun _ _ _ h => h) (Or.inl ⟨by kernel_rfl, ?_⟩) (by assumption) ?_
      rotate_left
      focus
        intro w hSw
        try dsimp only at hSw
        go_simp
        try with_reducible rfl
      try simp only [Act.put, List.setIfInBounds_toArray, List.set_cons_zero, List.set_cons_succ, List.getElem_toArray, List.getElem_cons_zero, List.getElem_cons_succ]
      refine wpAnyH_take (i := 27) (v := ?_) rfl (by kernel_rfl) (by kernel_rfl) (by kernel_rfl) (fun _ _ _ h => h) (Or.inl ⟨by kernel_rfl, ?_⟩) (by assumption) ?_
      rotate_left
      focus
        intro w hSw
        try dsimp only at hSw
        go_simp
        try with_reducible rfl
      try simp only [Act.put, List.setIfInBounds_toArray, List.set_cons_zero, List.set_cons_succ, List.getElem_toArray, List.getElem_cons_zero, List.getElem_cons_succ]
      refine wpAnyH_done (by kernel_rfl) ?_ _
      go_split_ands
      go_wp2_with fail
      go_ret
      exact ⟨rfl, B1.out⟩
  · skip
    have e1 : (E != 0) = true := bne_iff_ne.2 hE0
    have HE5 := Lib.hid (A5H.out hE0)
    have RAL : Hid (Rd wz A2 c2 L) := by rw [← A3H.out hE0]; exact RA.out
    clear hE0
    go_wp2_with fail
    refine (stays_one A2 A c2 c L n HN.out hb2 HIN2.out _ RAL.out HR.out).mono ?_
    rintro e w12 ⟨rfl, bs⟩
    replace HR := Lib.hid (HR.out.below bs)
    replace RA := Lib.hid (RA.out.below bs)
    replace RB := Lib.hid (RB.out.below bs)
    replace R4 := Lib.hid (R4.out.below bs)
    replace B1 := Lib.hid (below_step B1.out bs)
    replace X1 := Lib.hid (X1.out.below bs)
    replace X2 := Lib.hid (X2.out.below bs)
    replace CX := Lib.hid (CX.out.below bs)
    replace Y1 := Lib.hid (Y1.out.below bs)
    replace Y2 := Lib.hid (Y2.out.below bs)
    replace CY := Lib.hid (CY.out.below bs)
    clear bs RAL
    by_cases hF0 : F = 0
    · subst hF0
      obtain ⟨hk1, hi1, hD1, hF1⟩ := B4H.out rfl
      have ex := HYY.out rfl
      rw [HKK.out] at ex
      have HYB : Hid ((L.map rowOf).set k y = Lb.map rowOf) := by rw [ex]; exact hD1
      have HYF : Hid (FitP y.1) := by rw [ex]; exact hF1
      have HK := Lib.hid hk1
      have HI := Lib.hid hi1
      clear hk1 hi1 hD1 hF1 ex
      go_wp2_with fail
      have BD := ((Below.refl w12.heap.size w12).drew)
      replace HR := Lib.hid (HR.out.below BD)
      replace RA := Lib.hid (RA.out.below BD)
      replace RB := Lib.hid (RB.out.below BD)
      replace R4 := Lib.hid (R4.out.below BD)
      replace B1 := Lib.hid (below_step B1.out BD)
      replace X1 := Lib.hid (X1.out.below BD)
      replace X2 := Lib.hid (X2.out.below BD)
      replace CX := Lib.hid (CX.out.below BD)
      replace Y1 := Lib.hid (Y1.out.below BD)
      replace Y2 := Lib.hid (Y2.out.below BD)
      replace CY := Lib.hid (CY.out.below BD)
      clear BD
      refine wp_region_held_drew (S := (fun w' => w'.cell? ⟨X, 0, none⟩ = some (.int .i64 x.1.1) ∧ w'.cell? ⟨X, 1, none⟩ = some (.int .i64 x.1.2.1) ∧ w'.cell? ⟨X, 2, none⟩ = some (.int .i64 x.1.2.2) ∧ w'.cell? ⟨X, 3, none⟩ = some (.slice P x.2.1.length p) ∧ w'.cell? ⟨X, 4, none⟩ = some (.slice Q x.2.2.length q) ∧ w'.cell? ⟨Y, 0, none⟩ = some (.int .i64 y.1.1) ∧ w'.cell? ⟨Y, 1, none⟩ = some (.int .i64 y.1.2.1) ∧ w'.cell? ⟨Y, 2, none⟩ = some (.int .i64 y.1.2.2) ∧ w'.cell? ⟨Y, 3, none⟩ = some (.slice P2 y.2.1.length p2) ∧ w'.cell? ⟨Y, 4, none⟩ = some (.slice Q2 y.2.2.length q2))) (by kernel_rfl) ⟨CX.out.c.c0, CX.out.c.c1, CX.out.c.c2, CX.out.c.c3, CX.out.c.c4, CY.out.c.c0, CY.out.c.c1, CY.out.c.c2, CY.out.c.c3, CY.out.c.c4⟩ (fun hHeld => ?_)
      refine wpAnyH_take (i := 0) (v := ?_) rfl (by kernel_rfl) (by kernel_rfl) (by kernel_rfl) (fun _ _ _ h => h) (Or.inl ⟨by kernel_rfl, ?_⟩) (by assumption) ?_
      rotate_left
      focus
        intro w hSw
        try dsimp only at hSw
        go_simp
        try with_reducible rfl
      try simp only [Act.put, List.setIfInBounds_toArray, List.set_cons_zero, List.set_cons_succ, List.getElem_toArray, List.getElem_cons_zero, List.getElem_cons_succ]
      refine wpAnyH_take (i := 1) (v := ?_) rfl (by kernel_rfl) (by kernel_rfl) (by kernel_rfl) (fun _ _ _ h => h) (Or.inl ⟨by kernel_rfl, ?_⟩) (by assumption) ?_
      rotate_left
      focus
        intro w hSw
        try dsimp only at hSw
        go_simp
        try with_reducible rfl
      try simp only [Act.put, List.setIfInBounds_toArray, List.set_cons_zero, List.set_cons_succ, List.getElem_toArray, List.getElem_cons_zero, List.getElem_cons_succ]
      refine wpAnyH_take (i := 2) (v := ?_) rfl (by kernel_rfl) (by kernel_rfl) (by kernel_rfl) (fun _ _ _ h => h) (Or.inl ⟨by kernel_rfl, ?_⟩) (by assumption) ?_
      rotate_left
      focus
        intro w hSw
        try dsimp only at hSw
        go_simp
        try with_reducible rfl
      try simp only [Act.put, List.setIfInBounds_toArray, List.set_cons_zero, List.set_cons_succ, List.getElem_toArray, List.getElem_cons_zero, List.getElem_cons_succ]
      refine wpAnyH_take (i := 3) (v := undef) rfl (by kernel_rfl) (by kernel_rfl) (by kernel_rfl) (fun _ _ _ h => h) (Or.inr ⟨by kernel_rfl, rfl⟩) (by assumption) ?_
      try simp only [Act.put, List.setIfInBounds_toArray, List.set_cons_zero, List.set_cons_succ, List.getElem_toArray, List.getElem_cons_zero, List.getElem_cons_succ]
      refine wpAnyH_take (i := 4) (v := undef) rfl (by kernel_rfl) (by kernel_rfl) (by kernel_rfl) (fun _ _ _ h => h) (Or.inr ⟨by kernel_rfl, rfl⟩) (by assumption) ?_
      try simp only [Act.put, List.setIfInBounds_toArray, List.set_cons_zero, List.set_cons_succ, List.getElem_toArray, List.getElem_cons_zero, List.getElem_cons_succ]
      refine wpAnyH_take (i := 5) (v := undef) rfl (by kernel_rfl) (by kernel_rfl) (by kernel_rfl) (fun _ _ _ h => h) (Or.inr ⟨by kernel_rfl, rfl⟩) (by assumption) ?_
      try simp only [Act.put, List.setIfInBounds_toArray, List.set_cons_zero, List.set_cons_succ, List.getElem_toArray, List.getElem_cons_zero, List.getElem_cons_succ]
      refine wpAnyH_take (i := 6) (v := undef) rfl (by kernel_rfl) (by kernel_rfl) (by kernel_rfl) (fun _ _ _ h => h) (Or.inr ⟨by kernel_rfl, rfl⟩) (by assumption) ?_
      try simp only [Act.put, List.setIfInBounds_toArray, List.set_cons_zero, List.set_cons_succ, List.getElem_toArray, List.getElem_cons_zero, List.getElem_cons_succ]
      refine wpAnyH_take (i := 7) (v := undef) rfl (by kernel_rfl) (by kernel_rfl) (by kernel_rfl) (fun _ _ _ h => h) (Or.inr ⟨by kernel_rfl, rfl⟩) (by assumption) ?_
      try simp only [Act.put, List.setIfInBounds_toArray, List.set_cons_zero, List.set_cons_succ, List.getElem_toArray, List.getElem_cons_zero, List.getElem_cons_succ]
      refine wpAnyH_take (i := 8) (v := undef) rfl (by kernel_rfl) (by kernel_rfl) (by kernel_rfl) (fun _ _ _ h => h) (Or.inr ⟨by kernel_rfl, rfl⟩) (by assumption) ?_
      try simp only [Act.put, List.setIfInBounds_toArray, List.set_cons_zero, List.set_cons_succ, List.getElem_toArray, List.getElem_cons_zero, List.getElem_cons_succ]
      refine wpAnyH_take (i := 9) (v := undef) rfl (by kernel_rfl) (by kernel_rfl) (by kernel_rfl) (fun _ _ _ h => h) (Or.inr ⟨by kernel_rfl, rfl⟩) (by assumption) ?_
      try simp only [Act.put, List.setIfInBounds_toArray, List.set_cons_zero, List.set_cons_succ, List.getElem_toArray, List.getElem_cons_zero, List.getElem_cons_succ]
      refine wpAnyH_take (i := 10) (v := ?_) rfl (by kernel_rfl) (by kernel_rfl) (by kernel_rfl) (fun _ _ _ h => h) (Or.inl ⟨by kernel_rfl, ?_⟩) (by assumption) ?_
      rotate_left
      focus
        intro w hSw
        try dsimp only at hSw
        go_simp
        try with_reducible rfl
      try simp only [Act.put, List.setIfInBounds_toArray, List.set_cons_zero, List.set_cons_succ, List.getElem_toArray, List.getElem_cons_zero, List.getElem_cons_succ]
      refine wpAnyH_take (i := 11) (v := ?_) rfl (by kernel_rfl) (by kernel_rfl) (by kernel_rfl) (fun _ _ _ h => h) (Or.inl ⟨by kernel_rfl, ?_⟩) (by assumption) ?_
      rotate_left
      focus
        intro w hSw
        try dsimp only at hSw
        go_simp
        try with_reducible rfl
      try simp only [Act.put, List.setIfInBounds_toArray, List.set_cons_zero, List.set_cons_succ, List.getElem_toArray, List.getElem_cons_zero, List.getElem_cons_succ]
      refine wpAnyH_take (i := 12) (v := ?_) rfl (by kernel_rfl) (by kernel_rfl) (by kernel_rfl) (fun _ _ _ h => h) (Or.inl ⟨by kernel_rfl, ?_⟩) (by assumption) ?_
      rotate_left
      focus
        intro w hSw
        try dsimp only at hSw
        go_simp
        try with_reducible rfl
      try simp only [Act.put, List.setIfInBounds_toArray, List.set_cons_zero, List.set_cons_succ, List.getElem_toArray, List.getElem_cons_zero, List.getElem_cons_succ]
      refine wpAnyH_take (i := 13) (v := ?_) rfl (by kernel_rfl) (by kernel_rfl) (by kernel_rfl) (fun _ _ _ h => h) (Or.inl ⟨by kernel_rfl, ?_⟩) (by assumption) ?_
      rotate_left
      focus
        intro w hSw
        try dsimp only at hSw
        go_simp
        try with_reducible rfl
      try simp only [Act.put, List.setIfInBounds_toArray, List.set_cons_zero, List.set_cons_succ, List.getElem_toArray, List.getElem_cons_zero, List.getElem_cons_succ]
      refine wpAnyH_take (i := 14) (v := ?_) rfl (by kernel_rfl) (by kernel_rfl) (by kernel_rfl) (fun _ _ _ h => h) (Or.inl ⟨by kernel_rfl, ?_⟩) (by assumption) ?_
      rotate_left
      focus
        intro w hSw
        try dsimp only at hSw
        go_simp
        try with_reducible rfl
      try simp only [Act.put, List.setIfInBounds_toArray, List.set_cons_zero, List.set_cons_succ, List.getElem_toArray, List.getElem_cons_zero, List.getElem_cons_succ]
      refine wpAnyH_take (i := 15) (v := ?_) rfl (by kernel_rfl) (by kernel_rfl) (by kernel_rfl) (fun _ _ _ h => h) (Or.inl ⟨by kernel_rfl, ?_⟩) (by assumption) ?_
      rotate_left
      focus
        intro w hSw
        try dsimp only at hSw
        go_simp
        try with_reducible rfl
      try simp only [Act.put, List.setIfInBounds_toArray, List.set_cons_zero, List.set_cons_succ, List.getElem_toArray, List.getElem_cons_zero, List.getElem_cons_succ]
      refine wpAnyH_take (i := 17) (v := ?_) rfl (by kernel_rfl) (by kernel_rfl) (by kernel_rfl) (fun _ _ _ h => h) (Or.inl ⟨by kernel_rfl, ?_⟩) (by assumption) ?_
      rotate_left
      focus
        intro w hSw
        try dsimp only at hSw
        go_simp
        try with_reducible rfl
      try simp only [Act.put, List.setIfInBounds_toArray, List.set_cons_zero, List.set_cons_succ, List.getElem_toArray, List.getElem_cons_zero, List.getElem_cons_succ]
      refine wpAnyH_take (i := 18) (v := ?_) rfl (by kernel_rfl) (by kernel_rfl) (by kernel_rfl) (fun _ _ _ h => h) (Or.inl ⟨by kernel_rfl, ?_⟩) (by assumption) ?_
      rotate_left
      focus
        intro w hSw
        try dsimp only at hSw
        go_simp
        try with_reducible rfl
      try simp only [Act.put, List.setIfInBounds_toArray, List.set_cons_zero, List.set_cons_succ, List.getElem_toArray, List.getElem_cons_zero, List.getElem_cons_succ]
      refine wpAnyH_take (i := 19) (v := ?_) rfl (by kernel_rfl) (by kernel_rfl) (by kernel_rfl) (fun _ _ _ h => h) (Or.inl ⟨by kernel_rfl, ?_⟩) (by assumption) ?_
      rotate_left
      focus
        intro w hSw
        try dsimp only at hSw
        go_simp
        try with_reducible rfl
      try simp only [Act.put, List.setIfInBounds_toArray, List.set_cons_zero, List.set_cons_succ, List.getElem_toArray, List.getElem_cons_zero, List.getElem_cons_succ]
      refine wpAnyH_ready (rs := [16]) (by kernel_rfl) (by simp) ?_
      refine AllReadyH.cons rfl (fun K hK => ?_) AllReadyH.nil
      go_simp
      (first
        | (go_at_call 8
           refine (knows18_any _).mono ?_
           rintro e w20 ⟨rfl, b20⟩
           replace HR := Lib.hid (HR.out.below b20)
           replace RA := Lib.hid (RA.out.below b20)
           replace RB := Lib.hid (RB.out.below b20)
           replace R4 := Lib.hid (R4.out.below b20)
           replace B1 := Lib.hid (below_step B1.out b20)
           replace X1 := Lib.hid (X1.out.below b20)
           replace X2 := Lib.hid (X2.out.below b20)
           replace CX := Lib.hid (CX.out.below b20)
           replace Y1 := Lib.hid (Y1.out.below b20)
           replace Y2 := Lib.hid (Y2.out.below b20)
           replace CY := Lib.hid (CY.out.below b20)
           clear b20
           skip)
        | (go_at_call 13
           first
             | with_reducible refine (as_rd A2 c2 La n A2H.out A1H.out _ RA.out).mono ?_
             | with_reducible refine (as_rd A3 c3 Lb n B2H.out B1H.out _ RB.out).mono ?_
           rintro e w21 ⟨A21, c21, rfl, o21, b21⟩
           have O := Lib.hid o21.rd
           clear o21
           replace HR := Lib.hid (HR.out.below b21)
           replace RA := Lib.hid (RA.out.below b21)
           replace RB := Lib.hid (RB.out.below b21)
           replace R4 := Lib.hid (R4.out.below b21)
           replace B1 := Lib.hid (below_step B1.out b21)
           replace X1 := Lib.hid (X1.out.below b21)
           replace X2 := Lib.hid (X2.out.below b21)
           replace CX := Lib.hid (CX.out.below b21)
           replace Y1 := Lib.hid (Y1.out.below b21)
           replace Y2 := Lib.hid (Y2.out.below b21)
           replace CY := Lib.hid (CY.out.below b21)
           clear b21)
        | (go_at_call 17
           first
             | with_reducible refine (with_v A4 c4 (L.map rowOf) (La.map rowOf) n k L4.out i HI.out HK.out hb P p Q q x HXA.out _ R4.out HXF.out X1.out X2.out).mono ?_
             | with_reducible refine (with_v A4 c4 (L.map rowOf) (Lb.map rowOf) n k L4.out i HI.out HK.out hb P2 p2 Q2 q2 y HYB.out _ R4.out HYF.out Y1.out Y2.out).mono ?_
           rintro e w22 ⟨A22, c22, rfl, o22, b22⟩
           replace O := Lib.hid (O.out.below b22)
           have V := Lib.hid o22
           clear o22
           replace HR := Lib.hid (HR.out.below b22)
           replace RA := Lib.hid (RA.out.below b22)
           replace RB := Lib.hid (RB.out.below b22)
           replace R4 := Lib.hid (R4.out.below b22)
           replace B1 := Lib.hid (below_step B1.out b22)
           replace X1 := Lib.hid (X1.out.below b22)
           replace X2 := Lib.hid (X2.out.below b22)
           replace CX := Lib.hid (CX.out.below b22)
           replace Y1 := Lib.hid (Y1.out.below b22)
           replace Y2 := Lib.hid (Y2.out.below b22)
           replace CY := Lib.hid (CY.out.below b22)
           clear b22)
        | (go_at_call 16
           first
             | with_reducible refine (sameW_one A21 A22 c21 c22 (La.map rowOf) n MA.out hb2 MAS.out _ O.out V.out).mono ?_
             | with_reducible refine (sameW_one A21 A22 c21 c22 (Lb.map rowOf) n MB.out hb2 MBS.out _ O.out V.out).mono ?_
           rintro e w23 ⟨rfl, b23⟩
           clear O V
           replace HR := Lib.hid (HR.out.below b23)
           replace RA := Lib.hid (RA.out.below b23)
           replace RB := Lib.hid (RB.out.below b23)
           replace R4 := Lib.hid (R4.out.below b23)
           replace B1 := Lib.hid (below_step B1.out b23)
           replace X1 := Lib.hid (X1.out.below b23)
           replace X2 := Lib.hid (X2.out.below b23)
           replace CX := Lib.hid (CX.out.below b23)
           replace Y1 := Lib.hid (Y1.out.below b23)
           replace Y2 := Lib.hid (Y2.out.below b23)
           replace CY := Lib.hid (CY.out.below b23)
           clear b23))
      refine hK.out _ _ ⟨CX.out.c.c0, CX.out.c.c1, CX.out.c.c2, CX.out.c.c3, CX.out.c.c4, CY.out.c.c0, CY.out.c.c1, CY.out.c.c2, CY.out.c.c3, CY.out.c.c4⟩ (fun hHeld => ?_)
      clear hK K
      try simp only [Act.put, List.setIfInBounds_toArray, List.set_cons_zero, List.set_cons_succ, List.getElem_toArray, List.getElem_cons_zero, List.getElem_cons_succ]
      refine wpAnyH_ready (rs := [20]) (by kernel_rfl) (by simp) ?_
      refine AllReadyH.cons rfl (fun K hK => ?_) AllReadyH.nil
      go_simp
      (first
        | (go_at_call 8
           refine (knows18_any _).mono ?_
           rintro e w20 ⟨rfl, b20⟩
           replace HR := Lib.hid (HR.out.below b20)
           replace RA := Lib.hid (RA.out.below b20)
           replace RB := Lib.hid (RB.out.below b20)
           replace R4 := Lib.hid (R4.out.below b20)
           replace B1 := Lib.hid (below_step B1.out b20)
           replace X1 := Lib.hid (X1.out.below b20)
           replace X2 := Lib.hid (X2.out.below b20)
           replace CX := Lib.hid (CX.out.below b20)
           replace Y1 := Lib.hid (Y1.out.below b20)
           replace Y2 := Lib.hid (Y2.out.below b20)
           replace CY := Lib.hid (CY.out.below b20)
           clear b20
           skip)
        | (go_at_call 13
           first
             | with_reducible refine (as_rd A2 c2 La n A2H.out A1H.out _ RA.out).mono ?_
             | with_reducible refine (as_rd A3 c3 Lb n B2H.out B1H.out _ RB.out).mono ?_
           rintro e w21 ⟨A21, c21, rfl, o21, b21⟩
           have O := Lib.hid o21.rd
           clear o21
           replace HR := Lib.hid (HR.out.below b21)
           replace RA := Lib.hid (RA.out.below b21)
           replace RB := Lib.hid (RB.out.below b21)
           replace R4 := Lib.hid (R4.out.below b21)
           replace B1 := Lib.hid (below_step B1.out b21)
           replace X1 := Lib.hid (X1.out.below b21)
           replace X2 := Lib.hid (X2.out.below b21)
           replace CX := Lib.hid (CX.out.below b21)
           replace Y1 := Lib.hid (Y1.out.below b21)
           replace Y2 := Lib.hid (Y2.out.below b21)
           replace CY := Lib.hid (CY.out.below b21)
           clear b21)
        | (go_at_call 17
           first
             | with_reducible refine (with_v A4 c4 (L.map rowOf) (La.map rowOf) n k L4.out i HI.out HK.out hb P p Q q x HXA.out _ R4.out HXF.out X1.out X2.out).mono ?_
             | with_reducible refine (with_v A4 c4 (L.map rowOf) (Lb.map rowOf) n k L4.out i HI.out HK.out hb P2 p2 Q2 q2 y HYB.out _ R4.out HYF.out Y1.out Y2.out).mono ?_
           rintro e w22 ⟨A22, c22, rfl, o22, b22⟩
           replace O := Lib.hid (O.out.below b22)
           have V := Lib.hid o22
           clear o22
           replace HR := Lib.hid (HR.out.below b22)
           replace RA := Lib.hid (RA.out.below b22)
           replace RB := Lib.hid (RB.out.below b22)
           replace R4 := Lib.hid (R4.out.below b22)
           replace B1 := Lib.hid (below_step B1.out b22)
           replace X1 := Lib.hid (X1.out.below b22)
           replace X2 := Lib.hid (X2.out.below b22)
           replace CX := Lib.hid (CX.out.below b22)
           replace Y1 := Lib.hid (Y1.out.below b22)
           replace Y2 := Lib.hid (Y2.out.below b22)
           replace CY := Lib.hid (CY.out.below b22)
           clear b22)
        | (go_at_call 16
           first
             | with_reducible refine (sameW_one A21 A22 c21 c22 (La.map rowOf) n MA.out hb2 MAS.out _ O.out V.out).mono ?_
             | with_reducible refine (sameW_one A21 A22 c21 c22 (Lb.map rowOf) n MB.out hb2 MBS.out _ O.out V.out).mono ?_
           rintro e w23 ⟨rfl, b23⟩
           clear O V
           replace HR := Lib.hid (HR.out.below b23)
           replace RA := Lib.hid (RA.out.below b23)
           replace RB := Lib.hid (RB.out.below b23)
           replace R4 := Lib.hid (R4.out.below b23)
           replace B1 := Lib.hid (below_step B1.out b23)
           replace X1 := Lib.hid (X1.out.below b23)
           replace X2 := Lib.hid (X2.out.below b23)
           replace CX := Lib.hid (CX.out.below b23)
           replace Y1 := Lib.hid (Y1.out.below b23)
           replace Y2 := Lib.hid (Y2.out.below b23)
           replace CY := Lib.hid (CY.out.below b23)
           clear b23))
      refine hK.out _ _ ⟨CX.out.c.c0, CX.out.c.c1, CX.out.c.c2, CX.out.c.c3, CX.out.c.c4, CY.out.c.c0, CY.out.c.c1, CY.out.c.c2, CY.out.c.c3, CY.out.c.c4⟩ (fun hHeld => ?_)
      clear hK K
      try simp only [Act.put, List.setIfInBounds_toArray, List.set_cons_zero, List.set_cons_succ, List.getElem_toArray, List.getElem_cons_zero, List.getElem_cons_succ]
      refine wpAnyH_ready (rs := [21]) (by kernel_rfl) (by simp) ?_
      refine AllReadyH.cons rfl (fun K hK => ?_) AllReadyH.nil
      go_simp
      (first
        | (go_at_call 8
           refine (knows18_any _).mono ?_
           rintro e w20 ⟨rfl, b20⟩
           replace HR := Lib.hid (HR.out.below b20)
           replace RA := Lib.hid (RA.out.below b20)
           replace RB := Lib.hid (RB.out.below b20)
           replace R4 := Lib.hid (R4.out.below b20)
           replace B1 := Lib.hid (below_step B1.out b20)
           replace X1 := Lib.hid (X1.out.below b20)
           replace X2 := Lib.hid (X2.out.below b20)
           replace CX := Lib.hid (CX.out.below b20)
           replace Y1 := Lib.hid (Y1.out.below b20)
           replace Y2 := Lib.hid (Y2.out.below b20)
           replace CY := Lib.hid (CY.out.below b20)
           clear b20
           skip)
        | (go_at_call 13
           first
             | with_reducible refine (as_rd A2 c2 La n A2H.out A1H.out _ RA.out).mono ?_
             | with_reducible refine (as_rd A3 c3 Lb n B2H.out B1H.out _ RB.out).mono ?_
           rintro e w21 ⟨A21, c21, rfl, o21, b21⟩
           have O := Lib.hid o21.rd
           clear o21
           replace HR := Lib.hid (HR.out.below b21)
           replace RA := Lib.hid (RA.out.below b21)
           replace RB := Lib.hid (RB.out.below b21)
           replace R4 := Lib.hid (R4.out.below b21)
           replace B1 := Lib.hid (below_step B1.out b21)
           replace X1 := Lib.hid (X1.out.below b21)
           replace X2 := Lib.hid (X2.out.below b21)
           replace CX := Lib.hid (CX.out.below b21)
           replace Y1 := Lib.hid (Y1.out.below b21)
           replace Y2 := Lib.hid (Y2.out.below b21)
           replace CY := Lib.hid (CY.out.below b21)
           clear b21)
        | (go_at_call 17
           first
             | with_reducible refine (with_v A4 c4 (L.map rowOf) (La.map rowOf) n k L4.out i HI.out HK.out hb P p Q q x HXA.out _ R4.out HXF.out X1.out X2.out).mono ?_
             | with_reducible refine (with_v A4 c4 (L.map rowOf) (Lb.map rowOf) n k L4.out i HI.out HK.out hb P2 p2 Q2 q2 y HYB.out _ R4.out HYF.out Y1.out Y2.out).mono ?_
           rintro e w22 ⟨A22, c22, rfl, o22, b22⟩
           replace O := Lib.hid (O.out.below b22)
           have V := Lib.hid o22
           clear o22
           replace HR := Lib.hid (HR.out.below b22)
           replace RA := Lib.hid (RA.out.below b22)
           replace RB := Lib.hid (RB.out.below b22)
           replace R4 := Lib.hid (R4.out.below b22)
           replace B1 := Lib.hid (below_step B1.out b22)
           replace X1 := Lib.hid (X1.out.below b22)
           replace X2 := Lib.hid (X2.out.below b22)
           replace CX := Lib.hid (CX.out.below b22)
           replace Y1 := Lib.hid (Y1.out.below b22)
           replace Y2 := Lib.hid (Y2.out.below b22)
           replace CY := Lib.hid (CY.out.below b22)
           clear b22)
        | (go_at_call 16
           first
             | with_reducible refine (sameW_one A21 A22 c21 c22 (La.map rowOf) n MA.out hb2 MAS.out _ O.out V.out).mono ?_
             | with_reducible refine (sameW_one A21 A22 c21 c22 (Lb.map rowOf) n MB.out hb2 MBS.out _ O.out V.out).mono ?_
           rintro e w23 ⟨rfl, b23⟩
           clear O V
           replace HR := Lib.hid (HR.out.below b23)
           replace RA := Lib.hid (RA.out.below b23)
           replace RB := Lib.hid (RB.out.below b23)
           replace R4 := Lib.hid (R4.out.below b23)
           replace B1 := Lib.hid (below_step B1.out b23)
           replace X1 := Lib.hid (X1.out.below b23)
           replace X2 := Lib.hid (X2.out.below b23)
           replace CX := Lib.hid (CX.out.below b23)
           replace Y1 := Lib.hid (Y1.out.below b23)
           replace Y2 := Lib.hid (Y2.out.below b23)
           replace CY := Lib.hid (CY.out.below b23)
           clear b23))
      refine hK.out _ _ ⟨CX.out.c.c0, CX.out.c.c1, CX.out.c.c2, CX.out.c.c3, CX.out.c.c4, CY.out.c.c0, CY.out.c.c1, CY.out.c.c2, CY.out.c.c3, CY.out.c.c4⟩ (fun hHeld => ?_)
      clear hK K
      try simp only [Act.put, List.setIfInBounds_toArray, List.set_cons_zero, List.set_cons_succ, List.getElem_toArray, List.getElem_cons_zero, List.getElem_cons_succ]
      refine wpAnyH_take (i := 22) (v := ?_) rfl (by kernel_rfl) (by kernel_rfl) (by kernel_rfl) (fun _ _ _ h => h) (Or.inl ⟨by kernel_rfl, ?_⟩) (by assumption) ?_
      rotate_left
      focus
        intro w hSw
        try dsimp only at hSw
        go_simp
        try with_reducible rfl
      try simp only [Act.put, List.setIfInBounds_toArray, List.set_cons_zero, List.set_cons_succ, List.getElem_toArray, List.getElem_cons_zero, List.getElem_cons_succ]
      refine wpAnyH_take (i := 23) (v := ?_) rfl (by kernel_rfl) (by kernel_rfl) (by kernel_rfl) (fun _ _ _ h => h) (Or.inl ⟨by kernel_rfl, ?_⟩) (by assumption) ?_
      rotate_left
      focus
        intro w hSw
        try dsimp only at hSw
        go_simp
        try with_reducible rfl
      try simp only [Act.put, List.setIfInBounds_toArray, List.set_cons_zero, List.set_cons_succ, List.getElem_toArray, List.getElem_cons_zero, List.getElem_cons_succ]
      refine wpAnyH_take (i := 24) (v := ?_) rfl (by kernel_rfl) (by kernel_rfl) (by kernel_rfl) (fun _ _ _ h => h) (Or.inl ⟨by kernel_rfl, ?_⟩) (by assumption) ?_
      rotate_left
      focus
        intro w hSw
        try dsimp only at hSw
        go_simp
        try with_reducible rfl
      try simp only [Act.put, List.setIfInBounds_toArray, List.set_cons_zero, List.set_cons_succ, List.getElem_toArray, List.getElem_cons_zero, List.getElem_cons_succ]
      refine wpAnyH_ready (rs := [25]) (by kernel_rfl) (by simp) ?_
      refine AllReadyH.cons rfl (fun K hK => ?_) AllReadyH.nil
      go_simp
      (first
        | (go_at_call 8
           refine (knows18_any _).mono ?_
           rintro e w20 ⟨rfl, b20⟩
           replace HR := Lib.hid (HR.out.below b20)
           replace RA := Lib.hid (RA.out.below b20)
           replace RB := Lib.hid (RB.out.below b20)
           replace R4 := Lib.hid (R4.out.below b20)
           replace B1 := Lib.hid (below_step B1.out b20)
           replace X1 := Lib.hid (X1.out.below b20)
           replace X2 := Lib.hid (X2.out.below b20)
           replace CX := Lib.hid (CX.out.below b20)
           replace Y1 := Lib.hid (Y1.out.below b20)
           replace Y2 := Lib.hid (Y2.out.below b20)
           replace CY := Lib.hid (CY.out.below b20)
           clear b20
           skip)
        | (go_at_call 13
           first
             | with_reducible refine (as_rd A2 c2 La n A2H.out A1H.out _ RA.out).mono ?_
             | with_reducible refine (as_rd A3 c3 Lb n B2H.out B1H.out _ RB.out).mono ?_
           rintro e w21 ⟨A21, c21, rfl, o21, b21⟩
           have O := Lib.hid o21.rd
           clear o21
           replace HR := Lib.hid (HR.out.below b21)
           replace RA := Lib.hid (RA.out.below b21)
           replace RB := Lib.hid (RB.out.below b21)
           replace R4 := Lib.hid (R4.out.below b21)
           replace B1 := Lib.hid (below_step B1.out b21)
           replace X1 := Lib.hid (X1.out.below b21)
           replace X2 := Lib.hid (X2.out.below b21)
           replace CX := Lib.hid (CX.out.below b21)
           replace Y1 := Lib.hid (Y1.out.below b21)
           replace Y2 := Lib.hid (Y2.out.below b21)
           replace CY := Lib.hid (CY.out.below b21)
           clear b21)
        | (go_at_call 17
           first
             | with_reducible refine (with_v A4 c4 (L.map rowOf) (La.map rowOf) n k L4.out i HI.out HK.out hb P p Q q x HXA.out _ R4.out HXF.out X1.out X2.out).mono ?_
             | with_reducible refine (with_v A4 c4 (L.map rowOf) (Lb.map rowOf) n k L4.out i HI.out HK.out hb P2 p2 Q2 q2 y HYB.out _ R4.out HYF.out Y1.out Y2.out).mono ?_
           rintro e w22 ⟨A22, c22, rfl, o22, b22⟩
           replace O := Lib.hid (O.out.below b22)
           have V := Lib.hid o22
           clear o22
           replace HR := Lib.hid (HR.out.below b22)
           replace RA := Lib.hid (RA.out.below b22)
           replace RB := Lib.hid (RB.out.below b22)
           replace R4 := Lib.hid (R4.out.below b22)
           replace B1 := Lib.hid (below_step B1.out b22)
           replace X1 := Lib.hid (X1.out.below b22)
           replace X2 := Lib.hid (X2.out.below b22)
           replace CX := Lib.hid (CX.out.below b22)
           replace Y1 := Lib.hid (Y1.out.below b22)
           replace Y2 := Lib.hid (Y2.out.below b22)
           replace CY := Lib.hid (CY.out.below b22)
           clear b22)
        | (go_at_call 16
           first
             | with_reducible refine (sameW_one A21 A22 c21 c22 (La.map rowOf) n MA.out hb2 MAS.out _ O.out V.out).mono ?_
             | with_reducible refine (sameW_one A21 A22 c21 c22 (Lb.map rowOf) n MB.out hb2 MBS.out _ O.out V.out).mono ?_
           rintro e w23 ⟨rfl, b23⟩
           clear O V
           replace HR := Lib.hid (HR.out.below b23)
           replace RA := Lib.hid (RA.out.below b23)
           replace RB := Lib.hid (RB.out.below b23)
           replace R4 := Lib.hid (R4.out.below b23)
           replace B1 := Lib.hid (below_step B1.out b23)
           replace X1 := Lib.hid (X1.out.below b23)
           replace X2 := Lib.hid (X2.out.below b23)
           replace CX := Lib.hid (CX.out.below b23)
           replace Y1 := Lib.hid (Y1.out.below b23)
           replace Y2 := Lib.hid (Y2.out.below b23)
           replace CY := Lib.hid (CY.out.below b23)
           clear b23))
      refine hK.out _ _ ⟨CX.out.c.c0, CX.out.c.c1, CX.out.c.c2, CX.out.c.c3, CX.out.c.c4, CY.out.c.c0, CY.out.c.c1, CY.out.c.c2, CY.out.c.c3, CY.out.c.c4⟩ (fun hHeld => ?_)
      clear hK K
      try simp only [Act.put, List.setIfInBounds_toArray, List.set_cons_zero, List.set_cons_succ, List.getElem_toArray, List.getElem_cons_zero, List.getElem_cons_succ]
      refine wpAnyH_take (i := 26) (v := ?_) rfl (by kernel_rfl) (by kernel_rfl) (by kernel_rfl) (fun _ _ _ h => h) (Or.inl ⟨by kernel_rfl, ?_⟩) (by assumption) ?_
      rotate_left
      focus
        intro w hSw
        try dsimp only at hSw
        go_simp
        try with_reducible rfl
      try simp only [Act.put, List.setIfInBounds_toArray, List.set_cons_zero, List.set_cons_succ, List.getElem_toArray, List.getElem_cons_zero, List.getElem_cons_succ]
      refine wpAnyH_take (i := 27) (v := ?_) rfl (by kernel_rfl) (by kernel_rfl) (by kernel_rfl) (fun _ _ _ h => h) (Or.inl ⟨by kernel_rfl, ?_⟩) (by assumption) ?_
      rotate_left
      focus
        intro w hSw
        try dsimp only at hSw
        go_simp
        try with_reducible rfl
      try simp only [Act.put, List.setIfInBounds_toArray, List.set_cons_zero, List.set_cons_succ, List.getElem_toArray, List.getElem_cons_zero, List.getElem_cons_succ]
      refine wpAnyH_done (by kernel_rfl) ?_ _
      go_split_ands
      go_wp2_with fail
      go_ret
      exact ⟨rfl, B1.out⟩
    · skip
      have f1 : (F != 0) = true := bne_iff_ne.2 hF0
      have HF5 := Lib.hid (B5H.out hF0)
      have RBL : Hid (Rd w12 A3 c3 L) := by rw [← B3H.out hF0]; exact RB.out
      clear hF0
      go_wp2_with fail
      refine (stays_one A3 A c3 c L n HN.out hb2 HIN2.out _ RBL.out HR.out).mono ?_
      rintro e w13 ⟨rfl, bs⟩
      replace HR := Lib.hid (HR.out.below bs)
      replace RA := Lib.hid (RA.out.below bs)
      replace RB := Lib.hid (RB.out.below bs)
      replace R4 := Lib.hid (R4.out.below bs)
      replace B1 := Lib.hid (below_step B1.out bs)
      replace X1 := Lib.hid (X1.out.below bs)
      replace X2 := Lib.hid (X2.out.below bs)
      replace CX := Lib.hid (CX.out.below bs)
      replace Y1 := Lib.hid (Y1.out.below bs)
      replace Y2 := Lib.hid (Y2.out.below bs)
      replace CY := Lib.hid (CY.out.below bs)
      clear bs RBL
      go_wp2_with fail
      have BD := ((Below.refl w13.heap.size w13).drew)
      replace HR := Lib.hid (HR.out.below BD)
      replace RA := Lib.hid (RA.out.below BD)
      replace RB := Lib.hid (RB.out.below BD)
      replace R4 := Lib.hid (R4.out.below BD)
      replace B1 := Lib.hid (below_step B1.out BD)
      replace X1 := Lib.hid (X1.out.below BD)
      replace X2 := Lib.hid (X2.out.below BD)
      replace CX := Lib.hid (CX.out.below BD)
      replace Y1 := Lib.hid (Y1.out.below BD)
      replace Y2 := Lib.hid (Y2.out.below BD)
      replace CY := Lib.hid (CY.out.below BD)
      clear BD
      refine wp_region_held_drew (S := (fun w' => w'.cell? ⟨X, 0, none⟩ = some (.int .i64 x.1.1) ∧ w'.cell? ⟨X, 1, none⟩ = some (.int .i64 x.1.2.1) ∧ w'.cell? ⟨X, 2, none⟩ = some (.int .i64 x.1.2.2) ∧ w'.cell? ⟨X, 3, none⟩ = some (.slice P x.2.1.length p) ∧ w'.cell? ⟨X, 4, none⟩ = some (.slice Q x.2.2.length q) ∧ w'.cell? ⟨Y, 0, none⟩ = some (.int .i64 y.1.1) ∧ w'.cell? ⟨Y, 1, none⟩ = some (.int .i64 y.1.2.1) ∧ w'.cell? ⟨Y, 2, none⟩ = some (.int .i64 y.1.2.2) ∧ w'.cell? ⟨Y, 3, none⟩ = some (.slice P2 y.2.1.length p2) ∧ w'.cell? ⟨Y, 4, none⟩ = some (.slice Q2 y.2.2.length q2))) (by kernel_rfl) ⟨CX.out.c.c0, CX.out.c.c1, CX.out.c.c2, CX.out.c.c3, CX.out.c.c4, CY.out.c.c0, CY.out.c.c1, CY.out.c.c2, CY.out.c.c3, CY.out.c.c4⟩ (fun hHeld => ?_)
      refine wpAnyH_take (i := 0) (v := ?_) rfl (by kernel_rfl) (by kernel_rfl) (by kernel_rfl) (fun _ _ _ h => h) (Or.inl ⟨by kernel_rfl, ?_⟩) (by assumption) ?_
      rotate_left
      focus
        intro w hSw
        try dsimp only at hSw
        go_simp
        try with_reducible rfl
      try simp only [Act.put, List.setIfInBounds_toArray, List.set_cons_zero, List.set_cons_succ, List.getElem_toArray, List.getElem_cons_zero, List.getElem_cons_succ]
      refine wpAnyH_take (i := 1) (v := ?_) rfl (by kernel_rfl) (by kernel_rfl) (by kernel_rfl) (fun _ _ _ h => h) (Or.inl ⟨by kernel_rfl, ?_⟩) (by assumption) ?_
      rotate_left
      focus
        intro w hSw
        try dsimp only at hSw
        go_simp
        try with_reducible rfl
      try simp only [Act.put, List.setIfInBounds_toArray, List.set_cons_zero, List.set_cons_succ, List.getElem_toArray, List.getElem_cons_zero, List.getElem_cons_succ]
      refine wpAnyH_take (i := 2) (v := ?_) rfl (by kernel_rfl) (by kernel_rfl) (by kernel_rfl) (fun _ _ _ h => h) (Or.inl ⟨by kernel_rfl, ?_⟩) (by assumption) ?_
      rotate_left
      focus
        intro w hSw
        try dsimp only at hSw
        go_simp
        try with_reducible rfl
      try simp only [Act.put, List.setIfInBounds_toArray, List.set_cons_zero, List.set_cons_succ, List.getElem_toArray, List.getElem_cons_zero, List.getElem_cons_succ]
      refine wpAnyH_take (i := 3) (v := undef) rfl (by kernel_rfl) (by kernel_rfl) (by kernel_rfl) (fun _ _ _ h => h) (Or.inr ⟨by kernel_rfl, rfl⟩) (by assumption) ?_
      try simp only [Act.put, List.setIfInBounds_toArray, List.set_cons_zero, List.set_cons_succ, List.getElem_toArray, List.getElem_cons_zero, List.getElem_cons_succ]
      refine wpAnyH_take (i := 4) (v := undef) rfl (by kernel_rfl) (by kernel_rfl) (by kernel_rfl) (fun _ _ _ h => h) (Or.inr ⟨by kernel_rfl, rfl⟩) (by assumption) ?_
      try simp only [Act.put, List.setIfInBounds_toArray, List.set_cons_zero, List.set_cons_succ, List.getElem_toArray, List.getElem_cons_zero, List.getElem_cons_succ]
      refine wpAnyH_take (i := 5) (v := undef) rfl (by kernel_rfl) (by kernel_rfl) (by kernel_rfl) (fun _ _ _ h => h) (Or.inr ⟨by kernel_rfl, rfl⟩) (by assumption) ?_
      try simp only [Act.put, List.setIfInBounds_toArray, List.set_cons_zero, List.set_cons_succ, List.getElem_toArray, List.getElem_cons_zero, List.getElem_cons_succ]
      refine wpAnyH_take (i := 6) (v := undef) rfl (by kernel_rfl) (by kernel_rfl) (by kernel_rfl) (fun _ _ _ h => h) (Or.inr ⟨by kernel_rfl, rfl⟩) (by assumption) ?_
      try simp only [Act.put, List.setIfInBounds_toArray, List.set_cons_zero, List.set_cons_succ, List.getElem_toArray, List.getElem_cons_zero, List.getElem_cons_succ]
      refine wpAnyH_take (i := 7) (v := undef) rfl (by kernel_rfl) (by kernel_rfl) (by kernel_rfl) (fun _ _ _ h => h) (Or.inr ⟨by kernel_rfl, rfl⟩) (by assumption) ?_
      try simp only [Act.put, List.setIfInBounds_toArray, List.set_cons_zero, List.set_cons_succ, List.getElem_toArray, List.getElem_cons_zero, List.getElem_cons_succ]
      refine wpAnyH_take (i := 8) (v := undef) rfl (by kernel_rfl) (by kernel_rfl) (by kernel_rfl) (fun _ _ _ h => h) (Or.inr ⟨by kernel_rfl, rfl⟩) (by assumption) ?_
      try simp only [Act.put, List.setIfInBounds_toArray, List.set_cons_zero, List.set_cons_succ, List.getElem_toArray, List.getElem_cons_zero, List.getElem_cons_succ]
      refine wpAnyH_take (i := 9) (v := undef) rfl (by kernel_rfl) (by kernel_rfl) (by kernel_rfl) (fun _ _ _ h => h) (Or.inr ⟨by kernel_rfl, rfl⟩) (by assumption) ?_
      try simp only [Act.put, List.setIfInBounds_toArray, List.set_cons_zero, List.set_cons_succ, List.getElem_toArray, List.getElem_cons_zero, List.getElem_cons_succ]
      refine wpAnyH_take (i := 10) (v := ?_) rfl (by kernel_rfl) (by kernel_rfl) (by kernel_rfl) (fun _ _ _ h => h) (Or.inl ⟨by kernel_rfl, ?_⟩) (by assumption) ?_
      rotate_left
      focus
        intro w hSw
        try dsimp only at hSw
        go_simp
        try with_reducible rfl
      try simp only [Act.put, List.setIfInBounds_toArray, List.set_cons_zero, List.set_cons_succ, List.getElem_toArray, List.getElem_cons_zero, List.getElem_cons_succ]
      refine wpAnyH_take (i := 11) (v := ?_) rfl (by kernel_rfl) (by kernel_rfl) (by kernel_rfl) (fun _ _ _ h => h) (Or.inl ⟨by kernel_rfl, ?_⟩) (by assumption) ?_
      rotate_left
      focus
        intro w hSw
        try dsimp only at hSw
        go_simp
        try with_reducible rfl
      try simp only [Act.put, List.setIfInBounds_toArray, List.set_cons_zero, List.set_cons_succ, List.getElem_toArray, List.getElem_cons_zero, List.getElem_cons_succ]
      refine wpAnyH_take (i := 12) (v := ?_) rfl (by kernel_rfl) (by kernel_rfl) (by kernel_rfl) (fun _ _ _ h => h) (Or.inl ⟨by kernel_rfl, ?_⟩) (by assumption) ?_
      rotate_left
      focus
        intro w hSw
        try dsimp only at hSw
        go_simp
        try with_reducible rfl
      try simp only [Act.put, List.setIfInBounds_toArray, List.set_cons_zero, List.set_cons_succ, List.getElem_toArray, List.getElem_cons_zero, List.getElem_cons_succ]
      refine wpAnyH_take (i := 13) (v := ?_) rfl (by kernel_rfl) (by kernel_rfl) (by kernel_rfl) (fun _ _ _ h => h) (Or.inl ⟨by kernel_rfl, ?_⟩) (by assumption) ?_
      rotate_left
      focus
        intro w hSw
        try dsimp only at hSw
        go_simp
        try with_reducible rfl
      try simp only [Act.put, List.setIfInBounds_toArray, List.set_cons_zero, List.set_cons_succ, List.getElem_toArray, List.getElem_cons_zero, List.getElem_cons_succ]
      refine wpAnyH_take (i := 14) (v := ?_) rfl (by kernel_rfl) (by kernel_rfl) (by kernel_rfl) (fun _ _ _ h => h) (Or.inl ⟨by kernel_rfl, ?_⟩) (by assumption) ?_
      rotate_left
      focus
        intro w hSw
        try dsimp only at hSw
        go_simp
        try with_reducible rfl
      try simp only [Act.put, List.setIfInBounds_toArray, List.set_cons_zero, List.set_cons_succ, List.getElem_toArray, List.getElem_cons_zero, List.getElem_cons_succ]
      refine wpAnyH_take (i := 15) (v := undef) rfl (by kernel_rfl) (by kernel_rfl) (by kernel_rfl) (fun _ _ _ h => h) (Or.inr ⟨by kernel_rfl, rfl⟩) (by assumption) ?_
      try simp only [Act.put, List.setIfInBounds_toArray, List.set_cons_zero, List.set_cons_succ, List.getElem_toArray, List.getElem_cons_zero, List.getElem_cons_succ]
      refine wpAnyH_take (i := 16) (v := undef) rfl (by kernel_rfl) (by kernel_rfl) (by kernel_rfl) (fun _ _ _ h => h) (Or.inr ⟨by kernel_rfl, rfl⟩) (by assumption) ?_
      try simp only [Act.put, List.setIfInBounds_toArray, List.set_cons_zero, List.set_cons_succ, List.getElem_toArray, List.getElem_cons_zero, List.getElem_cons_succ]
      refine wpAnyH_take (i := 17) (v := undef) rfl (by kernel_rfl) (by kernel_rfl) (by kernel_rfl) (fun _ _ _ h => h) (Or.inr ⟨by kernel_rfl, rfl⟩) (by assumption) ?_
      try simp only [Act.put, List.setIfInBounds_toArray, List.set_cons_zero, List.set_cons_succ, List.getElem_toArray, List.getElem_cons_zero, List.getElem_cons_succ]
      refine wpAnyH_take (i := 18) (v := undef) rfl (by kernel_rfl) (by kernel_rfl) (by kernel_rfl) (fun _ _ _ h => h) (Or.inr ⟨by kernel_rfl, rfl⟩) (by assumption) ?_
      try simp only [Act.put, List.setIfInBounds_toArray, List.set_cons_zero, List.set_cons_succ, List.getElem_toArray, List.getElem_cons_zero, List.getElem_cons_succ]
      refine wpAnyH_take (i := 19) (v := undef) rfl (by kernel_rfl) (by kernel_rfl) (by kernel_rfl) (fun _ _ _ h => h) (Or.inr ⟨by kernel_rfl, rfl⟩) (by assumption) ?_
      try simp only [Act.put, List.setIfInBounds_toArray, List.set_cons_zero, List.set_cons_succ, List.getElem_toArray, List.getElem_cons_zero, List.getElem_cons_succ]
      refine wpAnyH_take (i := 20) (v := undef) rfl (by kernel_rfl) (by kernel_rfl) (by kernel_rfl) (fun _ _ _ h => h) (Or.inr ⟨by kernel_rfl, rfl⟩) (by assumption) ?_
      try simp only [Act.put, List.setIfInBounds_toArray, List.set_cons_zero, List.set_cons_succ, List.getElem_toArray, List.getElem_cons_zero, List.getElem_cons_succ]
      refine wpAnyH_take (i := 21) (v := undef) rfl (by kernel_rfl) (by kernel_rfl) (by kernel_rfl) (fun _ _ _ h => h) (Or.inr ⟨by kernel_rfl, rfl⟩) (by assumption) ?_
      try simp only [Act.put, List.setIfInBounds_toArray, List.set_cons_zero, List.set_cons_succ, List.getElem_toArray, List.getElem_cons_zero, List.getElem_cons_succ]
      refine wpAnyH_take (i := 22) (v := ?_) rfl (by kernel_rfl) (by kernel_rfl) (by kernel_rfl) (fun _ _ _ h => h) (Or.inl ⟨by kernel_rfl, ?_⟩) (by assumption) ?_
      rotate_left
      focus
        intro w hSw
        try dsimp only at hSw
        go_simp
        try with_reducible rfl
      try simp only [Act.put, List.setIfInBounds_toArray, List.set_cons_zero, List.set_cons_succ, List.getElem_toArray, List.getElem_cons_zero, List.getElem_cons_succ]
      refine wpAnyH_take (i := 23) (v := ?_) rfl (by kernel_rfl) (by kernel_rfl) (by kernel_rfl) (fun _ _ _ h => h) (Or.inl ⟨by kernel_rfl, ?_⟩) (by assumption) ?_
      rotate_left
      focus
        intro w hSw
        try dsimp only at hSw
        go_simp
        try with_reducible rfl
      try simp only [Act.put, List.setIfInBounds_toArray, List.set_cons_zero, List.set_cons_succ, List.getElem_toArray, List.getElem_cons_zero, List.getElem_cons_succ]
      refine wpAnyH_take (i := 24) (v := ?_) rfl (by kernel_rfl) (by kernel_rfl) (by kernel_rfl) (fun _ _ _ h => h) (Or.inl ⟨by kernel_rfl, ?_⟩) (by assumption) ?_
      rotate_left
      focus
        intro w hSw
        try dsimp only at hSw
        go_simp
        try with_reducible rfl
      try simp only [Act.put, List.setIfInBounds_toArray, List.set_cons_zero, List.set_cons_succ, List.getElem_toArray, List.getElem_cons_zero, List.getElem_cons_succ]
      refine wpAnyH_ready (rs := [25]) (by kernel_rfl) (by simp) ?_
      refine AllReadyH.cons rfl (fun K hK => ?_) AllReadyH.nil
      go_simp
      (first
        | (go_at_call 8
           refine (knows18_any _).mono ?_
           rintro e w20 ⟨rfl, b20⟩
           replace HR := Lib.hid (HR.out.below b20)
           replace RA := Lib.hid (RA.out.below b20)
           replace RB := Lib.hid (RB.out.below b20)
           replace R4 := Lib.hid (R4.out.below b20)
           replace B1 := Lib.hid (below_step B1.out b20)
           replace X1 := Lib.hid (X1.out.below b20)
           replace X2 := Lib.hid (X2.out.below b20)
           replace CX := Lib.hid (CX.out.below b20)
           replace Y1 := Lib.hid (Y1.out.below b20)
           replace Y2 := Lib.hid (Y2.out.below b20)
           replace CY := Lib.hid (CY.out.below b20)
           clear b20
           skip)
        | (go_at_call 13
           first
             | with_reducible refine (as_rd A2 c2 La n A2H.out A1H.out _ RA.out).mono ?_
             | with_reducible refine (as_rd A3 c3 Lb n B2H.out B1H.out _ RB.out).mono ?_
           rintro e w21 ⟨A21, c21, rfl, o21, b21⟩
           have O := Lib.hid o21.rd
           clear o21
           replace HR := Lib.hid (HR.out.below b21)
           replace RA := Lib.hid (RA.out.below b21)
           replace RB := Lib.hid (RB.out.below b21)
           replace R4 := Lib.hid (R4.out.below b21)
           replace B1 := Lib.hid (below_step B1.out b21)
           replace X1 := Lib.hid (X1.out.below b21)
           replace X2 := Lib.hid (X2.out.below b21)
           replace CX := Lib.hid (CX.out.below b21)
           replace Y1 := Lib.hid (Y1.out.below b21)
           replace Y2 := Lib.hid (Y2.out.below b21)
           replace CY := Lib.hid (CY.out.below b21)
           clear b21)
        | (go_at_call 17
           first
             | with_reducible refine (with_v A4 c4 (L.map rowOf) (La.map rowOf) n k L4.out i HI.out HK.out hb P p Q q x HXA.out _ R4.out HXF.out X1.out X2.out).mono ?_
             | with_reducible refine (with_v A4 c4 (L.map rowOf) (Lb.map rowOf) n k L4.out i HI.out HK.out hb P2 p2 Q2 q2 y HYB.out _ R4.out HYF.out Y1.out Y2.out).mono ?_
           rintro e w22 ⟨A22, c22, rfl, o22, b22⟩
           replace O := Lib.hid (O.out.below b22)
           have V := Lib.hid o22
           clear o22
           replace HR := Lib.hid (HR.out.below b22)
           replace RA := Lib.hid (RA.out.below b22)
           replace RB := Lib.hid (RB.out.below b22)
           replace R4 := Lib.hid (R4.out.below b22)
           replace B1 := Lib.hid (below_step B1.out b22)
           replace X1 := Lib.hid (X1.out.below b22)
           replace X2 := Lib.hid (X2.out.below b22)
           replace CX := Lib.hid (CX.out.below b22)
           replace Y1 := Lib.hid (Y1.out.below b22)
           replace Y2 := Lib.hid (Y2.out.below b22)
           replace CY := Lib.hid (CY.out.below b22)
           clear b22)
        | (go_at_call 16
           first
             | with_reducible refine (sameW_one A21 A22 c21 c22 (La.map rowOf) n MA.out hb2 MAS.out _ O.out V.out).mono ?_
             | with_reducible refine (sameW_one A21 A22 c21 c22 (Lb.map rowOf) n MB.out hb2 MBS.out _ O.out V.out).mono ?_
           rintro e w23 ⟨rfl, b23⟩
           clear O V
           replace HR := Lib.hid (HR.out.below b23)
           replace RA := Lib.hid (RA.out.below b23)
           replace RB := Lib.hid (RB.out.below b23)
           replace R4 := Lib.hid (R4.out.below b23)
           replace B1 := Lib.hid (below_step B1.out b23)
           replace X1 := Lib.hid (X1.out.below b23)
           replace X2 := Lib.hid (X2.out.below b23)
           replace CX := Lib.hid (CX.out.below b23)
           replace Y1 := Lib.hid (Y1.out.below b23)
           replace Y2 := Lib.hid (Y2.out.below b23)
           replace CY := Lib.hid (CY.out.below b23)
           clear b23))
      refine hK.out _ _ ⟨CX.out.c.c0, CX.out.c.c1, CX.out.c.c2, CX.out.c.c3, CX.out.c.c4, CY.out.c.c0, CY.out.c.c1, CY.out.c.c2, CY.out.c.c3, CY.out.c.c4⟩ (fun hHeld => ?_)
      clear hK K
      try simp only [Act.put, List.setIfInBounds_toArray, List.set_cons_zero, List.set_cons_succ, List.getElem_toArray, List.getElem_cons_zero, List.getElem_cons_succ]
      refine wpAnyH_take (i := 26) (v := ?_) rfl (by kernel_rfl) (by kernel_rfl) (by kernel_rfl) (fun _ _ _ h => h) (Or.inl ⟨by kernel_rfl, ?_⟩) (by assumption) ?_
      rotate_left
      focus
        intro w hSw
        try dsimp only at hSw
        go_simp
        try with_reducible rfl
      try simp only [Act.put, List.setIfInBounds_toArray, List.set_cons_zero, List.set_cons_succ, List.getElem_toArray, List.getElem_cons_zero, List.getElem_cons_succ]
      refine wpAnyH_take (i := 27) (v := ?_) rfl (by kernel_rfl) (by kernel_rfl) (by kernel_rfl) (fun _ _ _ h => h) (Or.inl ⟨by kernel_rfl, ?_⟩) (by assumption) ?_
      rotate_left
      focus
        intro w hSw
        try dsimp only at hSw
        go_simp
        try with_reducible rfl
      try simp only [Act.put, List.setIfInBounds_toArray, List.set_cons_zero, List.set_cons_succ, List.getElem_toArray, List.getElem_cons_zero, List.getElem_cons_succ]
      refine wpAnyH_done (by kernel_rfl) ?_ _
      go_split_ands
      go_wp2_with fail
      go_ret
      exact ⟨rfl, B1.out⟩
theorem walk (A : Option Addr) (c : Nat) (L : List Lin) (who i v : Int) (w : World) (hr : Rd w A c L) (_f1 : Fit who) (_f2 : Fit i) (hv : Fit v) :
    Calls Try.prog 3 #[.slice A L.length c, .int .i64 who, .int .i64 i, .int .i64 v] w fun e w' => e = .returned (.bool true) ∧ Below w.heap.size w w' := by
  cases hg : greatS L with
  | true =>
    have HR := Lib.hid hr
    have HV := Lib.hid hv
    clear hr hv
    go_enter Try.func3, Try.ntmps3
    go_wp2_with fail
    refine (great_any A c L _ HR.out).mono ?_
    rintro e w1 ⟨rfl, b1⟩
    rw [hg]
    have B1 := Lib.hid b1
    clear b1
    go_wp2_with fail
    refine (knows18_any _).mono ?_
    rintro e w5 ⟨rfl, b5⟩
    replace B1 := Lib.hid (below_step B1.out b5)
    clear b5
    go_wp2_with fail
    go_ret
    exact ⟨rfl, B1.out⟩
  | false =>
    cases h : okS L with
    | false => exact bad A c L who i v w hg h hr hv
    | true => exact ok A c L who i v w hg h hr hv

set_option maxRecDepth 100000 in
theorem lifted (os : Os) (started : os.Started) (H : Type) (enc : TypeId × Value → H) :
    ReturnsInHanded {} Try.checked os 3 .any (Rows.portSendsSpec.pre6 enc Try.prog Try.f3 Rows.portSendsRow.domain false) (Rows.portSendsSpec.post enc Try.prog Try.f3 false true false false) := by
  refine returnsInHanded_of_change (C := Try.checked) own started (by kernel_rfl) Try.func3
    (ChangeSpec.witness6 (enc := enc) (C := Try.checked) false ⟨#[], #[.slice none 0 0, .int .i64 0, .int .i64 0, .int .i64 0], []⟩ 8 (by kernel_rfl) (by kernel_rfl) (by kernel_rfl) (by kernel_rfl)) ?_
  intro W base args ds gs before hval0 hW hcnd _
  have hval : ∀ (j : Nat) t v, Try.f3.params[j]? = some t → args[j]? = some v → Value.okWide Try.prog W .any base t v := hval0
  have hW' := hW
  obtain ⟨p, q, hA0, hV, rfl, hfz, hnd⟩ := hW
  have hA : DataW.TrodAll enc Try.prog W 0 (fun _ => true) true Try.f3.params.toList args.toList ds p := hA0
  rw [Try.params3] at hA hval
  obtain ⟨v0, v1, v2, v3, d0, d1, d2, d3, p0, p1, p2, p3, rfl, rfl, rfl, h0, h1, h2, h3⟩ := trodAll_four' hA
  obtain ⟨rfl, rfl⟩ := trodVars_none hV
  obtain ⟨A0, c0, l0, rfl, hr0⟩ := Mm.open_list (α := Po.Lin) Try.underlying22 Po.opLines (hval 0 22 v0 rfl rfl) h0
  obtain ⟨n1, rfl, f1⟩ := Mm.open_num' Try.underlying3 (hval 1 3 v1 rfl rfl) h1
  obtain ⟨n2, rfl, f2⟩ := Mm.open_num' Try.underlying3 (hval 2 3 v2 rfl rfl) h2
  obtain ⟨n3, rfl, f3⟩ := Mm.open_num' Try.underlying3 (hval 3 3 v3 rfl rfl) h3
  clear hA0 hval0
  refine (walk A0 c0 l0 n1 n2 n3 W hr0 f1 f2 f3).mono fun e W' ⟨he, bel⟩ => ?_
  subst he
  have hlt0 : ∀ x ∈ p0, x.block < W.heap.size := fun x hx => hW'.lt x (by simp [hx])
  have hlt1 : ∀ x ∈ p1, x.block < W.heap.size := fun x hx => hW'.lt x (by simp [hx])
  have hlt2 : ∀ x ∈ p2, x.block < W.heap.size := fun x hx => hW'.lt x (by simp [hx])
  have hlt3 : ∀ x ∈ p3, x.block < W.heap.size := fun x hx => hW'.lt x (by simp [hx])
  exact ⟨_, rfl, _, _, _, [], _, [], hW', trodAll_mk1 (shut_bool Try.underlying4 _), trodAll_mk4 (Below.trod laidOut (by kernel_rfl) (of_decide_eq_true (by kernel_rfl)) h0 bel hlt0) (Below.trod laidOut (by kernel_rfl) (of_decide_eq_true (by kernel_rfl)) h1 bel hlt1) (Below.trod laidOut (by kernel_rfl) (of_decide_eq_true (by kernel_rfl)) h2 bel hlt2) (Below.trod laidOut (by kernel_rfl) (of_decide_eq_true (by kernel_rfl)) h3 bel hlt3), rfl, bel.frame _, fun h => by cases h⟩

/-- The statement. -/
theorem proved : Rows.PortSendsSaid :=
  OpenClaim.holds_of_wide 3 Try.f3 rfl rfl rfl rfl rfl rfl rfl ⟨rfl, rfl, rfl, rfl, rfl⟩ rfl rfl rfl rfl rfl (by kernel_rfl) Try.func3 (by kernel_rfl)
    (of_decide_eq_true (by kernel_rfl)) (by unfold Func.isWrapper; first | (rw [if_pos (by decide +kernel)]; kernel_rfl) | (rw [if_neg (by decide +kernel)]; exact ⟨rfl, rfl⟩))
    (fun os started H enc _ => lifted os started H enc)
#print axioms proved

end Go.Proofs.Ytfkcplnjhelclaa.portSends
