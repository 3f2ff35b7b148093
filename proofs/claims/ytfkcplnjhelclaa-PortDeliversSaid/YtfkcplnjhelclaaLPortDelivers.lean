/-
  For all lines the statement PortDelivers of layer 18 returns true (what is delivered is what the document says), and its arguments read as before. No condition.
-/
import Derived.Test.YtfkcplnjhelclaaGlaw18
import Derived.Test.YtfkcplnjhelclaaOLaw18Lines
namespace Go.Proofs.Ytfkcplnjhelclaa.portDelivers
open Go.ChangeShapes Go.WideShapes Go.ChangeAt Go.RowKit
open Mm Po

/-- the first k rows are delivered -/
def Rel (w0 : World) (L : List Lin) (A : Option Addr) (c k : Nat) (wr : World) : Prop :=
  ∃ R : List Rw, R.length = L.length ∧ (∀ j, j < L.length → at_ R j = if j < k then delivW (rowOf (at_ L j)) else rowOf (at_ L j)) ∧ OwN wr w0.heap.size 37 A c R ∧ Below w0.heap.size w0 wr
theorem put5k (w : World) (X o : Nat) (v0 v1 v2 v3 v4 : Value) : (((((w.setCell ⟨X, o, none⟩ v0).setCell ⟨X, o + 1, none⟩ v1).setCell ⟨X, o + 2, none⟩ v2).setCell ⟨X, o + 3, none⟩ v3).setCell ⟨X, o + 4, none⟩ v4) = putC w X o [v0, v1, v2, v3, v4] := by simp only [putC, Nat.add_assoc, Nat.reduceAdd]
theorem rel_step {w0 wr w5 : World} {L : List Lin} {g c k : Nat} {P Q : Option Addr} {p q : Nat} {y : Rw} (h : Rel w0 L (some ⟨g, 0, none⟩) c k wr) (hk : k < L.length) (b : Below wr.heap.size wr w5) (hy : y = delivW (rowOf (at_ L k))) (hf : FitP y.1) (r1 : RdS w5 (Upw (fun _ => False) wr) P p y.2.1) (r2 : RdS w5 (Upw (fun _ => False) wr) Q q y.2.2) :
    Rel w0 L (some ⟨g, 0, none⟩) c (k + 1) (putC w5 g (k * 5) #[.int .i64 y.1.1, .int .i64 y.1.2.1, .int .i64 y.1.2.2, .slice P y.2.1.length p, .slice Q y.2.2.length q].toList) := by
  obtain ⟨R, hl, hall, ho, hb⟩ := h
  have hg := OwS.new ho g rfl
  have ho5 := ho.below b
  have e : ∀ b, b < w5.heap.size → Upw (fun _ => False) wr b → Else w5 (some ⟨g, 0, none⟩) b := fun b hlt hb => ⟨hlt, fun e => by injection e with e; injection e with e; subst e; exact hb.elim id (fun hb => by omega)⟩
  obtain ⟨k1, k2⟩ := own_puts ho5 (fun h => h.2 rfl) (j := k) (by omega) (rd_row.2 ⟨P, p, Q, q, rfl, hf, r1.sub e, r2.sub e⟩)
  refine ⟨R.set k y, by rw [List.length_set]; exact hl, fun j hj => ?_, k1.sub fun b hb => ⟨Nat.lt_of_lt_of_le hb.1 k2.size, hb.2⟩, below_of_gb (below_step hb b) k2 (below_step hb b).size (fun i hi => by injection hi with hi; omega)⟩
  by_cases e : j = k
  · subst e; rw [at_set_same _ (by omega), hy, if_pos (by omega)]
  · rw [at_set_other _ e, hall j hj]
    by_cases e2 : j < k
    · rw [if_pos e2, if_pos (by omega)]
    · rw [if_neg e2, if_neg (by omega)]
theorem rel_below {w0 wr : World} {L : List Lin} {A : Option Addr} {c k : Nat} (h : Rel w0 L A c k wr) : Below w0.heap.size w0 wr := by
  obtain ⟨R, hl, hall, ho, hb⟩ := h
  exact hb
theorem rel_cell {w0 wr : World} {L : List Lin} {A : Option Addr} {c k : Nat} (h : Rel w0 L A c k wr) (hk : k < L.length) : ∃ g, A = some ⟨g, 0, none⟩ ∧ (∃ P p Q q, CW wr g (k * 5) P p Q q (rowOf (at_ L k)) ∧ Rd wr P p (rowOf (at_ L k)).2.1 ∧ Rd wr Q q (rowOf (at_ L k)).2.2) ∧ (∀ o, wr.frozen? ⟨g, o, none⟩ = false) := by
  obtain ⟨R, hl, hall, ho, hb⟩ := h
  obtain ⟨g, rfl, _⟩ := OwS.form ho (by omega)
  obtain ⟨b, off, e, _, hc⟩ := row_at (OwN.rd ho) (by omega)
  injection e with e
  injection e with e1 e2
  subst e1
  subst e2
  obtain ⟨P, p, Q, q, h9, _, r1, r2⟩ := hc k (by omega)
  rw [Nat.zero_add] at h9
  have ek := hall k hk
  rw [if_neg (by omega)] at ek
  rw [ek] at h9 r1 r2
  exact ⟨g, rfl, ⟨P, p, Q, q, h9, r1, r2⟩, own_free ho⟩
theorem rel_done {w0 wr : World} {L : List Lin} {A : Option Addr} {c : Nat} (h : Rel w0 L A c L.length wr) (hok : okS L = true) (D : List Lin) (hD : delS L = D) : OwN wr w0.heap.size 37 A c (D.map rowOf) := by
  obtain ⟨R, hl, hall, ho, hb⟩ := h
  have eD : D = L.map delivL := by rw [← hD]; unfold delS; rw [if_pos hok]
  have e : R = D.map rowOf := by
    rw [eD, List.map_map]
    refine at_eq_of (by rw [hl, List.length_map]) fun i hi => ?_
    rw [hall i (by omega), if_pos (by omega), at_get (l := L.map _) (by rw [List.length_map]; omega), List.getElem_map]
    show _ = rowOf (delivL _)
    rw [(deliv_ok (okS_at hok (j := i) (by omega))).2.symm, at_get (by omega)]
  rw [← e]
  exact ho

theorem small {L : List Lin} (h : okS L = true) : ∀ j, j < L.length → (at_ L j).2.1.1.length ≤ 20 ∧ (at_ L j).2.2.1.length ≤ 20 := fun j hj => by
  obtain ⟨n, e, n1, n4, hp, g1, g2⟩ := okL_good (okS_at h hj)
  have := g1.len
  have := g2.len
  omega
theorem row_small {x : Lin} (h : okL x = true) : (rowOf x).2.1.length ≤ 4 ∧ (rowOf x).2.2.length ≤ 4 ∧ ∃ n : Nat, (rowOf x).1.2.2 = (n : Int) ∧ 1 ≤ n ∧ n ≤ 4 := by
  obtain ⟨n, e, n1, n4, hp, g1, g2⟩ := okL_good h
  have a1 := g1.m1
  have a2 := g2.m1
  refine ⟨?_, ?_, n, e, n1, n4⟩
  · show (msgR x.2.1).length ≤ 4
    rw [msgR_length]; omega
  · show (msgR x.2.2).length ≤ 4
    rw [msgR_length]; omega
theorem del_okS {L : List Lin} (h : okS L = true) : okS (delS L) = true ∧ (delS L).length = L.length ∧ ∀ j, j < L.length → at_ (delS L) j = delivL (at_ L j) := by
  have e : delS L = L.map delivL := by unfold delS; rw [if_pos h]
  have hl : (delS L).length = L.length := by rw [e, List.length_map]
  have ha : ∀ j, j < L.length → at_ (delS L) j = delivL (at_ L j) := fun j hj => by
    rw [e, at_get (l := L.map delivL) (by rw [List.length_map]; omega), List.getElem_map, at_get (by omega)]
  exact ⟨okS_of (by rw [hl]; exact okS_len h) (fun j hj => by rw [ha j (by omega)]; exact (deliv_ok (okS_at h (by omega))).1), hl, ha⟩
theorem port_fit {x : Pt} (h : okP x = true) : FitP x := by
  have hc := of_decide_eq_true h
  refine ⟨⟨?_, ?_⟩, ⟨?_, ?_⟩, ⟨?_, ?_⟩⟩ <;> omega

set_option maxHeartbeats 1600000 in
theorem bad (A : Option Addr) (c : Nat) (L : List Lin) (w : World) (hg : greatS L = false) (h : okS L = false) (hr : Rd w A c L) :
    Calls Try.prog 4 #[.slice A L.length c] w fun e w' => e = .returned (.bool true) ∧ Below w.heap.size w w' := by
  obtain ⟨hl, hin⟩ := great_no hg
  have hdel : delS L = L := by unfold delS; rw [h]; rfl
  have hb : L.length ≤ 900000 := by omega
  have hb2 : L.length ≤ 1000000 := by omega
  have hin2 : ∀ j, j < L.length → (at_ L j).2.1.1.length ≤ 1000 ∧ (at_ L j).2.2.1.length ≤ 1000 := fun j hj => ⟨Nat.le_trans (hin j hj).1 (by decide), Nat.le_trans (hin j hj).2 (by decide)⟩
  have HR := Lib.hid hr
  have HIN := Lib.hid hin
  have HIN2 := Lib.hid hin2
  have HDEL := Lib.hid hdel
  have HL := Lib.hid hl
  clear hr hin hin2 hdel hl
  go_enter Try.func4, Try.ntmps4
  go_wp2_with fail
  refine (great_any A c L _ HR.out).mono ?_
  rintro e w1 ⟨rfl, b1⟩
  rw [hg]
  replace HR := Lib.hid (HR.out.below b1)
  have B1 := Lib.hid b1
  clear b1
  go_wp2_with fail
  refine (deliver_v (S := fun _ => True) L.length L rfl HDEL.out _ hb HR.out).mono ?_
  rintro e w2 ⟨A2, c2, rfl, r2, b2⟩
  have RD := Lib.hid (RdS.rd r2)
  replace HR := Lib.hid (HR.out.below b2)
  replace B1 := Lib.hid (below_step B1.out b2)
  clear r2 b2
  go_wp2_with fail
  refine (rightS_any A c L _ hb2 HIN.out HR.out).mono ?_
  rintro e w3 ⟨rfl, b3⟩
  rw [h]
  replace RD := Lib.hid (RD.out.below b3)
  replace HR := Lib.hid (HR.out.below b3)
  replace B1 := Lib.hid (below_step B1.out b3)
  clear b3
  go_wp2_with fail
  refine (stays_one A2 A c2 c L L.length rfl hb2 HIN2.out _ RD.out HR.out).mono ?_
  rintro e w4 ⟨rfl, b4⟩
  replace B1 := Lib.hid (below_step B1.out b4)
  clear b4
  go_wp2_with fail
  refine (knows18_any _).mono ?_
  rintro e w5 ⟨rfl, b5⟩
  replace B1 := Lib.hid (below_step B1.out b5)
  clear b5
  go_wp2_with fail
  go_ret
  exact ⟨rfl, B1.out⟩
theorem rightS_n (A : Option Addr) (c : Nat) (L : List Lin) (n : Nat) (b : Bool) (hn : L.length = n) (h : okS L = b) (w : World) (hb : n ≤ 1000000) (hin : ∀ j, j < L.length → (at_ L j).2.1.1.length ≤ 20 ∧ (at_ L j).2.2.1.length ≤ 20) (hr : Rd w A c L) :
    Calls Try.prog 11 #[.slice A n c] w fun e w' => e = .returned (.bool b) ∧ Below w.heap.size w w' := by
  subst hn
  subst h
  exact rightS_any A c L w hb hin hr
set_option maxHeartbeats 3200000 in
theorem ok (A : Option Addr) (c : Nat) (L : List Lin) (w : World) (hg : greatS L = false) (h : okS L = true) (hr : Rd w A c L) :
    Calls Try.prog 4 #[.slice A L.length c] w fun e w' => e = .returned (.bool true) ∧ Below w.heap.size w w' := by
  obtain ⟨hl, hin⟩ := great_no hg
  obtain ⟨d1, d2, d3⟩ := del_okS h
  obtain ⟨D, hD⟩ : ∃ D, delS L = D := ⟨_, rfl⟩
  rw [hD] at d1 d2 d3
  have hinD := small d1
  have hb : L.length ≤ 900000 := by omega
  have hb2 : L.length ≤ 1000000 := by omega
  rw [d2] at hinD
  have HR := Lib.hid hr
  have HIN := Lib.hid hin
  have HIND := Lib.hid hinD
  have HD := Lib.hid hD
  have HL := Lib.hid hl
  have D1 := Lib.hid d1
  have D2 := Lib.hid d2
  have D3 := Lib.hid d3
  clear hr hin hinD hD hl d1 d2 d3
  go_enter Try.func4, Try.ntmps4
  go_wp2_with fail
  refine (great_any A c L _ HR.out).mono ?_
  rintro e w1 ⟨rfl, b1⟩
  rw [hg]
  replace HR := Lib.hid (HR.out.below b1)
  have B1 := Lib.hid b1
  clear b1
  go_wp2_with fail
  refine (deliver_v (S := fun _ => True) L.length D rfl HD.out _ hb HR.out).mono ?_
  rintro e w2 ⟨A2, c2, rfl, r2, b2⟩
  rw [D2.out]
  have RD := Lib.hid (RdS.rd r2)
  replace HR := Lib.hid (HR.out.below b2)
  replace B1 := Lib.hid (below_step B1.out b2)
  clear r2 b2
  go_wp2_with fail
  refine (rightS_any A c L _ hb2 HIN.out HR.out).mono ?_
  rintro e w3 ⟨rfl, b3⟩
  rw [h]
  replace RD := Lib.hid (RD.out.below b3)
  replace HR := Lib.hid (HR.out.below b3)
  replace B1 := Lib.hid (below_step B1.out b3)
  clear b3
  go_wp2_with fail
  refine (as_rows (fun _ => True) A c L L.length rfl h _ HR.out).mono ?_
  rintro e w4 ⟨A4, c4, rfl, o4, b4⟩
  have HR0 : Hid (Rel w3 L A4 c4 0 w4) := ⟨_, List.length_map _, fun j hj => by
    rw [if_neg (by omega), at_get (l := L.map rowOf) (by rw [List.length_map]; omega), List.getElem_map, at_get (by omega)], o4, b4⟩
  clear o4 b4
  go_wp2_with fail
  go_loopw [5] (fun i wr => ∃ k : Nat, i = .int .i64 (k : Int) ∧ k ≤ L.length ∧ Hid (Rel w3 L A4 c4 k wr)) (fun i _ => L.length - (intOf i).toNat)
  case atStart => exact ⟨0, rfl, Nat.zero_le _, HR0⟩
  case round =>
    obtain ⟨k, rfl, hk, HREL⟩ := hrel
    clear HR0
    by_cases hlt : k < L.length
    · have i1 : (k : Int) < (L.length : Int) := by omega
      have i0 : (0 : Int) ≤ (k : Int) := by omega
      have i2 : IntKind.i64.wrap ((k : Int) + 1) = (k : Int) + 1 := IntWalk.i64_in _ (by omega)
      obtain ⟨g, rfl, ⟨P, p, Q, q, ⟨o0, o1, o2, o3, o4⟩, r1, r2⟩, hfz⟩ := rel_cell HREL.out hlt
      have hokk := okS_at h hlt
      obtain ⟨s1, s2, N, s3, s4, s5⟩ := row_small hokk
      have hfp : FitP (rowOf (at_ L k)).1 := port_fit (by
        have := okL_eq (at_ L k)
        rw [hokk] at this
        have := this.symm
        rw [Bool.and_eq_true, Bool.and_eq_true] at this
        exact this.1.1)
      have HY : Hid (delivW (rowOf (at_ L k)) = delivW (rowOf (at_ L k))) := rfl
      have HST : Hid (∀ {w5 : World} {P5 Q5 : Option Addr} {p5 q5 : Nat} {y : Rw}, Below wr.heap.size wr w5 → y = delivW (rowOf (at_ L k)) → FitP y.1 → RdS w5 (Upw (fun _ => False) wr) P5 p5 y.2.1 → RdS w5 (Upw (fun _ => False) wr) Q5 q5 y.2.2 → Rel w3 L (some ⟨g, 0, none⟩) c4 (k + 1) (putC w5 g (k * 5) #[.int .i64 y.1.1, .int .i64 y.1.2.1, .int .i64 y.1.2.2, .slice P5 y.2.1.length p5, .slice Q5 y.2.2.length q5].toList)) := fun b hy hf r1 r2 => rel_step HREL.out hlt b hy hf r1 r2
      generalize rowOf (at_ L k) = x at *
      clear HREL hokk HY
      have f0 := hfz (k * 5)
      have f1 := hfz (k * 5 + 1)
      have f2 := hfz (k * 5 + 2)
      have f3 := hfz (k * 5 + 3)
      have f4 := hfz (k * 5 + 4)
      have l1 : x.2.1.length ≤ 1000 := by omega
      have l2 : x.2.2.length ≤ 1000 := by omega
      have R1 := Lib.hid r1
      have R2 := Lib.hid r2
      have S3 := Lib.hid s3
      have HFP := Lib.hid hfp
      have L1 := Lib.hid l1
      have L2 := Lib.hid l2
      clear r1 r2 s3 hfp l1 l2
      clear hfz s1 s2
      go_wp2_with fail
      refine (refDeliver_any P p Q q x N S3.out s4 s5 L1.out L2.out _ R1.out R2.out).mono ?_
      rintro e w5 ⟨P5, p5, Q5, q5, rfl, k1, k2, b5⟩
      have HD5 := Lib.hid (HST.out b5 rfl HFP.out k1 k2)
      generalize delivW x = y at *
      replace f0 := frozen_below b5 o0 f0
      replace f1 := frozen_below b5 o1 f1
      replace f2 := frozen_below b5 o2 f2
      replace f3 := frozen_below b5 o3 f3
      replace f4 := frozen_below b5 o4 f4
      replace o0 := cell_below b5 o0
      replace o1 := cell_below b5 o1
      replace o2 := cell_below b5 o2
      replace o3 := cell_below b5 o3
      replace o4 := cell_below b5 o4
      clear b5 k1 k2 HST
      go_wp2_with fail
      go_roundw
      case rel => exact ⟨k + 1, by go_num, hlt, by rw [put5k]; exact HD5⟩
      case measure => (simp [intOf] <;> omega)
    · have ek : k = L.length := by omega
      subst ek
      have OR := Lib.hid (rel_done HREL.out h D HD.out)
      have HBW := Lib.hid (rel_below HREL.out)
      clear HREL
      replace RD := Lib.hid (RD.out.below HBW.out)
      replace B1 := Lib.hid (below_step B1.out HBW.out)
      have hbD : D.length ≤ 1000000 := by rw [D2.out]; exact hb2
      have hin3 : ∀ j, j < D.length → (at_ D j).2.1.1.length ≤ 20 ∧ (at_ D j).2.2.1.length ≤ 20 := fun j hj => HIND.out j (by rw [← D2.out]; exact hj)
      have hsz : ∀ j, j < L.length → (at_ (D.map rowOf) j).2.1.length ≤ 1000 ∧ (at_ (D.map rowOf) j).2.2.length ≤ 1000 := fun j hj => by
        have hjd : j < D.length := by rw [D2.out]; exact hj
        have e : at_ (D.map rowOf) j = rowOf (at_ D j) := by rw [at_get (l := D.map rowOf) (by rw [List.length_map]; omega), List.getElem_map, at_get (by omega)]
        have := row_small (okS_at D1.out hjd)
        rw [e]
        omega
      have hlm : (D.map rowOf).length = L.length := by rw [List.length_map]; exact D2.out
      have RS := Lib.hid (rightS_n A2 c2 D L.length true D2.out D1.out)
      have HIN3 := Lib.hid hin3
      have HSZ := Lib.hid hsz
      have HLM := Lib.hid hlm
      clear hin3 hsz hlm
      go_wp2_with fail
      refine (RS.out _ hb2 HIN3.out RD.out).mono ?_
      rintro e w6 ⟨rfl, b6⟩
      replace RD := Lib.hid (RD.out.below b6)
      replace OR := Lib.hid (OR.out.below b6)
      replace B1 := Lib.hid (below_step B1.out b6)
      clear b6 RS
      go_wp2_with fail
      refine (as_rows (fun _ => True) A2 c2 D L.length D2.out D1.out _ RD.out).mono ?_
      rintro e w7 ⟨A7, c7, rfl, o7, b7⟩
      have R7 := Lib.hid o7.rd
      replace OR := Lib.hid (OR.out.below b7)
      replace B1 := Lib.hid (below_step B1.out b7)
      clear b7 o7
      go_wp2_with fail
      refine (sameW_one A7 A4 c7 c4 (D.map rowOf) L.length HLM.out hb2 HSZ.out _ R7.out OR.out.rd).mono ?_
      rintro e w8 ⟨rfl, b8⟩
      replace B1 := Lib.hid (below_step B1.out b8)
      clear b8
      go_wp2_with fail
      refine (knows18_any _).mono ?_
      rintro e w9 ⟨rfl, b9⟩
      replace B1 := Lib.hid (below_step B1.out b9)
      clear b9
      go_wp2_with fail
      go_ret
      exact ⟨rfl, B1.out⟩
theorem walk (A : Option Addr) (c : Nat) (L : List Lin) (w : World) (hr : Rd w A c L) :
    Calls Try.prog 4 #[.slice A L.length c] w fun e w' => e = .returned (.bool true) ∧ Below w.heap.size w w' := by
  cases hg : greatS L with
  | true =>
    have HR := Lib.hid hr
    clear hr
    go_enter Try.func4, Try.ntmps4
    go_wp2_with fail
    refine (great_any A c L _ HR.out).mono ?_
    rintro e w1 ⟨rfl, b1⟩
    rw [hg]
    have B1 := Lib.hid b1
    clear b1
    go_wp2_with fail
    refine (knows18_any _).mono ?_
    rintro e w5 ⟨rfl, b5⟩
    replace B1 := Lib.hid (below_step B1.out b5)
    clear b5
    go_wp2_with fail
    go_ret
    exact ⟨rfl, B1.out⟩
  | false =>
    cases h : okS L with
    | false => exact bad A c L w hg h hr
    | true => exact ok A c L w hg h hr

set_option maxRecDepth 100000 in
theorem lifted (os : Os) (started : os.Started) (H : Type) (enc : TypeId × Value → H) :
    ReturnsInHanded {} Try.checked os 4 .any (Rows.portDeliversSpec.pre6 enc Try.prog Try.f4 Rows.portDeliversRow.domain false) (Rows.portDeliversSpec.post enc Try.prog Try.f4 false true false false) := by
  refine returnsInHanded_of_change (C := Try.checked) own started (by kernel_rfl) Try.func4
    (ChangeSpec.witness6 (enc := enc) (C := Try.checked) false ⟨#[], #[.slice none 0 0], []⟩ 8 (by kernel_rfl) (by kernel_rfl) (by kernel_rfl) (by kernel_rfl)) ?_
  intro W base args ds gs before hval0 hW hcnd _
  have hval : ∀ (j : Nat) t v, Try.f4.params[j]? = some t → args[j]? = some v → Value.okWide Try.prog W .any base t v := hval0
  have hW' := hW
  obtain ⟨p, q, hA0, hV, rfl, hfz, hnd⟩ := hW
  have hA : DataW.TrodAll enc Try.prog W 0 (fun _ => true) true Try.f4.params.toList args.toList ds p := hA0
  rw [Try.params4] at hA hval
  obtain ⟨v0, d0, rfl, rfl, h0⟩ := trodAll_one hA
  obtain ⟨rfl, rfl⟩ := trodVars_none hV
  obtain ⟨A0, c0, l0, rfl, hr0⟩ := Mm.open_list (α := Po.Lin) Try.underlying22 Po.opLines (hval 0 22 v0 rfl rfl) h0
  clear hA0 hval0
  refine (walk A0 c0 l0 W hr0).mono fun e W' ⟨he, bel⟩ => ?_
  subst he
  have hlt0 : ∀ x ∈ p, x.block < W.heap.size := fun x hx => hW'.lt x (by simpa using hx)
  exact ⟨_, rfl, _, _, _, [], _, [], hW', trodAll_mk1 (shut_bool Try.underlying4 _), trodAll_mk1 (Below.trod laidOut (by kernel_rfl) (of_decide_eq_true (by kernel_rfl)) h0 bel hlt0), rfl, bel.frame _, fun h => by cases h⟩

/-- The statement. -/
theorem proved : Rows.PortDeliversSaid :=
  OpenClaim.holds_of_wide 4 Try.f4 rfl rfl rfl rfl rfl rfl rfl ⟨rfl, rfl, rfl, rfl, rfl⟩ rfl rfl rfl rfl rfl (by kernel_rfl) Try.func4 (by kernel_rfl)
    (of_decide_eq_true (by kernel_rfl)) (by unfold Func.isWrapper; first | (rw [if_pos (by decide +kernel)]; kernel_rfl) | (rw [if_neg (by decide +kernel)]; exact ⟨rfl, rfl⟩))
    (fun os started H enc _ => lifted os started H enc)
#print axioms proved

end Go.Proofs.Ytfkcplnjhelclaa.portDelivers
