/-
  Layer 18 (port): Open.
-/
import Derived.Test.YtfkcplnjhelclaaGport
namespace Go.Proofs.Ytfkcplnjhelclaa
open Go.RowKit Mm
namespace Po

/-- the loop of Open: the first k lines are made -/
def OpenRel (w : World) (L : List Pt) (g k : Nat) (wr : World) : Prop :=
  ∃ l : List Lin, l.length = L.length ∧ (∀ j, j < k → at_ l j = openP (at_ L j)) ∧ OwS wr (fun b => w.heap.size ≤ b ∧ b ≠ g) w.heap.size 54 (some ⟨g, 0, none⟩) L.length l ∧ Below w.heap.size w wr
theorem open_done {w wr : World} {L : List Pt} {g : Nat} (h : OpenRel w L g L.length wr) (hg : w.heap.size ≤ g) (f : List Lin) (hf : f = L.map openP) : RdS wr (fun b => w.heap.size ≤ b) (some ⟨g, 0, none⟩) L.length f ∧ Below w.heap.size w wr := by
  obtain ⟨l, hl, hall, ho, hb⟩ := h
  have e : l = f := by
    rw [hf]
    refine at_eq_of (by rw [hl, List.length_map]) fun i hi => ?_
    rw [hall i (by omega), at_get (l := L.map openP) (by rw [List.length_map]; omega), List.getElem_map, at_get (by omega)]
  subst e
  exact ⟨OwS.rdS ho (fun _ hb => hb.1) (fun g' hg' => by injection hg' with hg'; injection hg' with hg'; subst hg'; exact hg), hb⟩
theorem open_step {w wr w5 : World} {L : List Pt} {g k : Nat} {P Q : Option Addr} {p q : Nat} {d : Lin} (h : OpenRel w L g k wr) (hk : k < L.length) (hg : w.heap.size ≤ g) (b : Below wr.heap.size wr w5) (hd : d = openP (at_ L k)) (hf : FitL d) {S5 : Nat → Prop} (r1 : RdS w5 S5 P p d.2.1.1) (r2 : RdS w5 S5 Q q d.2.2.1)
    (hS : ∀ b, S5 b → w.heap.size ≤ b ∧ b ≠ g) : OpenRel w L g (k + 1) (putC w5 g (k * 9) #[.int .i64 d.1.1, .int .i64 d.1.2.1, .int .i64 d.1.2.2, .slice P d.2.1.1.length p, .int .i64 d.2.1.2.1, .int .i64 d.2.1.2.2, .slice Q d.2.2.1.length q, .int .i64 d.2.2.2.1, .int .i64 d.2.2.2.2].toList) := by
  obtain ⟨l, hl, hall, ho, hb⟩ := h
  have ho5 := OwS.below ho b (Nat.le_refl _)
  obtain ⟨k1, k2⟩ := own_puts ho5 (fun h => h.2 rfl) (j := k) (by omega) (rd_line.2 ⟨P, p, Q, q, rfl, hf, r1.sub fun b _ h => hS b h, r2.sub fun b _ h => hS b h⟩)
  refine ⟨l.set k d, by rw [List.length_set]; exact hl, fun j hj => ?_, k1, below_of_gb (below_step hb b) k2 (below_step hb b).size (fun i hi => by injection hi with hi; omega)⟩
  by_cases e : j = k
  · subst e; rw [at_set_same _ (by omega), hd]
  · rw [at_set_other _ e]; exact hall j (by omega)
theorem open_below {w wr : World} {L : List Pt} {g k : Nat} (h : OpenRel w L g k wr) : Below w.heap.size w wr := by
  obtain ⟨l, hl, hall, ho, hb⟩ := h
  exact hb
theorem open_cell {w wr : World} {L : List Pt} {g k : Nat} (h : OpenRel w L g k wr) (hk : k < L.length) : (∃ P p Q q x, CL wr g (k * 9) P p Q q x) ∧ (∀ o, wr.frozen? ⟨g, o, none⟩ = false) ∧ g < wr.heap.size := by
  obtain ⟨l, hl, hall, ho, hb⟩ := h
  obtain ⟨P, p, Q, q, h9⟩ := own_line ho (k := k) (by omega)
  exact ⟨⟨P, p, Q, q, _, h9⟩, own_free ho, h9.lt⟩
theorem okPs_at {L : List Pt} (h : okPs L = true) {j : Nat} (hj : j < L.length) : okP (at_ L j) = true := by
  unfold okPs at h
  rw [Bool.and_eq_true] at h
  exact List.all_eq_true.1 h.2 _ (at_mem hj)
theorem okPs_len {L : List Pt} (h : okPs L = true) : L.length ≤ 4 := by
  unfold okPs at h
  rw [Bool.and_eq_true] at h
  exact of_decide_eq_true h.1
theorem open_ok_line {x : Pt} (h : okP x = true) : okL (openP x) = true := by
  have hc := of_decide_eq_true h
  exact okL_of (n := x.2.2.toNat) h (by show x.2.2 = _; omega) (good_new (by omega)) (good_new (by omega))

theorem buildLine (a b c : Int) (P : Option Addr) (n p : Nat) (f m : Int) (Q : Option Addr) (o q : Nat) (g h : Int) (w : World) : (Instr.build 54 #[(0, .agg #[.int .i64 a, .int .i64 b, .int .i64 c]), (1, (.agg #[.slice P n p, .int .i64 f, .int .i64 m])), (2, (.agg #[.slice Q o q, .int .i64 g, .int .i64 h]))]).run Try.prog w = .ok (.agg #[.int .i64 a, .int .i64 b, .int .i64 c, .slice P n p, .int .i64 f, .int .i64 m, .slice Q o q, .int .i64 g, .int .i64 h]) w := by kernel_rfl

theorem open_fin {w wr w3 w4 w5 : World} {L : List Pt} {g k T : Nat} {x : Pt} {A4 A5 : Option Addr} {c4 c5 : Nat} (h : OpenRel w L g k wr) (hk : k < L.length) (hg : w.heap.size ≤ g) (bN : Below T wr w3) (b4 : Below w3.heap.size w3 w4) (b5 : Below w4.heap.size w4 w5) (hgr : g < T) (hT : T = wr.heap.size) (hx : at_ L k = x) (hok : okP x = true)
    (r4 : RdS w4 (Upw (fun _ => False) w3.drew) A4 c4 (newR x.2.2.toNat).1) (r5 : RdS w5 (Upw (fun _ => False) w4) A5 c5 (newR x.2.2.toNat).1) :
    OpenRel w L g (k + 1) (putC w5 g (k * 9) [.int .i64 x.1, .int .i64 x.2.1, .int .i64 x.2.2, .slice A4 (newR x.2.2.toNat).1.length c4, .int .i64 (newR x.2.2.toNat).2.1, .int .i64 (newR x.2.2.toNat).2.2, .slice A5 (newR x.2.2.toNat).1.length c5, .int .i64 (newR x.2.2.toNat).2.1, .int .i64 (newR x.2.2.toNat).2.2]) := by
  subst hT
  have e : at_ L k = x := hx
  refine open_step (d := openP x) (S5 := fun b => w3.heap.size ≤ b) h hk hg (below_step (below_step bN b4) b5) (by rw [e]) (okL_fit (open_ok_line hok)) ((RdS.below r4 b5).sub fun b _ hb => ?_) (r5.sub fun b _ hb => ?_) fun b hb => ?_
  · exact hb.elim False.elim id
  · exact hb.elim False.elim fun hb => Nat.le_trans b4.size hb
  · have := bN.size
    have hb : w3.heap.size ≤ b := hb
    omega
section
attribute [local go_sem ↓] buildLine
variable {A : Option Addr} {c : Nat} {L : List Pt}
theorem open_bad (w : World) (hb : L.length ≤ 900000) (hr : Rd w A c L) (h : okPs L = false) :
    Calls Try.prog 20 #[.slice A L.length c] w (SendOf w (fun _ => False) [] 1) := by
  have HR := Lib.hid hr
  clear hr
  go_enter Try.func20, Try.ntmps20
  go_wp2_with fail
  refine (ports_any A c L _ (by omega) HR.out).mono ?_
  rintro e w1 ⟨rfl, b1⟩
  rw [h]
  have B1 := Lib.hid b1
  clear b1
  go_wp2_with fail
  go_ret2
  exact ⟨none, 0, rfl, rd_nil (fun _ => rfl) (Nat.zero_le _), B1.out⟩
set_option maxHeartbeats 3200000 in
theorem open_ok (w : World) (hr : Rd w A c L) (h : okPs L = true) (f : List Lin) (hf : f = L.map openP) :
    Calls Try.prog 20 #[.slice A L.length c] w (SendOf w (fun _ => False) f 0) := by
  have h4 := okPs_len h
  have hlen : f.length = L.length := by rw [hf, List.length_map]
  have HR := Lib.hid hr
  have HF := Lib.hid hf
  have HLEN := Lib.hid hlen
  clear hr hf hlen
  go_enter Try.func20, Try.ntmps20
  go_wp2_with fail
  refine (ports_any A c L _ (by omega) HR.out).mono ?_
  rintro e w1 ⟨rfl, b1⟩
  rw [h]
  have HOK := Lib.hid h
  have B1 := Lib.hid b1
  clear b1
  clear h
  go_wp2_with (at_make; refine list_mkL rfl _ _ rfl (base := w.heap.size) L.length rfl rfl (by omega) (by exact B1.out.size) ?_)
  intro w2 k1 k2
  have b2 : Below w.heap.size w w2 := below_of_gb B1.out k2 B1.out.size (fun k hk => by cases hk)
  have HL0 : Hid (OpenRel w L w1.heap.size 0 w2) := ⟨_, List.length_replicate, fun j hj => by omega, OwS.sub k1 fun _ h => h.elim, b2⟩
  have HGW : Hid (w.heap.size ≤ w1.heap.size) := B1.out.size
  clear k1 k2 b2
  generalize w1.heap.size = g at *
  go_wp2_with fail
  go_loopw [15] (fun i wr => ∃ k : Nat, i = .int .i64 (k : Int) ∧ k ≤ L.length ∧ Hid (OpenRel w L g k wr)) (fun i _ => L.length - (intOf i).toNat)
  case atStart => exact ⟨0, rfl, Nat.zero_le _, HL0⟩
  case round =>
    obtain ⟨k, rfl, hk, HD⟩ := hrel
    by_cases hlt : k < L.length
    · have i1 : (k : Int) < (L.length : Int) := by omega
      have i0 : (0 : Int) ≤ (k : Int) := by omega
      have i2 : IntKind.i64.wrap ((k : Int) + 1) = (k : Int) + 1 := IntWalk.i64_in _ (by omega)
      have HBW := Lib.hid (open_below HD.out)
      obtain ⟨b, off, rfl, hc⟩ := port_at (HR.out.below HBW.out) (by omega)
      obtain ⟨h9, _⟩ := hc k hlt
      have HOX := Lib.hid (okPs_at HOK.out hlt)
      obtain ⟨⟨P', p', Q', q', x', o0, o1, o2, o3, o4, o5, o6, o7, o8⟩, hfz, hgr⟩ := open_cell HD.out hlt
      obtain ⟨x, hx⟩ : ∃ x, at_ L k = x := ⟨_, rfl⟩
      have HX := Lib.hid hx
      rw [hx] at h9 HOX
      obtain ⟨x0, x1, x2⟩ := h9
      have HN := Lib.hid (below_one wr (Obj.cells #[.int .i64 x.1, .int .i64 x.2.1, .int .i64 x.2.2] 34))
      have HY := Lib.hid (cp_new wr x 34 rfl)
      obtain ⟨y0, y1, y2⟩ := HY.out
      rw [Nat.zero_add] at y1 y2
      have hcc := of_decide_eq_true HOX.out
      have i3 : 1 ≤ x.2.2 := hcc.2.2.2.2.2.1
      have i4 : x.2.2 ≤ 4 := hcc.2.2.2.2.2.2
      have I3 := Lib.hid i3
      have I4 := Lib.hid i4
      have HGR := Lib.hid hgr
      have HFZ := Lib.hid hfz
      clear hc hx hcc i3 i4 HY hfz hgr
      go_wp2_with fail
      have f0 := frozen_below HN.out o0 (HFZ.out _)
      have f1 := frozen_below HN.out o1 (HFZ.out _)
      have f2 := frozen_below HN.out o2 (HFZ.out _)
      have f3 := frozen_below HN.out o3 (HFZ.out _)
      have f4 := frozen_below HN.out o4 (HFZ.out _)
      have f5 := frozen_below HN.out o5 (HFZ.out _)
      have f6 := frozen_below HN.out o6 (HFZ.out _)
      have f7 := frozen_below HN.out o7 (HFZ.out _)
      have f8 := frozen_below HN.out o8 (HFZ.out _)
      replace o0 := cell_below HN.out o0
      replace o1 := cell_below HN.out o1
      replace o2 := cell_below HN.out o2
      replace o3 := cell_below HN.out o3
      replace o4 := cell_below HN.out o4
      replace o5 := cell_below HN.out o5
      replace o6 := cell_below HN.out o6
      replace o7 := cell_below HN.out o7
      replace o8 := cell_below HN.out o8
      clear x0 x1 x2 HFZ
      generalize wr.alloc (Obj.cells #[.int .i64 x.1, .int .i64 x.2.1, .int .i64 x.2.2] 34) = w3 at *
      generalize hT : wr.heap.size = T at *
      have HT := Lib.hid hT
      clear hT
      go_region_with (first
                      | (have _h := B4
                         go_at_call 34
                         refine (empty_any (fun _ => False) x.1 x.2.1 x.2.2 _ I3.out I4.out).mono ?_
                         rintro e w5 ⟨A5, c5, rfl, r5, b5⟩
                         have bX : Below w4.heap.size w4 w5 := b5
                         have R5 := Lib.hid r5
                         have B5 := Lib.hid bX
                         have f0 := frozen_below bX o0 f0
                         have f1 := frozen_below bX o1 f1
                         have f2 := frozen_below bX o2 f2
                         have f3 := frozen_below bX o3 f3
                         have f4 := frozen_below bX o4 f4
                         have f5 := frozen_below bX o5 f5
                         have f6 := frozen_below bX o6 f6
                         have f7 := frozen_below bX o7 f7
                         have f8 := frozen_below bX o8 f8
                         have o0 := cell_below bX o0
                         have o1 := cell_below bX o1
                         have o2 := cell_below bX o2
                         have o3 := cell_below bX o3
                         have o4 := cell_below bX o4
                         have o5 := cell_below bX o5
                         have o6 := cell_below bX o6
                         have o7 := cell_below bX o7
                         have o8 := cell_below bX o8
                         have y0 := cell_below bX y0
                         have y1 := cell_below bX y1
                         have y2 := cell_below bX y2
                         clear b5 r5 bX _h)
                      | (go_at_call 34
                         refine (empty_any (fun _ => False) x.1 x.2.1 x.2.2 _ I3.out I4.out).mono ?_
                         rintro e w4 ⟨A4, c4, rfl, r4, b4⟩
                         have bX : Below w3.heap.size w3 w4 := (Below.refl _ w3).drew.trans b4
                         have R4 := Lib.hid r4
                         have B4 := Lib.hid bX
                         have f0 := frozen_below bX o0 f0
                         have f1 := frozen_below bX o1 f1
                         have f2 := frozen_below bX o2 f2
                         have f3 := frozen_below bX o3 f3
                         have f4 := frozen_below bX o4 f4
                         have f5 := frozen_below bX o5 f5
                         have f6 := frozen_below bX o6 f6
                         have f7 := frozen_below bX o7 f7
                         have f8 := frozen_below bX o8 f8
                         have o0 := cell_below bX o0
                         have o1 := cell_below bX o1
                         have o2 := cell_below bX o2
                         have o3 := cell_below bX o3
                         have o4 := cell_below bX o4
                         have o5 := cell_below bX o5
                         have o6 := cell_below bX o6
                         have o7 := cell_below bX o7
                         have o8 := cell_below bX o8
                         have y0 := cell_below bX y0
                         have y1 := cell_below bX y1
                         have y2 := cell_below bX y2
                         clear b4 r4 bX))
      all_goals
        go_wp2_with fail
        go_roundw
        case rel => exact ⟨k + 1, by go_num, hlt, by rw [put9k]; exact open_fin HD.out hlt HGW.out HN.out B4.out B5.out HGR.out HT.out.symm HX.out HOX.out R4.out R5.out⟩
        case measure => simp [intOf]; omega
    · have ek : k = L.length := by omega
      subst ek
      have HE := Lib.hid (open_done HD.out HGW.out f HF.out)
      go_wp2_with fail
      go_ret2
      exact ⟨some ⟨g, 0, none⟩, L.length, by rw [HLEN.out]; rfl, HE.out.1.sub fun _ _ h => .inr h, HE.out.2⟩
theorem open_any (w : World) (hb : L.length ≤ 900000) (hr : Rd w A c L) :
    Calls Try.prog 20 #[.slice A L.length c] w (SendOf w (fun _ => False) (openS L) (openE L)) := by
  unfold openS openE
  cases h : okPs L with
  | false => exact open_bad w hb hr h
  | true => exact open_ok w hr h _ rfl
theorem open_v (n : Nat) (L' : List Lin) (E : Int) (hn : L.length = n) (hL : openS L = L') (hE : openE L = E) (w : World) (hb : n ≤ 900000) (hr : Rd w A c L) :
    Calls Try.prog 20 #[.slice A n c] w (SendOf w (fun _ => False) L' E) := by
  subst hn; subst hL; subst hE
  exact open_any w hb hr
end

end Po
end Go.Proofs.Ytfkcplnjhelclaa
