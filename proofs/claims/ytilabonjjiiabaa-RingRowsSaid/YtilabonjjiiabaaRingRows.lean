/-
  For every int, every list of ints and every list of bools the statement RingRows of layer 3 returns true (what is pushed is popped in its order, and nothing else: as many pushes and pops as are told come to what a row comes to), and its arguments read as before. No condition.
-/
import Derived.Test.YtilabonjjiiabaaLaw03Args
import Derived.Deep.RegionHeld3
namespace Go.Proofs.Ytilabonjjiiabaa.ringRows
open Go.ChangeShapes Go.WideShapes Go.ChangeAt Go.RowKit
open Rn
attribute [local go_sem ↓] Go.wp_at_zero Go.wp_at_succ
attribute [local go_sem ↓] build_ring build_some build_none build_ref build_refSome

theorem no (n : Int) (A0 : Option Addr) (c0 k0 : Nat) (A1 : Option Addr) (c1 k1 : Nat) (w : World) (h : n < 1 ∨ 4 < n) :
    Calls Try.prog 7 #[.int .i64 n, .slice A0 k0 c0, .slice A1 k1 c1] w fun e w' => e = .returned (.bool true) ∧ Below w.heap.size w w' := by
  have H := Lib.hid h
  clear h
  go_enter Try.func7, Try.ntmps7
  go_wp2_with fail
  refine (new_no n _ H.out).mono ?_
  rintro e w1 ⟨rfl, b1⟩
  have B1 : Hid (Below w.heap.size w (w1.alloc (.cells #[.slice none 0 0, .int .i64 0, .int .i64 0] 24))) := below_step b1 (below_one _ _)
  clear b1
  go_wp2_with fail
  refine (knows_any _).mono ?_
  rintro e w2 ⟨rfl, b2⟩
  have B2 := Lib.hid (below_step B1.out b2)
  clear b2
  go_wp2_with fail
  go_ret
  exact ⟨rfl, B2.out⟩

/-- the loop: the ring's messages are the row -/
def RowsRel (w : World) (X N : Nat) (A B : Option Addr) (c d f m : Nat) (b row : List Int) (wr : World) : Prop :=
  m ≤ N ∧ f < N ∧ b.length = N ∧ msgs b f m = row ∧ row.length ≤ d ∧ Rd wr A c b ∧ Rd wr B d row ∧ Box wr X A N c (f : Int) (m : Int) ∧ Ap A X ∧ Ap B X ∧ Below w.heap.size w wr

theorem gb_cell {a b : World} {row : Option Nat} (h : a.grownBy b row) {p : Addr} {v : Value} (hc : a.cell? p = some v) (hne : some p.block ≠ row) : b.cell? p = some v :=
  (World.cell?_of_block (w := a) (h.block p.block (lt_of_cell hc) hne)).trans hc
theorem own_lit2 (w : World) (o : Obj) : Ow ((w.alloc o).alloc (.cells #[] 3)) w.heap.size (some ⟨w.heap.size + 1, 0, none⟩) 0 [] := by
  have h : (w.alloc o).heap.size = w.heap.size + 1 := by simp
  rw [← h]
  exact own_lit (w.alloc o) w.heap.size (by omega)
theorem cell_o (w : World) (v : Int) : (w.alloc (.cells #[.int .i64 v] 3)).cell? ⟨w.heap.size, 0, none⟩ = some (.int .i64 v) := by go_simp
theorem cell_eo (w : World) (v : Int) : ((w.alloc (.cells #[] 3)).alloc (.cells #[.int .i64 v] 3)).drew.cell? ⟨w.heap.size + 1, 0, none⟩ = some (.int .i64 v) := by
  have h := cell_o (w.alloc (.cells #[] 3)) v
  rw [show (w.alloc (.cells #[] 3)).heap.size = w.heap.size + 1 from by simp] at h
  exact h
theorem cell_oe (w : World) (v : Int) : ((w.alloc (.cells #[.int .i64 v] 3)).alloc (.cells #[] 3)).drew.cell? ⟨w.heap.size, 0, none⟩ = some (.int .i64 v) := cell_new (cell_o w v) _
theorem ne_eo (w : World) : some (w.heap.size + 1) ≠ (Value.slice (some ⟨w.heap.size, 0, none⟩) ([] : List Int).length 0).ownBlock := fun h => by simp [Value.ownBlock] at h
theorem ne_oe (w : World) : some w.heap.size ≠ (Value.slice (some ⟨w.heap.size + 1, 0, none⟩) ([] : List Int).length 0).ownBlock := fun h => by simp [Value.ownBlock] at h
theorem row_at (w : World) (j : Nat) : ∀ k, (Value.slice (some ⟨w.heap.size + j, 0, none⟩) ([] : List Int).length 0).ownBlock = some k → w.heap.size ≤ k := fun k hk => by simp [Value.ownBlock] at hk; omega
theorem ap_none (X : Nat) : Ap none X := fun _ _ e => by cases e
theorem rd_set {w : World} {X : Nat} {B : Option Addr} {d : Nat} {row : List Int} (h : Rd w B d row) (hX : 0 < row.length → Ap B X) (A' : Option Addr) (n' c' : Nat) (f' m' : Int) : Rd (((w.setCell ⟨X, 0, none⟩ (.slice A' n' c')).setCell ⟨X, 1, none⟩ (.int .i64 f')).setCell ⟨X, 2, none⟩ (.int .i64 m')) B d row := by
  rcases row with _ | ⟨x, r⟩
  · exact Rd.none_ h.1
  · exact h.set (hX (by simp)) _ _ _ _ _
theorem ap_back {g o X k : Nat} (h : Ap (some ⟨g, o, none⟩) X) : Ap (some ⟨g, o + k, none⟩) X := fun b off e => by
  injection e with e
  injection e with e1 e2
  subst e1
  exact h g o rfl

set_option maxHeartbeats 12800000 in
set_option maxRecDepth 100000 in
theorem some_ (N : Nat) (A0 : Option Addr) (c0 : Nat) (l : List Int) (A1 : Option Addr) (c1 : Nat) (ps : List Bool) (w : World) (hN1 : 1 ≤ N) (hN4 : N ≤ 4) (hr : Rd w A0 c0 l) (hp : RdB w A1 ps) :
    Calls Try.prog 7 #[.int .i64 (N : Int), .slice A0 l.length c0, .slice A1 ps.length c1] w fun e w' => e = .returned (.bool true) ∧ Below w.heap.size w w' := by
  have HR := Lib.hid hr
  have HPs := Lib.hid hp
  clear hr hp
  go_enter Try.func7, Try.ntmps7
  go_wp2_with fail
  refine (new_n N _ _ hN1 hN4 rfl).mono ?_
  rintro e w1 ⟨An, rfl, o1, b1⟩
  have Bn : Hid (Below w.heap.size w (w1.alloc (.cells #[.slice An N N, .int .i64 0, .int .i64 0] 24))) := below_step b1 (below_one _ _)
  have Rn' : Hid (Rd (w1.alloc (.cells #[.slice An N N, .int .i64 0, .int .i64 0] 24)) An N (zeros N)) := o1.rd.alloc _
  have Cn : Hid (Box (w1.alloc (.cells #[.slice An N N, .int .i64 0, .int .i64 0] 24)) w1.heap.size An N N 0 0) := box_new _ _ _ _ _ _
  have Dn : Hid (Ap An w1.heap.size) := o1.rd.ap (by rw [zeros_length]; omega) (Nat.le_refl _)
  have HX : Hid (w.heap.size ≤ w1.heap.size) := b1.size
  clear o1 b1
  go_wp2_with fail
  generalize w1.heap.size = X at *
  generalize (w1.alloc (.cells #[.slice An N N, .int .i64 0, .int .i64 0] 24)) = w2 at *
  go_loopw [9, 10] (fun r i wr => ∃ (k : Nat) (A B : Option Addr) (c d f m : Nat) (b row : List Int), i = .int .i64 (k : Int) ∧ r = .slice B row.length d ∧ k ≤ 60 ∧ RowsRel w X N A B c d f m b row wr) (fun _ i _ => 60 - (intOf i).toNat)
  case atStart => exact ⟨0, An, none, N, 0, 0, 0, zeros N, [], rfl, rfl, by omega, by omega, by omega, zeros_length N, rfl, by simp, Rn'.out, Rd.nil _, Cn.out, Dn.out, ap_none _, Bn.out⟩
  case round =>
    obtain ⟨k, A, B, c, d, f, m, b, row, rfl, rfl, hk, hm, hf, hbN, hmsg, hrd, ha, hb, hC, hDA, hDB, hB⟩ := hrel
    have hrl : row.length = m := by rw [← hmsg, msgs_length]
    have HA := Lib.hid ha
    have HBd := Lib.hid hb
    have HC := Lib.hid hC
    have HDA := Lib.hid hDA
    have HDB := Lib.hid hDB
    have HB := Lib.hid hB
    have HMs := Lib.hid hmsg
    have HbN := Lib.hid hbN
    have Hrl := Lib.hid hrl
    clear ha hb hC hDA hDB hB hmsg hbN hrl Rn' Cn Dn Bn
    by_cases hgo : k < l.length ∧ k < ps.length ∧ k < 60
    · obtain ⟨hg1, hg2, hg3⟩ := hgo
      obtain ⟨lb, lo, rfl, hc⟩ := (HR.out.below HB.out).2 (by omega)
      obtain ⟨pb, po, rfl, hpc⟩ := (HPs.out.below HB.out) (by omega)
      have l1 := hc k hg1
      have p1 := hpc k hg2
      clear hc hpc
      have q1 : (0 : Int) ≤ (k : Int) := by omega
      have q2 : (k : Int) < (l.length : Int) := by omega
      have q3 : (k : Int) < (ps.length : Int) := by omega
      have q4 : (k : Int) < 60 := by omega
      obtain ⟨⟨x0, x1, x2⟩, ⟨g0, g1, g2⟩⟩ := HC.out
      cases hpp : ps.getD k false with
      | true =>
        rw [hpp] at p1
        clear hpp l1
        by_cases hm0 : m = 0
        · subst hm0
          have hr0 := List.eq_nil_of_length_eq_zero Hrl.out
          subst hr0
          go_wp2_with fail
          refine (pop_none A N c f _ hf).mono ?_
          rintro e w4 ⟨rfl, b4⟩
          have n4 : X ≠ w4.heap.size := by have := (HC.out.step b4).lt; omega
          have C4 : Hid (Box (w4.alloc (.cells #[.slice A N c, .int .i64 (f : Int), .int .i64 0] 24)) X A N c (f : Int) 0) := (HC.out.step b4).alloc _
          have M4 : Hid (Rd (w4.alloc (.cells #[.slice A N c, .int .i64 (f : Int), .int .i64 0] 24)) A c b) := (HA.out.below b4).alloc _
          have S4 : Hid (Rd (w4.alloc (.cells #[.slice A N c, .int .i64 (f : Int), .int .i64 0] 24)) B d []) := (HBd.out.below b4).alloc _
          have B4 : Hid (Below w.heap.size w (w4.alloc (.cells #[.slice A N c, .int .i64 (f : Int), .int .i64 0] 24))) := below_step (below_step HB.out b4) (below_one _ _)
          clear x0 x1 x2 g0 g1 g2 p1
          obtain ⟨⟨x0, x1, x2⟩, ⟨g0, g1, g2⟩⟩ := C4.out
          clear b4
          go_wp2_with fail
          go_roundw
          case rel => exact ⟨k + 1, A, B, c, d, f, 0, b, [], by go_num, rfl, by omega, by omega, hf, HbN.out, HMs.out, by simp, M4.out.set HDA.out _ _ _ _ _, S4.out.set HDB.out _ _ _ _ _, C4.out.set _ _ _ _ _, HDA.out, HDB.out, below_set B4.out HX.out _ _ _ _ _⟩
          case measure => simp [intOf]; omega
        · obtain ⟨m', Hm'⟩ : ∃ m', Hid (m = m' + 1) := ⟨m - 1, by show _ = _; omega⟩
          obtain ⟨p, HP⟩ : ∃ p, Hid (p = (f + 1) % N) := ⟨_, rfl⟩
          have hpN : p < N := by rw [HP.out]; exact place_lt _ (by omega)
          have hmN : m' < N := by have := Hm'.out; omega
          have hrow : row = at_ b f :: msgs b p m' := by
            have h := HMs.out
            rw [Hm'.out, msgs_pop b f m' (by rw [HbN.out]; exact hf), HbN.out, ← HP.out] at h
            exact h.symm
          have hat : at_ row 0 = at_ b f := by rw [hrow]; rfl
          have HD : Hid (row.drop 1 = msgs b p m') := by show List.drop _ _ = _; rw [hrow]; rfl
          have HL : Hid ((msgs b p m').length = row.length - 1) := by show List.length _ = _; rw [hrow]; rfl
          have hs0 : 0 < row.length := by have := Hrl.out; omega
          have hne : (m : Int) ≠ 0 := by omega
          have h1 : ((row.length : Int) == 0) = false := beq_eq_false_iff_ne.2 (by omega)
          have h2 : (0 : Int) < (row.length : Int) := by omega
          have h3 : (1 : Int) ≤ (row.length : Int) := by omega
          have h4 : (row.length : Int) ≤ (d : Int) := by omega
          have h5 : (1 : Int) ≤ (d : Int) := by omega
          obtain ⟨g, o, rfl, hgc⟩ := HBd.out.2 hs0
          have R0 := hgc 0 hs0
          rw [hat, Nat.add_zero] at R0
          have HR0 := Lib.hid R0
          clear hgc hrow hat R0
          go_wp2_with fail
          refine (pop_n A N c b f p m' _ (p : Int) _ (m' : Int) (at_ b f) _ HbN.out rfl HP.out rfl (by have := Hm'.out; omega) rfl rfl (by omega) hf hmN HA.out).mono ?_
          rintro e w4 ⟨rfl, b4⟩
          have n4 : X ≠ w4.heap.size := by have := (HC.out.step b4).lt; omega
          have r0 := cell_new (cell_below b4 HR0.out) (.cells #[.slice A N c, .int .i64 (p : Int), .int .i64 (m' : Int)] 24)
          have C4 : Hid (Box (w4.alloc (.cells #[.slice A N c, .int .i64 (p : Int), .int .i64 (m' : Int)] 24)) X A N c (f : Int) (m : Int)) := (HC.out.step b4).alloc _
          have Y4 : Hid (Box (w4.alloc (.cells #[.slice A N c, .int .i64 (p : Int), .int .i64 (m' : Int)] 24)) w4.heap.size A N c (p : Int) (m' : Int)) := box_new _ _ _ _ _ _
          have M4 : Hid (Rd (w4.alloc (.cells #[.slice A N c, .int .i64 (p : Int), .int .i64 (m' : Int)] 24)) A c b) := (HA.out.below b4).alloc _
          have S4 : Hid (Rd (w4.alloc (.cells #[.slice A N c, .int .i64 (p : Int), .int .i64 (m' : Int)] 24)) (some ⟨g, o, none⟩) d row) := (HBd.out.below b4).alloc _
          have B4 : Hid (Below w.heap.size w (w4.alloc (.cells #[.slice A N c, .int .i64 (p : Int), .int .i64 (m' : Int)] 24))) := below_step (below_step HB.out b4) (below_one _ _)
          clear x0 x1 x2 g0 g1 g2 p1 b4
          obtain ⟨⟨x0, x1, x2⟩, ⟨g0, g1, g2⟩⟩ := C4.out
          by_cases hd1 : d = 1
          · subst hd1
            have HSE : Hid (msgs b p m' = []) := List.eq_nil_of_length_eq_zero (by rw [HL.out]; omega)
            go_wp2_with fail
            go_roundw
            case rel => exact ⟨k + 1, A, some ⟨g, o, none⟩, c, 0, p, m', b, [], by go_num, rfl, by omega, by omega, hpN, HbN.out, HSE.out, by simp, M4.out.set HDA.out _ _ _ _ _, Rd.none_ (fun h => by cases h), C4.out.set _ _ _ _ _, HDA.out, HDB.out, below_set B4.out HX.out _ _ _ _ _⟩
            case measure => simp [intOf]; omega
          · go_wp2_with fail
            go_roundw
            case rel => exact ⟨k + 1, A, some ⟨g, o + 1, none⟩, c, d - 1, p, m', b, msgs b p m', by go_num, by rw [HL.out], by omega, by omega, hpN, HbN.out, rfl, by rw [HL.out]; omega, M4.out.set HDA.out _ _ _ _ _, by (have h := Rd.set (S4.out.backAt 1 (d - 1)) (ap_back HDB.out) A N c (p : Int) (m' : Int)); rw [HD.out] at h; exact h, C4.out.set _ _ _ _ _, HDA.out, ap_back HDB.out, below_set B4.out HX.out _ _ _ _ _⟩
            case measure => simp [intOf]; omega
      | false =>
        rw [hpp] at p1
        clear hpp
        generalize hv : at_ l k = v at *
        clear hv
        have nX : X ≠ wr.heap.size := by have := HC.out.lt; omega
        have nl : lb ≠ wr.heap.size := by have := lt_of_cell l1; have h : lb < wr.heap.size := this; omega
        by_cases hfull : m = N
        · subst hfull
          go_wp2_with fail
          go_region_held3 (fun w' => w'.cell? ⟨X, 0, none⟩ = some (.slice A m c) ∧ w'.cell? ⟨X, 1, none⟩ = some (.int .i64 (f : Int)) ∧ w'.cell? ⟨X, 2, none⟩ = some (.int .i64 (m : Int)) ∧ w'.cell? ⟨lb, lo + k, none⟩ = some (.int .i64 v) ∧ Hid (Below wr.heap.size wr w'))
            (first
              | (exact ⟨z0, z1, z2, z3, bX⟩)
              | (exact ⟨x0, x1, x2, l1, (Below.refl _ wr).drew⟩)
              | (exact ⟨cell_new x0 _, cell_new x1 _, cell_new x2 _, cell_new l1 _, (below_one wr _).drew⟩)
              | (exact ⟨cell_new z0 _, cell_new z1 _, cell_new z2 _, cell_new z3 _, below_step bX (below_one _ _)⟩)
              | (exact ⟨cell_far (cell_far (cell_far z0 nX _) nX _) nX _, cell_far (cell_far (cell_far z1 nX _) nX _) nX _, cell_far (cell_far (cell_far z2 nX _) nX _) nX _, cell_far (cell_far (cell_far z3 nl _) nl _) nl _, below_set bX (Nat.le_refl _) _ _ _ _ _⟩))
            (first
              | (go_at_call 17; refine (push_full A m c f _ v _ hf rfl).mono ?_; rintro e w4 ⟨rfl, b4⟩
                 first
                   | have bX : Hid (Below wr.heap.size wr w4) := (Below.refl _ wr).drew.trans b4
                   | have bX : Hid (Below wr.heap.size wr w4) := (below_one wr _).drew.trans (b4.mono (by simp))
                 have bX := bX.out
                 have z0 := cell_below bX x0
                 have z1 := cell_below bX x1
                 have z2 := cell_below bX x2
                 have z3 := cell_below bX l1
                 first
                   | (have y4 : Box w4 wr.heap.size none 0 0 0 0 := (box_new wr none 0 0 0 0).step ((Below.refl _ _).drew.trans b4); obtain ⟨⟨y0, y1, y2⟩, ⟨f0, f1, f2⟩⟩ := y4)
                   | skip
                 clear b4))
          · have bX' : Below wr.heap.size wr w4 := bX
            have C5 : Hid (Box (w4.alloc (.cells #[.slice A m c, .int .i64 (f : Int), .int .i64 (m : Int)] 24)) X A m c (f : Int) (m : Int)) := (HC.out.step bX').alloc _
            have Y5 : Hid (Box (w4.alloc (.cells #[.slice A m c, .int .i64 (f : Int), .int .i64 (m : Int)] 24)) w4.heap.size A m c (f : Int) (m : Int)) := box_new _ _ _ _ _ _
            have M5 : Hid (Rd (w4.alloc (.cells #[.slice A m c, .int .i64 (f : Int), .int .i64 (m : Int)] 24)) A c b) := (HA.out.below bX').alloc _
            have S5 : Hid (Rd (w4.alloc (.cells #[.slice A m c, .int .i64 (f : Int), .int .i64 (m : Int)] 24)) B d row) := (HBd.out.below bX').alloc _
            have B5 : Hid (Below w.heap.size w (w4.alloc (.cells #[.slice A m c, .int .i64 (f : Int), .int .i64 (m : Int)] 24))) := below_step (below_step HB.out bX') (below_one _ _)
            have nY : X ≠ w4.heap.size := by have := (HC.out.step bX').lt; omega
            go_split_ands
            clear x0 x1 x2 g0 g1 g2 z0 z1 z2 z3 p1 l1 bX bX' nX nl
            generalize (w4.alloc (.cells #[.slice A m c, .int .i64 (f : Int), .int .i64 (m : Int)] 24)) = w5 at *
            have wY : ∃ Y, Hid (w4.heap.size = Y) := ⟨_, rfl⟩
            obtain ⟨Y, HY⟩ := wY
            rw [HY.out] at Y5 nY ⊢
            clear HY
            obtain ⟨⟨x0, x1, x2⟩, ⟨g0, g1, g2⟩⟩ := C5.out
            obtain ⟨⟨y0, y1, y2⟩, _⟩ := Y5.out
            have hlt : (m : Int) ≤ (row.length : Int) := by have := Hrl.out; omega
            go_wp2_with fail
            go_roundw
            case rel => exact ⟨k + 1, A, B, c, d, f, m, b, row, by go_num, rfl, by omega, hm, hf, HbN.out, HMs.out, hrd, M5.out.set HDA.out _ _ _ _ _, S5.out.set HDB.out _ _ _ _ _, C5.out.set _ _ _ _ _, HDA.out, HDB.out, below_set B5.out HX.out _ _ _ _ _⟩
            case measure => simp [intOf]; omega
          · have bX' : Below wr.heap.size wr w4 := bX
            have C5 : Hid (Box (((w4.setCell ⟨wr.heap.size, 0, none⟩ (.slice A m c)).setCell ⟨wr.heap.size, 1, none⟩ (.int .i64 (f : Int))).setCell ⟨wr.heap.size, 2, none⟩ (.int .i64 (m : Int))) X A m c (f : Int) (m : Int)) := (HC.out.step bX').far nX _ _ _ _ _
            have Y5 : Hid (Box (((w4.setCell ⟨wr.heap.size, 0, none⟩ (.slice A m c)).setCell ⟨wr.heap.size, 1, none⟩ (.int .i64 (f : Int))).setCell ⟨wr.heap.size, 2, none⟩ (.int .i64 (m : Int))) wr.heap.size A m c (f : Int) (m : Int)) := Box.set (A := none) (n := 0) (c := 0) (f := 0) (m := 0) ⟨⟨y0, y1, y2⟩, ⟨f0, f1, f2⟩⟩ _ _ _ _ _
            have M5 : Hid (Rd (((w4.setCell ⟨wr.heap.size, 0, none⟩ (.slice A m c)).setCell ⟨wr.heap.size, 1, none⟩ (.int .i64 (f : Int))).setCell ⟨wr.heap.size, 2, none⟩ (.int .i64 (m : Int))) A c b) := (HA.out.below bX').set (HA.out.ap (by rw [HbN.out]; omega) (Nat.le_refl _)) _ _ _ _ _
            have S5 : Hid (Rd (((w4.setCell ⟨wr.heap.size, 0, none⟩ (.slice A m c)).setCell ⟨wr.heap.size, 1, none⟩ (.int .i64 (f : Int))).setCell ⟨wr.heap.size, 2, none⟩ (.int .i64 (m : Int))) B d row) := rd_set (HBd.out.below bX') (fun h0 => HBd.out.ap h0 (Nat.le_refl _)) _ _ _ _ _
            have B5 : Hid (Below w.heap.size w (((w4.setCell ⟨wr.heap.size, 0, none⟩ (.slice A m c)).setCell ⟨wr.heap.size, 1, none⟩ (.int .i64 (f : Int))).setCell ⟨wr.heap.size, 2, none⟩ (.int .i64 (m : Int)))) := below_set (below_step HB.out bX') HB.out.size _ _ _ _ _
            have nY : X ≠ wr.heap.size := nX
            go_split_ands
            clear x0 x1 x2 g0 g1 g2 z0 z1 z2 z3 p1 l1 bX bX' nX nl
            clear y0 y1 y2 f0 f1 f2
            generalize (((w4.setCell ⟨wr.heap.size, 0, none⟩ (.slice A m c)).setCell ⟨wr.heap.size, 1, none⟩ (.int .i64 (f : Int))).setCell ⟨wr.heap.size, 2, none⟩ (.int .i64 (m : Int))) = w5 at *
            have wY : ∃ Y, Hid (wr.heap.size = Y) := ⟨_, rfl⟩
            obtain ⟨Y, HY⟩ := wY
            rw [HY.out] at Y5 nY ⊢
            clear HY
            obtain ⟨⟨x0, x1, x2⟩, ⟨g0, g1, g2⟩⟩ := C5.out
            obtain ⟨⟨y0, y1, y2⟩, _⟩ := Y5.out
            have hlt : (m : Int) ≤ (row.length : Int) := by have := Hrl.out; omega
            go_wp2_with fail
            go_roundw
            case rel => exact ⟨k + 1, A, B, c, d, f, m, b, row, by go_num, rfl, by omega, hm, hf, HbN.out, HMs.out, hrd, M5.out.set HDA.out _ _ _ _ _, S5.out.set HDB.out _ _ _ _ _, C5.out.set _ _ _ _ _, HDA.out, HDB.out, below_set B5.out HX.out _ _ _ _ _⟩
            case measure => simp [intOf]; omega
        · have hmN : m < N := by omega
          have HE : ∃ b', Hid (b.set ((f + m) % N) v = b') := ⟨_, rfl⟩
          obtain ⟨b', HB'⟩ := HE
          have HbN' : Hid (b'.length = N) := by show _ = _; rw [← HB'.out, List.length_set, HbN.out]
          have HMs' : Hid (msgs b' f (m + 1) = row ++ [v]) := by
            have h := msgs_push b f m v (by rw [HbN.out]; exact hf) (by rw [HbN.out]; exact hmN)
            rw [HbN.out, HB'.out, HMs.out] at h
            exact h
          go_wp2_with fail
          go_region_held3 (fun w' => w'.cell? ⟨X, 0, none⟩ = some (.slice A N c) ∧ w'.cell? ⟨X, 1, none⟩ = some (.int .i64 (f : Int)) ∧ w'.cell? ⟨X, 2, none⟩ = some (.int .i64 (m : Int)) ∧ w'.cell? ⟨lb, lo + k, none⟩ = some (.int .i64 v) ∧ Hid (Below wr.heap.size wr w'))
            (first
              | (exact ⟨z0, z1, z2, z3, bX⟩)
              | (exact ⟨x0, x1, x2, l1, (Below.refl _ wr).drew⟩)
              | (exact ⟨cell_new x0 _, cell_new x1 _, cell_new x2 _, cell_new l1 _, (below_one wr _).drew⟩)
              | (exact ⟨cell_new z0 _, cell_new z1 _, cell_new z2 _, cell_new z3 _, below_step bX (below_one _ _)⟩)
              | (exact ⟨cell_far (cell_far (cell_far z0 nX _) nX _) nX _, cell_far (cell_far (cell_far z1 nX _) nX _) nX _, cell_far (cell_far (cell_far z2 nX _) nX _) nX _, cell_far (cell_far (cell_far z3 nl _) nl _) nl _, below_set bX (Nat.le_refl _) _ _ _ _ _⟩))
            (first
              | (go_at_call 17; refine (push_n A N c b b' f m _ _ v _ HbN.out rfl rfl HB'.out (by omega) hf hmN (by first | exact HA.out.drew | exact (HA.out.alloc _).drew)).mono ?_; rintro e w4 ⟨A4, c4, rfl, o4, b4⟩
                 first
                   | have bX : Hid (Below wr.heap.size wr w4) := (Below.refl _ wr).drew.trans b4
                   | have bX : Hid (Below wr.heap.size wr w4) := (below_one wr _).drew.trans (b4.mono (by simp))
                 have bX := bX.out
                 have z0 := cell_below bX x0
                 have z1 := cell_below bX x1
                 have z2 := cell_below bX x2
                 have z3 := cell_below bX l1
                 have O4 := Lib.hid o4
                 clear o4
                 first
                   | (have y4 : Box w4 wr.heap.size none 0 0 0 0 := (box_new wr none 0 0 0 0).step ((Below.refl _ _).drew.trans b4); obtain ⟨⟨y0, y1, y2⟩, ⟨f0, f1, f2⟩⟩ := y4)
                   | skip
                 clear b4))
          · have bX' : Below wr.heap.size wr w4 := bX
            have C5 : Hid (Box (w4.alloc (.cells #[.slice A4 N c4, .int .i64 (f : Int), .int .i64 ((m : Int) + 1)] 24)) X A N c (f : Int) (m : Int)) := (HC.out.step bX').alloc _
            have Y5 : Hid (Box (w4.alloc (.cells #[.slice A4 N c4, .int .i64 (f : Int), .int .i64 ((m : Int) + 1)] 24)) w4.heap.size A4 N c4 (f : Int) ((m : Int) + 1)) := box_new _ _ _ _ _ _
            have M5 : Hid (Rd (w4.alloc (.cells #[.slice A4 N c4, .int .i64 (f : Int), .int .i64 ((m : Int) + 1)] 24)) A c b) := (HA.out.below bX').alloc _
            have S5 : Hid (Rd (w4.alloc (.cells #[.slice A4 N c4, .int .i64 (f : Int), .int .i64 ((m : Int) + 1)] 24)) B d row) := (HBd.out.below bX').alloc _
            have B5 : Hid (Below w.heap.size w (w4.alloc (.cells #[.slice A4 N c4, .int .i64 (f : Int), .int .i64 ((m : Int) + 1)] 24))) := below_step (below_step HB.out bX') (below_one _ _)
            have nY : X ≠ w4.heap.size := by have := (HC.out.step bX').lt; omega
            have Q5 : Hid (Rd (w4.alloc (.cells #[.slice A4 N c4, .int .i64 (f : Int), .int .i64 ((m : Int) + 1)] 24)) A4 c4 b') := O4.out.rd.alloc _
            have l5 : (w4.alloc (.cells #[.slice A4 N c4, .int .i64 (f : Int), .int .i64 ((m : Int) + 1)] 24)).cell? ⟨lb, lo + k, none⟩ = some (.int .i64 v) := cell_new z3 _
            have D4 : Hid (Ap A4 X) := O4.out.ap HC.out.lt
            go_split_ands
            clear x0 x1 x2 g0 g1 g2 z0 z1 z2 z3 p1 l1 bX bX' nX nl
            clear O4
            generalize (w4.alloc (.cells #[.slice A4 N c4, .int .i64 (f : Int), .int .i64 ((m : Int) + 1)] 24)) = w5 at *
            have wY : ∃ Y, Hid (w4.heap.size = Y) := ⟨_, rfl⟩
            obtain ⟨Y, HY⟩ := wY
            rw [HY.out] at Y5 nY ⊢
            clear HY
            obtain ⟨⟨x0, x1, x2⟩, ⟨g0, g1, g2⟩⟩ := C5.out
            obtain ⟨⟨y0, y1, y2⟩, _⟩ := Y5.out
            have hlt : (row.length : Int) < (N : Int) := by have := Hrl.out; omega
            have hrl : row.length ≤ 4 := by have := Hrl.out; omega
            go_wp2_with fail
            go_region_held3 (fun w' => w'.cell? ⟨lb, lo + k, none⟩ = some (.int .i64 v) ∧ Hid (Below w5.heap.size w5 w'))
              (first
                | (exact ⟨cell_below HBx.out l5, HBx.out⟩)
                | (exact ⟨l5, (Below.refl _ w5).drew⟩)
                | (exact ⟨cell_new l5 _, (below_one w5 _).drew⟩)
                | (exact ⟨cell_new (cell_new l5 _) _, (below_two w5 _ _).drew⟩)
                | (exact ⟨cell_new (cell_below HBx.out l5) _, below_step HBx.out (below_one _ _)⟩))
              (first
                | (refine step_app (by rfl) _ _ (by rfl) (base := w5.heap.size) (l := []) (r := row) (by rfl) (by rfl) (by exact own_lit w5 _ (Nat.le_refl _)) (by exact S5.out.alloc _) (by simp; omega) (by exact (below_one w5 _).size) ?_
                   intro A6 c6 w6 k1 k2 k3
                   have HBx : Hid (Below w5.heap.size w5 w6) := Below.grown (B := w5.heap.size) (a := w5) (below_one w5 _).drew k2 (below_one w5 _).size (row_at w5 0)
                   have HO6 := Lib.hid k1
                   rw [show ([] : List Int).length + row.length = row.length from Nat.zero_add _]
                   clear k1 k2 k3)
                | (refine step_app (by rfl) _ _ (by rfl) (base := w5.heap.size) (l := []) (r := row) (by rfl) (by rfl) (by exact (own_lit w5 _ (Nat.le_refl _)).alloc _) (by exact (S5.out.alloc _).alloc _) (by simp; omega) (by exact (below_two w5 _ _).size) ?_
                   intro A6 c6 w6 k1 k2 k3
                   have HBx : Hid (Below w5.heap.size w5 w6) := Below.grown (B := w5.heap.size) (a := w5) (below_two w5 _ _).drew k2 (below_two w5 _ _).size (row_at w5 0)
                   have ho : w6.cell? ⟨w5.heap.size + 1, 0, none⟩ = some (.int .i64 v) := gb_cell k2 (cell_eo w5 v) (ne_eo w5)
                   have HO6 := Lib.hid k1
                   rw [show ([] : List Int).length + row.length = row.length from Nat.zero_add _]
                   clear k1 k2 k3)
                | (refine step_app (by rfl) _ _ (by rfl) (base := w5.heap.size) (l := []) (r := row) (by rfl) (by rfl) (by exact own_lit2 w5 _) (by exact (S5.out.alloc _).alloc _) (by simp; omega) (by exact (below_two w5 _ _).size) ?_
                   intro A6 c6 w6 k1 k2 k3
                   have HBx : Hid (Below w5.heap.size w5 w6) := Below.grown (B := w5.heap.size) (a := w5) (below_two w5 _ _).drew k2 (below_two w5 _ _).size (row_at w5 1)
                   have ho : w6.cell? ⟨w5.heap.size, 0, none⟩ = some (.int .i64 v) := gb_cell k2 (cell_oe w5 v) (ne_oe w5)
                   have HO6 := Lib.hid k1
                   rw [show ([] : List Int).length + row.length = row.length from Nat.zero_add _]
                   clear k1 k2 k3)
                | (refine step_app (by rfl) _ _ (by rfl) (base := w5.heap.size) (l := row) (r := [v]) (by rfl) (by rfl) (by exact HO6.out) (by exact rd_one ho) (by simp; omega) (by exact HBx.out.size) ?_
                   intro A7 c7 w7 k1 k2 k3
                   have HBx : Hid (Below w5.heap.size w5 w7) := Below.grown (B := w5.heap.size) (a := w5) HBx.out k2 HBx.out.size (fun k hk => HO6.out.row k hk)
                   have HO7 := Lib.hid k1
                   clear k1 k2 k3)
                | (refine step_app (by rfl) _ _ (by rfl) (base := w5.heap.size) (l := row) (r := [v]) (by rfl) (by rfl) (by exact HO6.out.alloc _) (by exact rd_one (cell_o _ v)) (by simp; omega) (by exact (below_step HBx.out (below_one _ _)).size) ?_
                   intro A7 c7 w7 k1 k2 k3
                   have HBx : Hid (Below w5.heap.size w5 w7) := Below.grown (B := w5.heap.size) (a := w5) (below_step HBx.out (below_one _ _)) k2 (below_step HBx.out (below_one _ _)).size (fun k hk => HO6.out.row k hk)
                   have HO7 := Lib.hid k1
                   clear k1 k2 k3))
            all_goals
              have HB7 := HBx
              have C7 := Lib.hid (C5.out.step HB7.out)
              have Y7 := Lib.hid (Y5.out.step HB7.out)
              have Q7 := Lib.hid (Q5.out.below HB7.out)
              have B7 := Lib.hid (below_step B5.out HB7.out)
              have R7 := Lib.hid HO7.out.rd
              have E7 : Hid (Ap A7 X) := HO7.out.ap C5.out.lt
              have L7 : Hid ((row ++ [v]).length ≤ c7) := HO7.out.le
              go_split_ands
              clear x0 x1 x2 g0 g1 g2 y0 y1 y2 l5
              obtain ⟨⟨x0, x1, x2⟩, ⟨g0, g1, g2⟩⟩ := C7.out
              obtain ⟨⟨y0, y1, y2⟩, _⟩ := Y7.out
              go_wp2_with fail
              go_roundw
              case rel => exact ⟨k + 1, A4, A7, c4, c7, f, m + 1, b', row ++ [v], by go_num, by simp, by omega, by omega, hf, HbN'.out, HMs'.out, L7.out, Q7.out.set D4.out _ _ _ _ _, R7.out.set E7.out _ _ _ _ _, by rw [show ((m + 1 : Nat) : Int) = (m : Int) + 1 from by omega]; exact C7.out.set _ _ _ _ _, D4.out, E7.out, below_set B7.out HX.out _ _ _ _ _⟩
              case measure => simp [intOf]; omega
          · have bX' : Below wr.heap.size wr w4 := bX
            have C5 : Hid (Box (((w4.setCell ⟨wr.heap.size, 0, none⟩ (.slice A4 N c4)).setCell ⟨wr.heap.size, 1, none⟩ (.int .i64 (f : Int))).setCell ⟨wr.heap.size, 2, none⟩ (.int .i64 ((m : Int) + 1))) X A N c (f : Int) (m : Int)) := (HC.out.step bX').far nX _ _ _ _ _
            have Y5 : Hid (Box (((w4.setCell ⟨wr.heap.size, 0, none⟩ (.slice A4 N c4)).setCell ⟨wr.heap.size, 1, none⟩ (.int .i64 (f : Int))).setCell ⟨wr.heap.size, 2, none⟩ (.int .i64 ((m : Int) + 1))) wr.heap.size A4 N c4 (f : Int) ((m : Int) + 1)) := Box.set (A := none) (n := 0) (c := 0) (f := 0) (m := 0) ⟨⟨y0, y1, y2⟩, ⟨f0, f1, f2⟩⟩ _ _ _ _ _
            have M5 : Hid (Rd (((w4.setCell ⟨wr.heap.size, 0, none⟩ (.slice A4 N c4)).setCell ⟨wr.heap.size, 1, none⟩ (.int .i64 (f : Int))).setCell ⟨wr.heap.size, 2, none⟩ (.int .i64 ((m : Int) + 1))) A c b) := (HA.out.below bX').set (HA.out.ap (by rw [HbN.out]; omega) (Nat.le_refl _)) _ _ _ _ _
            have S5 : Hid (Rd (((w4.setCell ⟨wr.heap.size, 0, none⟩ (.slice A4 N c4)).setCell ⟨wr.heap.size, 1, none⟩ (.int .i64 (f : Int))).setCell ⟨wr.heap.size, 2, none⟩ (.int .i64 ((m : Int) + 1))) B d row) := rd_set (HBd.out.below bX') (fun h0 => HBd.out.ap h0 (Nat.le_refl _)) _ _ _ _ _
            have B5 : Hid (Below w.heap.size w (((w4.setCell ⟨wr.heap.size, 0, none⟩ (.slice A4 N c4)).setCell ⟨wr.heap.size, 1, none⟩ (.int .i64 (f : Int))).setCell ⟨wr.heap.size, 2, none⟩ (.int .i64 ((m : Int) + 1)))) := below_set (below_step HB.out bX') HB.out.size _ _ _ _ _
            have nY : X ≠ wr.heap.size := nX
            have ha4 : wr.heap.size < (wr.alloc (.cells #[.slice none 0 0, .int .i64 0, .int .i64 0] 24)).heap.size := by simp
            have Q5 : Hid (Rd (((w4.setCell ⟨wr.heap.size, 0, none⟩ (.slice A4 N c4)).setCell ⟨wr.heap.size, 1, none⟩ (.int .i64 (f : Int))).setCell ⟨wr.heap.size, 2, none⟩ (.int .i64 ((m : Int) + 1))) A4 c4 b') := O4.out.rd.set (O4.out.ap ha4) _ _ _ _ _
            have l5 : (((w4.setCell ⟨wr.heap.size, 0, none⟩ (.slice A4 N c4)).setCell ⟨wr.heap.size, 1, none⟩ (.int .i64 (f : Int))).setCell ⟨wr.heap.size, 2, none⟩ (.int .i64 ((m : Int) + 1))).cell? ⟨lb, lo + k, none⟩ = some (.int .i64 v) := cell_far (cell_far (cell_far z3 nl _) nl _) nl _
            have D4 : Hid (Ap A4 X) := O4.out.ap (Nat.lt_trans HC.out.lt ha4)
            clear ha4
            go_split_ands
            clear x0 x1 x2 g0 g1 g2 z0 z1 z2 z3 p1 l1 bX bX' nX nl
            clear y0 y1 y2 f0 f1 f2
            clear O4
            generalize (((w4.setCell ⟨wr.heap.size, 0, none⟩ (.slice A4 N c4)).setCell ⟨wr.heap.size, 1, none⟩ (.int .i64 (f : Int))).setCell ⟨wr.heap.size, 2, none⟩ (.int .i64 ((m : Int) + 1))) = w5 at *
            have wY : ∃ Y, Hid (wr.heap.size = Y) := ⟨_, rfl⟩
            obtain ⟨Y, HY⟩ := wY
            rw [HY.out] at Y5 nY ⊢
            clear HY
            obtain ⟨⟨x0, x1, x2⟩, ⟨g0, g1, g2⟩⟩ := C5.out
            obtain ⟨⟨y0, y1, y2⟩, _⟩ := Y5.out
            have hlt : (row.length : Int) < (N : Int) := by have := Hrl.out; omega
            have hrl : row.length ≤ 4 := by have := Hrl.out; omega
            go_wp2_with fail
            go_region_held3 (fun w' => w'.cell? ⟨lb, lo + k, none⟩ = some (.int .i64 v) ∧ Hid (Below w5.heap.size w5 w'))
              (first
                | (exact ⟨cell_below HBx.out l5, HBx.out⟩)
                | (exact ⟨l5, (Below.refl _ w5).drew⟩)
                | (exact ⟨cell_new l5 _, (below_one w5 _).drew⟩)
                | (exact ⟨cell_new (cell_new l5 _) _, (below_two w5 _ _).drew⟩)
                | (exact ⟨cell_new (cell_below HBx.out l5) _, below_step HBx.out (below_one _ _)⟩))
              (first
                | (refine step_app (by rfl) _ _ (by rfl) (base := w5.heap.size) (l := []) (r := row) (by rfl) (by rfl) (by exact own_lit w5 _ (Nat.le_refl _)) (by exact S5.out.alloc _) (by simp; omega) (by exact (below_one w5 _).size) ?_
                   intro A6 c6 w6 k1 k2 k3
                   have HBx : Hid (Below w5.heap.size w5 w6) := Below.grown (B := w5.heap.size) (a := w5) (below_one w5 _).drew k2 (below_one w5 _).size (row_at w5 0)
                   have HO6 := Lib.hid k1
                   rw [show ([] : List Int).length + row.length = row.length from Nat.zero_add _]
                   clear k1 k2 k3)
                | (refine step_app (by rfl) _ _ (by rfl) (base := w5.heap.size) (l := []) (r := row) (by rfl) (by rfl) (by exact (own_lit w5 _ (Nat.le_refl _)).alloc _) (by exact (S5.out.alloc _).alloc _) (by simp; omega) (by exact (below_two w5 _ _).size) ?_
                   intro A6 c6 w6 k1 k2 k3
                   have HBx : Hid (Below w5.heap.size w5 w6) := Below.grown (B := w5.heap.size) (a := w5) (below_two w5 _ _).drew k2 (below_two w5 _ _).size (row_at w5 0)
                   have ho : w6.cell? ⟨w5.heap.size + 1, 0, none⟩ = some (.int .i64 v) := gb_cell k2 (cell_eo w5 v) (ne_eo w5)
                   have HO6 := Lib.hid k1
                   rw [show ([] : List Int).length + row.length = row.length from Nat.zero_add _]
                   clear k1 k2 k3)
                | (refine step_app (by rfl) _ _ (by rfl) (base := w5.heap.size) (l := []) (r := row) (by rfl) (by rfl) (by exact own_lit2 w5 _) (by exact (S5.out.alloc _).alloc _) (by simp; omega) (by exact (below_two w5 _ _).size) ?_
                   intro A6 c6 w6 k1 k2 k3
                   have HBx : Hid (Below w5.heap.size w5 w6) := Below.grown (B := w5.heap.size) (a := w5) (below_two w5 _ _).drew k2 (below_two w5 _ _).size (row_at w5 1)
                   have ho : w6.cell? ⟨w5.heap.size, 0, none⟩ = some (.int .i64 v) := gb_cell k2 (cell_oe w5 v) (ne_oe w5)
                   have HO6 := Lib.hid k1
                   rw [show ([] : List Int).length + row.length = row.length from Nat.zero_add _]
                   clear k1 k2 k3)
                | (refine step_app (by rfl) _ _ (by rfl) (base := w5.heap.size) (l := row) (r := [v]) (by rfl) (by rfl) (by exact HO6.out) (by exact rd_one ho) (by simp; omega) (by exact HBx.out.size) ?_
                   intro A7 c7 w7 k1 k2 k3
                   have HBx : Hid (Below w5.heap.size w5 w7) := Below.grown (B := w5.heap.size) (a := w5) HBx.out k2 HBx.out.size (fun k hk => HO6.out.row k hk)
                   have HO7 := Lib.hid k1
                   clear k1 k2 k3)
                | (refine step_app (by rfl) _ _ (by rfl) (base := w5.heap.size) (l := row) (r := [v]) (by rfl) (by rfl) (by exact HO6.out.alloc _) (by exact rd_one (cell_o _ v)) (by simp; omega) (by exact (below_step HBx.out (below_one _ _)).size) ?_
                   intro A7 c7 w7 k1 k2 k3
                   have HBx : Hid (Below w5.heap.size w5 w7) := Below.grown (B := w5.heap.size) (a := w5) (below_step HBx.out (below_one _ _)) k2 (below_step HBx.out (below_one _ _)).size (fun k hk => HO6.out.row k hk)
                   have HO7 := Lib.hid k1
                   clear k1 k2 k3))
            all_goals
              have HB7 := HBx
              have C7 := Lib.hid (C5.out.step HB7.out)
              have Y7 := Lib.hid (Y5.out.step HB7.out)
              have Q7 := Lib.hid (Q5.out.below HB7.out)
              have B7 := Lib.hid (below_step B5.out HB7.out)
              have R7 := Lib.hid HO7.out.rd
              have E7 : Hid (Ap A7 X) := HO7.out.ap C5.out.lt
              have L7 : Hid ((row ++ [v]).length ≤ c7) := HO7.out.le
              go_split_ands
              clear x0 x1 x2 g0 g1 g2 y0 y1 y2 l5
              obtain ⟨⟨x0, x1, x2⟩, ⟨g0, g1, g2⟩⟩ := C7.out
              obtain ⟨⟨y0, y1, y2⟩, _⟩ := Y7.out
              go_wp2_with fail
              go_roundw
              case rel => exact ⟨k + 1, A4, A7, c4, c7, f, m + 1, b', row ++ [v], by go_num, by simp, by omega, by omega, hf, HbN'.out, HMs'.out, L7.out, Q7.out.set D4.out _ _ _ _ _, R7.out.set E7.out _ _ _ _ _, by rw [show ((m + 1 : Nat) : Int) = (m : Int) + 1 from by omega]; exact C7.out.set _ _ _ _ _, D4.out, E7.out, below_set B7.out HX.out _ _ _ _ _⟩
              case measure => simp [intOf]; omega
    · have hd : (l.length : Int) ≤ (k : Int) ∨ ((k : Int) < (l.length : Int) ∧ (ps.length : Int) ≤ (k : Int)) ∨ ((k : Int) < (l.length : Int) ∧ (k : Int) < (ps.length : Int) ∧ (60 : Int) ≤ (k : Int)) := by omega
      clear hgo
      obtain ⟨⟨x0, x1, x2⟩, ⟨g0, g1, g2⟩⟩ := HC.out
      rcases hd with h | ⟨h1, h⟩ | ⟨h1, h2, h⟩
      all_goals
        go_wp2_with fail
        refine (list_n A N c b row f m _ _ _ HbN.out rfl rfl HMs.out (by omega) hf hm HA.out).mono ?_
        rintro e w3 ⟨A3, c3, rfl, o3, l3, b3⟩
        have O3 := Lib.hid o3.rd
        have S3' := Lib.hid (HBd.out.below b3)
        have B3 := Lib.hid (below_step HB.out b3)
        have C3 := Lib.hid (HC.out.step b3)
        clear o3 b3 l3
        go_wp2_with fail
        refine (sameList_n m row.length A3 B c3 d row _ Hrl.out rfl (by rw [Hrl.out]; omega) O3.out S3'.out).mono ?_
        rintro e w4 ⟨rfl, b4⟩
        have B4 := Lib.hid (below_step B3.out b4)
        clear x0 x1 x2 g0 g1 g2
        obtain ⟨⟨x0, x1, x2⟩, ⟨g0, g1, g2⟩⟩ := C3.out.step b4
        clear b4
        go_wp2_with fail
        refine (right_any A N c (f : Int) (m : Int) _).mono ?_
        rintro e w5 ⟨rfl, b5⟩
        rw [rightB_of hf hm]
        have B5 := Lib.hid (below_step B4.out b5)
        clear b5
        go_wp2_with fail
        refine (knows_any _).mono ?_
        rintro e w6 ⟨rfl, b6⟩
        have B6 := Lib.hid (below_step B5.out b6)
        clear b6
        go_wp2_with fail
        go_ret
        exact ⟨rfl, B6.out⟩

theorem walk (n : Int) (A0 : Option Addr) (c0 : Nat) (l : List Int) (A1 : Option Addr) (c1 : Nat) (ps : List Bool) (w : World) (_hlc : l.length ≤ c0) (hr : Rd w A0 c0 l) (hp : RdB w A1 ps) :
    Calls Try.prog 7 #[.int .i64 n, .slice A0 l.length c0, .slice A1 ps.length c1] w fun e w' => e = .returned (.bool true) ∧ Below w.heap.size w w' := by
  by_cases h1 : n < 1
  · exact no n A0 c0 _ A1 c1 _ w (.inl h1)
  · by_cases h4 : 4 < n
    · exact no n A0 c0 _ A1 c1 _ w (.inr h4)
    · obtain ⟨N, rfl⟩ : ∃ N : Nat, n = (N : Int) := ⟨n.toNat, by omega⟩
      exact some_ N A0 c0 l A1 c1 ps w (by omega) (by omega) hr hp

set_option maxRecDepth 100000 in
theorem lifted (os : Os) (started : os.Started) (H : Type) (enc : TypeId × Value → H) :
    ReturnsInHanded {} Try.checked os 7 .any (Rows.ringRowsSpec.pre6 enc Try.prog Try.f7 Rows.ringRowsRow.domain false) (Rows.ringRowsSpec.post enc Try.prog Try.f7 false true false false) := by
  refine returnsInHanded_of_change (C := Try.checked) own started (by kernel_rfl) Try.func7
    (ChangeSpec.witness6 (enc := enc) (C := Try.checked) false ⟨#[], #[.int .i64 0, .slice none 0 0, .slice none 0 0], []⟩ 8 (by kernel_rfl) (by kernel_rfl) (by kernel_rfl) (by kernel_rfl)) ?_
  intro W base args ds gs before hval0 hW hcnd _
  have hval : ∀ (j : Nat) t v, Try.f7.params[j]? = some t → args[j]? = some v → Value.okWide Try.prog W .any base t v := hval0
  have hW' := hW
  obtain ⟨p, q, hA0, hV, rfl, hfz, hnd⟩ := hW
  have hA : DataW.TrodAll enc Try.prog W 0 (fun _ => true) true Try.f7.params.toList args.toList ds p := hA0
  rw [Try.params7] at hA hval
  obtain ⟨v0, v1, v2, d0, d1, d2, p0, p1, p2, rfl, rfl, rfl, h0, h1, h2⟩ := trodAll_three hA
  obtain ⟨rfl, rfl⟩ := trodVars_none hV
  obtain ⟨n0, rfl⟩ := open_num (hval 0 3 v0 rfl rfl) h0
  obtain ⟨A1, c1, l1, rfl, hlc1, hr1⟩ := open_nums (hval 1 22 v1 rfl rfl) h1
  obtain ⟨A2, c2, l2, rfl, hr2⟩ := open_flags (hval 2 44 v2 rfl rfl) h2
  clear hA0 hval0
  refine (walk n0 A1 c1 l1 A2 c2 l2 W  hlc1 hr1 hr2).mono fun e W' ⟨he, bel⟩ => ?_
  subst he
  have hlt0 : ∀ x ∈ p0, x.block < W.heap.size := fun x hx => hW'.lt x (by simp [hx])
  have hlt1 : ∀ x ∈ p1, x.block < W.heap.size := fun x hx => hW'.lt x (by simp [hx])
  have hlt2 : ∀ x ∈ p2, x.block < W.heap.size := fun x hx => hW'.lt x (by simp [hx])
  exact ⟨_, rfl, _, _, _, [], _, [], hW', trodAll_mk1 (shut_bool Try.underlying4 _), trodAll_mk3 (Below.trod laidOut (by kernel_rfl) (of_decide_eq_true (by kernel_rfl)) h0 bel hlt0) (Below.trod laidOut (by kernel_rfl) (of_decide_eq_true (by kernel_rfl)) h1 bel hlt1) (Below.trod laidOut (by kernel_rfl) (of_decide_eq_true (by kernel_rfl)) h2 bel hlt2), rfl, bel.frame _, fun h => by cases h⟩

/-- The statement. -/
theorem proved : Rows.RingRowsSaid :=
  OpenClaim.holds_of_wide 7 Try.f7 rfl rfl rfl rfl rfl rfl rfl ⟨rfl, rfl, rfl, rfl, rfl⟩ rfl rfl rfl rfl rfl (by kernel_rfl) Try.func7 (by kernel_rfl)
    (of_decide_eq_true (by kernel_rfl)) (by unfold Func.isWrapper; first | (rw [if_pos (by decide +kernel)]; kernel_rfl) | (rw [if_neg (by decide +kernel)]; exact ⟨rfl, rfl⟩))
    (fun os started H enc _ => lifted os started H enc)
#print axioms proved


end Go.Proofs.Ytilabonjjiiabaa.ringRows
