/-
  Layer 2 (heap): the calls that copy items, and those that move them inside a slice of their own.
-/
import Derived.Test.YteadcjfbmckgpaaHeapWalks
import Derived.BigRegion
import Derived.Deep.LoopGhost
namespace Go.Proofs.Yteadcjfbmckgpaa
open Go.RowKit
namespace Hp

theorem infoIt : (Try.prog.info? 24).map (fun i => (i.zero, i.size, i.bytes)) = some (some (.agg #[.int .i64 0, .int .i64 0]), 2, 16) := by kernel_rfl

/-- append of items, in this program -/
theorem app_it {w : World} {base : Nat} {A B : Option Addr} {c d : Nat} {l r : List It} (ty : TypeId) (h : Ow w base 24 A c l) (hr : Rd w B d r) (hbig : l.length + r.length ≤ 1000000) (hbase : base ≤ w.heap.size) :
    ∃ A' c' w', (Builtin.append_ #[22, 22] ty #[.slice A l.length c, .slice B r.length d]).run Try.prog w = .ok (.slice A' (l.length + r.length) c') w' ∧ Ow w' base 24 A' c' (l ++ r) ∧ w.grownBy w' (Value.slice A l.length c).ownBlock ∧
      ((Value.slice A' (l.length + r.length) c').ownBlock = (Value.slice A l.length c).ownBlock ∨ (Value.slice A' (l.length + r.length) c').ownBlock = some w.heap.size) := by
  have h0 := infoIt
  obtain ⟨i, hi, hh⟩ := Option.map_eq_some_iff.1 h0
  simp only [Prod.mk.injEq] at hh
  exact run_app 22 ty 24 i _ Try.underlying22 hi hh.1 hh.2.1 hh.2.2 rfl h hr hbig hbase

theorem step_app_it {w : World} {ops : Array Oper} {o : Oper} {a : Act} {K : Act → World → Prop} {Q : Exit → Act → World → Prop} {E : Prop} (hg : o.guard = none) (s x : Operand) (ho : o.op = .call { callee := .builtin .append, args := #[s, x], argTypes := #[22, 22] })
    {base : Nat} {A B : Option Addr} {c d : Nat} {l r : List It} (h1 : a.eval s = .slice A l.length c) (h2 : a.eval x = .slice B r.length d) (h : Ow w base 24 A c l) (hr : Rd w B d r) (hbig : l.length + r.length ≤ 1000000) (hbase : base ≤ w.heap.size)
    (hK : ∀ A' c' w', Ow w' base 24 A' c' (l ++ r) → w.grownBy w' (Value.slice A l.length c).ownBlock → ((Value.slice A' (l.length + r.length) c').ownBlock = (Value.slice A l.length c).ownBlock ∨ (Value.slice A' (l.length + r.length) c').ownBlock = some w.heap.size) → K (a.put o.dst (.slice A' (l.length + r.length) c')) w') :
    if Region.wanted o (yielded ops a.tmps) = true then Oper.wp Try.prog o a w K Q else E := by
  obtain ⟨A', c', w', hrun, k1, k2, k3⟩ := app_it o.type h hr hbig hbase
  exact step_app_run hg s x _ ho _ _ _ _ h1 h2 hrun (hK A' c' w' k1 k2 k3)
theorem list_app_it {w : World} {ops : Array Oper} {rest : List Oper} {o : Oper} {a : Act} {Q : Exit → Act → World → Prop} (hg : o.guard = none) (s x : Operand) (ho : o.op = .call { callee := .builtin .append, args := #[s, x], argTypes := #[22, 22] })
    {base : Nat} {A B : Option Addr} {c d : Nat} {l r : List It} (h1 : a.eval s = .slice A l.length c) (h2 : a.eval x = .slice B r.length d) (h : Ow w base 24 A c l) (hr : Rd w B d r) (hbig : l.length + r.length ≤ 1000000) (hbase : base ≤ w.heap.size)
    (hK : ∀ A' c' w', Ow w' base 24 A' c' (l ++ r) → w.grownBy w' (Value.slice A l.length c).ownBlock → ((Value.slice A' (l.length + r.length) c').ownBlock = (Value.slice A l.length c).ownBlock ∨ (Value.slice A' (l.length + r.length) c').ownBlock = some w.heap.size) → wpList Try.prog ops Q rest (a.put o.dst (.slice A' (l.length + r.length) c')) w') :
    wpList Try.prog ops Q (o :: rest) a w := by
  obtain ⟨A', c', w', hrun, k1, k2, k3⟩ := app_it o.type h hr hbig hbase
  exact wpList_app_run hg s x _ ho _ _ _ _ h1 h2 hrun (hK A' c' w' k1 k2 k3)

def Copies (w : World) (l : List It) (e : Ending) (w' : World) : Prop := ∃ A c, e = .returned (.slice A l.length c) ∧ Ow w' w.heap.size 24 A c l ∧ Below w.heap.size w w'

set_option maxHeartbeats 400000 in
theorem copied_any (A : Option Addr) (c : Nat) (l : List It) (w : World) (hbig : l.length ≤ 1000000) (hr : Rd w A c l) :
    Calls Try.prog 20 #[.slice A l.length c] w (Copies w l) := by
  obtain ⟨A', c', w', hrun, hown, hg, _⟩ := app_it (A := none) (c := 0) (l := []) (w := w) (base := w.heap.size) 22 (World.ownsRow_nil _ _ _ _) hr (by simpa using hbig) (Nat.le_refl _)
  simp only [List.length_nil, Nat.zero_add, List.nil_append] at hrun hown hg
  have HO := Lib.hid hown
  have HG := Lib.hid hg
  have HU := Lib.hid hrun
  clear hown hg hr hrun
  go_enter Try.func20, Try.ntmps20
  go_wp2_with (at_builtin; refine wpList_app_run rfl _ _ _ rfl _ _ _ _ rfl rfl HU.out ?_)
  go_ret
  exact ⟨A', c', rfl, HO.out, (Below.refl _ _).grown HG.out (Nat.le_refl _) (fun k hk => by cases hk)⟩

theorem exchange_any (A : Option Addr) (n c : Nat) (w : World) :
    Calls Try.prog 28 #[.slice A n c] w fun e w' => e = .returned (.func (.func 30) #[] #[.pointer (some ⟨w.heap.size, 0, none⟩)]) ∧ w.alloc (.cells #[.slice A n c] 22) = w' := by
  go_enter Try.func28, Try.ntmps28
  go_wp2
  go_ret
  exact ⟨rfl, rfl⟩

set_option maxHeartbeats 3200000 in
theorem swap_any (p g n c i j : Nat) (x y : It) (w : World) (hi : i < n) (hj : j < n) (hp : w.cell? ⟨p, 0, none⟩ = some (.slice (some ⟨g, 0, none⟩) n c)) (hpg : p ≠ g)
    (i1 : w.cell? ⟨g, i * 2, none⟩ = some (.int .i64 x.1)) (i2 : w.cell? ⟨g, i * 2 + 1, none⟩ = some (.int .i64 x.2)) (j1 : w.cell? ⟨g, j * 2, none⟩ = some (.int .i64 y.1)) (j2 : w.cell? ⟨g, j * 2 + 1, none⟩ = some (.int .i64 y.2))
    (fz : ∀ o, w.frozen? ⟨g, o, none⟩ = false) (hij : i ≠ j) :
    Calls Try.prog 30 #[.int .i64 i, .int .i64 j, .pointer (some ⟨p, 0, none⟩)] w fun e w' => e = .returned (.tuple #[]) ∧
      ((((w.setCell ⟨g, i * 2, none⟩ (.int .i64 y.1)).setCell ⟨g, i * 2 + 1, none⟩ (.int .i64 y.2)).setCell ⟨g, j * 2, none⟩ (.int .i64 x.1)).setCell ⟨g, j * 2 + 1, none⟩ (.int .i64 x.2)).drew = w' := by
  have f1 := fz (i * 2)
  have f2 := fz (i * 2 + 1)
  have f3 := fz (j * 2)
  have f4 := fz (j * 2 + 1)
  clear fz
  have hi' : (i : Int) < (n : Int) := by omega
  have hj' : (j : Int) < (n : Int) := by omega
  have hi0 : (0 : Int) ≤ (i : Int) := by omega
  have hj0 : (0 : Int) ≤ (j : Int) := by omega
  go_enter Try.func30, Try.ntmps30
  go_wp2
  go_region
  go_end0
  exact ⟨rfl, rfl⟩

/-- an exchange of two items inside a slice of the call's own -/
def Swaps (w : World) (base g c i j : Nat) (l : List It) (e : Ending) (w' : World) : Prop := e = .returned (.tuple #[]) ∧ Ow w' base 24 (some ⟨g, 0, none⟩) c (swp l i j) ∧ w.grownBy w' (some g)

theorem swap_own (p base g c i j : Nat) (l : List It) (w : World) (hi : i < l.length) (hj : j < l.length) (hp : w.cell? ⟨p, 0, none⟩ = some (.slice (some ⟨g, 0, none⟩) l.length c)) (hpg : p ≠ g)
    (h : Ow w base 24 (some ⟨g, 0, none⟩) c l) (hij : i ≠ j) :
    Calls Try.prog 30 #[.int .i64 i, .int .i64 j, .pointer (some ⟨p, 0, none⟩)] w (Swaps w base g c i j l) := by
  obtain ⟨i1, i2⟩ := h.cell i hi
  obtain ⟨j1, j2⟩ := h.cell j hj
  refine (swap_any p g l.length c i j _ _ w hi hj hp hpg i1 i2 j1 j2 (fun o => World.ownsRow.frozenAt h o) hij).mono ?_
  rintro e w' ⟨rfl, rfl⟩
  obtain ⟨h1, g1⟩ := h.put i (at_ l j)
  obtain ⟨h2, g2⟩ := h1.put j (at_ l i)
  exact ⟨rfl, h2, ⟨g2.os.trans g1.os, g2.tape.trans g1.tape, g2.output.trans g1.output, Nat.le_trans g1.size g2.size, fun k hk hne => (g2.block k (Nat.lt_of_lt_of_le hk g1.size) hne).trans (g1.block k hk hne)⟩⟩

set_option maxHeartbeats 800000 in
theorem below_any (b off c i : Nat) (l : List It) (w : World) (hi : i ≤ 1000000) (hc : ∀ j, j < l.length → w.cell? ⟨b, off + j * 2, none⟩ = some (.int .i64 (at_ l j).1) ∧ w.cell? ⟨b, off + j * 2 + 1, none⟩ = some (.int .i64 (at_ l j).2)) :
    Calls Try.prog 29 #[.slice (some ⟨b, off, none⟩) l.length c, .int .i64 i] w fun e w' => e = .returned (.int .i64 (below l i)) ∧ Below w.heap.size w w' := by
  by_cases h2 : 2 * i + 2 < l.length
  · obtain ⟨x1, x2⟩ := hc (2 * i + 2) h2
    obtain ⟨y1, y2⟩ := hc (2 * i + 1) (by omega)
    clear hc
    have q1 : 2 * (i : Int) + 1 + 1 < (l.length : Int) := by omega
    have q2 : 2 * (i : Int) + 1 < (l.length : Int) := by omega
    have q3 : (0 : Int) ≤ 2 * (i : Int) + 1 + 1 := by omega
    have q4 : (0 : Int) ≤ 2 * (i : Int) + 1 := by omega
    have e1 : (2 * (i : Int) + 1 + 1).toNat = 2 * i + 2 := by omega
    have e2 : (2 * (i : Int) + 1).toNat = 2 * i + 1 := by omega
    cases hl : low (at_ l (2 * i + 2)) (at_ l (2 * i + 1)) with
    | true =>
      have HE : Hid (below l i = 2 * i + 2) := if_pos ⟨h2, hl⟩
      have ho := ord_low hl
      clear hl
      go_enter Try.func29, Try.ntmps29
      go_wp2_with fail
      go_still_tail 13, (by kernel_rfl)
      go_wp2_with fail
      refine (order_any _ _ _).mono ?_
      rintro e w1 ⟨rfl, b1⟩
      have B1 := Lib.hid ((Below.refl w.heap.size w).drew.trans b1)
      clear b1
      go_wp2_with fail
      go_ret
      exact ⟨ret_int (by rw [HE.out]; show (2 * (i : Int) + 1 + 1) = _; omega), B1.out⟩
    | false =>
      have HE : Hid (below l i = 2 * i + 1) := if_neg (fun h => by rw [h.2] at hl; cases hl)
      have ho := ord_not hl
      clear hl
      go_enter Try.func29, Try.ntmps29
      go_wp2_with fail
      go_still_tail 13, (by kernel_rfl)
      go_wp2_with fail
      refine (order_any _ _ _).mono ?_
      rintro e w1 ⟨rfl, b1⟩
      have B1 := Lib.hid ((Below.refl w.heap.size w).drew.trans b1)
      clear b1
      go_wp2_with fail
      go_ret
      exact ⟨ret_int (by rw [HE.out]; show (2 * (i : Int) + 1) = _; omega), B1.out⟩
  · clear hc
    have HE : Hid (below l i = 2 * i + 1) := if_neg (fun h => h2 h.1)
    have hd : decide (2 * (i : Int) + 1 + 1 < (l.length : Int)) = false := decide_eq_false (by omega)
    clear h2
    go_enter Try.func29, Try.ntmps29
    go_wp2_with fail
    go_quiet (fail)
    go_wp2_with fail
    go_ret
    exact ⟨ret_int (by rw [HE.out]; show (2 * (i : Int) + 1) = _; omega), ⟨rfl, rfl, rfl, Nat.le_refl _, fun _ _ => rfl⟩⟩

theorem below_len (n b off c i : Nat) (l : List It) (w : World) (hn : l.length = n) (hi : i ≤ 1000000) (hc : ∀ j, j < l.length → w.cell? ⟨b, off + j * 2, none⟩ = some (.int .i64 (at_ l j).1) ∧ w.cell? ⟨b, off + j * 2 + 1, none⟩ = some (.int .i64 (at_ l j).2)) :
    Calls Try.prog 29 #[.slice (some ⟨b, off, none⟩) n c, .int .i64 i] w fun e w' => e = .returned (.int .i64 (below l i)) ∧ Below w.heap.size w w' := by
  subst hn
  exact below_any b off c i l w hi hc

/-- what 'sink' leaves -/
def SinksTo (w : World) (base g c k : Nat) (l : List It) (e : Ending) (w' : World) : Prop :=
  e = .returned (.tuple #[]) ∧ ∃ l' : List It, l'.length = l.length ∧ l'.Perm l ∧ HeapFrom k l' ∧ Ow w' base 24 (some ⟨g, 0, none⟩) c l' ∧ w.grownBy w' (some g)
/-- the loop of 'sink' -/
def SinkRel (w1 : World) (base g c k : Nat) (l : List It) (p q : Nat) (l' : List It) (wr : World) : Prop :=
  l'.length = l.length ∧ l'.Perm l ∧ Sinks k p l' ∧ below l' p = q ∧ Ow wr base 24 (some ⟨g, 0, none⟩) c l' ∧ w1.grownBy wr (some g)

set_option maxHeartbeats 1600000 in
theorem sink_any (base g c k : Nat) (l : List It) (w : World) (hbig : l.length ≤ 1000000) (hk : k < l.length) (hf : HeapFrom (k + 1) l) (h : Ow w base 24 (some ⟨g, 0, none⟩) c l) :
    Calls Try.prog 21 #[.slice (some ⟨g, 0, none⟩) l.length c, .int .i64 k] w (SinksTo w base g c k l) := by
  have hgw : g < w.heap.size := by
    obtain ⟨g', e, _, hlt, _⟩ := h.form (by omega)
    injection e with e; injection e with e; omega
  have HK : Hid (w.grownBy (w.alloc (.cells #[.slice (some ⟨g, 0, none⟩) l.length c] 22)) (some g)) := World.grownBy_alloc _ _ _
  have HO : Hid (Ow (w.alloc (.cells #[.slice (some ⟨g, 0, none⟩) l.length c] 22)) base 24 (some ⟨g, 0, none⟩) c l) := h.below ((Below.refl _ _).alloc (Nat.le_refl _) _) (Nat.le_refl _)
  have HP : Hid ((w.alloc (.cells #[.slice (some ⟨g, 0, none⟩) l.length c] 22)).cell? ⟨w.heap.size, 0, none⟩ = some (.slice (some ⟨g, 0, none⟩) l.length c)) := by show World.cell? _ _ = _; go_simp
  have HF := Lib.hid hf
  clear hf h
  have hne : Hid (some w.heap.size ≠ some g) := fun e => by injection e with e; omega
  go_enter Try.func21, Try.ntmps21
  go_wp2_with fail
  refine (exchange_any _ _ _ _).mono ?_
  rintro e w1 ⟨rfl, rfl⟩
  generalize w.heap.size = P at *
  generalize w.alloc (.cells #[.slice (some ⟨g, 0, none⟩) l.length c] 22) = w1 at *
  go_wp2_with fail
  refine (below_any g 0 c k l _ (by omega) (fun j hj => by simpa using HO.out.cell j hj)).mono ?_
  rintro e w2 ⟨rfl, b2⟩
  have HG2 := Lib.hid (gb_below b2 (Nat.le_refl _) (some g))
  have HO2 := Lib.hid (HO.out.below b2 (Nat.le_refl _))
  clear b2
  go_wp2_with fail
  go_loopw [1, 5] (fun i nx wr => ∃ (p q : Nat) (l' : List It), i = .int .i64 p ∧ nx = .int .i64 q ∧ SinkRel w1 base g c k l p q l' wr) (fun i _ _ => l.length - (intOf i).toNat)
  case atStart => exact ⟨k, below l k, l, rfl, rfl, rfl, .refl _, Sinks.start HF.out hk, rfl, HO2.out, HG2.out⟩
  case round =>
    clear HG2 HO2 HO HF hk
    obtain ⟨p, q, l', rfl, rfl, hlen, hperm, hs, hq, ho, hg⟩ := hrel
    have hp : p < l.length := by have := hs.pl; omega
    have HS := Lib.hid hs
    have HQ := Lib.hid hq
    have HL := Lib.hid hlen
    have HM := Lib.hid hperm
    have HO := Lib.hid ho
    have HG := Lib.hid hg
    obtain ⟨y1, y2⟩ := ho.cell p (by omega)
    have hq1 : q ≤ 2000002 := by have := below_or l' p; omega
    have hbox := gb_cell hg HP.out hne.out
    clear hs hq hlen hperm hg
    by_cases hlt : q < l.length
    · obtain ⟨x1, x2⟩ := ho.cell q (by rw [HL.out]; exact hlt)
      clear ho
      cases hl : low (at_ l' q) (at_ l' p) with
      | true =>
        have hord := ord_low hl
        have HLow := Lib.hid hl
        clear hl
        go_wp2_with fail
        go_still_tail 13, (by kernel_rfl)
        go_wp2_with fail
        refine (order_any _ _ _).mono ?_
        rintro e w3 ⟨rfl, b3⟩
        have HG3 := Lib.hid (gb_trans (gb_drew HG.out) (gb_below b3 (Nat.le_refl _) (some g)))
        have HO3 : Hid (Ow w3 base 24 (some ⟨g, 0, none⟩) c l') := Ow.below (w := wr.drew) HO.out b3 (Nat.le_refl _)
        clear b3 x1 x2 y1 y2 hbox
        go_wp2_with fail
        refine (swap_own P base g c p q l' _ (by rw [HL.out]; exact hp) (by rw [HL.out]; exact hlt) (by rw [HL.out]; exact gb_cell HG3.out HP.out hne.out) (fun e => hne.out (by rw [e])) HO3.out (by have := below_or l' p; have := HQ.out; omega)).mono ?_
        rintro e w4 ⟨rfl, o4, g4⟩
        have HG4 := Lib.hid (gb_trans HG3.out g4)
        have HO4 := Lib.hid o4
        have HS4 : Hid (Sinks k q (swp l' p q)) := by
          have hb := HS.out.step (by rw [HQ.out, HL.out]; exact hlt) (by rw [HQ.out]; exact HLow.out)
          rw [HQ.out] at hb
          exact hb
        have HM4 : Hid ((swp l' p q).Perm l) := (swp_perm (by rw [HL.out]; exact hp) (by rw [HL.out]; exact hlt)).trans HM.out
        have HL4 : Hid ((swp l' p q).length = l.length) := (swp_length _ _ _).trans HL.out
        have hpq : p < q := by have := below_or l' p; have := HQ.out; omega
        clear o4 g4 HG3 HO3 HS HM HL HQ HLow HO HG
        generalize swp l' p q = m at *
        go_wp2_with fail
        refine (below_len l.length g 0 c q m _ HL4.out (by omega) (fun j hj => by simpa using HO4.out.cell j hj)).mono ?_
        rintro e w5 ⟨rfl, b5⟩
        have HG5 := Lib.hid (gb_trans HG4.out (gb_below b5 (Nat.le_refl _) (some g)))
        have HO5 := Lib.hid (HO4.out.below b5 (Nat.le_refl _))
        clear b5
        go_wp2_with fail
        go_roundw
        case rel => exact ⟨q, below m q, m, rfl, rfl, HL4.out, HM4.out, HS4.out, rfl, HO5.out, HG5.out⟩
        case measure => simp [intOf]; omega
      | false =>
        have hord := ord_not hl
        have HLow := Lib.hid hl
        clear hl
        go_wp2_with fail
        go_still_tail 13, (by kernel_rfl)
        go_wp2_with fail
        refine (order_any _ _ _).mono ?_
        rintro e w3 ⟨rfl, b3⟩
        have HG3 := Lib.hid (gb_trans (gb_drew HG.out) (gb_below b3 (Nat.le_refl _) (some g)))
        have HO3 : Hid (Ow w3 base 24 (some ⟨g, 0, none⟩) c l') := Ow.below (w := wr.drew) HO.out b3 (Nat.le_refl _)
        clear b3 x1 x2 y1 y2 hbox
        go_wp2_with fail
        go_end0
        exact ⟨rfl, l', HL.out, HM.out, HS.out.done (.inr (by rw [HQ.out]; exact HLow.out)), HO3.out, gb_trans HK.out HG3.out⟩
    · have hd : decide (q < l.length) = false := decide_eq_false (by omega)
      have hge : Hid (l.length ≤ q) := by show l.length ≤ q; omega
      clear ho hlt
      go_wp2_with fail
      go_quiet (fail)
      go_wp2_with fail
      go_end0
      exact ⟨rfl, l', HL.out, HM.out, HS.out.done (.inl (by rw [HQ.out, HL.out]; exact hge.out)), HO.out, gb_trans HK.out ⟨HG.out.os, HG.out.tape, HG.out.output, HG.out.size, HG.out.block⟩⟩

end Hp
end Go.Proofs.Yteadcjfbmckgpaa
