/-
  Layer 2, the references and helpers of the statements: what each answers.
-/
import Derived.Test.YteadcjfbmckgpaaHeapSort
namespace Go.Proofs.Yteadcjfbmckgpaa
open Go.RowKit
namespace Hp
attribute [local go_sem ↓] Go.wp_at_zero Go.wp_at_succ

theorem infoRf : (Try.prog.info? 40).map (fun i => (i.zero, i.size, i.bytes)) = some (some (.agg #[.int .i64 0, .int .i64 0]), 2, 16) := by kernel_rfl

/-- append of items, in this program -/
theorem app_rf {w : World} {base : Nat} {A B : Option Addr} {c d : Nat} {l r : List It} (ty : TypeId) (h : Ow w base 40 A c l) (hr : Rd w B d r) (hbig : l.length + r.length ≤ 1000000) (hbase : base ≤ w.heap.size) :
    ∃ A' c' w', (Builtin.append_ #[30, 30] ty #[.slice A l.length c, .slice B r.length d]).run Try.prog w = .ok (.slice A' (l.length + r.length) c') w' ∧ Ow w' base 40 A' c' (l ++ r) ∧ w.grownBy w' (Value.slice A l.length c).ownBlock ∧
      ((Value.slice A' (l.length + r.length) c').ownBlock = (Value.slice A l.length c).ownBlock ∨ (Value.slice A' (l.length + r.length) c').ownBlock = some w.heap.size) := by
  have h0 := infoRf
  obtain ⟨i, hi, hh⟩ := Option.map_eq_some_iff.1 h0
  simp only [Prod.mk.injEq] at hh
  exact run_app 30 ty 40 i _ Try.underlying30 hi hh.1 hh.2.1 hh.2.2 rfl h hr hbig hbase

theorem step_app_rf {w : World} {ops : Array Oper} {o : Oper} {a : Act} {K : Act → World → Prop} {Q : Exit → Act → World → Prop} {E : Prop} (hg : o.guard = none) (s x : Operand) (ho : o.op = .call { callee := .builtin .append, args := #[s, x], argTypes := #[30, 30] })
    {base : Nat} {A B : Option Addr} {c d : Nat} {l r : List It} (h1 : a.eval s = .slice A l.length c) (h2 : a.eval x = .slice B r.length d) (h : Ow w base 40 A c l) (hr : Rd w B d r) (hbig : l.length + r.length ≤ 1000000) (hbase : base ≤ w.heap.size)
    (hK : ∀ A' c' w', Ow w' base 40 A' c' (l ++ r) → w.grownBy w' (Value.slice A l.length c).ownBlock → ((Value.slice A' (l.length + r.length) c').ownBlock = (Value.slice A l.length c).ownBlock ∨ (Value.slice A' (l.length + r.length) c').ownBlock = some w.heap.size) → K (a.put o.dst (.slice A' (l.length + r.length) c')) w') :
    if Region.wanted o (yielded ops a.tmps) = true then Oper.wp Try.prog o a w K Q else E := by
  obtain ⟨A', c', w', hrun, k1, k2, k3⟩ := app_rf o.type h hr hbig hbase
  exact step_app_run hg s x _ ho _ _ _ _ h1 h2 hrun (hK A' c' w' k1 k2 k3)
theorem list_app_rf {w : World} {ops : Array Oper} {rest : List Oper} {o : Oper} {a : Act} {Q : Exit → Act → World → Prop} (hg : o.guard = none) (s x : Operand) (ho : o.op = .call { callee := .builtin .append, args := #[s, x], argTypes := #[30, 30] })
    {base : Nat} {A B : Option Addr} {c d : Nat} {l r : List It} (h1 : a.eval s = .slice A l.length c) (h2 : a.eval x = .slice B r.length d) (h : Ow w base 40 A c l) (hr : Rd w B d r) (hbig : l.length + r.length ≤ 1000000) (hbase : base ≤ w.heap.size)
    (hK : ∀ A' c' w', Ow w' base 40 A' c' (l ++ r) → w.grownBy w' (Value.slice A l.length c).ownBlock → ((Value.slice A' (l.length + r.length) c').ownBlock = (Value.slice A l.length c).ownBlock ∨ (Value.slice A' (l.length + r.length) c').ownBlock = some w.heap.size) → wpList Try.prog ops Q rest (a.put o.dst (.slice A' (l.length + r.length) c')) w') :
    wpList Try.prog ops Q (o :: rest) a w := by
  obtain ⟨A', c', w', hrun, k1, k2, k3⟩ := app_rf o.type h hr hbig hbase
  exact wpList_app_run hg s x _ ho _ _ _ _ h1 h2 hrun (hK A' c' w' k1 k2 k3)

set_option maxHeartbeats 400000 in
theorem lower_any (a b : It) (w : World) :
    Calls Try.prog 26 #[.agg #[.int .i64 a.1, .int .i64 a.2], .agg #[.int .i64 b.1, .int .i64 b.2]] w fun e w' => e = .returned (.bool (low a b)) ∧ Below w.heap.size w w' := by
  obtain ⟨a1, a2⟩ := a
  obtain ⟨b1, b2⟩ := b
  by_cases h : a1 = b1
  · subst h
    go_enter Try.func26, Try.ntmps26
    go_wp2
    go_ret
    exact ⟨ret_bool (by simp [low]), ((Below.refl _ _).alloc (Nat.le_refl _) _).alloc (by simp) _⟩
  · have hb : (a1 == b1) = false := beq_eq_false_iff_ne.2 h
    go_enter Try.func26, Try.ntmps26
    go_wp2
    go_ret
    exact ⟨ret_bool (by simp [low, h]), ((Below.refl _ _).alloc (Nat.le_refl _) _).alloc (by simp) _⟩

def AsOf (w : World) (l : List It) (e : Ending) (w' : World) : Prop :=
  ∃ (A : Option Addr) (c : Nat), e = .returned (.slice A l.length c) ∧ Ow w' w.heap.size 40 A c l ∧ Below w.heap.size w w'
def AsRel (w : World) (l : List It) (k : Nat) (A : Option Addr) (c : Nat) (wr : World) : Prop :=
  Ow wr w.heap.size 40 A c (l.take k) ∧ Below w.heap.size w wr

theorem take_snoc (l : List It) (k : Nat) (h : k < l.length) : l.take (k + 1) = l.take k ++ [at_ l k] := by
  rw [List.take_succ_eq_append_getElem h]
  simp [at_, List.getD_eq_getElem?_getD, h]

set_option maxHeartbeats 1600000 in
theorem as_any (A : Option Addr) (c : Nat) (l : List It) (w : World) (hbig : l.length ≤ 900000) (hr : Rd w A c l) :
    Calls Try.prog 13 #[.slice A l.length c] w (AsOf w l) := by
  have HR := Lib.hid hr
  clear hr
  go_enter Try.func13, Try.ntmps13
  go_wp2_with fail
  go_loopw [3, 4] (fun s i wr => ∃ (k : Nat) (B : Option Addr) (d : Nat), k ≤ l.length ∧ i = .int .i64 k ∧ s = .slice B k d ∧ AsRel w l k B d wr) (fun _ i _ => l.length - (intOf i).toNat)
  case atStart => exact ⟨0, none, 0, Nat.zero_le _, rfl, rfl, World.ownsRow_nil _ _ _ _, Below.refl _ _⟩
  case round =>
    obtain ⟨k, B, d, hk, rfl, rfl, ho, hb⟩ := hrel
    have HO := Lib.hid ho
    have HB := Lib.hid hb
    clear ho hb
    by_cases hlt : k < l.length
    · obtain ⟨b, off, rfl, hc⟩ := HR.out.2 (by omega)
      obtain ⟨X1, X2⟩ := hc k hlt
      have hbw : b < w.heap.size := lt_of_cell X1
      have x1 := (HB.out.cell (p := ⟨b, off + k * 2, none⟩) hbw).trans X1
      have x2 := (HB.out.cell (p := ⟨b, off + k * 2 + 1, none⟩) hbw).trans X2
      have HX1 := Lib.hid X1
      have HX2 := Lib.hid X2
      clear hc X1 X2
      have q1 : (0 : Int) ≤ (k : Int) := by omega
      have q2 : (k : Int) < (l.length : Int) := by omega
      have hbne : b ≠ wr.heap.size := by have := HB.out.size; omega
      have HT : Hid ((l.take k).length = k) := by show List.length _ = _; simp; omega
      have HN := Lib.hid (take_snoc l k hlt)
      go_wp2_with fail
      go_region_held3 (fun w' => w'.cell? ⟨b, off + k * 2, none⟩ = some (.int .i64 (at_ l k).1) ∧ w'.cell? ⟨b, off + k * 2 + 1, none⟩ = some (.int .i64 (at_ l k).2))
        (first | (exact ⟨(HB3.out.cell (p := ⟨b, off + k * 2, none⟩) hbw).trans HX1.out, (HB3.out.cell (p := ⟨b, off + k * 2 + 1, none⟩) hbw).trans HX2.out⟩) | go_keep)
        (first
          | (refine step_app_rf (by rfl) _ _ (by rfl) (base := w.heap.size) (l := l.take k) (r := [at_ l k]) (by rw [HT.out]; rfl) (by rfl) (by exact Ow.alloc (w := wr.drew) HO.out _) (by (refine rd_one ?_ ?_) <;> (go_simp; done)) (by rw [HT.out]; simp; omega) (by have := HB.out.size; simp; omega) ?_
             intro A' c' w2 k1 k2 k3
             have HB3 := Lib.hid (Below.grown (B := w.heap.size) (a := w) (by exact (Below.drew HB.out).alloc HB.out.size _) k2 (by have := HB.out.size; simp; omega) (fun k hk => HO.out.row k hk))
             have HO3 := Lib.hid k1
             rw [HT.out]
             clear k1 k2 k3))
      go_wp2_with fail
      go_roundw
      case rel => exact ⟨k + 1, A', c', by omega, by go_num, rfl, by rw [HN.out]; exact HO3.out, HB3.out⟩
      case measure => simp [intOf]; omega
    · have hkl : k = l.length := by omega
      subst hkl
      go_wp2_with fail
      go_ret
      exact ⟨B, d, rfl, by have := HO.out; rw [List.take_length] at this; exact this, HB.out⟩

/-- are two lists one? -/
theorem at_eq_of {a b : List It} (hl : a.length = b.length) (h : ∀ i, i < a.length → at_ a i = at_ b i) : a = b := by
  apply List.ext_getElem hl
  intro i h1 h2
  have := h i h1
  simpa [at_, List.getD_eq_getElem?_getD, h1, h2] using this

theorem same_apart (n m : Nat) (A B : Option Addr) (c d : Nat) (w : World) (hne : n ≠ m) :
    Calls Try.prog 18 #[.slice A n c, .slice B m d] w fun e w' => e = .returned (.bool false) ∧ Below w.heap.size w w' := by
  have hb : ((n : Int) != (m : Int)) = true := by rw [bne_iff_ne]; omega
  have hb2 : ((n : Int) == (m : Int)) = false := beq_eq_false_iff_ne.2 (by omega)
  go_enter Try.func18, Try.ntmps18
  go_wp2
  go_ret
  exact ⟨rfl, Below.refl _ _⟩

set_option maxHeartbeats 1600000 in
theorem same_len (A B : Option Addr) (c d : Nat) (a b : List It) (w : World) (hbig : a.length ≤ 1000000) (hl : a.length = b.length) (ha : Rd w A c a) (hb : Rd w B d b) :
    Calls Try.prog 18 #[.slice A a.length c, .slice B a.length d] w fun e w' => e = .returned (.bool (decide (a = b))) ∧ Below w.heap.size w w' := by
  have HA := Lib.hid ha
  have HBb := Lib.hid hb
  have HL := Lib.hid hl
  clear ha hb hl
  go_enter Try.func18, Try.ntmps18
  go_wp2_with fail
  go_loopw [5] (fun i wr => ∃ k : Nat, k ≤ a.length ∧ i = .int .i64 k ∧ Hid (∀ j, j < k → at_ a j = at_ b j) ∧ Hid (Below w.heap.size w wr)) (fun i _ => a.length - (intOf i).toNat)
  case atStart => exact ⟨0, Nat.zero_le _, rfl, (fun j hj => by omega), Below.refl _ _⟩
  case round =>
    obtain ⟨k, hk, rfl, HH, HB⟩ := hrel
    by_cases hlt : k < a.length
    · obtain ⟨ab, ao, rfl, hca⟩ := (HA.out.below HB.out).2 (by omega)
      obtain ⟨bb, bo, rfl, hcb⟩ := (HBb.out.below HB.out).2 (by have := HL.out; omega)
      obtain ⟨x1, x2⟩ := hca k hlt
      obtain ⟨y1, y2⟩ := hcb k (by have := HL.out; omega)
      clear hca hcb
      have q1 : (0 : Int) ≤ (k : Int) := by omega
      have q2 : (k : Int) < (a.length : Int) := by omega
      by_cases he : at_ a k = at_ b k
      · have HE := Lib.hid he
        rw [← he] at y1 y2
        clear he
        go_wp2_with fail
        go_quiet (fail)
        go_wp2_with fail
        go_roundw
        case rel =>
          refine ⟨k + 1, by omega, by go_num, ?_, ⟨HB.out.os, HB.out.tape, HB.out.output, HB.out.size, HB.out.block⟩⟩
          intro j hj
          by_cases e : j = k
          · subst e; exact HE.out
          · exact HH.out j (by omega)
        case measure => simp [intOf]; omega
      · have HN : Hid (decide (a = b) = false) := decide_eq_false (fun e => he (by rw [e]))
        generalize at_ a k = x at *
        generalize at_ b k = y at *
        obtain ⟨xa, xb⟩ := x
        obtain ⟨ya, yb⟩ := y
        simp only [Prod.mk.injEq] at he
        simp only at x1 x2 y1 y2
        by_cases h1 : xa = ya
        · subst h1
          have h2 : ¬ xb = yb := fun e => he ⟨rfl, e⟩
          have hb2 : (xb == yb) = false := beq_eq_false_iff_ne.2 h2
          clear he
          go_wp2_with fail
          go_quiet (fail)
          go_wp2_with fail
          go_ret
          exact ⟨ret_bool HN.out.symm, ⟨HB.out.os, HB.out.tape, HB.out.output, HB.out.size, HB.out.block⟩⟩
        · have hb2 : (xa == ya) = false := beq_eq_false_iff_ne.2 h1
          clear he
          go_wp2_with fail
          go_quiet (fail)
          go_wp2_with fail
          go_ret
          exact ⟨ret_bool HN.out.symm, ⟨HB.out.os, HB.out.tape, HB.out.output, HB.out.size, HB.out.block⟩⟩
    · go_wp2_with fail
      go_ret
      exact ⟨ret_bool (by rw [eq_comm, decide_eq_true_eq]; exact at_eq_of HL.out (fun i hi => HH.out i (by omega))), HB.out⟩

theorem same_any (A B : Option Addr) (c d : Nat) (a b : List It) (w : World) (h1 : a.length ≤ 1000000) (ha : Rd w A c a) (hb : Rd w B d b) :
    Calls Try.prog 18 #[.slice A a.length c, .slice B b.length d] w fun e w' => e = .returned (.bool (decide (a = b))) ∧ Below w.heap.size w w' := by
  by_cases hl : a.length = b.length
  · rw [← hl]
    exact same_len A B c d a b w h1 hl ha hb
  · rw [decide_eq_false (fun e : a = b => hl (by rw [e]))]
    exact same_apart _ _ A B c d w hl

end Hp
end Go.Proofs.Yteadcjfbmckgpaa
