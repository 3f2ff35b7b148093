/-
  Layer 4 (span): the closure that adds a piece to a list that it has captured.
-/
import Derived.Test.YtdgemmhaddnbdaaSpanSorted
namespace Go.Proofs.Ytdgemmhaddnbdaa
open Go.Shelf Go.RowKit Go.Lib Go.Sort
namespace Hp

/-- block X has the captured variable: a slice of the call's own, behind X -/
def OutAt (w : World) (X : Nat) (l : List It) (A : Option Addr) (c : Nat) : Prop :=
  w.cell? ⟨X, 0, none⟩ = some (.slice A l.length c) ∧ w.frozen? ⟨X, 0, none⟩ = false ∧ Ow w (X + 1) 29 A c l
/-- nothing has turned but block X and the block of the slice -/
structure KeptBut (w w' : World) (X : Nat) (A : Option Addr) : Prop where
  os : w'.os = w.os
  tape : w'.tape = w.tape
  output : w'.output = w.output
  size : w.heap.size ≤ w'.heap.size
  block : ∀ i, i < w.heap.size → i ≠ X → (∀ g, A = some ⟨g, 0, none⟩ → i ≠ g) → w'.heap[i]? = w.heap[i]?
def AddsTo (w : World) (X : Nat) (A : Option Addr) (l : List It) (e : Ending) (w' : World) : Prop :=
  e = .returned (.tuple #[]) ∧ ∃ A' c', OutAt w' X l A' c' ∧ KeptBut w w' X A

theorem KeptBut.below {w w' : World} {X c : Nat} {A : Option Addr} {l : List It} (h : KeptBut w w' X A) (ho : OutAt w X l A c) : Below X w w' :=
  ⟨h.os, h.tape, h.output, h.size, fun i hi => h.block i (by have := lt_of_cell ho.1; simp only at this; omega) (by omega) (fun g hg => by
    subst hg
    obtain ⟨k1, _⟩ := World.ownsRow.lt ho.2.2 g rfl
    omega)⟩
theorem cells_set2 (l : List It) (k : Nat) (hk : k < l.length) (v : Int) : (cells l).set (k * 2 + 1) (.int .i64 v) = cells (l.set k ((at_ l k).1, v)) := by
  induction l generalizing k with
  | nil => simp at hk
  | cons p r ih =>
    cases k with
    | zero => simp [cells, at_]
    | succ k =>
      have := ih k (by simpa using hk)
      simp only [cells, List.set_cons_succ, Nat.succ_mul, at_cons_succ]
      rw [this]
theorem Ow.put2 {w : World} {base g c : Nat} {e : TypeId} {l : List It} (h : Ow w base e (some ⟨g, 0, none⟩) c l) (k : Nat) (hk : k < l.length) (v : Int) :
    Ow (w.setCell ⟨g, k * 2 + 1, none⟩ (.int .i64 v)) base e (some ⟨g, 0, none⟩) c (l.set k ((at_ l k).1, v)) ∧ w.grownBy (w.setCell ⟨g, k * 2 + 1, none⟩ (.int .i64 v)) (some g) := by
  obtain ⟨h1, g1⟩ := World.ownsRow.stored h (k * 2 + 1) (.int .i64 v)
  refine ⟨?_, g1⟩
  unfold Ow
  rw [← cells_set2 l k hk, List.length_set]
  exact h1
theorem addP_no {l : List It} {f t : Int} (h : t ≤ f) : addP l f t = l := if_pos h
theorem addP_join {l : List It} {f t : Int} (h : ¬ t ≤ f) (h0 : 0 < l.length) (h1 : f ≤ (at_ l (l.length - 1)).2) : addP l f t = l.set (l.length - 1) ((at_ l (l.length - 1)).1, max (at_ l (l.length - 1)).2 t) := by
  unfold addP; rw [if_neg h, if_pos ⟨h0, h1⟩]
theorem addP_new {l : List It} {f t : Int} (h : ¬ t ≤ f) (h1 : l.length = 0 ∨ ¬ f ≤ (at_ l (l.length - 1)).2) : addP l f t = l ++ [(f, t)] := by
  unfold addP; rw [if_neg h, if_neg (fun ⟨h0, h2⟩ => by rcases h1 with h1 | h1; · omega
                                                        · exact h1 h2)]
/-- behind an append and the store of its slice into block X -/
theorem out_stored {w w1 w2 : World} {X : Nat} {A A' : Option Addr} {c c' : Nat} {l l' : List It} (h : OutAt w X l A c) (hb : Below w.heap.size w w1) (k1 : Ow w2 (X + 1) 29 A' c' l') (k2 : w1.grownBy w2 (Value.slice A l.length c).ownBlock) :
    OutAt (w2.setCell ⟨X, 0, none⟩ (.slice A' l'.length c')) X l' A' c' ∧ KeptBut w (w2.setCell ⟨X, 0, none⟩ (.slice A' l'.length c')) X A ∧ w2.frozen? ⟨X, 0, none⟩ = false ∧ ∃ v, w2.cell? ⟨X, 0, none⟩ = some v := by
  have hX := lt_of_cell h.1
  simp only at hX
  have hne : some X ≠ (Value.slice A l.length c).ownBlock := by
    intro e
    have := (World.ownsRow.lt h.2.2 X e.symm).1
    omega
  have hX1 : X < w1.heap.size := Nat.lt_of_lt_of_le hX hb.size
  have e1 : w2.heap[X]? = w.heap[X]? := (k2.block X hX1 hne).trans (hb.block X hX)
  have c2 : w2.cell? ⟨X, 0, none⟩ = some (.slice A l.length c) := (World.cell?_of_block (w := w) e1).trans h.1
  have f2 : w2.frozen? ⟨X, 0, none⟩ = false := by
    have h2 := h.2.1
    unfold World.frozen? at h2 ⊢
    rw [e1]; exact h2
  refine ⟨⟨?_, ?_, ?_⟩, ⟨?_, ?_, ?_, ?_, ?_⟩, f2, _, c2⟩
  · exact World.cell?_setCell_same _ _ _ c2
  · rw [World.frozen?_setCell]; exact f2
  · refine k1.farAny (fun g hg => ?_) _
    have := (World.ownsRow.lt k1 g (by rw [hg]; rfl)).1
    simp only; omega
  · exact k2.os.trans hb.os
  · exact k2.tape.trans hb.tape
  · exact k2.output.trans hb.output
  · rw [World.size_setCell]; exact Nat.le_trans hb.size k2.size
  · intro i hi hiX hA
    rw [Below.heap_setCell w2 ⟨X, 0, none⟩ _ i hiX]
    refine (k2.block i (Nat.lt_of_lt_of_le hi hb.size) (fun e => ?_)).trans (hb.block i hi)
    rcases h.2.2.cases with ⟨rfl, _⟩ | ⟨g, rfl, _⟩
    · cases e
    · exact hA g rfl (by injection e)

theorem buildS (f t : Int) (w : World) : (Instr.build 29 #[(0, .int .i64 f), (1, .int .i64 t)]).run Try.prog w = .ok (.agg #[.int .i64 f, .int .i64 t]) w := by kernel_rfl
attribute [local go_sem ↓] buildS

set_option maxHeartbeats 1600000 in
theorem add_any (X : Nat) (f t : Int) (l : List It) (A : Option Addr) (c : Nat) (w : World) (hbig : l.length ≤ 900000) (h : OutAt w X l A c) :
    Calls Try.prog 30 #[.int .i64 f, .int .i64 t, .pointer (some ⟨X, 0, none⟩)] w (AddsTo w X A (addP l f t)) := by
  have x0 := h.1
  have HO := Lib.hid h
  by_cases h1 : t ≤ f
  · have HE := Lib.hid (addP_no (l := l) h1)
    clear h
    go_enter Try.func30, Try.ntmps30
    go_wp2
    go_end0
    exact ⟨rfl, A, c, by rw [HE.out]; exact HO.out, rfl, rfl, rfl, Nat.le_refl _, fun _ _ _ _ => rfl⟩
  · rcases Nat.eq_zero_or_pos l.length with h0 | h0
    · have hl := List.eq_nil_of_length_eq_zero h0
      subst hl
      have HE := Lib.hid (addP_new h1 (.inl h0))
      simp only [List.length_nil] at x0
      clear h h0
      go_enter Try.func30, Try.ntmps30
      go_wp2_with (at_builtin; refine list_app_it rfl _ _ rfl (base := X + 1) (l := []) (r := [(f, t)]) rfl rfl (HO.out.2.2.alloc _) (rd_one (by simp) (by simp)) (by simp <;> omega) (by have := lt_of_cell HO.out.1; simp at this; simp; omega) ?_; intro A' c' w2 k1 k2 k3; obtain ⟨K1, K2, fz2, v2, z2⟩ := out_stored HO.out (below_one w _) k1 k2; have HK1 := Lib.hid K1; have HK2 := Lib.hid K2; clear k1 k2 k3 K1 K2)
      go_end0
      exact ⟨rfl, A', c', by rw [HE.out]; simpa using HK1.out, by simpa using HK2.out⟩
    · obtain ⟨g, rfl, hgX, hglt, _⟩ := h.2.2.form h0
      obtain ⟨_, y2⟩ := h.2.2.cell (l.length - 1) (by omega)
      have fy := World.ownsRow.frozenAt h.2.2 ((l.length - 1) * 2 + 1)
      have q1 : (0 : Int) ≤ (l.length : Int) - 1 := by omega
      have q2 : (l.length : Int) - 1 < (l.length : Int) := by omega
      have q3 : ((l.length : Int) - 1).toNat = l.length - 1 := by omega
      have q4 : 0 < l.length := h0
      by_cases h2 : f ≤ (at_ l (l.length - 1)).2
      · have HE := Lib.hid (addP_join h1 h0 h2)
        have HP := Lib.hid (h.2.2.put2 (l.length - 1) (by omega) (max (at_ l (l.length - 1)).2 t))
        clear h h0
        generalize at_ l (l.length - 1) = y at *
        go_enter Try.func30, Try.ntmps30
        go_wp2_with fail
        go_region
        go_end0
        have hne : X ≠ g := by omega
        have eX : ((w.setCell ⟨g, (l.length - 1) * 2 + 1, none⟩ (.int .i64 (max y.2 t))).drew).heap[X]? = w.heap[X]? := Below.heap_setCell w _ _ X hne
        refine ⟨rfl, some ⟨g, 0, none⟩, c, ?_, rfl, rfl, rfl, ?_, ?_⟩
        · rw [HE.out]
          refine ⟨?_, ?_, HP.out.1⟩
          · rw [List.length_set]
            exact (World.cell?_of_block (w := w) eX).trans HO.out.1
          · have h2 := HO.out.2.1
            unfold World.frozen? at h2 ⊢
            rw [eX]; exact h2
        · show w.heap.size ≤ (w.setCell ⟨g, (l.length - 1) * 2 + 1, none⟩ (.int .i64 (max y.2 t))).heap.size
          rw [World.size_setCell]
          exact Nat.le_refl _
        · intro i _ _ hA
          exact Below.heap_setCell w _ _ i (hA g rfl)
      · have HE := Lib.hid (addP_new h1 (.inr h2))
        clear h
        generalize at_ l (l.length - 1) = y at *
        go_enter Try.func30, Try.ntmps30
        go_wp2_with (at_builtin; refine list_app_it rfl _ _ rfl (base := X + 1) (l := l) (r := [(f, t)]) rfl rfl (HO.out.2.2.alloc _) (rd_one (by simp) (by simp)) (by simp <;> omega) (by have := lt_of_cell HO.out.1; simp at this; simp; omega) ?_; intro A' c' w2 k1 k2 k3; obtain ⟨K1, K2, fz2, v2, z2⟩ := out_stored HO.out (below_one w _) k1 k2; have HK1 := Lib.hid K1; have HK2 := Lib.hid K2; clear k1 k2 k3 K1 K2)
        go_end0
        exact ⟨rfl, A', c', by rw [HE.out]; simpa using HK1.out, by simpa using HK2.out⟩

end Hp
end Go.Proofs.Ytdgemmhaddnbdaa
