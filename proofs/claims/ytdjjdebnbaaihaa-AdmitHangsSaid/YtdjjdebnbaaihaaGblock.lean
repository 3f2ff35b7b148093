/-
  Merged texts: BlockMath, BlockUsed, BlockOf.
-/
import Derived.Test.YtdjjdebnbaaihaaGtask
import Derived.Test.YtdjjdebnbaaihaaGmem
/-
  Layer 8 (block): plain mathematics: the blocking, and where it may change.
-/
namespace Go.Proofs.Ytdjjdebnbaaihaa
namespace Bk
open Mm Tk

/-- does a task use a resource (as far as its sections say) -/
def useT (t : Tsk) (r : Int) : Bool := t.2.2.2.any fun x => decide (x.1 = r)
/-- is a resource used by a task that is due by t -/
def nearB (L : List Tsk) (t r : Int) : Bool := L.any fun y => decide (y.2.1 ≤ t) && useT y r
/-- how long a section, a task may be in the way; the blocking -/
def blkS (L : List Tsk) (t : Int) (s : Sc) : Nat := if nearB L t s.1 then s.2.2.toNat else 0
def blkT (L : List Tsk) (t : Int) (x : Tsk) : Nat := if t < x.2.1 then most (blkS L t) x.2.2.2 else 0
def blk (L : List Tsk) (t : Int) : Nat := most (blkT L t) L

theorem near_iff {L : List Tsk} {t r : Int} : nearB L t r = true ↔ ∃ y ∈ L, y.2.1 ≤ t ∧ useT y r = true := by
  unfold nearB
  rw [List.any_eq_true]
  simp only [Bool.and_eq_true, decide_eq_true_eq]
theorem blkS_le (L : List Tsk) (t : Int) (s : Sc) : blkS L t s ≤ s.2.2.toNat := by
  unfold blkS
  split <;> omega
/-- there is none where no task is due, or all are -/
theorem blk_low {L : List Tsk} {t : Int} (h : ∀ x ∈ L, t < x.2.1) : blk L t = 0 := by
  apply most_zero
  intro x _
  unfold blkT
  split
  · apply most_zero
    intro s _
    unfold blkS
    rw [if_neg]
    intro e
    obtain ⟨y, hy, h1, _⟩ := near_iff.1 e
    have := h y hy
    omega
  · rfl
theorem blk_high {L : List Tsk} {t : Int} (h : ∀ x ∈ L, x.2.1 ≤ t) : blk L t = 0 := by
  apply most_zero
  intro x hx
  have := h x hx
  unfold blkT
  rw [if_neg (by omega)]
/-- it hangs on which tasks are due by t alone -/
theorem blk_same {L : List Tsk} {t u : Int} (h : ∀ x ∈ L, (x.2.1 ≤ t ↔ x.2.1 ≤ u)) : blk L t = blk L u := by
  have hn : ∀ r, nearB L t r = nearB L u r := by
    intro r
    rw [Bool.eq_iff_iff, near_iff, near_iff]
    constructor
    · rintro ⟨y, hy, h1, h2⟩; exact ⟨y, hy, (h y hy).1 h1, h2⟩
    · rintro ⟨y, hy, h1, h2⟩; exact ⟨y, hy, (h y hy).2 h1, h2⟩
  apply most_congr
  intro x hx
  have h1 := h x hx
  have e : blkS L t = blkS L u := by
    funext s
    unfold blkS
    rw [hn]
  unfold blkT
  rw [e]
  by_cases h2 : t < x.2.1
  · rw [if_pos h2, if_pos (by omega)]
  · rw [if_neg h2, if_neg (by omega)]
/-- P8.3 -/
theorem blk_more {L M : List Tsk} {t : Int} (h : ∀ x ∈ L, x ∈ M) : blk L t ≤ blk M t := by
  refine Nat.le_trans (most_mono fun x _ => ?_) (most_sub h)
  unfold blkT
  split
  · apply most_mono
    intro s _
    unfold blkS
    by_cases hn : nearB L t s.1 = true
    · have : nearB M t s.1 = true := by
        obtain ⟨y, hy, h1, h2⟩ := near_iff.1 hn
        exact near_iff.2 ⟨y, h y hy, h1, h2⟩
      rw [if_pos hn, if_pos this]
      exact Nat.le_refl _
    · rw [if_neg hn]
      exact Nat.zero_le _
  · exact Nat.le_refl _
/-- it is the length of a section, or 0 -/
theorem blk_is {L : List Tsk} {t : Int} : blk L t = 0 ∨ ∃ x ∈ L, ∃ s ∈ x.2.2.2, blk L t = s.2.2.toNat := by
  rcases most_is (f := blkT L t) (L := L) with h | ⟨x, hx, h⟩
  · exact .inl h
  · unfold blk
    rw [h]
    unfold blkT
    split
    · rcases most_is (f := blkS L t) (L := x.2.2.2) with h | ⟨s, hs, h⟩
      · exact .inl h
      · rw [h]
        unfold blkS
        split
        · exact .inr ⟨x, hx, s, hs, rfl⟩
        · exact .inl rfl
    · exact .inl rfl
theorem right_sec {x : Tsk} (h : rightT x = true) {s : Sc} (hs : s ∈ x.2.2.2) : 1 ≤ s.2.2 ∧ s.2.2 ≤ 200 := by
  have h1 := times_iff.1 (rightB_iff.1 h).1
  have h2 := sec_iff.1 ((ok_of (show rightB x.1 x.2.1 x.2.2.1 x.2.2.2 = true from h)).1 s hs)
  omega
theorem blk_le {L : List Tsk} (h : allB L = true) (t : Int) : blk L t ≤ 200 := by
  rcases blk_is (L := L) (t := t) with e | ⟨x, hx, s, hs, e⟩
  · omega
  · unfold allB at h
    rw [Bool.and_eq_true, List.all_eq_true] at h
    have := right_sec (h.2 x hx) hs
    omega

/-- where it may change: the D of all tasks, rising, each once -/
def steps (L : List Tsk) : List Int := ((List.range 201).filter fun (d : Nat) => L.any fun x => decide (x.2.1 = (d : Int))).map fun (d : Nat) => (d : Int)
theorem mem_steps {L : List Tsk} (h : allB L = true) {d : Int} : d ∈ steps L ↔ ∃ x ∈ L, x.2.1 = d := by
  unfold allB at h
  rw [Bool.and_eq_true, List.all_eq_true] at h
  unfold steps
  rw [List.mem_map]
  constructor
  · rintro ⟨n, hn, rfl⟩
    rw [List.mem_filter, List.any_eq_true] at hn
    obtain ⟨x, hx, e⟩ := hn.2
    exact ⟨x, hx, of_decide_eq_true e⟩
  · rintro ⟨x, hx, rfl⟩
    have := times_iff.1 (rightB_iff.1 (h.2 x hx)).1
    refine ⟨x.2.1.toNat, List.mem_filter.2 ⟨by rw [List.mem_range]; omega, ?_⟩, by omega⟩
    rw [List.any_eq_true]
    exact ⟨x, hx, by simp; omega⟩
theorem steps_rise (L : List Tsk) : (steps L).Pairwise (· < ·) := by
  unfold steps
  rw [List.pairwise_map]
  refine (List.pairwise_lt_range.filter _).imp ?_
  intro a b h
  omega
theorem rise_unique : ∀ {a b : List Int}, a.Pairwise (· < ·) → b.Pairwise (· < ·) → (∀ x, x ∈ a ↔ x ∈ b) → a = b
  | [], [], _, _, _ => rfl
  | [], y :: b, _, _, h => by have := (h y).2 (by simp); simp at this
  | x :: a, [], _, _, h => by have := (h x).1 (by simp); simp at this
  | x :: a, y :: b, ha, hb, h => by
    obtain ⟨ha1, ha2⟩ := List.pairwise_cons.1 ha
    obtain ⟨hb1, hb2⟩ := List.pairwise_cons.1 hb
    have e : x = y := by
      have h1 := (h x).1 (by simp)
      have h2 := (h y).2 (by simp)
      rcases List.mem_cons.1 h1 with e | h1
      · exact e
      · rcases List.mem_cons.1 h2 with e | h2
        · exact e.symm
        · have := ha1 y h2
          have := hb1 x h1
          omega
    subst e
    rw [rise_unique ha2 hb2 fun z => ?_]
    constructor
    · intro hz
      have := ha1 z hz
      rcases List.mem_cons.1 ((h z).1 (List.mem_cons_of_mem _ hz)) with e | h'
      · omega
      · exact h'
    · intro hz
      have := hb1 z hz
      rcases List.mem_cons.1 ((h z).2 (List.mem_cons_of_mem _ hz)) with e | h'
      · omega
      · exact h'
theorem steps_unique {L : List Tsk} (h : allB L = true) {s : List Int} (hs : s.Pairwise (· < ·)) (hm : ∀ d, d ∈ s ↔ ∃ x ∈ L, x.2.1 = d) : s = steps L :=
  rise_unique hs (steps_rise L) fun d => by rw [hm, mem_steps h]
theorem steps_le {L : List Tsk} (h : allB L = true) {d : Int} (hd : d ∈ steps L) : 1 ≤ d ∧ d ≤ 200 := by
  obtain ⟨x, hx, rfl⟩ := (mem_steps h).1 hd
  unfold allB at h
  rw [Bool.and_eq_true, List.all_eq_true] at h
  have := times_iff.1 (rightB_iff.1 (h.2 x hx)).1
  omega
theorem rise_at {s : List Int} (hs : s.Pairwise (· < ·)) {i k : Nat} (h : i < k) (hk : k < s.length) : at_ s i < at_ s k := by
  have := List.pairwise_iff_getElem.1 hs i k (by omega) hk h
  rwa [at_get (by omega), at_get hk]
/-- between two steps nothing changes; below the first one, and from the last one on, there is none -/
theorem blk_between {L : List Tsk} (h : allB L = true) {t : Int} {i : Nat} (hi : i < (steps L).length) (h1 : at_ (steps L) i ≤ t) (h2 : ∀ k, i < k → k < (steps L).length → t < at_ (steps L) k) : blk L t = blk L (at_ (steps L) i) := by
  apply blk_same
  intro x hx
  constructor
  · intro hd
    obtain ⟨k, hk, e⟩ := mem_at ((mem_steps h).2 ⟨x, hx, rfl⟩)
    rcases Nat.lt_or_ge i k with hik | hik
    · have := h2 k hik hk
      omega
    · rcases Nat.lt_or_ge k i with hki | hki
      · have := rise_at (steps_rise L) hki hi
        omega
      · have : k = i := by omega
        subst this
        omega
  · intro hd; omega
theorem blk_first {L : List Tsk} (h : allB L = true) {t : Int} (h2 : ∀ k, k < (steps L).length → t < at_ (steps L) k) : blk L t = 0 := by
  apply blk_low
  intro x hx
  obtain ⟨k, hk, e⟩ := mem_at ((mem_steps h).2 ⟨x, hx, rfl⟩)
  have := h2 k hk
  omega
theorem blk_last {L : List Tsk} (h : allB L = true) {t : Int} (h1 : 0 < (steps L).length) (h2 : at_ (steps L) ((steps L).length - 1) ≤ t) : blk L t = 0 := by
  apply blk_high
  intro x hx
  obtain ⟨k, hk, e⟩ := mem_at ((mem_steps h).2 ⟨x, hx, rfl⟩)
  by_cases hk1 : k = (steps L).length - 1
  · subst hk1; omega
  · have := rise_at (steps_rise L) (show k < (steps L).length - 1 by omega) (by omega)
    omega
/-- tasks without sections, tasks of one deadline -/
theorem blk_plain {L : List Tsk} (h : ∀ x ∈ L, x.2.2.2 = []) (t : Int) : blk L t = 0 := by
  apply most_zero
  intro x hx
  unfold blkT
  rw [h x hx]
  split <;> rfl
theorem blk_one {L : List Tsk} {d : Int} (h : ∀ x ∈ L, x.2.1 = d) (t : Int) : blk L t = 0 := by
  rcases Int.lt_or_le t d with h1 | h1
  · exact blk_low fun x hx => by rw [h x hx]; exact h1
  · exact blk_high fun x hx => by rw [h x hx]; exact h1

end Bk
end Go.Proofs.Ytdjjdebnbaaihaa

/-
  Layer 8 (block): usedBy; the closure that keeps the greatest.
-/
namespace Go.Proofs.Ytdjjdebnbaaihaa
open Go.RowKit Mm Tk Go.Shelf
namespace Bk

/-- is a task due by t, and does it use a resource -/
def nearP (t r : Int) (y : Tsk) : Bool := decide (y.2.1 ≤ t) && usesB y.1 y.2.1 y.2.2.1 y.2.2.2 r
theorem near_eq {L : List Tsk} (h : allB L = true) (t r : Int) : L.any (nearP t r) = nearB L t r := by
  unfold allB at h
  rw [Bool.and_eq_true, List.all_eq_true] at h
  rw [Bool.eq_iff_iff, near_iff, List.any_eq_true]
  constructor
  · rintro ⟨y, hy, e⟩
    unfold nearP usesB at e
    rw [Bool.and_eq_true, decide_eq_true_eq, Bool.and_eq_true] at e
    exact ⟨y, hy, e.1, e.2.2⟩
  · rintro ⟨y, hy, h1, h2⟩
    refine ⟨y, hy, ?_⟩
    unfold nearP usesB
    rw [Bool.and_eq_true, decide_eq_true_eq, Bool.and_eq_true]
    exact ⟨h1, h.2 y hy, h2⟩

theorem near_closure (t r : Int) (X Y : Nat) (w : World) (hX : w.cell? ⟨X, 0, none⟩ = some (.int .i64 t)) (hY : w.cell? ⟨Y, 0, none⟩ = some (.int .i64 r)) :
    PredTask 92 #[.pointer (some ⟨X, 0, none⟩), .pointer (some ⟨Y, 0, none⟩)] (nearP t r) w := fun W x B d hb hr hl => by
  obtain ⟨t1, t2, t3, t4⟩ := box_new W x.1 x.2.1 x.2.2.1 B x.2.2.2.length d
  have b0 := below_one W (Obj.cells #[.int .i64 x.1, .int .i64 x.2.1, .int .i64 x.2.2.1, .slice B x.2.2.2.length d] 33)
  have c1 := cell_new (cell_below hb hX) (.cells #[.int .i64 x.1, .int .i64 x.2.1, .int .i64 x.2.2.1, .slice B x.2.2.2.length d] 33)
  have c2 := cell_new (cell_below hb hY) (.cells #[.int .i64 x.1, .int .i64 x.2.1, .int .i64 x.2.2.1, .slice B x.2.2.2.length d] 33)
  show Calls Try.prog 92 #[.agg #[.int .i64 x.1, .int .i64 x.2.1, .int .i64 x.2.2.1, .slice B x.2.2.2.length d], .pointer (some ⟨X, 0, none⟩), .pointer (some ⟨Y, 0, none⟩)] W _
  clear hX hY hb
  have HR := Lib.hid hr
  have B0 := Lib.hid b0
  clear hr b0
  by_cases hd : x.2.1 ≤ t
  · have HH : Hid (nearP t r x = usesB x.1 x.2.1 x.2.2.1 x.2.2.2 r) := by show _ = _; simp [nearP, hd]
    go_enter Try.func92, Try.ntmps92
    go_wp2_with fail
    generalize W.alloc (Obj.cells #[.int .i64 x.1, .int .i64 x.2.1, .int .i64 x.2.2.1, .slice B x.2.2.2.length d] 33) = w0 at *
    refine (uses_any x.1 x.2.1 x.2.2.1 B d x.2.2.2 r _ hl (HR.out.below B0.out)).mono ?_
    rintro e w1 ⟨rfl, b1⟩
    have B1 := Lib.hid (below_step B0.out b1)
    clear b1
    go_wp2_with fail
    go_ret
    exact ⟨ret_bool HH.out.symm, B1.out⟩
  · have HH : Hid (nearP t r x = false) := by show _ = _; simp [nearP, hd]
    go_enter Try.func92, Try.ntmps92
    go_wp2_with fail
    go_ret
    exact ⟨ret_bool HH.out.symm, B0.out⟩
theorem nearEnters : ∀ args w, (callFunc 92 args).run Try.prog w = .ok (.enter 92 args) w := enters_of Try.func92 (by kernel_rfl) rfl

set_option maxHeartbeats 800000 in
theorem used_any (A : Option Addr) (c : Nat) (L : List Tsk) (r t : Int) (w : World) (H : TL w A c L) :
    Calls Try.prog 91 #[.slice A L.length c, .int .i64 r, .int .i64 t] w fun e w' => e = .returned (.bool (L.any (nearP t r))) ∧ Below w.heap.size w w' := by
  have hb1 := H.1
  have HT := Lib.hid (H.below (below_two w (Obj.cells #[.int .i64 r] 3) (Obj.cells #[.int .i64 t] 3)))
  have B0 := Lib.hid (below_two w (Obj.cells #[.int .i64 r] 3) (Obj.cells #[.int .i64 t] 3))
  have r1 : ((w.alloc (Obj.cells #[.int .i64 r] 3)).alloc (Obj.cells #[.int .i64 t] 3)).cell? ⟨w.heap.size, 0, none⟩ = some (.int .i64 r) := cell_new (by simp) _
  have r2 : ((w.alloc (Obj.cells #[.int .i64 r] 3)).alloc (Obj.cells #[.int .i64 t] 3)).cell? ⟨w.heap.size + 1, 0, none⟩ = some (.int .i64 t) := by simp
  clear H
  go_enter Try.func91, Try.ntmps91
  go_wp2_with fail
  generalize (w.alloc (Obj.cells #[.int .i64 r] 3)).alloc (Obj.cells #[.int .i64 t] 3) = w0 at *
  refine (hasTask _ _ _ nearEnters A c L _ hb1 HT.out.2.1 (near_closure t r _ _ _ r2 r1) HT.out.2.2).mono ?_
  rintro e w1 ⟨rfl, b1⟩
  have B1 := Lib.hid (below_step B0.out b1)
  clear b1
  go_wp2_with fail
  go_ret
  exact ⟨rfl, B1.out⟩

/-- block X has the greatest so far -/
def Best (w : World) (X : Nat) (v : Nat) : Prop := w.cell? ⟨X, 0, none⟩ = some (.int .i64 v) ∧ w.frozen? ⟨X, 0, none⟩ = false
theorem Best.below {w w' : World} {X v : Nat} (h : Best w X v) (b : Below w.heap.size w w') : Best w' X v := ⟨cell_below b h.1, frozen_below b h.1 h.2⟩
theorem Best.put {w : World} {X v : Nat} (h : Best w X v) (u : Nat) : Best (w.setCell ⟨X, 0, none⟩ (.int .i64 u)) X u :=
  ⟨World.cell?_setCell_same _ _ _ h.1, by rw [World.frozen?_setCell]; exact h.2⟩
/-- what the closure does -/
def Kept (w : World) (base X u : Nat) (e : Ending) (w' : World) : Prop := e = .returned (.tuple #[]) ∧ Best w' X u ∧ Below base w w' ∧ (∀ i, i < w.heap.size → i ≠ X → w'.heap[i]? = w.heap[i]?)
theorem kept_put {w w1 : World} {base X v u : Nat} {z : Int} (hz : z = (u : Int)) (hX : base ≤ X) (h : Best w X v) (b : Below w.heap.size w w1) : Kept w base X u (.returned (.tuple #[])) (w1.setCell ⟨X, 0, none⟩ (.int .i64 z)) := by
  subst hz
  have hX' := lt_of_cell h.1
  simp only at hX'
  refine ⟨rfl, (h.below b).put u, (b.mono (by omega)).setCell (by exact hX) _, fun i hi h1 => ?_⟩
  rw [Below.heap_setCell _ _ _ _ h1]
  exact b.block i hi
theorem kept_same {w w1 : World} {base X v u : Nat} (hu : u = v) (hX : base ≤ X) (h : Best w X v) (b : Below w.heap.size w w1) : Kept w base X u (.returned (.tuple #[])) w1 := by
  subst hu
  have hX' := lt_of_cell h.1
  simp only at hX'
  exact ⟨rfl, h.below b, b.mono (by omega), fun i hi _ => b.block i hi⟩
theorem cell_kept1 {w w' : World} {X Y j : Nat} (hk : ∀ i, i < w.heap.size → i ≠ X → w'.heap[i]? = w.heap[i]?) (h1 : Y ≠ X) {v : Value} (h : w.cell? ⟨Y, j, none⟩ = some v) : w'.cell? ⟨Y, j, none⟩ = some v :=
  (World.cell?_of_block (w := w) (hk Y (lt_of_cell h) h1)).trans h

/-- how long a section may be in the way, as the closure sees it -/
def blkP (L : List Tsk) (t : Int) (s : Sc) : Nat := if L.any (nearP t s.1) then s.2.2.toNat else 0

set_option maxHeartbeats 1600000 in
theorem keep_closure (base X Y Z v : Nat) (A : Option Addr) (c : Nat) (L : List Tsk) (t : Int) (s : Sc) (w : World) (hX : base ≤ X) (h : Best w X v) (H : TL w A c L)
    (hY : w.cell? ⟨Y, 0, none⟩ = some (.slice A L.length c)) (hZ : w.cell? ⟨Z, 0, none⟩ = some (.int .i64 t)) :
    Calls Try.prog 90 #[.agg #[.int .i64 s.1, .int .i64 s.2.1, .int .i64 s.2.2], .pointer (some ⟨X, 0, none⟩), .pointer (some ⟨Y, 0, none⟩), .pointer (some ⟨Z, 0, none⟩)] w (Kept w base X (max v (blkP L t s))) := by
  have b0 := below_one w (Obj.cells #[.int .i64 s.1, .int .i64 s.2.1, .int .i64 s.2.2] 80)
  have s1 : (w.alloc (Obj.cells #[.int .i64 s.1, .int .i64 s.2.1, .int .i64 s.2.2] 80)).cell? ⟨w.heap.size, 0, none⟩ = some (.int .i64 s.1) := by simp
  have s3 : (w.alloc (Obj.cells #[.int .i64 s.1, .int .i64 s.2.1, .int .i64 s.2.2] 80)).cell? ⟨w.heap.size, 2, none⟩ = some (.int .i64 s.2.2) := by simp
  have hx1 := cell_below b0 h.1
  have hx2 := frozen_below b0 h.1 h.2
  replace hY := cell_below b0 hY
  replace hZ := cell_below b0 hZ
  have HB := Lib.hid h
  have HT := Lib.hid (H.below b0)
  have B0 := Lib.hid b0
  clear b0
  clear h H
  by_cases hv : (v : Int) < s.2.2
  · cases hn : L.any (nearP t s.1) with
    | true =>
      have HU : Hid (s.2.2 = ((max v (blkP L t s) : Nat) : Int)) := by show _ = _; rw [blkP, if_pos hn]; omega
      have HN := Lib.hid hn
      clear hn
      go_enter Try.func90, Try.ntmps90
      go_wp2_with fail
      generalize w.alloc (Obj.cells #[.int .i64 s.1, .int .i64 s.2.1, .int .i64 s.2.2] 80) = w0 at *
      refine (used_any A c L s.1 t _ HT.out).mono ?_
      rintro e w1 ⟨rfl, b1⟩
      rw [HN.out]
      replace hx2 := frozen_below b1 hx1 hx2
      replace hx1 := (cell_below b1) hx1
      replace s3 := (cell_below b1) s3
      have B1 := Lib.hid (below_step B0.out b1)
      clear b1
      go_wp2_with fail
      go_end0
      exact kept_put HU.out hX HB.out B1.out
    | false =>
      have HU : Hid (max v (blkP L t s) = v) := by show _ = _; rw [blkP, if_neg (by rw [hn]; simp)]; omega
      have HN := Lib.hid hn
      clear hn
      go_enter Try.func90, Try.ntmps90
      go_wp2_with fail
      generalize w.alloc (Obj.cells #[.int .i64 s.1, .int .i64 s.2.1, .int .i64 s.2.2] 80) = w0 at *
      refine (used_any A c L s.1 t _ HT.out).mono ?_
      rintro e w1 ⟨rfl, b1⟩
      rw [HN.out]
      have B1 := Lib.hid (below_step B0.out b1)
      clear b1
      go_wp2_with fail
      go_end0
      exact kept_same HU.out hX HB.out B1.out
  · have HU : Hid (max v (blkP L t s) = v) := by
      show _ = _
      have : blkP L t s ≤ s.2.2.toNat := by unfold blkP; split <;> omega
      omega
    go_enter Try.func90, Try.ntmps90
    go_wp2_with fail
    go_end0
    exact kept_same HU.out hX HB.out B0.out

end Bk
end Go.Proofs.Ytdjjdebnbaaihaa

/-
  Layer 8 (block): Of.
-/
namespace Go.Proofs.Ytdjjdebnbaaihaa
open Go.RowKit Mm Tk Go.Shelf
namespace Bk

theorem keepEnters : ∀ args w, (callFunc 90 args).run Try.prog w = .ok (.enter 90 args) w := enters_of Try.func90 (by kernel_rfl) rfl
theorem blkP_eq {L : List Tsk} (h : allB L = true) (t : Int) : blkP L t = blkS L t := by
  funext s
  unfold blkP blkS
  rw [near_eq h]
/-- what Of answers -/
def ofB (L : List Tsk) (t : Int) : Nat := if allB L = true then blk L t else 0
def errB (L : List Tsk) : Nat := if allB L = true then 0 else 1

theorem best_new (w : World) : Best (w.alloc (.cells #[.int .i64 0] 3)) w.heap.size 0 := ⟨by simp, by simp⟩

set_option maxHeartbeats 1600000 in
theorem of_any (A : Option Addr) (c : Nat) (L : List Tsk) (t : Int) (w : World) (H : TL w A c L) :
    Calls Try.prog 85 #[.slice A L.length c, .int .i64 t] w fun e w' => e = .returned (.tuple #[.int .i64 (ofB L t : Nat), .int .i64 (errB L : Nat)]) ∧ Below w.heap.size w w' := by
  have hb1 := H.1
  have c1 : ((w.alloc (Obj.cells #[.slice A L.length c] 22)).alloc (Obj.cells #[.int .i64 t] 3)).cell? ⟨w.heap.size, 0, none⟩ = some (.slice A L.length c) := cell_new (by simp) _
  have c2 : ((w.alloc (Obj.cells #[.slice A L.length c] 22)).alloc (Obj.cells #[.int .i64 t] 3)).cell? ⟨w.heap.size + 1, 0, none⟩ = some (.int .i64 t) := by simp
  have b0 := below_two w (Obj.cells #[.slice A L.length c] 22) (Obj.cells #[.int .i64 t] 3)
  have HT := Lib.hid (H.below b0)
  have B0 := Lib.hid b0
  clear b0
  clear H
  cases ha : allB L with
  | false =>
    have HZ : Hid (ofB L t = 0 ∧ errB L = 1) := by show _ ∧ _; simp [ofB, errB, ha]
    go_enter Try.func85, Try.ntmps85
    go_wp2_with fail
    generalize (w.alloc (Obj.cells #[.slice A L.length c] 22)).alloc (Obj.cells #[.int .i64 t] 3) = w0 at *
    refine (all_any A c L _ hb1 HT.out.2.1 HT.out.2.2).mono ?_
    rintro e w1 ⟨rfl, b1⟩
    rw [ha]
    have B1 := Lib.hid (below_step B0.out b1)
    clear b1
    go_wp2_with fail
    go_ret2
    exact ⟨by rw [HZ.out.1, HZ.out.2]; rfl, B1.out⟩
  | true =>
    have HZ : Hid (ofB L t = mostTo (blkT L t) L L.length ∧ errB L = 0) := by show _ ∧ _; rw [ofB, errB, if_pos ha, if_pos ha]; exact ⟨rfl, rfl⟩
    have HP := Lib.hid (blkP_eq ha t)
    go_enter Try.func85, Try.ntmps85
    go_wp2_with fail
    generalize (w.alloc (Obj.cells #[.slice A L.length c] 22)).alloc (Obj.cells #[.int .i64 t] 3) = w0 at *
    refine (all_any A c L _ hb1 HT.out.2.1 HT.out.2.2).mono ?_
    rintro e w1 ⟨rfl, b1⟩
    rw [ha]
    replace HT := Lib.hid (HT.out.below b1)
    replace c1 := (cell_below b1) c1
    replace c2 := (cell_below b1) c2
    have B1 := Lib.hid (below_step B0.out b1)
    clear b1 ha
    have d1 := cell_new c1 (Obj.cells #[.int .i64 0] 3)
    have d2 := cell_new c2 (Obj.cells #[.int .i64 0] 3)
    have HX := Lib.hid (best_new w1)
    have HB2 := Lib.hid (below_one w1 (Obj.cells #[.int .i64 0] 3))
    go_wp2_with fail
    generalize w1.alloc (Obj.cells #[.int .i64 0] 3) = w2 at *
    clear d1 d2
    go_loopw [18] (fun i wr => ∃ k : Nat, i = .int .i64 k ∧ k ≤ L.length ∧ Hid (Best wr w1.heap.size (mostTo (blkT L t) L k)) ∧ Hid (Below w1.heap.size w1 wr)) (fun i _ => L.length - (intOf i).toNat)
    case atStart => exact ⟨0, rfl, Nat.zero_le _, HX.out, HB2.out⟩
    case round =>
      obtain ⟨k, rfl, hk, HC, HB⟩ := hrel
      clear HX HB2
      by_cases hlt : k < L.length
      · obtain ⟨bb, off, rfl, hc⟩ := task_at HT.out.2.2 (by omega)
        obtain ⟨B, d, x1, x2, x3, x4, _, _, _, r⟩ := hc k hlt
        have HR := Lib.hid r.rd
        have hbs := HT.out.2.1 k hlt
        replace x1 := (cell_below HB.out) x1
        replace x2 := (cell_below HB.out) x2
        replace x3 := (cell_below HB.out) x3
        replace x4 := (cell_below HB.out) x4
        have e1 := cell_below HB.out c1
        have e2 := cell_below HB.out c2
        have HQ : Hid (mostTo (blkT L t) L (k + 1) = max (mostTo (blkT L t) L k) (blkT L t (at_ L k))) := rfl
        clear hc r
        generalize at_ L k = x at *
        generalize mostTo (blkT L t) L k = v at *
        have bw := below_one wr (Obj.cells #[.int .i64 x.1, .int .i64 x.2.1, .int .i64 x.2.2.1, .slice B x.2.2.2.length d] 33)
        have C2 := Lib.hid (HC.out.below bw)
        have B2 := Lib.hid (below_step HB.out bw)
        replace e1 := cell_below bw e1
        replace e2 := cell_below bw e2
        clear bw
        by_cases hd : x.2.1 ≤ t
        · have HV : Hid (v = mostTo (blkT L t) L (k + 1)) := by
            show _ = _
            rw [HQ.out, blkT, if_neg (by omega)]
            omega
          go_wp2_with fail
          go_roundw
          case rel => exact ⟨k + 1, by go_num, hlt, by rw [← HV.out]; exact C2.out, B2.out⟩
          case measure => simp [intOf]; omega
        · have HV : Hid (max v (mostTo (blkP L t) x.2.2.2 x.2.2.2.length) = mostTo (blkT L t) L (k + 1)) := by
            show _ = _
            rw [HQ.out, blkT, if_pos (by omega), HP.out]
            rfl
          go_wp2_with fail
          generalize wr.alloc (Obj.cells #[.int .i64 x.1, .int .i64 x.2.1, .int .i64 x.2.2.1, .slice B x.2.2.2.length d] 33) = w3 at *
          clear x1 x2 x3 x4 e1 e2
          clear HC HB
          generalize wr = wo at *
          go_loopw [29] (fun i wr => ∃ j : Nat, i = .int .i64 j ∧ j ≤ x.2.2.2.length ∧ Hid (Best wr w1.heap.size (max v (mostTo (blkP L t) x.2.2.2 j))) ∧ Hid (Below w1.heap.size w1 wr)) (fun i _ => x.2.2.2.length - (intOf i).toNat)
          case atStart => exact ⟨0, rfl, Nat.zero_le _, by show Best _ _ (max v 0); rw [Nat.max_zero]; exact C2.out, B2.out⟩
          case round =>
            obtain ⟨j, rfl, hj, HC, HB⟩ := hrel
            by_cases hjl : j < x.2.2.2.length
            · obtain ⟨b3, off3, rfl, hc⟩ := sec_at (HR.out.below HB.out) (by omega)
              obtain ⟨y1, y2, y3, _, _, _⟩ := hc j hjl
              have HQ2 : Hid (max v (mostTo (blkP L t) x.2.2.2 (j + 1)) = max (max v (mostTo (blkP L t) x.2.2.2 j)) (blkP L t (at_ x.2.2.2 j))) := by show _ = _; rw [mostTo, Nat.max_assoc]
              have e1 := cell_below HB.out c1
              have e2 := cell_below HB.out c2
              have HT1 := Lib.hid (HT.out.below HB.out)
              clear hc
              generalize at_ x.2.2.2 j = s at *
              generalize max v (mostTo (blkP L t) x.2.2.2 j) = u at *
              have bw := below_one wr (Obj.cells #[.int .i64 s.1, .int .i64 s.2.1, .int .i64 s.2.2] 80)
              have C3 := Lib.hid (HC.out.below bw)
              have B3 := Lib.hid (below_step HB.out bw)
              replace HT1 := Lib.hid (HT1.out.below bw)
              replace e1 := cell_below bw e1
              replace e2 := cell_below bw e2
              have z1 : (wr.alloc (Obj.cells #[.int .i64 s.1, .int .i64 s.2.1, .int .i64 s.2.2] 80)).cell? ⟨wr.heap.size, 0, none⟩ = some (.int .i64 s.1) := by simp
              have z2 : (wr.alloc (Obj.cells #[.int .i64 s.1, .int .i64 s.2.1, .int .i64 s.2.2] 80)).cell? ⟨wr.heap.size, 1, none⟩ = some (.int .i64 s.2.1) := by simp
              have z3 : (wr.alloc (Obj.cells #[.int .i64 s.1, .int .i64 s.2.1, .int .i64 s.2.2] 80)).cell? ⟨wr.heap.size, 2, none⟩ = some (.int .i64 s.2.2) := by simp
              clear bw
              go_wp2_with fail
              generalize wr.alloc (Obj.cells #[.int .i64 s.1, .int .i64 s.2.1, .int .i64 s.2.2] 80) = w4 at *
              refine (keep_closure w1.heap.size w1.heap.size w.heap.size (w.heap.size + 1) u _ c L t s w4 (Nat.le_refl _) C3.out HT1.out e1 e2).mono ?_
              rintro e w5 ⟨rfl, k1, k2, _⟩
              have C5 : Hid (Best w5 w1.heap.size (max v (mostTo (blkP L t) x.2.2.2 (j + 1)))) := by show Best _ _ _; rw [HQ2.out]; exact k1
              have B5 := Lib.hid (B3.out.trans k2)
              clear k1 k2
              go_wp2_with fail
              go_roundw
              case rel => exact ⟨j + 1, by go_num, hjl, C5, B5⟩
              case measure => simp [intOf]; omega
            · have hjx : j = x.2.2.2.length := by omega
              subst hjx
              go_wp2_with fail
              go_roundw
              case rel => exact ⟨k + 1, by go_num, hlt, by rw [← HV.out]; exact HC.out, HB.out⟩
              case measure => simp [intOf]; omega
      · have hkl : k = L.length := by omega
        subst hkl
        obtain ⟨e1, e2⟩ := HC.out
        have B2 := Lib.hid (below_step B1.out HB.out)
        generalize mostTo (blkT L t) L L.length = v at *
        go_wp2_with fail
        go_ret2
        exact ⟨by rw [HZ.out.1, HZ.out.2]; rfl, B2.out⟩

end Bk
end Go.Proofs.Ytdjjdebnbaaihaa

