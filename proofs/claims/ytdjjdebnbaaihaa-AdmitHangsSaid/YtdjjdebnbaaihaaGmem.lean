/-
  Merged texts: Mem, MemOpen, Most, MemInts, MemOpenInts, MemLit, MemFlags, MemOpenFlags, MemFull, MemMoves, MemOwn, MemBig, MemEq.
-/
import Derived.Test.YtdjjdebnbaaihaaRows
import Derived.WalkKit
import Derived.WalkSpells
import Derived.Lib.Hide
import Derived.OwnWalk
import Derived.BigQuiet
import Derived.BigRegion
import Derived.Deep.QuietTactic
import Derived.Deep.LoopGhost
import Derived.Deep.RegionWith
import Derived.Deep.RegionHeld3
import Derived.StillTailTactics
import Derived.Laws.Unary
import Derived.Laws.StructEq
import Derived.Below
import Derived.Maps.AppendAt
import Derived.Laws.OwnMore
import Derived.WideShapes
import Derived.Tactics
import Derived.ProofKit
import Derived.OpenShut
import Derived.ChangeOld
import Derived.Carry
import Derived.Deep.SlicePairs
import Derived.Lib.SmallJoins
import Derived.Deep.Grids
import Derived.ArgAppend
/-
  Memory, for every layer: what a slice reads as, for elements of any kind (ints, bools, structs, structs that hold slices); a slice of the call's own; append; one walk for regions whose operations read and whose callees lay blocks of their own.
-/
namespace Go.Proofs.Ytdjjdebnbaaihaa
open Go.RowKit
namespace Mm

theorem ret_bool {a b : Bool} (h : a = b) : Ending.returned (.bool a) = .returned (.bool b) := by rw [h]
theorem ret_int {k : IntKind} {a b : Int} (h : a = b) : Ending.returned (.int k a) = .returned (.int k b) := by rw [h]

/-- a number that an int holds -/
def Fit (x : Int) : Prop := -9223372036854775808 ≤ x ∧ x ≤ 9223372036854775807
theorem fit_of {x : Int} (h1 : -9223372036854775808 ≤ x) (h2 : x ≤ 9223372036854775807) : Fit x := ⟨h1, h2⟩

/-- what some cells read as, within the blocks of S -/
class Dat (α : Type) where
  k : Nat
  pos : 0 < k
  rd : World → (Nat → Prop) → List Value → α → Prop
  len : ∀ {w : World} {S : Nat → Prop} {vs : List Value} {x : α}, rd w S vs x → vs.length = k
  one : ∀ {w : World} {S : Nat → Prop} {vs : List Value} {x : α}, rd w S vs x → ∀ u ∈ vs, u.oneCell' = true
  keep : ∀ {w w' : World} {S S' : Nat → Prop} {vs : List Value} {x : α}, rd w S vs x → (∀ b, b < w.heap.size → S b → S' b ∧ w'.heap[b]? = w.heap[b]?) → rd w' S' vs x

/-- element number j -/
def at_ {α : Type} [Inhabited α] (l : List α) (j : Nat) : α := l.getD j default

section
variable {α : Type} [Inhabited α]
theorem at_get {l : List α} {j : Nat} (h : j < l.length) : at_ l j = l[j] := by simp [at_, List.getD_eq_getElem?_getD, h]
theorem at_mem {l : List α} {j : Nat} (h : j < l.length) : at_ l j ∈ l := by rw [at_get h]; exact List.getElem_mem h
theorem mem_at {l : List α} {x : α} (h : x ∈ l) : ∃ j, j < l.length ∧ at_ l j = x := by
  obtain ⟨j, hj, e⟩ := List.mem_iff_getElem.1 h
  exact ⟨j, hj, by rw [at_get hj, e]⟩
theorem at_eq_of {a b : List α} (hl : a.length = b.length) (h : ∀ i, i < a.length → at_ a i = at_ b i) : a = b := by
  apply List.ext_getElem hl
  intro i h1 h2
  have := h i h1
  rwa [at_get h1, at_get h2] at this
theorem at_drop (l : List α) (k j : Nat) : at_ (l.drop k) j = at_ l (k + j) := by simp [at_, List.getD_eq_getElem?_getD, List.getElem?_drop]
theorem at_take {l : List α} {k j : Nat} (h : j < k) : at_ (l.take k) j = at_ l j := by simp [at_, List.getD_eq_getElem?_getD, h]
theorem at_zero (x : α) (l : List α) : at_ (x :: l) 0 = x := rfl
theorem at_succ (x : α) (l : List α) (j : Nat) : at_ (x :: l) (j + 1) = at_ l j := by simp [at_]
theorem at_out {l : List α} {j : Nat} (h : l.length ≤ j) : at_ l j = default := by simp [at_, List.getD_eq_getElem?_getD, h]
theorem at_left {l r : List α} {j : Nat} (h : j < l.length) : at_ (l ++ r) j = at_ l j := by simp [at_, List.getD_eq_getElem?_getD, List.getElem?_append_left h]
theorem at_right {l r : List α} {j : Nat} (h : l.length ≤ j) : at_ (l ++ r) j = at_ r (j - l.length) := by simp [at_, List.getD_eq_getElem?_getD, List.getElem?_append_right h]
theorem at_set_same {l : List α} {j : Nat} (x : α) (h : j < l.length) : at_ (l.set j x) j = x := by simp [at_, List.getD_eq_getElem?_getD, h]
theorem at_set_other {l : List α} {i j : Nat} (x : α) (h : i ≠ j) : at_ (l.set j x) i = at_ l i := by simp [at_, List.getD_eq_getElem?_getD, Ne.symm h]
theorem take_succ_at {l : List α} {k : Nat} (h : k < l.length) : l.take (k + 1) = l.take k ++ [at_ l k] := by
  rw [List.take_succ_eq_append_getElem h, at_get h]
end

theorem lt_of_cell {w : World} {p : Addr} {v : Value} (h : w.cell? p = some v) : p.block < w.heap.size := by
  rcases Nat.lt_or_ge p.block w.heap.size with hlt | hge
  · exact hlt
  · unfold World.cell? at h; rw [Array.getElem?_eq_none hge] at h; cases h

section
variable {α : Type} [Inhabited α] [Dat α]

/-- the slice at A, of capacity c, reads as these, within the blocks of S -/
def RdS (w : World) (S : Nat → Prop) (A : Option Addr) (c : Nat) (l : List α) : Prop :=
  (A = none → c = 0) ∧ (l.length ≤ c ∧ c ≤ maxLen) ∧ (0 < l.length → ∃ b off, A = some ⟨b, off, none⟩ ∧ S b ∧ ∀ j, j < l.length → ∃ vs, Dat.rd w S vs (at_ l j) ∧ ∀ i v, vs[i]? = some v → w.cell? ⟨b, off + j * Dat.k α + i, none⟩ = some v)
/-- .. wherever -/
def Rd (w : World) (A : Option Addr) (c : Nat) (l : List α) : Prop := RdS w (fun _ => True) A c l

theorem RdS.keep {w w' : World} {S S' : Nat → Prop} {A : Option Addr} {c : Nat} {l : List α} (h : RdS w S A c l) (hk : ∀ b, b < w.heap.size → S b → S' b ∧ w'.heap[b]? = w.heap[b]?) : RdS w' S' A c l := ⟨h.1, h.2.1, fun h0 => by
  obtain ⟨b, off, e, hs, hc⟩ := h.2.2 h0
  have hb : b < w.heap.size := by
    obtain ⟨vs, h1, h2⟩ := hc 0 h0
    have hl := Dat.len h1
    have hp := Dat.pos (α := α)
    have := h2 0 (vs[0]'(by omega)) (by simp)
    exact lt_of_cell this
  refine ⟨b, off, e, (hk b hb hs).1, fun j hj => ?_⟩
  obtain ⟨vs, h1, h2⟩ := hc j hj
  refine ⟨vs, Dat.keep h1 hk, fun i v hv => ?_⟩
  rw [World.cell?_of_block (w := w) (hk b hb hs).2]
  exact h2 i v hv⟩
theorem RdS.below {w w' : World} {S : Nat → Prop} {A : Option Addr} {c : Nat} {l : List α} (h : RdS w S A c l) (hb : Below w.heap.size w w') : RdS w' S A c l := h.keep fun b hlt hs => ⟨hs, hb.block b hlt⟩
theorem RdS.sub {w : World} {S S' : Nat → Prop} {A : Option Addr} {c : Nat} {l : List α} (h : RdS w S A c l) (hs : ∀ b, b < w.heap.size → S b → S' b) : RdS w S' A c l := h.keep fun b hlt hb => ⟨hs b hlt hb, rfl⟩
theorem RdS.rd {w : World} {S : Nat → Prop} {A : Option Addr} {c : Nat} {l : List α} (h : RdS w S A c l) : Rd w A c l := h.sub fun _ _ _ => trivial
theorem RdS.old {w : World} {S : Nat → Prop} {A : Option Addr} {c : Nat} {l : List α} (h : RdS w S A c l) : RdS w (fun b => b < w.heap.size) A c l := h.sub fun _ h _ => h
theorem RdS.le {w : World} {S : Nat → Prop} {A : Option Addr} {c : Nat} {l : List α} (h : RdS w S A c l) : l.length ≤ c := h.2.1.1
theorem Rd.le {w : World} {A : Option Addr} {c : Nat} {l : List α} (h : Rd w A c l) : l.length ≤ c := h.2.1.1
theorem Rd.max {w : World} {A : Option Addr} {c : Nat} {l : List α} (h : Rd w A c l) : c ≤ maxLen := h.2.1.2
theorem RdS.max {w : World} {S : Nat → Prop} {A : Option Addr} {c : Nat} {l : List α} (h : RdS w S A c l) : c ≤ maxLen := h.2.1.2
theorem Rd.none_ {w : World} {A : Option Addr} {c : Nat} {l : List α} (h : Rd w A c l) : A = none → c = 0 := h.1
theorem Rd.below {w w' : World} {A : Option Addr} {c : Nat} {l : List α} (h : Rd w A c l) (hb : Below w.heap.size w w') : Rd w' A c l := RdS.below h hb
theorem Rd.alloc {w : World} {A : Option Addr} {c : Nat} {l : List α} (h : Rd w A c l) (o : Obj) : Rd (w.alloc o) A c l := h.below ((Below.refl _ _).alloc (Nat.le_refl _) o)
theorem Rd.old {w : World} {A : Option Addr} {c : Nat} {l : List α} (h : Rd w A c l) : RdS w (fun b => b < w.heap.size) A c l := RdS.old h
theorem rd_nil {w : World} {S : Nat → Prop} {A : Option Addr} {c : Nat} (h : A = none → c = 0) (hm : c ≤ maxLen) : RdS w S A c ([] : List α) := ⟨h, ⟨Nat.zero_le _, hm⟩, fun h => by simp at h⟩
theorem RdS.front {w : World} {S : Nat → Prop} {A : Option Addr} {d : Nat} {s : List α} (h : RdS w S A d s) (k : Nat) : RdS w S A d (s.take k) := by
  refine ⟨h.1, ⟨Nat.le_trans (by simp; omega) h.2.1.1, h.2.1.2⟩, fun h0 => ?_⟩
  have h0' : 0 < s.length := by simp at h0; omega
  obtain ⟨b', off', e, hs, hc⟩ := h.2.2 h0'
  refine ⟨b', off', e, hs, fun j hj => ?_⟩
  have hj' : j < k ∧ j < s.length := by simp at hj; omega
  rw [at_take hj'.1]
  exact hc j hj'.2
theorem RdS.back {w : World} {S : Nat → Prop} {b off d : Nat} {s : List α} (h : RdS w S (some ⟨b, off, none⟩) d s) (k c : Nat) (hc' : s.length - k ≤ c) (hm : c ≤ maxLen) : RdS w S (some ⟨b, off + k * Dat.k α, none⟩) c (s.drop k) := by
  refine ⟨fun e => (by cases e), ⟨by simpa using hc', hm⟩, fun h0 => ?_⟩
  have h0' : k < s.length := by simp at h0; omega
  obtain ⟨b', off', e, hs, hc⟩ := h.2.2 (by omega)
  injection e with e
  injection e with e1 e2
  subst e1
  subst e2
  refine ⟨b, _, rfl, hs, fun j hj => ?_⟩
  have hj' : k + j < s.length := by simp at hj; omega
  rw [at_drop]
  obtain ⟨vs, h1, h2⟩ := hc (k + j) hj'
  refine ⟨vs, h1, fun i v hv => ?_⟩
  have := h2 i v hv
  rw [show off + k * Dat.k α + j * Dat.k α + i = off + (k + j) * Dat.k α + i from by rw [Nat.add_mul]; omega]
  exact this
theorem RdS.tail {w : World} {S : Nat → Prop} {b off d : Nat} {x : α} {s : List α} (h : RdS w S (some ⟨b, off, none⟩) d (x :: s)) : RdS w S (some ⟨b, off + Dat.k α, none⟩) (d - 1) s := by
  have := h.back 1 (d - 1) (by have := h.2.1.1; simp only [List.length_cons] at this ⊢; omega) (by have := h.2.1.2; omega)
  simpa using this
/-- the cells of element j -/
theorem RdS.cells {w : World} {S : Nat → Prop} {A : Option Addr} {c : Nat} {l : List α} (h : RdS w S A c l) (h0 : 0 < l.length) : ∃ b off, A = some ⟨b, off, none⟩ ∧ ∀ j, j < l.length → ∃ vs, Dat.rd w S vs (at_ l j) ∧ ∀ i v, vs[i]? = some v → w.cell? ⟨b, off + j * Dat.k α + i, none⟩ = some v := by
  obtain ⟨b, off, e, _, hc⟩ := h.2.2 h0
  exact ⟨b, off, e, hc⟩

/-- a row of cells that reads as a list -/
def Rows (w : World) (S : Nat → Prop) : List Value → List α → Prop
  | cs, [] => cs = []
  | cs, x :: l => ∃ v r, cs = v ++ r ∧ Dat.rd w S v x ∧ Rows w S r l
theorem Rows.length {β : Type} [Dat β] {w : World} {S : Nat → Prop} {l : List β} : ∀ {cs : List Value}, Rows w S cs l → cs.length = l.length * Dat.k β := by
  induction l with
  | nil => intro cs h; simp only [Rows] at h; subst h; simp
  | cons x l ih =>
    intro cs h
    obtain ⟨v, r, rfl, h1, h2⟩ := h
    rw [List.length_append, Dat.len h1, ih h2, List.length_cons, Nat.add_mul, Nat.one_mul]
    omega
theorem Rows.one {β : Type} [Dat β] {w : World} {S : Nat → Prop} {l : List β} : ∀ {cs : List Value}, Rows w S cs l → ∀ u ∈ cs, u.oneCell' = true := by
  induction l with
  | nil => intro cs h; simp only [Rows] at h; subst h; simp
  | cons x l ih =>
    intro cs h
    obtain ⟨v, r, rfl, h1, h2⟩ := h
    intro u hu
    rcases List.mem_append.1 hu with hu | hu
    · exact Dat.one h1 u hu
    · exact ih h2 u hu
theorem Rows.keep {β : Type} [Dat β] {w w' : World} {S S' : Nat → Prop} {l : List β} : ∀ {cs : List Value}, Rows w S cs l → (∀ b, b < w.heap.size → S b → S' b ∧ w'.heap[b]? = w.heap[b]?) → Rows w' S' cs l := by
  induction l with
  | nil => intro cs h _; exact h
  | cons x l ih =>
    intro cs h hk
    obtain ⟨v, r, rfl, h1, h2⟩ := h
    exact ⟨v, r, rfl, Dat.keep h1 hk, ih h2 hk⟩
theorem Rows.append {β : Type} [Dat β] {w : World} {S : Nat → Prop} {l m : List β} : ∀ {cs ds : List Value}, Rows w S cs l → Rows w S ds m → Rows w S (cs ++ ds) (l ++ m) := by
  induction l with
  | nil => intro cs ds h h'; simp only [Rows] at h; subst h; exact h'
  | cons x l ih =>
    intro cs ds h h'
    obtain ⟨v, r, rfl, h1, h2⟩ := h
    exact ⟨v, r ++ ds, by rw [List.append_assoc], h1, ih h2 h'⟩
theorem Rows.at {w : World} {S : Nat → Prop} {l : List α} : ∀ {cs : List Value}, Rows w S cs l → ∀ j, j < l.length → ∃ vs, Dat.rd w S vs (at_ l j) ∧ ∀ i v, vs[i]? = some v → cs[j * Dat.k α + i]? = some v := by
  induction l with
  | nil => intro cs _ j hj; simp at hj
  | cons x l ih =>
    intro cs h j hj
    obtain ⟨v, r, rfl, h1, h2⟩ := h
    cases j with
    | zero =>
      refine ⟨v, by rw [at_zero]; exact h1, fun i u hu => ?_⟩
      have : i < v.length := by
        rcases Nat.lt_or_ge i v.length with h | h
        · exact h
        · rw [List.getElem?_eq_none h] at hu; cases hu
      rw [Nat.zero_mul, Nat.zero_add, List.getElem?_append_left this]
      exact hu
    | succ j =>
      obtain ⟨vs, h3, h4⟩ := ih h2 j (by simpa using hj)
      refine ⟨vs, by rw [at_succ]; exact h3, fun i u hu => ?_⟩
      have hl := Dat.len h1
      rw [Nat.add_mul, Nat.one_mul, List.getElem?_append_right (by omega)]
      rw [show j * Dat.k α + Dat.k α + i - v.length = j * Dat.k α + i from by omega]
      exact h4 i u hu
theorem Rows.set {w : World} {S : Nat → Prop} {l : List α} : ∀ {cs : List Value}, Rows w S cs l → ∀ j f (v : Value) (y : α), j < l.length → f < Dat.k α → (∀ vs, Dat.rd w S vs (at_ l j) → Dat.rd w S (vs.set f v) y) → Rows w S (cs.set (j * Dat.k α + f) v) (l.set j y) := by
  induction l with
  | nil => intro cs _ j _ _ _ hj; simp at hj
  | cons x l ih =>
    intro cs h j f v y hj hf hy
    obtain ⟨u, r, rfl, h1, h2⟩ := h
    have hl := Dat.len h1
    cases j with
    | zero =>
      rw [at_zero] at hy
      refine ⟨u.set f v, r, ?_, hy u h1, h2⟩
      rw [Nat.zero_mul, Nat.zero_add, List.set_append_left _ _ (by omega)]
    | succ j =>
      rw [at_succ] at hy
      refine ⟨u, r.set (j * Dat.k α + f) v, ?_, h1, ih h2 j f v y (by simpa using hj) hf hy⟩
      rw [Nat.add_mul, Nat.one_mul, List.set_append_right _ _ (by omega)]
      congr 2
      omega
theorem Rows.take {β : Type} [Dat β] {w : World} {S : Nat → Prop} {l : List β} : ∀ {cs : List Value}, Rows w S cs l → ∀ j, Rows w S (cs.take (j * Dat.k β)) (l.take j) := by
  induction l with
  | nil => intro cs h j; simp only [Rows] at h; subst h; simp [Rows]
  | cons x l ih =>
    intro cs h j
    obtain ⟨u, r, rfl, h1, h2⟩ := h
    have hl := Dat.len h1
    cases j with
    | zero => simp [Rows]
    | succ j =>
      refine ⟨u, r.take (j * Dat.k β), ?_, h1, ih h2 j⟩
      rw [List.take_append, List.take_of_length_le (by rw [Nat.add_mul]; omega)]
      congr 2
      rw [Nat.add_mul]
      omega
/-- a slice that reads so has such cells -/
theorem RdS.rows {w : World} {S : Nat → Prop} {l : List α} : ∀ {b off c : Nat}, RdS w S (some ⟨b, off, none⟩) c l → ∃ cs, Rows w S cs l ∧ ∀ j u, cs[j]? = some u → w.cell? ⟨b, off + j, none⟩ = some u := by
  induction l with
  | nil => intro b off c _; exact ⟨[], rfl, fun j u h => by simp at h⟩
  | cons x l ih =>
    intro b off c h
    obtain ⟨cs, h1, h2⟩ := ih h.tail
    obtain ⟨b', off', e, hc⟩ := h.cells (by simp)
    injection e with e
    injection e with e1 e2
    subst e1
    subst e2
    obtain ⟨vs, h3, h4⟩ := hc 0 (by simp)
    rw [at_zero] at h3
    have hl := Dat.len h3
    refine ⟨vs ++ cs, ⟨vs, cs, rfl, h3, h1⟩, fun j u hu => ?_⟩
    rcases Nat.lt_or_ge j vs.length with hj | hj
    · rw [List.getElem?_append_left hj] at hu
      have := h4 j u hu
      rwa [Nat.zero_mul, Nat.add_zero] at this
    · rw [List.getElem?_append_right hj] at hu
      have := h2 _ u hu
      rwa [show off + Dat.k α + (j - vs.length) = off + j from by omega] at this

/-- a slice of the call's own, at block 'base' or behind it: these; what they hold within the blocks of S -/
def OwS (w : World) (S : Nat → Prop) (base : Nat) (e : TypeId) (A : Option Addr) (c : Nat) (l : List α) : Prop := ∃ cs, w.ownsRow base e (Dat.k α) (.slice A l.length c) l.length cs ∧ Rows w S cs l

variable {w w' : World} {S S' : Nat → Prop} {base : Nat} {e : TypeId} {A : Option Addr} {c g : Nat} {l : List α}
theorem OwS.cases {β : Type} [Dat β] {l : List β} (h : OwS w S base e A c l) : (A = none ∧ c = 0 ∧ l = []) ∨ ∃ g, A = some ⟨g, 0, none⟩ ∧ base ≤ g ∧ g < w.heap.size ∧ l.length ≤ c := by
  obtain ⟨cs, h, _⟩ := h
  rcases h.2 with ⟨h', h0⟩ | ⟨g, cap, cur, h', hb, hg, hn, _⟩
  · left
    injection h' with h1 h2 h3
    exact ⟨h1, h3, List.eq_nil_of_length_eq_zero h0⟩
  · right
    injection h' with h1 h2 h3
    subst h3
    refine ⟨g, h1, hb, ?_, hn⟩
    rcases Nat.lt_or_ge g w.heap.size with hlt | hge
    · exact hlt
    · rw [Array.getElem?_eq_none hge] at hg; cases hg
theorem OwS.form {β : Type} [Dat β] {l : List β} (h : OwS w S base e A c l) (h0 : 0 < l.length) : ∃ g, A = some ⟨g, 0, none⟩ ∧ base ≤ g ∧ g < w.heap.size ∧ l.length ≤ c := by
  rcases h.cases with ⟨_, _, rfl⟩ | h
  · simp at h0
  · exact h
theorem OwS.le {β : Type} [Dat β] {l : List β} (h : OwS w S base e A c l) : l.length ≤ c := by
  rcases h.cases with ⟨_, rfl, rfl⟩ | ⟨_, _, _, _, h⟩
  · simp
  · exact h
theorem OwS.max {β : Type} [Dat β] {l : List β} (h : OwS w S base e A c l) : c ≤ maxLen := by
  obtain ⟨cs, h, _⟩ := h
  rcases h.2 with ⟨h', h0⟩ | ⟨g, cap, cur, h', hb, hg, hn, hm, _⟩
  · injection h' with h1 h2 h3
    subst h3
    exact Nat.zero_le _
  · injection h' with h1 h2 h3
    subst h3
    exact hm
theorem OwS.new {β : Type} [Dat β] {l : List β} (h : OwS w S base e A c l) : ∀ g, A = some ⟨g, 0, none⟩ → base ≤ g ∧ g < w.heap.size := fun g hA => by
  rcases h.cases with ⟨h1, _⟩ | ⟨g', h1, h2, hlt, _⟩
  · rw [hA] at h1; cases h1
  · rw [hA] at h1; injection h1 with h1; injection h1 with h1; omega
theorem OwS.row {β : Type} [Dat β] {l : List β} (h : OwS w S base e A c l) : ∀ k, (Value.slice A l.length c).ownBlock = some k → base ≤ k := fun k hk => by
  obtain ⟨cs, h, _⟩ := h
  exact (World.ownsRow.lt h k hk).1
/-- it reads so, within any blocks that hold its own and S -/
theorem OwS.rdS (h : OwS w S base e A c l) (hS : ∀ b, S b → S' b) (hA : ∀ g, A = some ⟨g, 0, none⟩ → S' g) : RdS w S' A c l := by
  refine ⟨fun hn => ?_, ⟨h.le, h.max⟩, fun h0 => ?_⟩
  · rcases h.cases with ⟨_, h1, _⟩ | ⟨g, h1, _⟩
    · exact h1
    · rw [hn] at h1; cases h1
  · obtain ⟨g, rfl, _⟩ := h.form h0
    obtain ⟨cs, h1, h2⟩ := h
    refine ⟨g, 0, rfl, hA g rfl, fun j hj => ?_⟩
    obtain ⟨vs, h3, h4⟩ := h2.at j hj
    refine ⟨vs, Dat.keep h3 (fun b _ hb => ⟨hS b hb, rfl⟩), fun i v hv => ?_⟩
    have hi : i < vs.length := by
      rcases Nat.lt_or_ge i vs.length with h | h
      · exact h
      · rw [List.getElem?_eq_none h] at hv; cases hv
    have hl := Dat.len h3
    have hb : j * Dat.k α + i < l.length * Dat.k α := by
      have : (j + 1) * Dat.k α ≤ l.length * Dat.k α := Nat.mul_le_mul_right _ hj
      rw [Nat.add_mul, Nat.one_mul] at this
      omega
    rw [Nat.zero_add, World.ownsRow.cellAt h1 _ hb]
    exact h4 i v hv
theorem OwS.rd (h : OwS w S base e A c l) : Rd w A c l := h.rdS (fun _ _ => trivial) (fun _ _ => trivial)
theorem OwS.keep {β : Type} [Dat β] {l : List β} (h : OwS w S base e A c l) (hk : ∀ g, A = some ⟨g, 0, none⟩ → w'.heap[g]? = w.heap[g]?) (hS : ∀ b, b < w.heap.size → S b → S' b ∧ w'.heap[b]? = w.heap[b]?) : OwS w' S' base e A c l := by
  obtain ⟨cs, h1, h2⟩ := h
  refine ⟨cs, ⟨h1.1, ?_⟩, h2.keep hS⟩
  rcases h1.2 with h' | ⟨g, cap, cur, h', hb, hg, r⟩
  · exact .inl h'
  · refine .inr ⟨g, cap, cur, h', hb, ?_, r⟩
    injection h' with h1 h2 h3
    rw [hk g h1]; exact hg
theorem OwS.below {β : Type} [Dat β] {l : List β} {B : Nat} (h : OwS w S base e A c l) (hb : Below B w w') (hB : w.heap.size ≤ B) : OwS w' S base e A c l :=
  h.keep (fun g hA => hb.block g (Nat.lt_of_lt_of_le (h.new g hA).2 hB)) fun b hlt hs => ⟨hs, hb.block b (by omega)⟩
theorem OwS.alloc {β : Type} [Dat β] {l : List β} (h : OwS w S base e A c l) (o : Obj) : OwS (w.alloc o) S base e A c l := h.below ((Below.refl _ _).alloc (Nat.le_refl _) o) (Nat.le_refl _)
theorem OwS.sub {β : Type} [Dat β] {l : List β} (h : OwS w S base e A c l) (hs : ∀ b, S b → S' b) : OwS w S' base e A c l := h.keep (fun _ _ => rfl) fun b _ hb => ⟨hs b hb, rfl⟩
theorem OwS.rebase {β : Type} [Dat β] {l : List β} (h : OwS w S base e A c l) {base' : Nat} (hb : base' ≤ base) : OwS w S base' e A c l := by
  obtain ⟨cs, h1, h2⟩ := h
  refine ⟨cs, ⟨h1.1, ?_⟩, h2⟩
  rcases h1.2 with h' | ⟨g, cap, cur, h', hb', r⟩
  · exact .inl h'
  · exact .inr ⟨g, cap, cur, h', by omega, r⟩
theorem ow_nil {β : Type} [Dat β] (w : World) (S : Nat → Prop) (base : Nat) (e : TypeId) : OwS w S base e none 0 ([] : List β) := ⟨[], World.ownsRow_nil _ _ _ _, rfl⟩
/-- a literal -/
theorem ow_lit {β : Type} [Dat β] {l : List β} (w : World) (S : Nat → Prop) (base : Nat) (e : TypeId) (cs : Array Value) (hb : base ≤ w.heap.size) (hm : l.length ≤ 1000000) (h : Rows (w.alloc (.cells cs e)) S cs.toList l) : OwS (w.alloc (.cells cs e)) S base e (some ⟨w.heap.size, 0, none⟩) l.length l :=
  ⟨cs.toList, World.ownsRow_lit w cs l.length hb (by unfold maxLen; omega) (by have := h.length; simpa using this), h⟩
/-- shorter -/
theorem OwS.cut {β : Type} [Dat β] {l : List β} (h : OwS w S base e (some ⟨g, 0, none⟩) c l) (k : Nat) (hk : k ≤ l.length) : OwS w S base e (some ⟨g, 0, none⟩) c (l.take k) := by
  obtain ⟨cs, h1, h2⟩ := h
  have hl : (l.take k).length = k := by simp; omega
  refine ⟨cs.take (k * Dat.k β), ⟨by rw [List.length_take, h2.length, hl]; exact Nat.min_eq_left (Nat.mul_le_mul_right _ hk), ?_⟩, h2.take k⟩
  rcases h1.2 with ⟨h', _⟩ | ⟨g', cap, cur, h', hb, hg, hn, hm, hs, ht⟩
  · cases h'
  · refine .inr ⟨g', cap, cur, ?_, hb, hg, by omega, hm, hs, ?_⟩
    · injection h' with h1 h2 h3
      rw [h1, h3]
    · rw [hl, ← ht, List.take_take]
      congr 1
      exact (Nat.min_eq_left (Nat.mul_le_mul_right _ hk)).symm
/-- a cell of an element written -/
theorem OwS.put (h : OwS w S base e (some ⟨g, 0, none⟩) c l) (hS : ¬ S g) (j f : Nat) (v : Value) (y : α) (hj : j < l.length) (hf : f < Dat.k α) (hy : ∀ vs, Dat.rd w S vs (at_ l j) → Dat.rd w S (vs.set f v) y) :
    OwS (w.setCell ⟨g, j * Dat.k α + f, none⟩ v) S base e (some ⟨g, 0, none⟩) c (l.set j y) ∧ w.grownBy (w.setCell ⟨g, j * Dat.k α + f, none⟩ v) (some g) := by
  obtain ⟨cs, h1, h2⟩ := h
  obtain ⟨h3, g1⟩ := World.ownsRow.stored h1 (j * Dat.k α + f) v
  refine ⟨⟨cs.set (j * Dat.k α + f) v, ?_, ?_⟩, g1⟩
  · rw [List.length_set]; exact h3
  · exact (h2.set j f v y hj hf hy).keep fun b hb hs => ⟨hs, g1.block b hb (fun e => hS (by injection e with e; rwa [e] at hs))⟩
theorem OwS.gb {β : Type} [Dat β] {l : List β} {row : Option Nat} (h : OwS w S base e A c l) (hg : w.grownBy w' row) (hne : ∀ g, A = some ⟨g, 0, none⟩ → some g ≠ row) (hS : ∀ b, S b → some b ≠ row) : OwS w' S base e A c l :=
  h.keep (fun g hA => hg.block g (h.new g hA).2 (hne g hA)) fun b hb hs => ⟨hs, hg.block b hb (hS b hs)⟩
theorem RdS.gb {row : Option Nat} (h : RdS w S A c l) (hg : w.grownBy w' row) (hS : ∀ b, S b → some b ≠ row) : RdS w' S A c l :=
  h.keep fun b hb hs => ⟨hs, hg.block b hb (hS b hs)⟩
end

/-- only one block, and what is new, has turned -/
theorem gb_refl (w : World) (row : Option Nat) : w.grownBy w row := ⟨rfl, rfl, rfl, Nat.le_refl _, fun _ _ _ => rfl⟩
theorem gb_trans {a b c : World} {row : Option Nat} (h : a.grownBy b row) (k : b.grownBy c row) : a.grownBy c row :=
  ⟨k.os.trans h.os, k.tape.trans h.tape, k.output.trans h.output, Nat.le_trans h.size k.size, fun i hi hne => (k.block i (Nat.lt_of_lt_of_le hi h.size) hne).trans (h.block i hi hne)⟩
theorem gb_below {a b : World} {B : Nat} (h : Below B a b) (hB : a.heap.size ≤ B) (row : Option Nat) : a.grownBy b row :=
  ⟨h.os, h.tape, h.output, h.size, fun i hi _ => h.block i (by omega)⟩
theorem gb_cell {a b : World} {row : Option Nat} (h : a.grownBy b row) {p : Addr} {v : Value} (hc : a.cell? p = some v) (hne : some p.block ≠ row) : b.cell? p = some v :=
  (World.cell?_of_block (w := a) (h.block p.block (lt_of_cell hc) hne)).trans hc
theorem below_of_gb {W a b : World} {B : Nat} {row : Option Nat} (h : Below B W a) (hg : a.grownBy b row) (hB : B ≤ a.heap.size) (hr : ∀ k, row = some k → B ≤ k) : Below B W b := h.grown hg hB hr

theorem cell_new {w : World} {p : Addr} {v : Value} (h : w.cell? p = some v) (o : Obj) : (w.alloc o).cell? p = some v :=
  (((Below.refl w.heap.size w).alloc (Nat.le_refl _) o).cell (lt_of_cell h)).trans h
theorem cell_below {W w1 : World} {p : Addr} {v : Value} (b : Below W.heap.size W w1) (h : W.cell? p = some v) : w1.cell? p = some v := (b.cell (lt_of_cell h)).trans h
theorem frozen_below {W w1 : World} {p : Addr} {v : Value} (b : Below W.heap.size W w1) (h : W.cell? p = some v) (f : W.frozen? p = false) : w1.frozen? p = false := (b.frozen (lt_of_cell h)).trans f
theorem below_step {a W w1 : World} (h : Below a.heap.size a W) (b : Below W.heap.size W w1) : Below a.heap.size a w1 := h.trans (b.mono h.size)
theorem below_one (w : World) (o : Obj) : Below w.heap.size w (w.alloc o) := (Below.refl _ _).alloc (Nat.le_refl _) _
theorem below_two (w : World) (o o' : Obj) : Below w.heap.size w ((w.alloc o).alloc o') := (below_one w o).alloc (by simp) _
theorem below_three (w : World) (o o' o'' : Obj) : Below w.heap.size w (((w.alloc o).alloc o').alloc o'') := (below_two w o o').alloc (by simp; omega) _

/-- the types of a slice and of its elements, of k cells -/
def SlT (P : Program) (t e : TypeId) (k : Nat) : Prop := P.underlying t = some (.slice e) ∧ ∃ i z, P.info? e = some i ∧ i.zero = some z ∧ i.size = k ∧ z.cells.size = k ∧ i.bytes ≤ 1000
theorem slT_of {P : Program} {t e : TypeId} {k b : Nat} {z : Value} (h : P.underlying t = some (.slice e)) (hi : (P.info? e).map (fun i => (i.zero, i.size, i.bytes)) = some (some z, k, b)) (hz : z.cells.size = k) (hb : b ≤ 1000) : SlT P t e k := by
  obtain ⟨i, hi, hh⟩ := Option.map_eq_some_iff.1 hi
  simp only [Prod.mk.injEq] at hh
  exact ⟨h, i, z, hi, hh.1, hh.2.1, hz, by omega⟩

section
variable {α : Type} [Inhabited α] [Dat α]
theorem nil_of_none {w : World} {S : Nat → Prop} {d : Nat} {r : List α} (h : RdS w S none d r) : d = 0 ∧ r = [] := by
  refine ⟨h.1 rfl, ?_⟩
  rcases r with _ | ⟨p, t⟩
  · rfl
  · obtain ⟨b, off, h, _⟩ := h.2.2 (by simp)
    cases h
theorem plain_of {w : World} {S : Nat → Prop} {a : Addr} {d : Nat} {r : List α} (h : RdS w S (some a) d r) (h0 : 0 < r.length) : a = ⟨a.block, a.off, none⟩ := by
  obtain ⟨b, off, h, _⟩ := h.2.2 h0
  injection h with h
  rw [h]

/-- append to a slice of the call's own -/
theorem run_app {P : Program} {t e : TypeId} (ty : TypeId) (hT : SlT P t e (Dat.k α))
    {w : World} {S S' : Nat → Prop} {base : Nat} {A B : Option Addr} {c d : Nat} {l r : List α} (h : OwS w S base e A c l) (hr : RdS w S' B d r) (hin : ∀ cs, Rows w S' cs r → Rows w S cs r) (hS : ∀ g, A = some ⟨g, 0, none⟩ → ¬ S g ∨ Dat.k α = 0) (hbig : l.length + r.length ≤ 1000000) (hbase : base ≤ w.heap.size) :
    ∃ A' c' w', (Builtin.append_ #[t, t] ty #[.slice A l.length c, .slice B r.length d]).run P w = .ok (.slice A' (l.length + r.length) c') w' ∧ OwS w' S base e A' c' (l ++ r) ∧ w.grownBy w' (Value.slice A l.length c).ownBlock ∧
      ((Value.slice A' (l.length + r.length) c').ownBlock = (Value.slice A l.length c).ownBlock ∨ (Value.slice A' (l.length + r.length) c').ownBlock = some w.heap.size) := by
  obtain ⟨ht, i, z, hi, hz, hs, hzs, hby⟩ := hT
  have hpos := Dat.pos (α := α)
  rcases Nat.eq_zero_or_pos r.length with hr0 | hr0
  · have := List.eq_nil_of_length_eq_zero hr0
    subst this
    obtain ⟨cs, h1, h2⟩ := h
    rcases B with _ | a
    · have hd := hr.1 rfl
      subst hd
      refine ⟨A, c, w, ?_, ⟨cs, by simpa using h1, by simpa using h2⟩, gb_refl _ _, .inl rfl⟩
      exact run_append_owned_none (P := P) w base t ty e i _ ht hi _ l.length cs h1
    · obtain ⟨v', w', hrun, h3, h4, _, h5⟩ := run_append_own_at (P := P) w base t ty e i z (Dat.k α) i.bytes ht hi hz hs rfl hzs hpos _ l.length cs h1 a 0 d [] (by simp) (by simp) (by simp)
        (by unfold maxLen; simp at hbig; omega) (by simp at hbig; have := Nat.mul_le_mul (show l.length + 0 ≤ 1000000 by omega) hby; omega) hbase
      have hv : ∃ A' c', v' = .slice A' (l.length + 0) c' := by
        rcases h3.2 with ⟨h', h0⟩ | ⟨g, cap, cur, h', _⟩
        · exact ⟨none, 0, by rw [h', h0]⟩
        · exact ⟨_, _, h'⟩
      obtain ⟨A', c', rfl⟩ := hv
      refine ⟨A', c', w', hrun, ⟨cs, by simpa using h3, ?_⟩, h4, h5⟩
      rw [List.append_nil]
      refine h2.keep fun b hb hs => ⟨hs, h4.block b hb ?_⟩
      intro e
      rcases A with _ | a
      · cases e
      · rcases OwS.cases (β := α) ⟨cs, h1, h2⟩ with ⟨h', _⟩ | ⟨g, h', _⟩
        · cases h'
        · injection h' with h'
          subst h'
          injection e with e
          subst e
          rcases hS _ rfl with h | h
          · exact h hs
          · omega
  · rcases B with _ | ad
    · have := (nil_of_none hr).2
      subst this
      simp at hr0
    · have ha := plain_of hr hr0
      obtain ⟨cs, h1, h2⟩ := h
      rw [ha] at hr
      obtain ⟨ds, h6, h7⟩ := hr.rows
      obtain ⟨v', w', hrun, h3, h4, _, h5⟩ := run_append_own_at (P := P) w base t ty e i z (Dat.k α) i.bytes ht hi hz hs rfl hzs hpos _ l.length cs h1 ad r.length d ds h6.length
        (fun j u hu => by rw [ha, Go.WideShapes.add_plain]; exact h7 j u hu) h6.one
        (by unfold maxLen; omega) (by have := Nat.mul_le_mul hbig hby; omega) hbase
      have hv : ∃ A' c', v' = .slice A' (l.length + r.length) c' := by
        rcases h3.2 with ⟨h', h0⟩ | ⟨g, cap, cur, h', _⟩
        · exact ⟨none, 0, by rw [h', h0]⟩
        · exact ⟨_, _, h'⟩
      obtain ⟨A', c', rfl⟩ := hv
      refine ⟨A', c', w', hrun, ⟨cs ++ ds, by rw [List.length_append]; exact h3, ?_⟩, h4, h5⟩
      refine (h2.append (hin _ h6)).keep fun b hb hs => ⟨hs, h4.block b hb ?_⟩
      intro e
      rcases A with _ | a
      · cases e
      · rcases OwS.cases (β := α) ⟨cs, h1, h2⟩ with ⟨h', _⟩ | ⟨g, h', _⟩
        · cases h'
        · injection h' with h'
          subst h'
          injection e with e
          subst e
          rcases hS _ rfl with h | h
          · exact h hs
          · omega
end

/-- an append whose run is known: as one operation; in a row of operations; as a step of a region that draws -/
theorem wp_app_run {P : Program} {w : World} {o : Oper} {a : Act} {K : Act → World → Prop} {Q : Exit → Act → World → Prop} (s x : Operand) (t : TypeId) (ho : o.op = .call { callee := .builtin .append, args := #[s, x], argTypes := #[t, t] })
    (v1 v2 v' : Value) (w' : World) (h1 : a.eval s = v1) (h2 : a.eval x = v2) (hrun : (Builtin.append_ #[t, t] o.type #[v1, v2]).run P w = .ok v' w') (h : K (a.put o.dst v') w') : o.wp P a w K Q := by
  unfold Oper.wp execOp
  simp only [ho, resolve, invoke, builtin, Sem.run_bind, Sem.run_pure, Result.andThen_ok, List.map_toArray, List.map_cons, List.map_nil, h1, h2, hrun]
  exact h
section
variable {α : Type} [Inhabited α] [Dat α]
theorem step_app {P : Program} {t e : TypeId} (hT : SlT P t e (Dat.k α)) {w : World} {ops : Array Oper} {o : Oper} {a : Act} {K : Act → World → Prop} {Q : Exit → Act → World → Prop} {E : Prop} (hg : o.guard = none) (s x : Operand) (ho : o.op = .call { callee := .builtin .append, args := #[s, x], argTypes := #[t, t] })
    {S S' : Nat → Prop} {base : Nat} {A B : Option Addr} {c d : Nat} {l r : List α} (h1 : a.eval s = .slice A l.length c) (h2 : a.eval x = .slice B r.length d) (h : OwS w S base e A c l) (hr : RdS w S' B d r) (hin : ∀ cs, Rows w S' cs r → Rows w S cs r) (hS : ∀ g, A = some ⟨g, 0, none⟩ → ¬ S g) (hbig : l.length + r.length ≤ 1000000) (hbase : base ≤ w.heap.size)
    (hK : ∀ A' c' w', OwS w' S base e A' c' (l ++ r) → w.grownBy w' (Value.slice A l.length c).ownBlock → ((Value.slice A' (l.length + r.length) c').ownBlock = (Value.slice A l.length c).ownBlock ∨ (Value.slice A' (l.length + r.length) c').ownBlock = some w.heap.size) → K (a.put o.dst (.slice A' (l.length + r.length) c')) w') :
    if Region.wanted o (yielded ops a.tmps) = true then Oper.wp P o a w K Q else E := by
  obtain ⟨A', c', w', hrun, k1, k2, k3⟩ := run_app o.type hT h hr hin (fun g hA => .inl (hS g hA)) hbig hbase
  rw [if_pos (by simp [Region.wanted, hg])]
  exact wp_app_run s x t ho _ _ _ _ h1 h2 hrun (hK A' c' w' k1 k2 k3)
theorem list_app {P : Program} {t e : TypeId} (hT : SlT P t e (Dat.k α)) {w : World} {ops : Array Oper} {rest : List Oper} {o : Oper} {a : Act} {Q : Exit → Act → World → Prop} (hg : o.guard = none) (s x : Operand) (ho : o.op = .call { callee := .builtin .append, args := #[s, x], argTypes := #[t, t] })
    {S S' : Nat → Prop} {base : Nat} {A B : Option Addr} {c d : Nat} {l r : List α} (h1 : a.eval s = .slice A l.length c) (h2 : a.eval x = .slice B r.length d) (h : OwS w S base e A c l) (hr : RdS w S' B d r) (hin : ∀ cs, Rows w S' cs r → Rows w S cs r) (hS : ∀ g, A = some ⟨g, 0, none⟩ → ¬ S g) (hbig : l.length + r.length ≤ 1000000) (hbase : base ≤ w.heap.size)
    (hK : ∀ A' c' w', OwS w' S base e A' c' (l ++ r) → w.grownBy w' (Value.slice A l.length c).ownBlock → ((Value.slice A' (l.length + r.length) c').ownBlock = (Value.slice A l.length c).ownBlock ∨ (Value.slice A' (l.length + r.length) c').ownBlock = some w.heap.size) → wpList P ops Q rest (a.put o.dst (.slice A' (l.length + r.length) c')) w') :
    wpList P ops Q (o :: rest) a w := by
  obtain ⟨A', c', w', hrun, k1, k2, k3⟩ := run_app o.type hT h hr hin (fun g hA => .inl (hS g hA)) hbig hbase
  exact wpList_plain hg fun _ hK' => wp_app_run s x t ho _ _ _ _ h1 h2 hrun (hK' _ _ (hK A' c' w' k1 k2 k3))
end

/-- ints, bools, pairs, lists as elements -/
instance : Dat Int where
  k := 1
  pos := by omega
  rd := fun _ _ vs x => vs = [.int .i64 x] ∧ Fit x
  len := fun h => by rw [h.1]; rfl
  one := fun h u hu => by rw [h.1] at hu; simp at hu; subst hu; rfl
  keep := fun h _ => h
instance : Dat Bool where
  k := 1
  pos := by omega
  rd := fun _ _ vs x => vs = [.bool x]
  len := fun h => by rw [h]; rfl
  one := fun h u hu => by rw [h] at hu; simp at hu; subst hu; rfl
  keep := fun h _ => h
instance instDatProd {α β : Type} [Dat α] [Dat β] : Dat (α × β) where
  k := Dat.k α + Dat.k β
  pos := by have := Dat.pos (α := α); omega
  rd := fun w S vs x => ∃ v r, vs = v ++ r ∧ Dat.rd w S v x.1 ∧ Dat.rd w S r x.2
  len := fun ⟨_, _, e, h1, h2⟩ => by rw [e, List.length_append, Dat.len h1, Dat.len h2]
  one := fun ⟨_, _, e, h1, h2⟩ u hu => by
    rw [e] at hu
    rcases List.mem_append.1 hu with hu | hu
    · exact Dat.one h1 u hu
    · exact Dat.one h2 u hu
  keep := fun ⟨v, r, e, h1, h2⟩ hk => ⟨v, r, e, Dat.keep h1 hk, Dat.keep h2 hk⟩
instance {α : Type} [Inhabited α] [Dat α] : Dat (List α) where
  k := 1
  pos := by omega
  rd := fun w S vs l => ∃ A c, vs = [.slice A l.length c] ∧ RdS w S A c l
  len := fun ⟨_, _, e, _⟩ => by rw [e]; rfl
  one := fun ⟨_, _, e, _⟩ u hu => by rw [e] at hu; simp at hu; subst hu; rfl
  keep := fun ⟨A, c, e, h⟩ hk => ⟨A, c, e, RdS.keep h hk⟩

/-- kinds whose cells hold no address -/
class Flat (α : Type) [Dat α] : Prop where
  indep : ∀ {w w' : World} {S S' : Nat → Prop} {vs : List Value} {x : α}, Dat.rd w S vs x → Dat.rd w' S' vs x
instance : Flat Int := ⟨fun h => h⟩
instance : Flat Bool := ⟨fun h => h⟩
instance {α β : Type} [Dat α] [Dat β] [Flat α] [Flat β] : Flat (α × β) := ⟨fun ⟨v, r, e, h1, h2⟩ => ⟨v, r, e, Flat.indep h1, Flat.indep h2⟩⟩
/-- a slice of the call's own, whose cells hold no address -/
def Ow {α : Type} [Inhabited α] [Dat α] (w : World) (base : Nat) (e : TypeId) (A : Option Addr) (c : Nat) (l : List α) : Prop := OwS w (fun _ => False) base e A c l
section
variable {α : Type} [Inhabited α] [Dat α]
theorem Ow.gb {w w' : World} {base : Nat} {e : TypeId} {A : Option Addr} {c : Nat} {l : List α} {row : Option Nat} (h : Ow w base e A c l) (hg : w.grownBy w' row) (hne : ∀ g, A = some ⟨g, 0, none⟩ → some g ≠ row) : Ow w' base e A c l := OwS.gb h hg hne (fun _ h => h.elim)
theorem Ow.below {w w' : World} {base B : Nat} {e : TypeId} {A : Option Addr} {c : Nat} {l : List α} (h : Ow w base e A c l) (hb : Below B w w') (hB : w.heap.size ≤ B) : Ow w' base e A c l := OwS.below h hb hB
theorem Ow.alloc {w : World} {base : Nat} {e : TypeId} {A : Option Addr} {c : Nat} {l : List α} (h : Ow w base e A c l) (o : Obj) : Ow (w.alloc o) base e A c l := OwS.alloc h o
theorem Ow.rd {w : World} {base : Nat} {e : TypeId} {A : Option Addr} {c : Nat} {l : List α} (h : Ow w base e A c l) : Rd w A c l := OwS.rd h
theorem Ow.le {w : World} {base : Nat} {e : TypeId} {A : Option Addr} {c : Nat} {l : List α} (h : Ow w base e A c l) : l.length ≤ c := OwS.le h
theorem Ow.form {w : World} {base : Nat} {e : TypeId} {A : Option Addr} {c : Nat} {l : List α} (h : Ow w base e A c l) (h0 : 0 < l.length) : ∃ g, A = some ⟨g, 0, none⟩ ∧ base ≤ g ∧ g < w.heap.size ∧ l.length ≤ c := OwS.form h h0
theorem Ow.rebase {w : World} {base base' : Nat} {e : TypeId} {A : Option Addr} {c : Nat} {l : List α} (h : Ow w base e A c l) (hb : base' ≤ base) : Ow w base' e A c l := OwS.rebase h hb
theorem Ow.row {w : World} {base : Nat} {e : TypeId} {A : Option Addr} {c : Nat} {l : List α} (h : Ow w base e A c l) : ∀ k, (Value.slice A l.length c).ownBlock = some k → base ≤ k := OwS.row h
theorem ow_none (w : World) (base : Nat) (e : TypeId) : Ow w base e none 0 ([] : List α) := ow_nil _ _ _ _
end
section
variable {α : Type} [Inhabited α] [Dat α] [Flat α]
theorem Rows.flat {β : Type} [Dat β] [Flat β] {w w' : World} {S S' : Nat → Prop} {l : List β} : ∀ {cs : List Value}, Rows w S cs l → Rows w' S' cs l := by
  induction l with
  | nil => intro cs h; exact h
  | cons x l ih =>
    intro cs h
    obtain ⟨v, r, e, h1, h2⟩ := h
    exact ⟨v, r, e, Flat.indep h1, ih h2⟩
theorem OwS.flat {w : World} {S : Nat → Prop} {base : Nat} {e : TypeId} {A : Option Addr} {c : Nat} {l : List α} (h : OwS w S base e A c l) : Ow w base e A c l := by
  obtain ⟨cs, h1, h2⟩ := h
  exact ⟨cs, h1, h2.flat⟩
/-- append to a slice of the call's own, of a kind without addresses: all that was below 'base' is as it was -/
theorem app_flat {P : Program} {t e : TypeId} (ty : TypeId) (hT : SlT P t e (Dat.k α)) {w : World} {base : Nat} {A B : Option Addr} {c d : Nat} {l r : List α} (h : Ow w base e A c l) (hr : Rd w B d r) (hbig : l.length + r.length ≤ 1000000) (hbase : base ≤ w.heap.size) :
    ∃ A' c' w', (Builtin.append_ #[t, t] ty #[.slice A l.length c, .slice B r.length d]).run P w = .ok (.slice A' (l.length + r.length) c') w' ∧ Ow w' base e A' c' (l ++ r) ∧ Below base w w' ∧ w.grownBy w' (Value.slice A l.length c).ownBlock := by
  obtain ⟨A', c', w', h1, h2, h3, _⟩ := run_app (S := fun _ => False) ty hT h hr (fun _ h => h.flat) (fun _ _ => .inl (fun h => h.elim)) hbig hbase
  exact ⟨A', c', w', h1, h2, (Below.refl _ _).grown h3 hbase h.row, h3⟩
theorem list_app_flat {P : Program} {t e : TypeId} (hT : SlT P t e (Dat.k α)) {w : World} {ops : Array Oper} {rest : List Oper} {o : Oper} {a : Act} {Q : Exit → Act → World → Prop} (hg : o.guard = none) (s x : Operand) (ho : o.op = .call { callee := .builtin .append, args := #[s, x], argTypes := #[t, t] })
    {base : Nat} {A B : Option Addr} {c d : Nat} {l r : List α} (h1 : a.eval s = .slice A l.length c) (h2 : a.eval x = .slice B r.length d) (h : Ow w base e A c l) (hr : Rd w B d r) (hbig : l.length + r.length ≤ 1000000) (hbase : base ≤ w.heap.size)
    (hK : ∀ A' c' w', Ow w' base e A' c' (l ++ r) → Below base w w' → w.grownBy w' (Value.slice A l.length c).ownBlock → wpList P ops Q rest (a.put o.dst (.slice A' (l.length + r.length) c')) w') :
    wpList P ops Q (o :: rest) a w := by
  obtain ⟨A', c', w', hrun, k1, k2, k3⟩ := app_flat o.type hT h hr hbig hbase
  exact wpList_plain hg fun _ hK' => wp_app_run s x t ho _ _ _ _ h1 h2 hrun (hK' _ _ (hK A' c' w' k1 k2 k3))
theorem step_app_flat {P : Program} {t e : TypeId} (hT : SlT P t e (Dat.k α)) {w : World} {ops : Array Oper} {o : Oper} {a : Act} {K : Act → World → Prop} {Q : Exit → Act → World → Prop} {E : Prop} (hg : o.guard = none) (s x : Operand) (ho : o.op = .call { callee := .builtin .append, args := #[s, x], argTypes := #[t, t] })
    {base : Nat} {A B : Option Addr} {c d : Nat} {l r : List α} (h1 : a.eval s = .slice A l.length c) (h2 : a.eval x = .slice B r.length d) (h : Ow w base e A c l) (hr : Rd w B d r) (hbig : l.length + r.length ≤ 1000000) (hbase : base ≤ w.heap.size)
    (hK : ∀ A' c' w', Ow w' base e A' c' (l ++ r) → Below base w w' → w.grownBy w' (Value.slice A l.length c).ownBlock → K (a.put o.dst (.slice A' (l.length + r.length) c')) w') :
    if Region.wanted o (yielded ops a.tmps) = true then Oper.wp P o a w K Q else E := by
  obtain ⟨A', c', w', hrun, k1, k2, k3⟩ := app_flat o.type hT h hr hbig hbase
  rw [if_pos (by simp [Region.wanted, hg])]
  exact wp_app_run s x t ho _ _ _ _ h1 h2 hrun (hK A' c' w' k1 k2 k3)
end

theorem RdS.int {w : World} {S : Nat → Prop} {A : Option Addr} {c : Nat} {l : List Int} (h : RdS w S A c l) (h0 : 0 < l.length) : ∃ b off, A = some ⟨b, off, none⟩ ∧ ∀ j, j < l.length → w.cell? ⟨b, off + j, none⟩ = some (.int .i64 (at_ l j)) ∧ Fit (at_ l j) := by
  obtain ⟨b, off, e, hc⟩ := h.cells h0
  refine ⟨b, off, e, fun j hj => ?_⟩
  obtain ⟨vs, ⟨rfl, h1⟩, h2⟩ := hc j hj
  have := h2 0 _ rfl
  exact ⟨by simpa [Dat.k] using this, h1⟩
theorem Rd.int {w : World} {A : Option Addr} {c : Nat} {l : List Int} (h : Rd w A c l) (h0 : 0 < l.length) : ∃ b off, A = some ⟨b, off, none⟩ ∧ ∀ j, j < l.length → w.cell? ⟨b, off + j, none⟩ = some (.int .i64 (at_ l j)) ∧ Fit (at_ l j) := RdS.int h h0
theorem rd_one_int {w : World} {S : Nat → Prop} {b off : Nat} {x : Int} {c : Nat} (h1 : w.cell? ⟨b, off, none⟩ = some (.int .i64 x)) (hf : Fit x) (hS : S b) (hc : 1 ≤ c) (hm : c ≤ 1000000) : RdS w S (some ⟨b, off, none⟩) c [x] := by
  refine ⟨fun h => (by cases h), ⟨by simpa using hc, by unfold maxLen; omega⟩, fun _ => ⟨b, off, rfl, hS, fun j hj => ?_⟩⟩
  have : j = 0 := by simpa using hj
  subst this
  refine ⟨[.int .i64 x], ⟨rfl, hf⟩, fun i v hv => ?_⟩
  match i, hv with
  | 0, hv => simp at hv; subst hv; simpa using h1
  | i + 1, hv => simp at hv

/-- a world in which all that was is as it was -/
structure BW (w : World) where
  to : World
  low : Below w.heap.size w to
instance (w : World) : Inhabited (BW w) := ⟨⟨w, Below.refl _ _⟩⟩
/-- a region that draws its order, whose operations read, and whose callees leave all that was as it was: walked once -/
theorem wp_region_bw {P : Program} {id : Nat} {Q : Exit → Act → World → Prop} {a : Act} {w : World} {l : List Oper} (hm : P.follows .mixedOrders = true) (hB : Region.lexB .any l.toArray = true)
    (h : wpQuiet P l.toArray (fun w' => ∃ p : BW w, w' = p.to) (fun a' => ∀ w', (∃ p : BW w, w' = p.to) → Q .normal a' w') l a) : (Code.region id l.toArray true).wp P Q a w :=
  wp_region_quiet (C := fun w' => ∃ p : BW w, w' = p.to) hm hB ⟨⟨w.drew, (Below.refl _ _).drew⟩, rfl⟩ (by simpa using h)
theorem cell_bw {w : World} {a : Addr} {v : Value} (h : w.cell? a = some v) (p : BW w) : p.to.cell? a = some v := cell_below p.low h
theorem Rd.bw {α : Type} [Inhabited α] [Dat α] {w : World} {A : Option Addr} {c : Nat} {l : List α} (h : Rd w A c l) (p : BW w) : Rd p.to A c l := h.below p.low
theorem Calls.bw {P : Program} {f : FuncId} {args : Array Value} {w : World} {p : BW w} {v : Value}
    (h : Calls P f args p.to fun e w' => e = .returned v ∧ Below p.to.heap.size p.to w') : Calls P f args p.to fun e w'' => e = .returned v ∧ ∃ p : BW w, w'' = p.to :=
  h.mono fun _ _ ⟨he, hb⟩ => ⟨he, ⟨_, below_step p.low hb⟩, rfl⟩

end Mm
end Go.Proofs.Ytdjjdebnbaaihaa

/-
  Memory, for every layer: an argument that can be read as data reads as a list, a struct, .. of Lean's (ints, bools, structs, slices, in whatever nesting).
-/
namespace Go.Proofs.Ytdjjdebnbaaihaa
open Go.ChangeShapes Go.WideShapes Go.ChangeAt Go.RowKit Go.Deep Go.Joins
namespace Mm

/-- what can be read at a type reads as an α -/
def Opens (P : Program) (t : TypeId) (α : Type) [Dat α] : Prop :=
  P.cellsOf t = Dat.k α ∧ ∀ (H : Type) (enc : TypeId × Value → H) (w : World) (base : Nat) (spare : Nat → Bool) (held : Bool) (fuel : Nat) (cs : List Value) (y : DataW H × List MemPlace),
    DataW.trod enc P w base spare held fuel t cs = some y → ∃ x : α, Dat.rd w (fun _ => True) cs x

theorem opens_int {P : Program} {t : TypeId} (ht : P.underlying t = some (.int .i64)) (hc : P.cellsOf t = 1) : Opens P t Int := by
  refine ⟨hc, fun H enc w base spare held fuel cs y h => ?_⟩
  obtain ⟨n, rfl, _, hw⟩ := DataW.trod_int ht h
  exact ⟨n, rfl, bounds_i64 hw⟩
theorem opens_bool {P : Program} {t : TypeId} (ht : P.underlying t = some .bool) (hc : P.cellsOf t = 1) : Opens P t Bool := by
  refine ⟨hc, fun H enc w base spare held fuel cs y h => ?_⟩
  obtain ⟨b, rfl, _⟩ := DataW.trod_bool ht h
  exact ⟨b, rfl⟩

theorem opens_slice {P : Program} {t e : TypeId} {α : Type} [Inhabited α] [Dat α] (ht : P.underlying t = some (.slice e)) (hc : P.cellsOf t = 1) (he : Opens P e α) : Opens P t (List α) := by
  refine ⟨hc, fun H enc w base spare held fuel cs y h => ?_⟩
  rcases open_slice ht h with ⟨rfl, _⟩ | ⟨a, len, cap, m, n, D, Pl, rfl, hb, hl, hm, hmm, _, hx⟩
  · exact ⟨[], none, 0, rfl, rd_nil (fun _ => rfl) (Nat.zero_le _)⟩
  · have hlm : len ≤ m := by rw [hmm]; split <;> omega
    have hk := he.1
    have each : ∀ i, i < len → ∃ x : α, ∃ vs, Dat.rd w (fun _ => True) vs x ∧ ∀ j v, vs[j]? = some v → w.cell? (a.add (i * Dat.k α + j)) = some v := by
      intro i hi
      obtain ⟨cs', h1, h2⟩ := hx i (by omega)
      obtain ⟨x, hx⟩ := he.2 _ _ _ _ _ _ _ _ _ h2
      obtain ⟨_, hlen, hcell⟩ := World.cells?_some h1
      refine ⟨x, cs', hx, fun j v hv => ?_⟩
      have hj : j < cs'.length := by
        rcases Nat.lt_or_ge j cs'.length with h | h
        · exact h
        · rw [List.getElem?_eq_none h] at hv; cases hv
      have := hcell j (by omega)
      rw [add_add, hk] at this
      rw [this, hv]
    obtain ⟨f, hf⟩ := choose_lt each
    refine ⟨(List.range len).map f, some a, cap, by simp, fun h => (by cases h), ⟨by simpa using hl, hm⟩, fun h0 => ?_⟩
    have hl0 : 0 < len := by simpa using h0
    have ea : a = ⟨a.block, a.off, none⟩ := by
      obtain ⟨vs, h1, h2⟩ := hf 0 hl0
      have hp := Dat.pos (α := α)
      have hlen := Dat.len h1
      have := h2 0 (vs[0]'(by omega)) (by simp)
      obtain ⟨b, o, s⟩ := a
      cases s with
      | none => rfl
      | some s => unfold World.cell? at this; split at this <;> simp [Addr.add] at this
    refine ⟨a.block, a.off, by rw [← ea], trivial, fun j hj => ?_⟩
    have hj' : j < len := by simpa using hj
    obtain ⟨vs, h1, h2⟩ := hf j hj'
    have e1 : at_ ((List.range len).map f) j = f j := by simp [at_, List.getD_eq_getElem?_getD, hj']
    refine ⟨vs, by rw [e1]; exact h1, fun i v hv => ?_⟩
    have := h2 i v hv
    rw [ea, add_plain] at this
    rw [Nat.add_assoc]
    exact this

/-- the fields of a struct, from a place on -/
def FieldsOpen (P : Program) (o : Nat) (fs : List Field) (α : Type) [Dat α] : Prop :=
  ∀ (H : Type) (enc : TypeId × Value → H) (w : World) (base : Nat) (spare : Nat → Bool) (held : Bool) (n : Nat) (cs : List Value),
    (∀ f ∈ fs, ∃ y, DataW.trod enc P w base spare held n f.type ((cs.drop f.offset).take (P.cellsOf f.type)) = some y) → ∃ x : α, Dat.rd w (fun _ => True) ((cs.drop o).take (Dat.k α)) x
theorem fieldsOpen_one {P : Program} {o : Nat} {f : Field} {α : Type} [Dat α] (ho : f.offset = o) (h : Opens P f.type α) : FieldsOpen P o [f] α := by
  intro H enc w base spare held n cs hy
  obtain ⟨y, hy⟩ := hy f (by simp)
  rw [ho, h.1] at hy
  exact h.2 _ _ _ _ _ _ _ _ _ hy
theorem fieldsOpen_cons {P : Program} {o : Nat} {f : Field} {fs : List Field} {α β : Type} [Dat α] [Dat β] (ho : f.offset = o) (h : Opens P f.type α) (hr : FieldsOpen P (o + Dat.k α) fs β) : FieldsOpen P o (f :: fs) (α × β) := by
  intro H enc w base spare held n cs hy
  obtain ⟨y, hy1⟩ := hy f (by simp)
  rw [ho, h.1] at hy1
  obtain ⟨x, hx⟩ := h.2 _ _ _ _ _ _ _ _ _ hy1
  obtain ⟨z, hz⟩ := hr H enc w base spare held n cs (fun g hg => hy g (by simp [hg]))
  refine ⟨(x, z), _, _, ?_, hx, hz⟩
  show (cs.drop o).take (Dat.k α + Dat.k β) = _
  rw [List.take_add, List.drop_drop]
theorem opens_struct {P : Program} {t : TypeId} {fs : Array Field} {α : Type} [Dat α] (ht : P.underlying t = some (.struct fs)) (hk : P.cellsOf t = Dat.k α) (h : FieldsOpen P 0 fs.toList α) : Opens P t α := by
  refine ⟨hk, fun H enc w base spare held fuel cs y hh => ?_⟩
  obtain ⟨xs, n, _, _, hl, hx, hf⟩ := DataW.trod_struct ht hh
  obtain ⟨x, hx'⟩ := h H enc w base spare held n cs (fun f hf' => by
    obtain ⟨i, hi, e⟩ := List.mem_iff_getElem.1 hf'
    have hi' : i < fs.size := by simpa using hi
    have := hf i f (by simp at e; rw [← e]; simp [hi'])
    have hxi : xs[i]? = some (xs[i]'(by omega)) := List.getElem?_eq_getElem (by omega)
    rw [hxi] at this
    exact ⟨_, this⟩)
  refine ⟨x, ?_⟩
  rw [List.drop_zero, List.take_of_length_le (by omega)] at hx'
  exact hx'

section
variable {H : Type} {enc : TypeId × Value → H} {P : Program} {w : World} {base : Nat} {spare : Nat → Bool} {held : Bool}
theorem open_list {α : Type} [Inhabited α] [Dat α] {t e : TypeId} (ht : P.underlying t = some (.slice e)) (ho : Opens P t (List α)) {r : Reach} {b0 : Nat} {v : Value} {d : DataW H} {ps : List MemPlace} (hv : Value.okWide P w r b0 t v) (h : DataW.Trod enc P w base spare held t v d ps) :
    ∃ (A : Option Addr) (c : Nat) (l : List α), v = .slice A l.length c ∧ Rd w A c l := by
  obtain ⟨A, n, c, rfl⟩ := okWide_slice ht hv
  obtain ⟨fuel, hf⟩ := h
  obtain ⟨l, A', c', e, hr⟩ := ho.2 _ _ _ _ _ _ _ _ _ hf
  have e' : Value.slice A n c = .slice A' l.length c' := by simpa [Value.cells] using e
  exact ⟨A', c', l, e', hr⟩
theorem open_strct {α : Type} [Dat α] {t : TypeId} {fs : Array Field} (ht : P.underlying t = some (.struct fs)) (ho : Opens P t α) {r : Reach} {b0 : Nat} {v : Value} {d : DataW H} {ps : List MemPlace} (hv : Value.okWide P w r b0 t v) (h : DataW.Trod enc P w base spare held t v d ps) :
    ∃ (cs : List Value) (x : α), v = .agg cs.toArray ∧ Dat.rd w (fun _ => True) cs x := by
  obtain ⟨cs, rfl, _⟩ := okWide_struct ht hv
  obtain ⟨fuel, hf⟩ := h
  obtain ⟨x, hx⟩ := ho.2 _ _ _ _ _ _ _ _ _ hf
  exact ⟨cs.toList, x, by simp, by simpa [Value.cells] using hx⟩
theorem open_u8' {t : TypeId} (ht : P.underlying t = some (.int .u8)) {r : Reach} {b0 : Nat} {v : Value} {d : DataW H} {ps : List MemPlace} (hv : Value.okWide P w r b0 t v) (h : DataW.Trod enc P w base spare held t v d ps) :
    ∃ n : Nat, v = .int .u8 n ∧ n < 256 := by
  obtain ⟨a, rfl, _, _, hw⟩ := open_int ht hv h
  have hb : 0 ≤ a ∧ a ≤ 255 := by simpa [Lit.wf, IntKind.min, IntKind.max, IntKind.signed, IntKind.bits] using hw
  exact ⟨a.toNat, by rw [Int.toNat_of_nonneg hb.1], by omega⟩
theorem open_num' {t : TypeId} (ht : P.underlying t = some (.int .i64)) {r : Reach} {b0 : Nat} {v : Value} {d : DataW H} {ps : List MemPlace} (hv : Value.okWide P w r b0 t v) (h : DataW.Trod enc P w base spare held t v d ps) :
    ∃ n : Int, v = .int .i64 n ∧ Fit n := by
  obtain ⟨a, rfl, _, _, hw⟩ := open_int ht hv h
  exact ⟨a, rfl, bounds_i64 hw⟩
theorem open_flag' {t : TypeId} (ht : P.underlying t = some .bool) {r : Reach} {b0 : Nat} {v : Value} {d : DataW H} {ps : List MemPlace} (hv : Value.okWide P w r b0 t v) (h : DataW.Trod enc P w base spare held t v d ps) :
    ∃ b : Bool, v = .bool b := by
  obtain ⟨fuel, hf⟩ := h
  obtain ⟨b, e, _⟩ := DataW.trod_bool ht hf
  refine ⟨b, ?_⟩
  cases v <;> simp [Value.cells] at e <;> first | (rw [e]) | skip
  all_goals simp_all [Value.okWide, Cell.okWide, Cell.ok]
end

theorem own : ownKnob Try.prog.godebug = none := by kernel_rfl
theorem laidOut : laidOutB Try.prog = true := by kernel_rfl

theorem trodAll_five {H : Type} {enc : TypeId × Value → H} {P : Program} {w : World} {base : Nat} {spare : Nat → Bool} {held : Bool} {t0 t1 t2 t3 t4 : TypeId} {args : Array Value} {ds : List (DataW H)} {ps : List MemPlace} (h : DataW.TrodAll enc P w base spare held [t0, t1, t2, t3, t4] args.toList ds ps) :
    ∃ v0 v1 v2 v3 v4 d0 d1 d2 d3 d4 p0 p1 p2 p3 p4, args = #[v0, v1, v2, v3, v4] ∧ ds = [d0, d1, d2, d3, d4] ∧ ps = p0 ++ p1 ++ p2 ++ p3 ++ p4 ∧ DataW.Trod enc P w base spare held t0 v0 d0 p0 ∧ DataW.Trod enc P w base spare held t1 v1 d1 p1 ∧ DataW.Trod enc P w base spare held t2 v2 d2 p2 ∧ DataW.Trod enc P w base spare held t3 v3 d3 p3 ∧ DataW.Trod enc P w base spare held t4 v4 d4 p4 := by
  obtain ⟨v0, vs, d0, ds0, p0, q0, hargs, rfl, rfl, h0, r0⟩ := trodAll_cons h
  obtain ⟨v1, vs1, d1, ds1, p1, q1, rfl, rfl, rfl, h1, r1⟩ := trodAll_cons r0
  obtain ⟨v2, vs2, d2, ds2, p2, q2, rfl, rfl, rfl, h2, r2⟩ := trodAll_cons r1
  obtain ⟨v3, vs3, d3, ds3, p3, q3, rfl, rfl, rfl, h3, r3⟩ := trodAll_cons r2
  obtain ⟨v4, vs4, d4, ds4, p4, q4, rfl, rfl, rfl, h4, r4⟩ := trodAll_cons r3
  obtain ⟨rfl, rfl, rfl⟩ := trodAll_nil r4
  exact ⟨v0, v1, v2, v3, v4, d0, d1, d2, d3, d4, p0, p1, p2, p3, p4, by cases args; simp_all, rfl, by simp, h0, h1, h2, h3, h4⟩
theorem trodAll_four' {H : Type} {enc : TypeId × Value → H} {P : Program} {w : World} {base : Nat} {spare : Nat → Bool} {held : Bool} {t0 t1 t2 t3 : TypeId} {args : Array Value} {ds : List (DataW H)} {ps : List MemPlace} (h : DataW.TrodAll enc P w base spare held [t0, t1, t2, t3] args.toList ds ps) :
    ∃ v0 v1 v2 v3 d0 d1 d2 d3 p0 p1 p2 p3, args = #[v0, v1, v2, v3] ∧ ds = [d0, d1, d2, d3] ∧ ps = p0 ++ p1 ++ p2 ++ p3 ∧ DataW.Trod enc P w base spare held t0 v0 d0 p0 ∧ DataW.Trod enc P w base spare held t1 v1 d1 p1 ∧ DataW.Trod enc P w base spare held t2 v2 d2 p2 ∧ DataW.Trod enc P w base spare held t3 v3 d3 p3 := by
  obtain ⟨v0, vs, d0, ds0, p0, q0, hargs, rfl, rfl, h0, r0⟩ := trodAll_cons h
  obtain ⟨v1, vs1, d1, ds1, p1, q1, rfl, rfl, rfl, h1, r1⟩ := trodAll_cons r0
  obtain ⟨v2, vs2, d2, ds2, p2, q2, rfl, rfl, rfl, h2, r2⟩ := trodAll_cons r1
  obtain ⟨v3, vs3, d3, ds3, p3, q3, rfl, rfl, rfl, h3, r3⟩ := trodAll_cons r2
  obtain ⟨rfl, rfl, rfl⟩ := trodAll_nil r3
  exact ⟨v0, v1, v2, v3, d0, d1, d2, d3, p0, p1, p2, p3, by cases args; simp_all, rfl, by simp, h0, h1, h2, h3⟩
theorem trodAll_mk5 {H : Type} {enc : TypeId × Value → H} {P : Program} {w : World} {base : Nat} {spare : Nat → Bool} {held : Bool} {t0 t1 t2 t3 t4 : TypeId} {v0 v1 v2 v3 v4 : Value} {d0 d1 d2 d3 d4 : DataW H} {p0 p1 p2 p3 p4 : List MemPlace}
    (h0 : DataW.Trod enc P w base spare held t0 v0 d0 p0) (h1 : DataW.Trod enc P w base spare held t1 v1 d1 p1) (h2 : DataW.Trod enc P w base spare held t2 v2 d2 p2) (h3 : DataW.Trod enc P w base spare held t3 v3 d3 p3) (h4 : DataW.Trod enc P w base spare held t4 v4 d4 p4) :
    DataW.TrodAll enc P w base spare held [t0, t1, t2, t3, t4] [v0, v1, v2, v3, v4] [d0, d1, d2, d3, d4] (p0 ++ (p1 ++ (p2 ++ (p3 ++ p4)))) := ⟨p0, p1 ++ (p2 ++ (p3 ++ p4)), h0, trodAll_mk4 h1 h2 h3 h4, rfl⟩

end Mm
end Go.Proofs.Ytdjjdebnbaaihaa

/-
  Plain mathematics, for every layer: the greatest of some numbers; how many; sums.
-/
namespace Go.Proofs.Ytdjjdebnbaaihaa
namespace Mm

/-- the greatest f of the first k -/
def mostTo {α : Type} [Inhabited α] (f : α → Nat) (L : List α) : Nat → Nat
  | 0 => 0
  | k + 1 => max (mostTo f L k) (f (at_ L k))
def most {α : Type} [Inhabited α] (f : α → Nat) (L : List α) : Nat := mostTo f L L.length
theorem int_max (q y : Nat) : Value.int .i64 (if q < y then (y : Int) else (q : Int)) = .int .i64 ((max q y : Nat) : Int) := by
  congr 1
  split <;> omega
section
variable {α : Type} [Inhabited α]
theorem mostTo_congr {f g : α → Nat} {L : List α} : ∀ {k : Nat}, (∀ j, j < k → f (at_ L j) = g (at_ L j)) → mostTo f L k = mostTo g L k
  | 0, _ => rfl
  | k + 1, h => by rw [mostTo, mostTo, mostTo_congr (fun j hj => h j (by omega)), h k (by omega)]
theorem mostTo_mono {f g : α → Nat} {L : List α} : ∀ {k : Nat}, (∀ j, j < k → f (at_ L j) ≤ g (at_ L j)) → mostTo f L k ≤ mostTo g L k
  | 0, _ => Nat.le_refl _
  | k + 1, h => by
    have h1 := mostTo_mono (f := f) (g := g) (L := L) (k := k) (fun j hj => h j (by omega))
    have h2 := h k (by omega)
    rw [mostTo, mostTo]; omega
theorem mostTo_ge {f : α → Nat} {L : List α} : ∀ {k j : Nat}, j < k → f (at_ L j) ≤ mostTo f L k
  | 0, _, h => by omega
  | k + 1, j, h => by
    rw [mostTo]
    by_cases e : j = k
    · subst e; omega
    · have := mostTo_ge (f := f) (L := L) (k := k) (j := j) (by omega)
      omega
theorem mostTo_le {f : α → Nat} {L : List α} {m : Nat} : ∀ {k : Nat}, (∀ j, j < k → f (at_ L j) ≤ m) → mostTo f L k ≤ m
  | 0, _ => Nat.zero_le _
  | k + 1, h => by
    have h1 := mostTo_le (f := f) (L := L) (k := k) (fun j hj => h j (by omega))
    have h2 := h k (by omega)
    rw [mostTo]; omega
theorem mostTo_is {f : α → Nat} {L : List α} : ∀ {k : Nat}, mostTo f L k = 0 ∨ ∃ j, j < k ∧ mostTo f L k = f (at_ L j)
  | 0 => .inl rfl
  | k + 1 => by
    rw [mostTo]
    by_cases h : f (at_ L k) ≤ mostTo f L k
    · rw [Nat.max_eq_left h]
      rcases mostTo_is (f := f) (L := L) (k := k) with e | ⟨j, hj, e⟩
      · exact .inl e
      · exact .inr ⟨j, by omega, e⟩
    · rw [Nat.max_eq_right (by omega)]
      exact .inr ⟨k, by omega, rfl⟩
theorem most_ge {f : α → Nat} {L : List α} {x : α} (h : x ∈ L) : f x ≤ most f L := by
  obtain ⟨j, hj, rfl⟩ := mem_at h
  exact mostTo_ge hj
theorem most_le {f : α → Nat} {L : List α} {m : Nat} (h : ∀ x ∈ L, f x ≤ m) : most f L ≤ m := mostTo_le fun _ hj => h _ (at_mem hj)
theorem most_is {f : α → Nat} {L : List α} : most f L = 0 ∨ ∃ x ∈ L, most f L = f x := by
  rcases mostTo_is (f := f) (L := L) (k := L.length) with e | ⟨j, hj, e⟩
  · exact .inl e
  · exact .inr ⟨_, at_mem hj, e⟩
theorem most_zero {f : α → Nat} {L : List α} (h : ∀ x ∈ L, f x = 0) : most f L = 0 := by
  have := most_le (f := f) (L := L) (m := 0) (fun x hx => by rw [h x hx]; omega)
  omega
theorem most_nil (f : α → Nat) : most f [] = 0 := rfl
theorem most_congr {f g : α → Nat} {L : List α} (h : ∀ x ∈ L, f x = g x) : most f L = most g L := mostTo_congr fun _ hj => h _ (at_mem hj)
theorem most_mono {f g : α → Nat} {L : List α} (h : ∀ x ∈ L, f x ≤ g x) : most f L ≤ most g L := mostTo_mono fun _ hj => h _ (at_mem hj)
theorem most_sub {f : α → Nat} {L M : List α} (h : ∀ x ∈ L, x ∈ M) : most f L ≤ most f M := most_le fun x hx => most_ge (h x hx)
end

/-- how many of the first k -/
def cntTo {α : Type} (p : α → Bool) (L : List α) (k : Nat) : Nat := ((L.take k).filter p).length
theorem cntTo_zero {α : Type} (p : α → Bool) (L : List α) : cntTo p L 0 = 0 := rfl
theorem cntTo_yes {α : Type} [Inhabited α] {p : α → Bool} {L : List α} {k : Nat} (h : k < L.length) (hd : p (at_ L k) = true) : cntTo p L (k + 1) = cntTo p L k + 1 := by
  unfold cntTo
  rw [take_succ_at h, List.filter_append, List.length_append]
  simp [hd]
theorem cntTo_no {α : Type} [Inhabited α] {p : α → Bool} {L : List α} {k : Nat} (h : k < L.length) (hd : p (at_ L k) = false) : cntTo p L (k + 1) = cntTo p L k := by
  unfold cntTo
  rw [take_succ_at h, List.filter_append, List.length_append]
  simp [hd]
theorem cntTo_le {α : Type} (p : α → Bool) (L : List α) (k : Nat) : cntTo p L k ≤ k := by
  unfold cntTo
  exact Nat.le_trans (List.length_filter_le _ _) (by simp; omega)
theorem cntTo_all {α : Type} (p : α → Bool) (L : List α) : cntTo p L L.length = (L.filter p).length := by unfold cntTo; rw [List.take_length]

end Mm
end Go.Proofs.Ytdjjdebnbaaihaa

/-
  Memory, for every layer: slices of ints: append to one of the call's own; one int alone.
-/
namespace Go.Proofs.Ytdjjdebnbaaihaa
open Go.RowKit
namespace Mm

theorem slI : SlT Try.prog 24 3 (Dat.k Int) := slT_of Try.underlying24 (show _ = some (some (.int .i64 0), 1, 8) by kernel_rfl) rfl (by omega)
/-- an empty literal -/
theorem ow_empty (w : World) (base : Nat) (e : TypeId) (hb : base ≤ w.heap.size) : Ow (w.alloc (.cells #[] e)) base e (some ⟨w.heap.size, 0, none⟩) 0 ([] : List Int) :=
  ow_lit (l := ([] : List Int)) w (fun _ => False) base e #[] hb (by simp) rfl
theorem rd_i {w : World} {S : Nat → Prop} {x : Int} (hx : Fit x) : Dat.rd w S [.int .i64 x] x := ⟨rfl, hx⟩
/-- a literal of ints -/
theorem rd_new1 (w : World) (e : TypeId) (x : Int) (hx : Fit x) : Rd (w.alloc (.cells #[.int .i64 x] e)) (some ⟨w.heap.size, 0, none⟩) 1 [x] :=
  rd_one_int (by simp) hx trivial (Nat.le_refl _) (by decide)
theorem rd_new2 (w : World) (e : TypeId) (x y : Int) (hx : Fit x) (hy : Fit y) : Rd (w.alloc (.cells #[.int .i64 x, .int .i64 y] e)) (some ⟨w.heap.size, 0, none⟩) 2 [x, y] :=
  (ow_lit (l := [x, y]) w (fun _ => True) w.heap.size e #[.int .i64 x, .int .i64 y] (Nat.le_refl _) (by simp) ⟨[.int .i64 x], [.int .i64 y], rfl, rd_i hx, [.int .i64 y], [], rfl, rd_i hy, rfl⟩).rd

/-- append, the lengths named -/
theorem list_app_n {α : Type} [Inhabited α] [Dat α] [Flat α] {P : Program} {t e : TypeId} (hT : SlT P t e (Dat.k α)) {w : World} {ops : Array Oper} {rest : List Oper} {o : Oper} {a : Act} {Q : Exit → Act → World → Prop} (hg : o.guard = none) (s x : Operand) (ho : o.op = .call { callee := .builtin .append, args := #[s, x], argTypes := #[t, t] })
    {base : Nat} {A B : Option Addr} {c d : Nat} {l r : List α} {n m : Nat} (hn : l.length = n) (hm : r.length = m) (h1 : a.eval s = .slice A n c) (h2 : a.eval x = .slice B m d) (h : Ow w base e A c l) (hr : Rd w B d r) (hbig : n + m ≤ 1000000) (hbase : base ≤ w.heap.size)
    (hK : ∀ A' c' w', Ow w' base e A' c' (l ++ r) → Below base w w' → w.grownBy w' (Value.slice A n c).ownBlock → wpList P ops Q rest (a.put o.dst (.slice A' (n + m) c')) w') :
    wpList P ops Q (o :: rest) a w := by
  subst hn; subst hm
  exact list_app_flat hT hg s x ho h1 h2 h hr hbig hbase hK
theorem rd_back_int {w : World} {b off c : Nat} {l : List Int} (h : Rd w (some ⟨b, off, none⟩) c l) (k : Nat) (hk : k ≤ l.length) : Rd w (some ⟨b, off + k, none⟩) (c - k) (l.drop k) := by
  have h1 := h.le
  have h2 := h.max
  have := RdS.back h k (c - k) (by omega) (by omega)
  rwa [show k * Dat.k Int = k from Nat.mul_one k] at this
theorem rd_at_int {w : World} {b off c : Nat} {l : List Int} (h : Rd w (some ⟨b, off, none⟩) c l) (k : Nat) (hk : k < l.length) : Rd w (some ⟨b, off + k, none⟩) (c - k) [at_ l k] := by
  have := RdS.front (rd_back_int h k (by omega)) 1
  rwa [show (l.drop k).take 1 = [at_ l k] from by rw [at_get hk, List.drop_eq_getElem_cons hk]; rfl] at this

/-- a list of ints, as an argument -/
def IL (w : World) (A : Option Addr) (c : Nat) (h : List Int) : Prop := h.length ≤ 1000000 ∧ Rd w A c h
theorem IL.below {w w' : World} {A : Option Addr} {c : Nat} {h : List Int} (H : IL w A c h) (b : Below w.heap.size w w') : IL w' A c h := ⟨H.1, H.2.below b⟩
theorem IL.bw {w : World} {A : Option Addr} {c : Nat} {h : List Int} (H : IL w A c h) (p : BW w) : IL p.to A c h := H.below p.low
theorem il_nil (w : World) : IL w none 0 [] := ⟨by simp, rd_nil (fun _ => rfl) (by unfold maxLen; omega)⟩

end Mm
end Go.Proofs.Ytdjjdebnbaaihaa

/-
  Memory, for every layer: a slice of ints as an argument, opened.
-/
namespace Go.Proofs.Ytdjjdebnbaaihaa
open Go.RowKit
namespace Mm

theorem opInts : Opens Try.prog 24 (List Int) := opens_slice Try.underlying24 (by kernel_rfl) (opens_int Try.underlying3 (by kernel_rfl))

end Mm
end Go.Proofs.Ytdjjdebnbaaihaa

/-
  Memory, for every layer: literals of ints and bools.
-/
namespace Go.Proofs.Ytdjjdebnbaaihaa
open Go.RowKit
namespace Mm

theorem rows_nil_ {α : Type} [Dat α] {w : World} {S : Nat → Prop} : Mm.Rows w S [] ([] : List α) := rfl
theorem rows_int_ {w : World} {S : Nat → Prop} {r : List Value} {l : List Int} (x : Int) (hx : Fit x) (h : Mm.Rows w S r l) : Mm.Rows w S (.int .i64 x :: r) (x :: l) := ⟨[.int .i64 x], r, rfl, ⟨rfl, hx⟩, h⟩
theorem rows_bool_ {w : World} {S : Nat → Prop} {r : List Value} {l : List Bool} (x : Bool) (h : Mm.Rows w S r l) : Mm.Rows w S (.bool x :: r) (x :: l) := ⟨[.bool x], r, rfl, rfl, h⟩
theorem rd_literal {α : Type} [Inhabited α] [Dat α] (w : World) (l : List α) (n : Nat) (hn : l.length = n) (cs : Array Value) (e : TypeId) (hm : n ≤ 1000000) (h : Mm.Rows (w.alloc (.cells cs e)) (fun _ => True) cs.toList l) : Rd (w.alloc (.cells cs e)) (some ⟨w.heap.size, 0, none⟩) n l := by
  subst hn
  exact (ow_lit w (fun _ => True) w.heap.size e cs (Nat.le_refl _) hm h).rd
theorem fit_lit {x : Int} (h : decide (0 ≤ x ∧ x ≤ 1000000) = true) : Fit x := by
  have := of_decide_eq_true h
  exact ⟨by omega, by omega⟩

end Mm
end Go.Proofs.Ytdjjdebnbaaihaa

/-
  Memory, for every layer: slices of bools.
-/
namespace Go.Proofs.Ytdjjdebnbaaihaa
open Go.RowKit
namespace Mm

theorem slF : SlT Try.prog 23 4 (Dat.k Bool) := slT_of Try.underlying23 (show _ = some (some (.bool false), 1, 1) by kernel_rfl) rfl (by omega)
theorem RdS.flag {w : World} {S : Nat → Prop} {A : Option Addr} {c : Nat} {l : List Bool} (h : RdS w S A c l) (h0 : 0 < l.length) : ∃ b off, A = some ⟨b, off, none⟩ ∧ ∀ j, j < l.length → w.cell? ⟨b, off + j, none⟩ = some (.bool (at_ l j)) := by
  obtain ⟨b, off, e, hc⟩ := h.cells h0
  refine ⟨b, off, e, fun j hj => ?_⟩
  obtain ⟨vs, rfl, h2⟩ := hc j hj
  have := h2 0 _ rfl
  simpa [Dat.k] using this
theorem Rd.flag {w : World} {A : Option Addr} {c : Nat} {l : List Bool} (h : Rd w A c l) (h0 : 0 < l.length) : ∃ b off, A = some ⟨b, off, none⟩ ∧ ∀ j, j < l.length → w.cell? ⟨b, off + j, none⟩ = some (.bool (at_ l j)) := RdS.flag h h0
/-- a list of bools, as an argument -/
def FL (w : World) (A : Option Addr) (c : Nat) (h : List Bool) : Prop := h.length ≤ 1000000 ∧ Rd w A c h
theorem FL.below {w w' : World} {A : Option Addr} {c : Nat} {h : List Bool} (H : FL w A c h) (b : Below w.heap.size w w') : FL w' A c h := ⟨H.1, H.2.below b⟩
theorem FL.bw {w : World} {A : Option Addr} {c : Nat} {h : List Bool} (H : FL w A c h) (p : BW w) : FL p.to A c h := H.below p.low

end Mm
end Go.Proofs.Ytdjjdebnbaaihaa

/-
  Memory, for every layer: a slice of bools as an argument, opened.
-/
namespace Go.Proofs.Ytdjjdebnbaaihaa
open Go.RowKit
namespace Mm

theorem opFlags : Opens Try.prog 23 (List Bool) := opens_slice Try.underlying23 (by kernel_rfl) (opens_bool Try.underlying4 (by kernel_rfl))

end Mm
end Go.Proofs.Ytdjjdebnbaaihaa

/-
  Memory, for every layer: append to a slice that is full (a three-index slice): always a new row.
-/
namespace Go.Proofs.Ytdjjdebnbaaihaa
open Go.RowKit
namespace Mm
section
variable {α : Type} [Inhabited α] [Dat α] [Flat α]

/-- append of something to a full slice -/
theorem run_app_full {P : Program} {t e : TypeId} (ty : TypeId) (hT : SlT P t e (Dat.k α)) {w : World} {A B : Option Addr} {d : Nat} {l r : List α} (h : Rd w A l.length l) (hr : Rd w B d r) (h0 : 0 < r.length) (hbig : l.length + r.length ≤ 1000000) :
    ∃ A' c' w', (Builtin.append_ #[t, t] ty #[.slice A l.length l.length, .slice B r.length d]).run P w = .ok (.slice A' (l.length + r.length) c') w' ∧ Ow w' w.heap.size e A' c' (l ++ r) ∧ w.grownBy w' none := by
  rcases A with _ | a
  · obtain ⟨_, rfl⟩ := nil_of_none h
    obtain ⟨A', c', w', h1, h2, _, h4⟩ := app_flat ty hT (ow_none w w.heap.size e) hr hbig (Nat.le_refl _)
    exact ⟨A', c', w', h1, h2, h4⟩
  · obtain ⟨ht, i, z, hi, hz, hs, hzs, hby⟩ := hT
    have hpos := Dat.pos (α := α)
    rcases B with _ | ad
    · have := (nil_of_none hr).2
      subst this
      simp at h0
    · have ha := plain_of hr h0
      rw [ha] at hr
      obtain ⟨ds, h6, h7⟩ := hr.rows
      have hold : ∃ cs, Rows w (fun _ => True) cs l ∧ ∀ j u, cs[j]? = some u → w.cell? (a.add j) = some u := by
        rcases Nat.eq_zero_or_pos l.length with hl0 | hl0
        · have := List.eq_nil_of_length_eq_zero hl0
          subst this
          exact ⟨[], rfl, fun j u hj => by simp at hj⟩
        · have hb := plain_of h hl0
          rw [hb] at h
          obtain ⟨cs, h1, h2⟩ := RdS.rows h
          exact ⟨cs, h1, fun j u hj => by rw [hb, Go.WideShapes.add_plain]; exact h2 j u hj⟩
      obtain ⟨cs, h1, h2⟩ := hold
      obtain ⟨v', w', hrun, k1, k2⟩ := run_append_arg_grows (P := P) w t ty e i z (Dat.k α) i.bytes ht hi hz hs rfl hzs hpos a l.length l.length cs h1.length h2 ad r.length d ds h6.length
        (fun j u hu => by rw [ha, Go.WideShapes.add_plain]; exact h7 j u hu) (by omega) (by unfold maxLen; omega) (by have := Nat.mul_le_mul hbig hby; omega)
      have hv : ∃ A' c', v' = .slice A' (l.length + r.length) c' := by
        rcases k1.2 with ⟨h', h0⟩ | ⟨g, cap, cur, h', _⟩
        · exact ⟨none, 0, by rw [h', h0]⟩
        · exact ⟨_, _, h'⟩
      obtain ⟨A', c', rfl⟩ := hv
      exact ⟨A', c', w', hrun, ⟨cs ++ ds, by rw [List.length_append]; exact k1, (h1.append (h6.flat (w' := w) (S' := fun _ => True))).flat⟩, k2⟩
theorem step_app_full {P : Program} {t e : TypeId} (hT : SlT P t e (Dat.k α)) {w : World} {ops : Array Oper} {o : Oper} {a : Act} {K : Act → World → Prop} {Q : Exit → Act → World → Prop} {E : Prop} (hg : o.guard = none) (s x : Operand) (ho : o.op = .call { callee := .builtin .append, args := #[s, x], argTypes := #[t, t] })
    {A B : Option Addr} {d : Nat} {l r : List α} {n m : Nat} (hn : l.length = n) (hm : r.length = m) (h1 : a.eval s = .slice A n n) (h2 : a.eval x = .slice B m d) (h : Rd w A n l) (hr : Rd w B d r) (h0 : 0 < m) (hbig : n + m ≤ 1000000)
    (hK : ∀ A' c' w', Ow w' w.heap.size e A' c' (l ++ r) → w.grownBy w' none → K (a.put o.dst (.slice A' (n + m) c')) w') :
    if Region.wanted o (yielded ops a.tmps) = true then Oper.wp P o a w K Q else E := by
  subst hn; subst hm
  obtain ⟨A', c', w', hrun, k1, k2⟩ := run_app_full o.type hT h hr h0 hbig
  rw [if_pos (by simp [Region.wanted, hg])]
  exact wp_app_run s x t ho _ _ _ _ h1 h2 hrun (hK A' c' w' k1 k2)
/-- .. to one of the call's own, the lengths named -/
theorem step_app_n {P : Program} {t e : TypeId} (hT : SlT P t e (Dat.k α)) {w : World} {ops : Array Oper} {o : Oper} {a : Act} {K : Act → World → Prop} {Q : Exit → Act → World → Prop} {E : Prop} (hg : o.guard = none) (s x : Operand) (ho : o.op = .call { callee := .builtin .append, args := #[s, x], argTypes := #[t, t] })
    {base : Nat} {A B : Option Addr} {c d : Nat} {l r : List α} {n m : Nat} (hn : l.length = n) (hm : r.length = m) (h1 : a.eval s = .slice A n c) (h2 : a.eval x = .slice B m d) (h : Ow w base e A c l) (hr : Rd w B d r) (hbig : n + m ≤ 1000000) (hbase : base ≤ w.heap.size)
    (hK : ∀ A' c' w', Ow w' base e A' c' (l ++ r) → Below base w w' → w.grownBy w' (Value.slice A n c).ownBlock → K (a.put o.dst (.slice A' (n + m) c')) w') :
    if Region.wanted o (yielded ops a.tmps) = true then Oper.wp P o a w K Q else E := by
  subst hn; subst hm
  exact step_app_flat hT hg s x ho h1 h2 h hr hbig hbase hK
end
end Mm
end Go.Proofs.Ytdjjdebnbaaihaa

/-
  Memory, for every layer: append to a slice that has no room (a full one, an emptied one): always a new row, of elements of any kind; append of nothing.
-/
namespace Go.Proofs.Ytdjjdebnbaaihaa
open Go.RowKit
namespace Mm
section
variable {α : Type} [Inhabited α] [Dat α]

/-- append of nothing -/
theorem run_app_zero {P : Program} {t e : TypeId} (ty : TypeId) {k : Nat} (hT : SlT P t e k) (w : World) (A B : Option Addr) (n c d : Nat) (hnc : n ≤ c) :
    (Builtin.append_ #[t, t] ty #[.slice A n c, .slice B 0 d]).run P w = .ok (.slice A n c) w := by
  obtain ⟨ht, i, z, hi, _⟩ := hT
  have h0 : ∀ a : Addr, (loadCells a 0).run P w = .ok #[] w := fun a => by simp [loadCells, loadCellsFrom]
  rcases A with _ | a <;> rcases B with _ | b <;> simp [Builtin.append_, run_underlying ht, sizeOf, typeInfo, hi, Builtin.lenOf, Builtin.firstCells, hnc, storeCells, h0]

/-- append to a slice without room -/
theorem run_app_moves {P : Program} {t e : TypeId} (ty : TypeId) (hT : SlT P t e (Dat.k α)) {w : World} {S : Nat → Prop} {A : Option Addr} {B : Addr} {c d : Nat} {l r : List α} {ds : List Value} (h : RdS w S A c l) (hd : Rows w S ds r) (hcell : ∀ j u, ds[j]? = some u → w.cell? (B.add j) = some u) (hfull : c < l.length + r.length) (hbig : l.length + r.length ≤ 1000000) :
    ∃ A' c' w', (Builtin.append_ #[t, t] ty #[.slice A l.length c, .slice (some B) r.length d]).run P w = .ok (.slice A' (l.length + r.length) c') w' ∧ OwS w' S w.heap.size e A' c' (l ++ r) ∧ w.grownBy w' none := by
  obtain ⟨ht, i, z, hi, hz, hs, hzs, hby⟩ := hT
  have hpos := Dat.pos (α := α)
  have fin : ∀ (cs : List Value) (v' : Value) (w' : World), Rows w S cs l → w'.ownsRow w.heap.size e (Dat.k α) v' (l.length + r.length) (cs ++ ds) → w.grownBy w' none →
      ∃ A' c', v' = .slice A' (l.length + r.length) c' ∧ OwS w' S w.heap.size e A' c' (l ++ r) := fun cs v' w' h1 k1 k2 => by
    have hv : ∃ A' c', v' = .slice A' (l.length + r.length) c' := by
      rcases k1.2 with ⟨h', h0⟩ | ⟨g, cap, cur, h', _⟩
      · exact ⟨none, 0, by rw [h', h0]⟩
      · exact ⟨_, _, h'⟩
    obtain ⟨A', c', rfl⟩ := hv
    exact ⟨A', c', rfl, cs ++ ds, by rw [List.length_append]; exact k1, (h1.append hd).keep fun b hb hs => ⟨hs, k2.block b hb (by simp)⟩⟩
  rcases A with _ | a
  · obtain ⟨rfl, rfl⟩ := nil_of_none h
    obtain ⟨v', w', hrun, k1, k2, _⟩ := run_append_own (P := P) w w.heap.size t ty e i z (Dat.k α) i.bytes ht hi hz hs rfl hzs hpos (.slice none 0 0) 0 [] (World.ownsRow_nil w _ e _) B r.length d ds hd.length hcell hd.one
      (by simp at hbig; unfold maxLen; omega) (by simp at hbig; have := Nat.mul_le_mul (show 0 + r.length ≤ 1000000 by omega) hby; omega) (Nat.le_refl _)
    obtain ⟨A', c', rfl, k3⟩ := fin [] v' w' rfl (by simpa using k1) (by simpa [Value.ownBlock] using k2)
    exact ⟨A', c', w', hrun, k3, by simpa [Value.ownBlock] using k2⟩
  · have hold : ∃ cs, Rows w S cs l ∧ ∀ j u, cs[j]? = some u → w.cell? (a.add j) = some u := by
      rcases Nat.eq_zero_or_pos l.length with hl0 | hl0
      · have := List.eq_nil_of_length_eq_zero hl0
        subst this
        exact ⟨[], rfl, fun j u hj => by simp at hj⟩
      · have hb := plain_of h hl0
        rw [hb] at h
        obtain ⟨cs, h1, h2⟩ := RdS.rows h
        exact ⟨cs, h1, fun j u hj => by rw [hb, Go.WideShapes.add_plain]; exact h2 j u hj⟩
    obtain ⟨cs, h1, h2⟩ := hold
    obtain ⟨v', w', hrun, k1, k2⟩ := run_append_arg_grows (P := P) w t ty e i z (Dat.k α) i.bytes ht hi hz hs rfl hzs hpos a l.length c cs h1.length h2 B r.length d ds hd.length
      hcell hfull (by unfold maxLen; omega) (by have := Nat.mul_le_mul hbig hby; omega)
    obtain ⟨A', c', rfl, k3⟩ := fin cs v' w' h1 k1 k2
    exact ⟨A', c', w', hrun, k3, k2⟩
theorem list_app_moves {P : Program} {t e : TypeId} (hT : SlT P t e (Dat.k α)) {w : World} {ops : Array Oper} {rest : List Oper} {o : Oper} {a : Act} {Q : Exit → Act → World → Prop} (hg : o.guard = none) (s x : Operand) (ho : o.op = .call { callee := .builtin .append, args := #[s, x], argTypes := #[t, t] })
    {S : Nat → Prop} {A : Option Addr} {B : Addr} {c d : Nat} {l r : List α} {ds : List Value} {n m : Nat} (hn : l.length = n) (hm : r.length = m) (h1 : a.eval s = .slice A n c) (h2 : a.eval x = .slice (some B) m d) (h : RdS w S A c l) (hd : Rows w S ds r) (hcell : ∀ j u, ds[j]? = some u → w.cell? (B.add j) = some u) (hfull : c < n + m) (hbig : n + m ≤ 1000000)
    (hK : ∀ A' c' w', OwS w' S w.heap.size e A' c' (l ++ r) → w.grownBy w' none → wpList P ops Q rest (a.put o.dst (.slice A' (n + m) c')) w') :
    wpList P ops Q (o :: rest) a w := by
  subst hn; subst hm
  obtain ⟨A', c', w', hrun, k1, k2⟩ := run_app_moves o.type hT h hd hcell hfull hbig
  exact wpList_plain hg fun _ hK' => wp_app_run s x t ho _ _ _ _ h1 h2 hrun (hK' _ _ (hK A' c' w' k1 k2))
theorem list_app_zero {P : Program} {t e : TypeId} {k : Nat} (hT : SlT P t e k) {w : World} {ops : Array Oper} {rest : List Oper} {o : Oper} {a : Act} {Q : Exit → Act → World → Prop} (hg : o.guard = none) (s x : Operand) (ho : o.op = .call { callee := .builtin .append, args := #[s, x], argTypes := #[t, t] })
    {A B : Option Addr} {n c d : Nat} (h1 : a.eval s = .slice A n c) (h2 : a.eval x = .slice B 0 d) (hnc : n ≤ c) (hK : wpList P ops Q rest (a.put o.dst (.slice A n c)) w) :
    wpList P ops Q (o :: rest) a w :=
  wpList_plain hg fun _ hK' => wp_app_run s x t ho _ _ _ _ h1 h2 (run_app_zero o.type hT w A B n c d hnc) (hK' _ _ hK)
theorem step_app_moves {P : Program} {t e : TypeId} (hT : SlT P t e (Dat.k α)) {w : World} {ops : Array Oper} {o : Oper} {a : Act} {K : Act → World → Prop} {Q : Exit → Act → World → Prop} {E : Prop} (hg : o.guard = none) (s x : Operand) (ho : o.op = .call { callee := .builtin .append, args := #[s, x], argTypes := #[t, t] })
    {S : Nat → Prop} {A : Option Addr} {B : Addr} {c d : Nat} {l r : List α} {ds : List Value} {n m : Nat} (hn : l.length = n) (hm : r.length = m) (h1 : a.eval s = .slice A n c) (h2 : a.eval x = .slice (some B) m d) (h : RdS w S A c l) (hd : Rows w S ds r) (hcell : ∀ j u, ds[j]? = some u → w.cell? (B.add j) = some u) (hfull : c < n + m) (hbig : n + m ≤ 1000000)
    (hK : ∀ A' c' w', OwS w' S w.heap.size e A' c' (l ++ r) → w.grownBy w' none → K (a.put o.dst (.slice A' (n + m) c')) w') :
    if Region.wanted o (yielded ops a.tmps) = true then Oper.wp P o a w K Q else E := by
  subst hn; subst hm
  obtain ⟨A', c', w', hrun, k1, k2⟩ := run_app_moves o.type hT h hd hcell hfull hbig
  rw [if_pos (by simp [Region.wanted, hg])]
  exact wp_app_run s x t ho _ _ _ _ h1 h2 hrun (hK A' c' w' k1 k2)
end
end Mm
end Go.Proofs.Ytdjjdebnbaaihaa

/-
  Memory, for every layer: a slice of the call's own whose elements hold slices, all of them in other blocks: it stays so as the heap grows, and behind an append.
-/
namespace Go.Proofs.Ytdjjdebnbaaihaa
open Go.RowKit
namespace Mm

section
variable {α : Type} [Inhabited α] [Dat α]
/-- all blocks that are there, but that of the slice -/
def Else (w : World) (A : Option Addr) (b : Nat) : Prop := b < w.heap.size ∧ A ≠ some ⟨b, 0, none⟩
/-- a slice of the call's own; what its elements hold lies in other blocks -/
def OwN (w : World) (base : Nat) (e : TypeId) (A : Option Addr) (c : Nat) (l : List α) : Prop := OwS w (Else w A) base e A c l
theorem own_nil {β : Type} [Inhabited β] [Dat β] (w : World) (base : Nat) (e : TypeId) : OwN w base e none 0 ([] : List β) := ow_nil _ _ _ _
theorem OwN.below {β : Type} [Dat β] {w w' : World} {base : Nat} {e : TypeId} {A : Option Addr} {c : Nat} {l : List β} (h : OwN w base e A c l) (b : Below w.heap.size w w') : OwN w' base e A c l :=
  OwS.keep h (fun g hA => b.block g (OwS.new h g hA).2) fun x hlt hx => ⟨⟨Nat.lt_of_lt_of_le hx.1 b.size, hx.2⟩, b.block x hlt⟩
theorem OwN.rd {w : World} {base : Nat} {e : TypeId} {A : Option Addr} {c : Nat} {l : List α} (h : OwN w base e A c l) : Rd w A c l := OwS.rd h
theorem OwN.le {β : Type} [Dat β] {w : World} {base : Nat} {e : TypeId} {A : Option Addr} {c : Nat} {l : List β} (h : OwN w base e A c l) : l.length ≤ c := OwS.le h
theorem run_own {P : Program} {t e : TypeId} (ty : TypeId) (hT : SlT P t e (Dat.k α)) {w : World} {base : Nat} {A B : Option Addr} {c d : Nat} {l r : List α} (h : OwN w base e A c l) (hr : RdS w (Else w A) B d r) (hbig : l.length + r.length ≤ 1000000) (hbase : base ≤ w.heap.size) :
    ∃ A' c' w', (Builtin.append_ #[t, t] ty #[.slice A l.length c, .slice B r.length d]).run P w = .ok (.slice A' (l.length + r.length) c') w' ∧ OwN w' base e A' c' (l ++ r) ∧ Below base w w' := by
  obtain ⟨A', c', w', h1, h2, h3, h4⟩ := run_app ty hT h hr (fun _ h => h) (fun g hA => .inl (fun hs => hs.2 hA)) hbig hbase
  refine ⟨A', c', w', h1, h2.sub fun b hb => ⟨Nat.lt_of_lt_of_le hb.1 h3.size, fun e => ?_⟩, (Below.refl _ _).grown h3 hbase (OwS.row h)⟩
  subst e
  rcases h4 with h4 | h4
  · rcases OwS.cases h with ⟨rfl, _⟩ | ⟨g, rfl, _⟩
    · cases h4
    · injection h4 with h4
      exact hb.2 (by simp only at h4; rw [h4])
  · injection h4 with h4
    have := hb.1
    simp only at h4
    omega
/-- append, the lengths named -/
theorem list_own_n {P : Program} {t e : TypeId} (hT : SlT P t e (Dat.k α)) {w : World} {ops : Array Oper} {rest : List Oper} {o : Oper} {a : Act} {Q : Exit → Act → World → Prop} (hg : o.guard = none) (s x : Operand) (ho : o.op = .call { callee := .builtin .append, args := #[s, x], argTypes := #[t, t] })
    {base : Nat} {A B : Option Addr} {c d : Nat} {l r : List α} {n m : Nat} (hn : l.length = n) (hm : r.length = m) (h1 : a.eval s = .slice A n c) (h2 : a.eval x = .slice B m d) (h : OwN w base e A c l) (hr : RdS w (Else w A) B d r) (hbig : n + m ≤ 1000000) (hbase : base ≤ w.heap.size)
    (hK : ∀ A' c' w', OwN w' base e A' c' (l ++ r) → Below base w w' → wpList P ops Q rest (a.put o.dst (.slice A' (n + m) c')) w') :
    wpList P ops Q (o :: rest) a w := by
  subst hn; subst hm
  obtain ⟨A', c', w', hrun, k1, k2⟩ := run_own o.type hT h hr hbig hbase
  exact wpList_plain hg fun _ hK' => wp_app_run s x t ho _ _ _ _ h1 h2 hrun (hK' _ _ (hK A' c' w' k1 k2))
end

end Mm
end Go.Proofs.Ytdjjdebnbaaihaa

/-
  Memory, for every layer: a slice of the call's own whose elements hold slices: append in a region that draws its order, of as many elements as memory holds.
-/
namespace Go.Proofs.Ytdjjdebnbaaihaa
open Go.RowKit
namespace Mm
/-- the types of a slice and of its elements, of k cells and b bytes -/
def SlB (P : Program) (t e : TypeId) (k b : Nat) : Prop := P.underlying t = some (.slice e) ∧ ∃ i z, P.info? e = some i ∧ i.zero = some z ∧ i.size = k ∧ z.cells.size = k ∧ i.bytes = b
theorem slB_of {P : Program} {t e : TypeId} {k b : Nat} {z : Value} (h : P.underlying t = some (.slice e)) (hi : (P.info? e).map (fun i => (i.zero, i.size, i.bytes)) = some (some z, k, b)) (hz : z.cells.size = k) : SlB P t e k b := by
  obtain ⟨i, hi, hh⟩ := Option.map_eq_some_iff.1 hi
  simp only [Prod.mk.injEq] at hh
  exact ⟨h, i, z, hi, hh.1, hh.2.1, hz, hh.2.2⟩
section
variable {α : Type} [Inhabited α] [Dat α]
/-- append to a slice of the call's own -/
theorem run_app_big {P : Program} {t e : TypeId} (ty : TypeId) {by_ : Nat} (hT : SlB P t e (Dat.k α) by_)
    {w : World} {S S' : Nat → Prop} {base : Nat} {A B : Option Addr} {c d : Nat} {l r : List α} (h : OwS w S base e A c l) (hr : RdS w S' B d r) (hin : ∀ cs, Rows w S' cs r → Rows w S cs r) (hS : ∀ g, A = some ⟨g, 0, none⟩ → ¬ S g ∨ Dat.k α = 0) (hbig : l.length + r.length ≤ maxLen) (hbytes : (l.length + r.length) * by_ ≤ 140737488355328) (hbase : base ≤ w.heap.size) :
    ∃ A' c' w', (Builtin.append_ #[t, t] ty #[.slice A l.length c, .slice B r.length d]).run P w = .ok (.slice A' (l.length + r.length) c') w' ∧ OwS w' S base e A' c' (l ++ r) ∧ w.grownBy w' (Value.slice A l.length c).ownBlock ∧
      ((Value.slice A' (l.length + r.length) c').ownBlock = (Value.slice A l.length c).ownBlock ∨ (Value.slice A' (l.length + r.length) c').ownBlock = some w.heap.size) := by
  obtain ⟨ht, i, z, hi, hz, hs, hzs, hby⟩ := hT
  have hpos := Dat.pos (α := α)
  rcases Nat.eq_zero_or_pos r.length with hr0 | hr0
  · have := List.eq_nil_of_length_eq_zero hr0
    subst this
    obtain ⟨cs, h1, h2⟩ := h
    rcases B with _ | a
    · have hd := hr.1 rfl
      subst hd
      refine ⟨A, c, w, ?_, ⟨cs, by simpa using h1, by simpa using h2⟩, gb_refl _ _, .inl rfl⟩
      exact run_append_owned_none (P := P) w base t ty e i _ ht hi _ l.length cs h1
    · obtain ⟨v', w', hrun, h3, h4, _, h5⟩ := run_append_own_at (P := P) w base t ty e i z (Dat.k α) i.bytes ht hi hz hs rfl hzs hpos _ l.length cs h1 a 0 d [] (by simp) (by simp) (by simp)
        (by simpa using hbig) (by rw [hby]; simpa using hbytes) hbase
      have hv : ∃ A' c', v' = .slice A' (l.length + 0) c' := by
        rcases h3.2 with ⟨h', h0⟩ | ⟨g, cap, cur, h', _⟩
        · exact ⟨none, 0, by rw [h', h0]⟩
        · exact ⟨_, _, h'⟩
      obtain ⟨A', c', rfl⟩ := hv
      refine ⟨A', c', w', hrun, ⟨cs, by simpa using h3, ?_⟩, h4, h5⟩
      rw [List.append_nil]
      refine h2.keep fun b hb hs => ⟨hs, h4.block b hb ?_⟩
      intro e
      rcases A with _ | a
      · cases e
      · rcases OwS.cases (β := α) ⟨cs, h1, h2⟩ with ⟨h', _⟩ | ⟨g, h', _⟩
        · cases h'
        · injection h' with h'
          subst h'
          injection e with e
          subst e
          rcases hS _ rfl with h | h
          · exact h hs
          · omega
  · rcases B with _ | ad
    · have := (nil_of_none hr).2
      subst this
      simp at hr0
    · have ha := plain_of hr hr0
      obtain ⟨cs, h1, h2⟩ := h
      rw [ha] at hr
      obtain ⟨ds, h6, h7⟩ := hr.rows
      obtain ⟨v', w', hrun, h3, h4, _, h5⟩ := run_append_own_at (P := P) w base t ty e i z (Dat.k α) i.bytes ht hi hz hs rfl hzs hpos _ l.length cs h1 ad r.length d ds h6.length
        (fun j u hu => by rw [ha, Go.WideShapes.add_plain]; exact h7 j u hu) h6.one
        hbig (by rw [hby]; exact hbytes) hbase
      have hv : ∃ A' c', v' = .slice A' (l.length + r.length) c' := by
        rcases h3.2 with ⟨h', h0⟩ | ⟨g, cap, cur, h', _⟩
        · exact ⟨none, 0, by rw [h', h0]⟩
        · exact ⟨_, _, h'⟩
      obtain ⟨A', c', rfl⟩ := hv
      refine ⟨A', c', w', hrun, ⟨cs ++ ds, by rw [List.length_append]; exact h3, ?_⟩, h4, h5⟩
      refine (h2.append (hin _ h6)).keep fun b hb hs => ⟨hs, h4.block b hb ?_⟩
      intro e
      rcases A with _ | a
      · cases e
      · rcases OwS.cases (β := α) ⟨cs, h1, h2⟩ with ⟨h', _⟩ | ⟨g, h', _⟩
        · cases h'
        · injection h' with h'
          subst h'
          injection e with e
          subst e
          rcases hS _ rfl with h | h
          · exact h hs
          · omega

theorem run_own_big {P : Program} {t e : TypeId} (ty : TypeId) {by_ : Nat} (hT : SlB P t e (Dat.k α) by_) {w : World} {base : Nat} {A B : Option Addr} {c d : Nat} {l r : List α} (h : OwN w base e A c l) (hr : RdS w (Else w A) B d r) (hbig : l.length + r.length ≤ maxLen) (hbytes : (l.length + r.length) * by_ ≤ 140737488355328) (hbase : base ≤ w.heap.size) :
    ∃ A' c' w', (Builtin.append_ #[t, t] ty #[.slice A l.length c, .slice B r.length d]).run P w = .ok (.slice A' (l.length + r.length) c') w' ∧ OwN w' base e A' c' (l ++ r) ∧ w.grownBy w' (Value.slice A l.length c).ownBlock ∧ (∀ g, A' = some ⟨g, 0, none⟩ → A = some ⟨g, 0, none⟩ ∨ g = w.heap.size) := by
  obtain ⟨A', c', w', h1, h2, h3, h4⟩ := run_app_big ty hT h hr (fun _ h => h) (fun g hA => .inl (fun hs => hs.2 hA)) hbig hbytes hbase
  have h5 : ∀ g, A' = some ⟨g, 0, none⟩ → A = some ⟨g, 0, none⟩ ∨ g = w.heap.size := fun g hg => by
    subst hg
    rcases h4 with h4 | h4
    · rcases OwS.cases h with ⟨rfl, _⟩ | ⟨g', rfl, _⟩
      · cases h4
      · injection h4 with h4
        simp only at h4
        exact .inl (by rw [h4])
    · injection h4 with h4
      exact .inr h4
  refine ⟨A', c', w', h1, h2.sub fun b hb => ⟨Nat.lt_of_lt_of_le hb.1 h3.size, fun e => ?_⟩, h3, h5⟩
  rcases h5 b e with h5 | h5
  · exact hb.2 h5
  · have := hb.1
    omega
/-- append in a region that draws its order, the lengths named -/
theorem step_own_big {P : Program} {t e : TypeId} {by_ : Nat} (hT : SlB P t e (Dat.k α) by_) {w : World} {ops : Array Oper} {o : Oper} {a : Act} {K : Act → World → Prop} {Q : Exit → Act → World → Prop} {E : Prop} (hg : o.guard = none) (s x : Operand) (ho : o.op = .call { callee := .builtin .append, args := #[s, x], argTypes := #[t, t] })
    {base : Nat} {A B : Option Addr} {c d : Nat} {l r : List α} {n m : Nat} (hn : l.length = n) (hm : r.length = m) (h1 : a.eval s = .slice A n c) (h2 : a.eval x = .slice B m d) (h : OwN w base e A c l) (hr : RdS w (Else w A) B d r) (hbig : n + m ≤ maxLen) (hbytes : (n + m) * by_ ≤ 140737488355328) (hbase : base ≤ w.heap.size)
    (hK : ∀ A' c' w', OwN w' base e A' c' (l ++ r) → w.grownBy w' (Value.slice A n c).ownBlock → (∀ g, A' = some ⟨g, 0, none⟩ → A = some ⟨g, 0, none⟩ ∨ g = w.heap.size) → K (a.put o.dst (.slice A' (n + m) c')) w') :
    if Region.wanted o (yielded ops a.tmps) = true then Oper.wp P o a w K Q else E := by
  subst hn; subst hm
  obtain ⟨A', c', w', hrun, k1, k2, k3⟩ := run_own_big o.type hT h hr hbig hbytes hbase
  rw [if_pos (by simp [Region.wanted, hg])]
  exact wp_app_run s x t ho _ _ _ _ h1 h2 hrun (hK A' c' w' k1 k2 k3)
/-- an empty literal, whose elements will hold slices -/
theorem own_lit0 {β : Type} [Inhabited β] [Dat β] (w : World) (e : TypeId) : OwN (w.alloc (.cells #[] e)) w.heap.size e (some ⟨w.heap.size, 0, none⟩) 0 ([] : List β) :=
  ow_lit (l := ([] : List β)) w _ w.heap.size e #[] (Nat.le_refl _) (by simp) rfl
theorem OwN.rebase {β : Type} [Inhabited β] [Dat β] {w : World} {base base' : Nat} {e : TypeId} {A : Option Addr} {c : Nat} {l : List β} (h : OwN w base e A c l) (hb : base' ≤ base) : OwN w base' e A c l := OwS.rebase h hb
theorem OwN.new {β : Type} [Inhabited β] [Dat β] {w : World} {base : Nat} {e : TypeId} {A : Option Addr} {c : Nat} {l : List β} (h : OwN w base e A c l) : ∀ g, A = some ⟨g, 0, none⟩ → base ≤ g ∧ g < w.heap.size := OwS.new h
/-- what was there ahead lies elsewhere -/
theorem rd_else {w0 w : World} {A1 A : Option Addr} {c : Nat} {l : List α} (h : Rd w0 A c l) (b : Below w0.heap.size w0 w) (hA : ∀ g, A1 = some ⟨g, 0, none⟩ → w0.heap.size ≤ g) : RdS w (Else w A1) A c l :=
  (h.old.below b).sub fun x hx hs => ⟨hx, fun e => by have := hA _ e; omega⟩
end
end Mm
end Go.Proofs.Ytdjjdebnbaaihaa

/-
  Memory, for every layer: '==' and '!=' of two structs whose fields are ints.
-/
namespace Go.Proofs.Ytdjjdebnbaaihaa
open Go.RowKit
namespace Mm

theorem run_fields_ints {P : Program} {ti : TypeId} (hti : P.underlying ti = some (.int .i64)) (d : Nat) (w : World) (X Y : Array Value) : ∀ (fs : List Field) (s : Nat) (xs ys : List Int),
    (fs.map fun f => (f.name != "_", f.type, f.offset)) = (List.range' s xs.length).map (fun i => (true, ti, i)) → xs.length = ys.length →
    (∀ i x, xs[i]? = some x → X[s + i]? = some (.int .i64 x)) → (∀ i y, ys[i]? = some y → Y[s + i]? = some (.int .i64 y)) →
    (Op.eqFields (d + 1) X Y fs).run P w = .ok (decide (xs = ys)) w := by
  intro fs
  induction fs with
  | nil =>
    intro s xs ys hf hl _ _
    have hx : xs.length = 0 := by
      have := congrArg List.length hf
      simpa using this.symm
    have e1 := List.eq_nil_of_length_eq_zero hx
    have e2 := List.eq_nil_of_length_eq_zero (hl.symm.trans hx)
    subst e1; subst e2
    simp [Op.eqFields]
  | cons f fs ih =>
    intro s xs ys hf hl hx hy
    rcases xs with _ | ⟨x, xs⟩
    · simp at hf
    · rcases ys with _ | ⟨y, ys⟩
      · simp at hl
      · simp only [List.length_cons, List.range'_succ, List.map_cons, List.cons.injEq, Prod.mk.injEq] at hf
        obtain ⟨⟨h1, h2, h3⟩, h4⟩ := hf
        have hX := hx 0 x rfl
        have hY := hy 0 y rfl
        rw [Nat.add_zero] at hX hY
        have hpk : P.plainKey ti = true := by unfold Program.plainKey; rw [hti]
        have hn : f.name ≠ "_" := by simpa using h1
        have hrest := ih (s + 1) xs ys h4 (by simpa using hl) (fun i v hv => by have := hx (i + 1) v (by simpa using hv); rwa [show s + (i + 1) = s + 1 + i from by omega] at this) (fun i v hv => by have := hy (i + 1) v (by simpa using hv); rwa [show s + (i + 1) = s + 1 + i from by omega] at this)
        simp only [Op.eqFields, ne_eq, hn, not_false_eq_true, if_true, Sem.run_bind, h2, h3]
        rw [run_part_plain w hpk hX]
        simp only [Result.andThen_ok]
        rw [run_part_plain w hpk hY]
        simp only [Result.andThen_ok]
        rw [run_equalIn_int w d ti .i64 .i64 x y hti]
        simp only [Result.andThen_ok]
        by_cases e : x = y
        · subst e
          simp [hrest]
        · simp [e]

theorem run_neq_ints {P : Program} {t ti : TypeId} (n : Nat) (hti : P.underlying ti = some (.int .i64)) (hs : P.underlying t = some (.struct (P.fieldsOf t))) (hp : P.stoodInHeld t = false)
    (hf : ((P.fieldsOf t).toList.map fun f => (f.name != "_", f.type, f.offset)) = (List.range' 0 n).map (fun i => (true, ti, i))) (w : World) (xs ys : List Int) (hx : xs.length = n) (hy : ys.length = n) :
    (binOp .neq t (.agg (xs.map (Value.int .i64)).toArray) (.agg (ys.map (Value.int .i64)).toArray)).run P w = .ok (.bool (!decide (xs = ys))) w := by
  subst hx
  rw [run_neq_struct, run_equalIn_struct w 9999 t _ _ hs hp, run_fields_ints hti 9998 w _ _ _ 0 xs ys hf hy.symm (fun i x h => by simp [h]) (fun i x h => by simp [h])]
  rfl
theorem run_eql_ints {P : Program} {t ti : TypeId} (n : Nat) (hti : P.underlying ti = some (.int .i64)) (hs : P.underlying t = some (.struct (P.fieldsOf t))) (hp : P.stoodInHeld t = false)
    (hf : ((P.fieldsOf t).toList.map fun f => (f.name != "_", f.type, f.offset)) = (List.range' 0 n).map (fun i => (true, ti, i))) (w : World) (xs ys : List Int) (hx : xs.length = n) (hy : ys.length = n) :
    (binOp .eql t (.agg (xs.map (Value.int .i64)).toArray) (.agg (ys.map (Value.int .i64)).toArray)).run P w = .ok (.bool (decide (xs = ys))) w := by
  subst hx
  rw [run_eql_struct, run_equalIn_struct w 9999 t _ _ hs hp, run_fields_ints hti 9998 w _ _ _ 0 xs ys hf hy.symm (fun i x h => by simp [h]) (fun i x h => by simp [h])]
  rfl

end Mm
end Go.Proofs.Ytdjjdebnbaaihaa

