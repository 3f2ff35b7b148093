/-
  Merged texts: TableMath, TableMem, TableRuns, TableSof, TableValid, TableOf, TablePass, TableRight, TableAt, TableRepeat, TableTicks, TableLst, TableTo, TableMk.
-/
import Derived.Test.YtpodahnmdakjjaaGsynth
import Derived.Test.YtpodahnmdakjjaaGsupply
import Derived.Test.YtpodahnmdakjjaaGmem
import Derived.Shelf.Lay
import Derived.Laws.CopyOwn
import Derived.Deep.RegionLaw
import Derived.Shelf.Bits.Mul64
/-
  Layer 13 (table): plain mathematics: windows, and whose a tick is; a table is told by its ticks; how many ticks are somebody's; what is given at least.
-/
namespace Go.Proofs.Ytpodahnmdakjjaa
open Mm
namespace Tb

/-- part, from, length -/
abbrev Win := Int × Int × Int
def winB (f : Int) (w : Win) : Bool := decide (0 ≤ w.1 ∧ w.1 ≤ 3 ∧ 0 ≤ w.2.1 ∧ 1 ≤ w.2.2 ∧ w.2.1 + w.2.2 ≤ f)
theorem win_iff {f : Int} {w : Win} : winB f w = true ↔ 0 ≤ w.1 ∧ w.1 ≤ 3 ∧ 0 ≤ w.2.1 ∧ 1 ≤ w.2.2 ∧ w.2.1 + w.2.2 ≤ f := by unfold winB; exact decide_eq_true_iff
/-- may b stand next behind a -/
def stepB (a b : Win) : Bool := decide (a.2.1 + a.2.2 ≤ b.2.1 ∧ (b.2.1 = a.2.1 + a.2.2 → b.1 ≠ a.1))
theorem step_iff {a b : Win} : stepB a b = true ↔ a.2.1 + a.2.2 ≤ b.2.1 ∧ (b.2.1 = a.2.1 + a.2.2 → b.1 ≠ a.1) := by unfold stepB; exact decide_eq_true_iff
/-- the first k are right -/
def Fine (f : Int) (W : List Win) (k : Nat) : Prop := ∀ i, i < k → winB f (at_ W i) = true ∧ (0 < i → stepB (at_ W (i - 1)) (at_ W i) = true)
instance (f : Int) (W : List Win) (k : Nat) : Decidable (Fine f W k) := inferInstanceAs (Decidable (∀ i, i < k → winB f (at_ W i) = true ∧ (0 < i → stepB (at_ W (i - 1)) (at_ W i) = true)))
theorem Fine.succ {f : Int} {W : List Win} {k : Nat} (h : Fine f W k) (h1 : winB f (at_ W k) = true) (h2 : 0 < k → stepB (at_ W (k - 1)) (at_ W k) = true) : Fine f W (k + 1) := fun i hi => by
  by_cases e : i = k
  · subst e; exact ⟨h1, h2⟩
  · exact h i (by omega)
/-- is this a table -/
def rightB (f : Int) (W : List Win) : Bool := decide (1 ≤ f ∧ f ≤ 240) && decide (Fine f W W.length)
theorem right_iff {f : Int} {W : List Win} : rightB f W = true ↔ (1 ≤ f ∧ f ≤ 240) ∧ Fine f W W.length := by
  unfold rightB
  rw [Bool.and_eq_true, decide_eq_true_iff, decide_eq_true_iff]
theorem right_bad {f : Int} {W : List Win} (h : ¬ (1 ≤ f ∧ f ≤ 240)) : rightB f W = false := by
  cases e : rightB f W with
  | false => rfl
  | true => exact absurd (right_iff.1 e).1 h
theorem right_win {f : Int} {W : List Win} {i : Nat} (hi : i < W.length) (h : winB f (at_ W i) = false) : rightB f W = false := by
  cases e : rightB f W with
  | false => rfl
  | true => rw [((right_iff.1 e).2 i hi).1] at h; cases h
theorem right_step {f : Int} {W : List Win} {i : Nat} (hi : i < W.length) (h0 : 0 < i) (h : stepB (at_ W (i - 1)) (at_ W i) = false) : rightB f W = false := by
  cases e : rightB f W with
  | false => rfl
  | true => rw [((right_iff.1 e).2 i hi).2 h0] at h; cases h
/-- one more -/
theorem Fine.snoc {f : Int} {W : List Win} {w : Win} (h : Fine f W W.length) (h1 : winB f w = true) (h2 : 0 < W.length → stepB (at_ W (W.length - 1)) w = true) : Fine f (W ++ [w]) (W ++ [w]).length := fun i hi => by
  rw [List.length_append] at hi
  simp at hi
  by_cases e : i = W.length
  · subst e
    rw [at_right (Nat.le_refl _), Nat.sub_self]
    refine ⟨h1, fun h0 => ?_⟩
    rw [at_left (by omega)]
    exact h2 h0
  · rw [at_left (by omega)]
    refine ⟨(h i (by omega)).1, fun h0 => ?_⟩
    rw [at_left (by omega)]
    exact (h i (by omega)).2 h0
theorem Fine.before {f : Int} {W : List Win} {k : Nat} (h : Fine f W k) {i : Nat} : ∀ {j : Nat}, i < j → j < k → (at_ W i).2.1 + (at_ W i).2.2 ≤ (at_ W j).2.1
  | 0, h0, _ => by omega
  | j + 1, hij, hj => by
    have h1 := step_iff.1 ((h (j + 1) hj).2 (by omega))
    rw [Nat.add_sub_cancel] at h1
    by_cases e : i = j
    · subst e; exact h1.1
    · have h2 := h.before (i := i) (j := j) (by omega) (by omega)
      have h3 := win_iff.1 (h j (by omega)).1
      omega

/-! ### whose a tick is -/
def In (w : Win) (t : Int) : Prop := w.2.1 ≤ t ∧ t < w.2.1 + w.2.2
instance (w : Win) (t : Int) : Decidable (In w t) := inferInstanceAs (Decidable (_ ∧ _))
def tk : List Win → Int → Int
  | [], _ => -1
  | w :: W, t => if In w t then w.1 else tk W t
theorem tk_none {t : Int} : ∀ {W : List Win}, (∀ i, i < W.length → ¬ In (at_ W i) t) → tk W t = -1
  | [], _ => rfl
  | w :: W, h => by
    have h0 := h 0 (by simp)
    rw [at_zero] at h0
    rw [tk, if_neg h0]
    exact tk_none fun i hi => by
      have := h (i + 1) (by simpa using hi)
      rwa [at_succ] at this
theorem tk_of {t : Int} : ∀ {W : List Win} {i : Nat}, i < W.length → In (at_ W i) t → (∀ j, j < i → ¬ In (at_ W j) t) → tk W t = (at_ W i).1
  | [], i, h, _, _ => by simp at h
  | w :: W, 0, _, h, _ => by
    rw [at_zero] at h ⊢
    rw [tk, if_pos h]
  | w :: W, i + 1, hi, h, hb => by
    have h0 := hb 0 (by omega)
    rw [at_zero] at h0
    rw [at_succ] at h ⊢
    rw [tk, if_neg h0]
    exact tk_of (by simpa using hi) h fun j hj => by
      have := hb (j + 1) (by omega)
      rwa [at_succ] at this
theorem Fine.one {f : Int} {W : List Win} (h : Fine f W W.length) {t : Int} {i : Nat} (hi : i < W.length) (ht : In (at_ W i) t) : tk W t = (at_ W i).1 :=
  tk_of hi ht fun j hj hj' => by
    have h1 := h.before hj hi
    unfold In at ht hj'
    omega
theorem Fine.bounds {f : Int} {W : List Win} (h : Fine f W W.length) (t : Int) : -1 ≤ tk W t ∧ tk W t ≤ 3 := by
  rcases Classical.em (∃ i, i < W.length ∧ In (at_ W i) t) with ⟨i, hi, ht⟩ | e
  · rw [h.one hi ht]
    have := win_iff.1 (h i hi).1
    omega
  · rw [tk_none fun i hi ht => e ⟨i, hi, ht⟩]
    omega
/-- the first k alone -/
def tkTo (W : List Win) (k : Nat) (t : Int) : Int := tk (W.take k) t
theorem tkTo_zero (W : List Win) (t : Int) : tkTo W 0 t = -1 := rfl
theorem tkTo_end (W : List Win) (t : Int) : tkTo W W.length t = tk W t := by unfold tkTo; rw [List.take_length]
theorem Fine.take {f : Int} {W : List Win} {k : Nat} (h : Fine f W W.length) (hk : k ≤ W.length) : Fine f (W.take k) (W.take k).length := fun i hi => by
  have hi' : i < k := by simp at hi; omega
  rw [at_take hi', at_take (show i - 1 < k by omega)]
  exact h i (by omega)
theorem Fine.to_in {f : Int} {W : List Win} {k : Nat} (h : Fine f W W.length) (hk : k < W.length) {t : Int} (ht : In (at_ W k) t) : tkTo W (k + 1) t = (at_ W k).1 := by
  unfold tkTo
  have h1 := h.take (k := k + 1) (by omega)
  have h2 := h1.one (i := k) (t := t) (by simp; omega) (by rw [at_take (by omega)]; exact ht)
  rw [h2, at_take (by omega)]
theorem tk_snoc {t : Int} {w : Win} (hw : ¬ In w t) : ∀ {W : List Win}, tk (W ++ [w]) t = tk W t
  | [] => by
    show (if In w t then w.1 else tk [] t) = _
    rw [if_neg hw]
  | v :: W => by
    rw [List.cons_append, tk, tk, tk_snoc hw]
theorem to_out {W : List Win} {k : Nat} (hk : k < W.length) {t : Int} (ht : ¬ In (at_ W k) t) : tkTo W (k + 1) t = tkTo W k t := by
  unfold tkTo
  rw [take_succ_at hk, tk_snoc ht]
/-- a window more, behind all others -/
theorem Fine.more {f : Int} {W : List Win} {w : Win} (h : Fine f (W ++ [w]) (W ++ [w]).length) (t : Int) : tk (W ++ [w]) t = if In w t then w.1 else tk W t := by
  by_cases ht : In w t
  · rw [if_pos ht]
    have hl : W.length < (W ++ [w]).length := by simp
    have e : at_ (W ++ [w]) W.length = w := by rw [at_right (Nat.le_refl _), Nat.sub_self]; rfl
    have := h.one (i := W.length) (t := t) hl (by rw [e]; exact ht)
    rw [this, e]
  · rw [if_neg ht, tk_snoc ht]

/-! ### a table is told by its ticks -/
/-- windows in order behind p; where q's last one ended -/
def Ch (f : Int) : Int → Int → List Win → Prop
  | _, _, [] => True
  | p, q, w :: W => winB f w = true ∧ p ≤ w.2.1 ∧ (w.2.1 = p → w.1 ≠ q) ∧ Ch f (w.2.1 + w.2.2) w.1 W
theorem ch_of {f : Int} : ∀ {W : List Win} {p q : Int}, (∀ i, i < W.length → winB f (at_ W i) = true ∧ (0 < i → stepB (at_ W (i - 1)) (at_ W i) = true)) → (∀ w T, W = w :: T → p ≤ w.2.1 ∧ (w.2.1 = p → w.1 ≠ q)) → Ch f p q W
  | [], _, _, _, _ => trivial
  | w :: W, p, q, h, h0 => by
    obtain ⟨h1, h2⟩ := h0 w W rfl
    have h3 := (h 0 (by simp)).1
    refine ⟨h3, h1, h2, ch_of (fun i hi => ?_) fun v T e => ?_⟩
    · have := h (i + 1) (by simpa using hi)
      rw [at_succ] at this
      refine ⟨this.1, fun hi0 => ?_⟩
      obtain ⟨j, rfl⟩ : ∃ j, i = j + 1 := ⟨i - 1, by omega⟩
      have h4 := this.2 (by omega)
      rw [Nat.add_sub_cancel, at_succ] at h4
      exact h4
    · subst e
      have h4 := step_iff.1 ((h 1 (by simp)).2 (by omega))
      exact h4
theorem Fine.ch {f : Int} {W : List Win} (h : Fine f W W.length) : Ch f 0 (-2) W :=
  ch_of h fun w T e => by
    subst e
    have h1 := win_iff.1 (h 0 (by simp)).1
    rw [at_zero] at h1
    omega
theorem ch_low {f : Int} {t : Int} : ∀ {W : List Win} {p q : Int}, Ch f p q W → t < p → tk W t = -1
  | [], _, _, _, _ => rfl
  | w :: W, p, q, h, ht => by
    have h1 := win_iff.1 h.1
    have h2 := h.2.1
    rw [tk, if_neg (by unfold In; omega)]
    exact ch_low h.2.2.2 (by omega)
theorem ch_next {f : Int} {p q : Int} (hq : 0 ≤ q) : ∀ {W : List Win}, Ch f p q W → tk W p ≠ q
  | [], _ => by
    show (-1 : Int) ≠ q
    omega
  | w :: W, h => by
    have h1 := win_iff.1 h.1
    have h2 := h.2.1
    rw [tk]
    by_cases e : w.2.1 = p
    · rw [if_pos (by unfold In; omega)]
      exact h.2.2.1 e
    · rw [if_neg (by unfold In; omega), ch_low h.2.2.2 (by omega)]
      omega
theorem ch_first {f : Int} {w : Win} {W : List Win} {p q : Int} (h : Ch f p q (w :: W)) : tk (w :: W) w.2.1 = w.1 ∧ (∀ t, t < w.2.1 → tk (w :: W) t = -1) ∧ (∀ t, w.2.1 ≤ t → t < w.2.1 + w.2.2 → tk (w :: W) t = w.1) ∧ (∀ t, w.2.1 + w.2.2 ≤ t → tk (w :: W) t = tk W t) := by
  have h1 := win_iff.1 h.1
  refine ⟨by rw [tk, if_pos (by unfold In; omega)], fun t ht => ?_, fun t h2 h3 => by rw [tk, if_pos ⟨h2, h3⟩], fun t ht => by rw [tk, if_neg (by unfold In; omega)]⟩
  rw [tk, if_neg (by unfold In; omega)]
  exact ch_low h.2.2.2 (by omega)
theorem ch_same {f : Int} : ∀ {W W' : List Win} {p q : Int}, Ch f p q W → Ch f p q W' → (∀ t, p ≤ t → t < f → tk W t = tk W' t) → W = W'
  | [], [], _, _, _, _, _ => rfl
  | [], w' :: W', p, q, _, h', e => by
    have h1 := win_iff.1 h'.1
    have h2 := h'.2.1
    have h3 := e w'.2.1 h2 (by omega)
    rw [(ch_first h').1] at h3
    have h4 : (-1 : Int) = w'.1 := h3
    omega
  | w :: W, [], p, q, h, _, e => by
    have h1 := win_iff.1 h.1
    have h2 := h.2.1
    have h3 := e w.2.1 h2 (by omega)
    rw [(ch_first h).1] at h3
    have h4 : w.1 = (-1 : Int) := h3
    omega
  | w :: W, w' :: W', p, q, h, h', e => by
    have a1 := win_iff.1 h.1
    have a2 := h.2.1
    have b1 := win_iff.1 h'.1
    have b2 := h'.2.1
    obtain ⟨f1, f2, f3, f4⟩ := ch_first h
    obtain ⟨g1, g2, g3, g4⟩ := ch_first h'
    have ef : w.2.1 = w'.2.1 := by
      rcases Int.lt_trichotomy w.2.1 w'.2.1 with l | l | l
      · have := e w.2.1 a2 (by omega)
        rw [f1, g2 _ l] at this
        omega
      · exact l
      · have := e w'.2.1 b2 (by omega)
        rw [g1, f2 _ l] at this
        omega
    have ep : w.1 = w'.1 := by
      have := e w.2.1 a2 (by omega)
      rw [f1, ef, g1] at this
      exact this
    have el : w.2.2 = w'.2.2 := by
      rcases Int.lt_trichotomy w.2.2 w'.2.2 with l | l | l
      · have := e (w.2.1 + w.2.2) (by omega) (by omega)
        rw [f4 _ (Int.le_refl _), g3 _ (by omega) (by omega), ← ep] at this
        exact absurd this (ch_next (by omega) h.2.2.2)
      · exact l
      · have := e (w'.2.1 + w'.2.2) (by omega) (by omega)
        rw [g4 _ (Int.le_refl _), f3 _ (by omega) (by omega), ep] at this
        exact absurd this.symm (ch_next (by omega) h'.2.2.2)
    have ew : w = w' := Prod.ext ep (Prod.ext ef el)
    subst ew
    rw [ch_same h.2.2.2 h'.2.2.2 fun t h1 h2 => by
      have := e t (by omega) h2
      rwa [f4 t h1, g4 t h1] at this]
theorem right_same {f : Int} {W W' : List Win} (h : rightB f W = true) (h' : rightB f W' = true) (e : ∀ t, 0 ≤ t → t < f → tk W t = tk W' t) : W = W' :=
  ch_same (right_iff.1 h).2.ch (right_iff.1 h').2.ch e

/-! ### its ticks -/
def tkL (f : Nat) (W : List Win) : List Int := (List.range f).map fun t : Nat => tk W (t : Int)
theorem tkL_length (f : Nat) (W : List Win) : (tkL f W).length = f := by simp [tkL]
theorem tkL_at {f j : Nat} {W : List Win} (h : j < f) : at_ (tkL f W) j = tk W (j : Int) := by
  rw [at_get (by rw [tkL_length]; exact h)]
  simp [tkL]
theorem tkL_eq {f : Nat} {W : List Win} {l : List Int} (hl : l.length = f) (h : ∀ j, j < f → at_ l j = tk W (j : Int)) : l = tkL f W :=
  at_eq_of (by rw [hl, tkL_length]) fun i hi => by rw [h i (by omega), tkL_at (by omega)]
theorem right_told {f : Nat} {W W' : List Win} (h : rightB f W = true) (h' : rightB f W' = true) (e : tkL f W = tkL f W') : W = W' :=
  right_same h h' fun t h0 h1 => by
    obtain ⟨j, rfl⟩ : ∃ j : Nat, t = j := ⟨t.toNat, by omega⟩
    rw [← tkL_at (f := f) (W := W) (by omega), e, tkL_at (by omega)]
/-- how many ticks are somebody's -/
def lens : List Win → Int
  | [] => 0
  | w :: W => w.2.2 + lens W
theorem any_none {g : Nat → Int} {a : Nat} : ∀ {d : Nat}, (∀ t, a ≤ t → t < a + d → g t < 0) → Sy.any g (a + d) = Sy.any g a
  | 0, _ => rfl
  | d + 1, h => by
    rw [← Nat.add_assoc, Sy.any, any_none fun t h1 h2 => h t h1 (by omega), if_neg (by have := h (a + d) (by omega) (by omega); omega), Nat.add_zero]
theorem any_all {g : Nat → Int} {a : Nat} : ∀ {d : Nat}, (∀ t, a ≤ t → t < a + d → 0 ≤ g t) → Sy.any g (a + d) = Sy.any g a + d
  | 0, _ => rfl
  | d + 1, h => by
    rw [← Nat.add_assoc, Sy.any, any_all fun t h1 h2 => h t h1 (by omega), if_pos (h (a + d) (by omega) (by omega))]
    omega
theorem any_same {g h : Nat → Int} : ∀ {t : Nat}, (∀ s, s < t → g s = h s) → Sy.any g t = Sy.any h t
  | 0, _ => rfl
  | t + 1, e => by rw [Sy.any, Sy.any, any_same fun s hs => e s (by omega), e t (by omega)]
theorem any_tail {g h : Nat → Int} {a : Nat} : ∀ {d : Nat}, (∀ s, a ≤ s → s < a + d → g s = h s) → Sy.any g (a + d) + Sy.any h a = Sy.any h (a + d) + Sy.any g a
  | 0, _ => Nat.add_comm _ _
  | d + 1, e => by
    have ih := any_tail (g := g) (h := h) (a := a) (d := d) fun s h1 h2 => e s h1 (by omega)
    rw [← Nat.add_assoc, Sy.any, Sy.any, e (a + d) (by omega) (by omega)]
    omega
theorem ch_lens {f : Nat} : ∀ {W : List Win} {p : Nat} {q : Int}, p ≤ f → Ch f p q W → lens W + (Sy.any (fun t => tk W (t : Int)) p : Nat) = (Sy.any (fun t => tk W (t : Int)) f : Nat)
  | [], p, q, hp, _ => by
    obtain ⟨d, rfl⟩ : ∃ d, f = p + d := ⟨f - p, by omega⟩
    rw [any_none (a := p) (d := d) fun t _ _ => by show (-1 : Int) < 0; omega]
    show (0 : Int) + _ = _
    omega
  | w :: W, p, q, hp, h => by
    have a1 := win_iff.1 h.1
    have a2 := h.2.1
    obtain ⟨f1, f2, f3, f4⟩ := ch_first h
    obtain ⟨b, hb⟩ : ∃ b : Nat, w.2.1 = b := ⟨w.2.1.toNat, by omega⟩
    obtain ⟨n, hn⟩ : ∃ n : Nat, w.2.2 = n := ⟨w.2.2.toNat, by omega⟩
    have hbn : b + n ≤ f := by omega
    have ih := ch_lens (W := W) (p := b + n) (q := w.1) hbn (by have := h.2.2.2; rw [hb, hn] at this; exact this)
    obtain ⟨d, rfl⟩ : ∃ d, b = p + d := ⟨b - p, by omega⟩
    obtain ⟨r, rfl⟩ : ∃ r, f = p + d + n + r := ⟨f - (p + d + n), by omega⟩
    have e1 := any_none (g := fun t => tk (w :: W) (t : Int)) (a := p) (d := d) fun t _ h2 => by
      have := f2 (t : Int) (by omega)
      show tk (w :: W) (t : Int) < 0
      omega
    have e2 := any_all (g := fun t => tk (w :: W) (t : Int)) (a := p + d) (d := n) fun t h1 h2 => by
      have := f3 (t : Int) (by omega) (by omega)
      show 0 ≤ tk (w :: W) (t : Int)
      omega
    have e3 := any_tail (g := fun t => tk (w :: W) (t : Int)) (h := fun t => tk W (t : Int)) (a := p + d + n) (d := r) fun t h1 h2 => f4 (t : Int) (by omega)
    rw [lens, hn]
    omega
theorem right_lens {f : Nat} {W : List Win} (h : rightB f W = true) : lens W = (Sy.any (fun t => tk W (t : Int)) f : Nat) := by
  have := ch_lens (Nat.zero_le f) (show Ch (f : Int) ((0 : Nat) : Int) (-2) W from (right_iff.1 h).2.ch)
  have e : Sy.any (fun t => tk W (t : Int)) 0 = 0 := rfl
  omega

/-! ### what is given at least -/
/-- is a tick of the repeated frame the part's -/
def mineP (g : Nat → Int) (f : Nat) (part : Int) (t : Nat) : Bool := decide (g (t % f) = part ∧ 0 ≤ part)
def hasN (g : Nat → Int) (f : Nat) (part : Int) (a n : Nat) : Nat := Sp.cnt (mineP g f part) (a + n) - Sp.cnt (mineP g f part) a
theorem hasN_zero (g : Nat → Int) (f : Nat) (part : Int) (a : Nat) : hasN g f part a 0 = 0 := Nat.sub_self _
theorem hasN_succ (g : Nat → Int) (f : Nat) (part : Int) (a n : Nat) : hasN g f part a (n + 1) = hasN g f part a n + (if mineP g f part (a + n) then 1 else 0) := by
  have := Sp.cnt_mono (mineP g f part) (Nat.le_add_right a n)
  unfold hasN
  rw [← Nat.add_assoc]
  show Sp.cnt _ (a + n) + _ - _ = _
  omega
theorem hasN_le (g : Nat → Int) (f : Nat) (part : Int) (a n : Nat) : hasN g f part a n ≤ n := by
  have := Sp.cnt_slow (mineP g f part) (Nat.le_add_right a n)
  unfold hasN
  omega
/-- .. wherever below k they begin -/
def leastN (g : Nat → Int) (f : Nat) (part : Int) (n : Nat) : Nat → Nat
  | 0 => n
  | k + 1 => min (leastN g f part n k) (hasN g f part k n)
theorem leastN_le (g : Nat → Int) (f : Nat) (part : Int) (n : Nat) : ∀ k, leastN g f part n k ≤ n
  | 0 => Nat.le_refl _
  | k + 1 => by have := leastN_le g f part n k; rw [leastN]; omega
theorem leastN_ge {g : Nat → Int} {f : Nat} {part : Int} {n m : Nat} (hm : m ≤ n) : ∀ {k}, (∀ a, a < k → m ≤ hasN g f part a n) → m ≤ leastN g f part n k
  | 0, _ => hm
  | k + 1, h => by
    have h1 := leastN_ge hm (k := k) fun a ha => h a (by omega)
    have h2 := h k (by omega)
    rw [leastN]
    omega
theorem leastN_at {g : Nat → Int} {f : Nat} {part : Int} {n : Nat} : ∀ {k a}, a < k → leastN g f part n k ≤ hasN g f part a n
  | 0, a, h => by omega
  | k + 1, a, h => by
    rw [leastN]
    by_cases e : a = k
    · subst e; omega
    · have := leastN_at (g := g) (f := f) (part := part) (n := n) (k := k) (a := a) (by omega)
      omega
theorem leastN_min {g : Nat → Int} {f : Nat} {part : Int} {n m : Nat} {k : Nat} (hm : m ≤ n) (h : ∀ a, a < k → m ≤ hasN g f part a n) (ha : m = n ∨ ∃ a, a < k ∧ m = hasN g f part a n) : m = leastN g f part n k := by
  have h1 := leastN_ge hm h
  rcases ha with e | ⟨a, h2, e⟩
  · have := leastN_le g f part n k
    omega
  · have := leastN_at (g := g) (f := f) (part := part) (n := n) h2
    omega
/-- only the frame's ticks count -/
theorem mineP_same {g h : Nat → Int} {f : Nat} {part : Int} (hf : 0 < f) (e : ∀ t, t < f → g t = h t) (t : Nat) : mineP g f part t = mineP h f part t := by
  unfold mineP
  rw [e _ (Nat.mod_lt t hf)]
theorem hasN_same {g h : Nat → Int} {f : Nat} {part : Int} (hf : 0 < f) (e : ∀ t, t < f → g t = h t) (a n : Nat) : hasN g f part a n = hasN h f part a n := by
  unfold hasN
  rw [Sp.cnt_congr fun t _ => mineP_same hf e t, Sp.cnt_congr (n := a) fun t _ => mineP_same hf e t]
theorem leastN_same {g h : Nat → Int} {f : Nat} {part : Int} {n : Nat} (hf : 0 < f) (e : ∀ t, t < f → g t = h t) : ∀ k, leastN g f part n k = leastN h f part n k
  | 0 => rfl
  | k + 1 => by rw [leastN, leastN, leastN_same hf e k, hasN_same hf e]
/-- a part below 0 has none -/
theorem hasN_neg {g : Nat → Int} {f : Nat} {part : Int} (hp : part < 0) (a : Nat) : ∀ n, hasN g f part a n = 0
  | 0 => hasN_zero g f part a
  | n + 1 => by
    rw [hasN_succ, hasN_neg hp a n]
    unfold mineP
    rw [decide_eq_false (by omega)]
    rfl

end Tb
end Go.Proofs.Ytpodahnmdakjjaa

/-
  Layer 13 (table): windows and tables in memory; a variable that a closure has captured.
-/
namespace Go.Proofs.Ytpodahnmdakjjaa
open Go.RowKit Mm
namespace Tb

theorem rd_win {w : World} {S : Nat → Prop} {vs : List Value} {x : Win} : Dat.rd w S vs x ↔ vs = [.int .i64 x.1, .int .i64 x.2.1, .int .i64 x.2.2] ∧ Fit x.1 ∧ Fit x.2.1 ∧ Fit x.2.2 := by
  constructor
  · rintro ⟨v, r, rfl, ⟨rfl, h1⟩, v2, r2, rfl, ⟨rfl, h2⟩, rfl, h3⟩
    exact ⟨rfl, h1, h2, h3⟩
  · rintro ⟨rfl, h1, h2, h3⟩
    exact ⟨[.int .i64 x.1], [.int .i64 x.2.1, .int .i64 x.2.2], rfl, ⟨rfl, h1⟩, [.int .i64 x.2.1], [.int .i64 x.2.2], rfl, ⟨rfl, h2⟩, rfl, h3⟩
theorem win_at {w : World} {S : Nat → Prop} {A : Option Addr} {c : Nat} {l : List Win} (h : RdS w S A c l) (h0 : 0 < l.length) : ∃ b off, A = some ⟨b, off, none⟩ ∧ ∀ j, j < l.length →
    w.cell? ⟨b, off + j * 3, none⟩ = some (.int .i64 (at_ l j).1) ∧ w.cell? ⟨b, off + j * 3 + 1, none⟩ = some (.int .i64 (at_ l j).2.1) ∧ w.cell? ⟨b, off + j * 3 + 2, none⟩ = some (.int .i64 (at_ l j).2.2) ∧ Fit (at_ l j).1 ∧ Fit (at_ l j).2.1 ∧ Fit (at_ l j).2.2 := by
  obtain ⟨b, off, e, hc⟩ := h.cells h0
  refine ⟨b, off, e, fun j hj => ?_⟩
  obtain ⟨vs, h1, h2⟩ := hc j hj
  obtain ⟨rfl, f1, f2, f3⟩ := rd_win.1 h1
  exact ⟨h2 0 _ rfl, h2 1 _ rfl, h2 2 _ rfl, f1, f2, f3⟩
theorem win_fit {w : World} {S : Nat → Prop} {A : Option Addr} {c : Nat} {l : List Win} (h : RdS w S A c l) {j : Nat} (hj : j < l.length) : Fit (at_ l j).1 ∧ Fit (at_ l j).2.1 ∧ Fit (at_ l j).2.2 := by
  obtain ⟨b, off, _, hc⟩ := win_at h (by omega)
  exact (hc j hj).2.2.2
/-- a list of windows, as an argument -/
def WL (w : World) (A : Option Addr) (c : Nat) (W : List Win) : Prop := W.length ≤ 1000000 ∧ Rd w A c W
theorem WL.below {w w' : World} {A : Option Addr} {c : Nat} {W : List Win} (H : WL w A c W) (b : Below w.heap.size w w') : WL w' A c W := ⟨H.1, H.2.below b⟩
theorem WL.bw {w : World} {A : Option Addr} {c : Nat} {W : List Win} (H : WL w A c W) (p : BW w) : WL p.to A c W := H.below p.low
theorem WL.drew {w : World} {A : Option Addr} {c : Nat} {W : List Win} (H : WL w A c W) : WL w.drew A c W := H.below (Below.refl _ _).drew

/-- what a window is as a value; a table -/
def winV (x : Win) : Value := .agg #[.int .i64 x.1, .int .i64 x.2.1, .int .i64 x.2.2]
/-- a table in a block of its own -/
structure Tx (w : World) (X : Nat) (f : Int) (A : Option Addr) (n c : Nat) : Prop where
  f : w.cell? ⟨X, 0, none⟩ = some (.int .i64 f)
  l : w.cell? ⟨X, 1, none⟩ = some (.slice A n c)
theorem Tx.below {w w' : World} {X : Nat} {f : Int} {A : Option Addr} {n c : Nat} (h : Tx w X f A n c) (b : Below w.heap.size w w') : Tx w' X f A n c := ⟨cell_below b h.f, cell_below b h.l⟩
theorem tx_new (w : World) (f : Int) (A : Option Addr) (n c : Nat) : Tx (w.alloc (.cells #[.int .i64 f, .slice A n c] 24)) w.heap.size f A n c := ⟨by simp, by simp⟩
theorem wx_new (w : World) (x : Win) : (w.alloc (.cells #[.int .i64 x.1, .int .i64 x.2.1, .int .i64 x.2.2] 54)).cell? ⟨w.heap.size, 0, none⟩ = some (.int .i64 x.1) ∧ (w.alloc (.cells #[.int .i64 x.1, .int .i64 x.2.1, .int .i64 x.2.2] 54)).cell? ⟨w.heap.size, 1, none⟩ = some (.int .i64 x.2.1) ∧ (w.alloc (.cells #[.int .i64 x.1, .int .i64 x.2.1, .int .i64 x.2.2] 54)).cell? ⟨w.heap.size, 2, none⟩ = some (.int .i64 x.2.2) := by
  refine ⟨?_, ?_, ?_⟩ <;> simp

/-- a variable alone in its block -/
structure Cv (w : World) (X : Nat) (v : Value) : Prop where
  c : w.cell? ⟨X, 0, none⟩ = some v
  z : w.frozen? ⟨X, 0, none⟩ = false
section
variable {w w' : World} {X : Nat} {v : Value}
theorem Cv.lt (h : Cv w X v) : X < w.heap.size := lt_of_cell h.c
theorem Cv.below (h : Cv w X v) (b : Below w.heap.size w w') : Cv w' X v := ⟨cell_below b h.c, frozen_below b h.c h.z⟩
theorem Cv.put (h : Cv w X v) (u : Value) : Cv (w.setCell ⟨X, 0, none⟩ u) X u := ⟨World.cell?_setCell_same _ _ _ h.c, by rw [World.frozen?_setCell]; exact h.z⟩
theorem Cv.far (h : Cv w X v) {p : Addr} (hne : X ≠ p.block) (u : Value) : Cv (w.setCell p u) X v :=
  ⟨(World.cell?_of_block (w := w) (Below.heap_setCell w p u X hne)).trans h.c, by rw [World.frozen?_setCell]; exact h.z⟩
theorem Cv.gb {row : Option Nat} (h : Cv w X v) (hg : w.grownBy w' row) (hne : some X ≠ row) : Cv w' X v :=
  ⟨gb_cell hg h.c hne, (World.frozen?_of_block (w := w) (hg.block X h.lt hne)).trans h.z⟩
theorem cv_new (w : World) (v : Value) (t : TypeId) : Cv (w.alloc (.cells #[v] t)) w.heap.size v := ⟨by simp, by simp⟩
end
theorem set_lt (w : World) (p : Addr) (v : Value) : (w.setCell p v).heap.size = w.heap.size := by simp [World.setCell]

end Tb
end Go.Proofs.Ytpodahnmdakjjaa

/-
  Layer 13 (table): passRuns: runs of equal ticks go one by one to a closure.
-/
namespace Go.Proofs.Ytpodahnmdakjjaa
open Go.RowKit Mm
namespace Tb

set_option maxHeartbeats 3200000 in
/-- what holds ahead of tick a holds behind the run that begins there, if the closure sees to it -/
theorem runs_any (g : Nat) (lb : Array Value) (eg : ∀ args w, (callFunc g args).run Try.prog w = .ok (.enter g args) w) (A : Option Addr) (c : Nat) (l : List Int) (hbig : l.length ≤ 1000000) (Inv : World → Nat → Prop)
    (hrd : ∀ w k, Inv w k → Rd w A c l)
    (each : ∀ w a n, 0 < n → a + n ≤ l.length → (∀ j, a ≤ j → j < a + n → at_ l j = at_ l a) → (a + n < l.length → at_ l (a + n) ≠ at_ l a) → Inv w a → Calls Try.prog g (#[winV (at_ l a, (a : Int), (n : Int))] ++ lb) w fun e w' => e = .returned (.tuple #[]) ∧ Inv w' (a + n))
    (w : World) (h0 : Inv w 0) :
    Calls Try.prog 30 #[.slice A l.length c, .func (.func g) #[] lb] w fun e w' => e = .returned (.tuple #[]) ∧ Inv w' l.length := by
  have HR := Lib.hid hrd
  have HE := Lib.hid each
  have HI := Lib.hid h0
  clear hrd each h0
  go_enter Try.func30, Try.ntmps30
  go_wp2_with fail
  go_loopw [4, 9] (fun f i wr => ∃ a k : Nat, i = .int .i64 k ∧ f = .int .i64 a ∧ k ≤ l.length ∧ a ≤ k ∧ Hid (∀ j, a ≤ j → j ≤ k → j < l.length → at_ l j = at_ l a) ∧ Hid (k = l.length → a = k) ∧ Hid (Inv wr a)) (fun _ i _ => l.length - (intOf i).toNat)
  case atStart => exact ⟨0, 0, rfl, rfl, Nat.zero_le _, Nat.le_refl _, (fun j _ h _ => by rw [show j = 0 from by omega]), fun _ => rfl, HI.out⟩
  case round =>
    obtain ⟨a, k, rfl, rfl, hk, hak, HU, HQ, HV⟩ := hrel
    by_cases hlt : k < l.length
    · obtain ⟨b, off, rfl, hc⟩ := (HR.out _ _ HV.out).int (by omega)
      obtain ⟨x1, _⟩ := hc k hlt
      obtain ⟨n, hn⟩ : ∃ n, a + n = k + 1 := ⟨k + 1 - a, by omega⟩
      obtain ⟨kk, hkk⟩ : ∃ kk, k + 1 = kk := ⟨_, rfl⟩
      have e1 : IntKind.i64.wrap ((k : Int) + 1) = (kk : Int) := by rw [IntWalk.i64_in _ (by omega)]; omega
      have e2 : IntKind.i64.wrap ((kk : Int) - (a : Int)) = (n : Int) := by rw [IntWalk.i64_in _ (by omega)]; omega
      have hka := HU.out k hak (Nat.le_refl _) hlt
      rw [hka] at x1
      have HN : Hid (a + n = kk) := by show _ = _; omega
      have HKK := Lib.hid hkk
      have HKN : Hid (kk ≤ l.length) := by show _ ≤ _; omega
      have HQ2 : Hid (∀ j, kk ≤ j → j ≤ kk → j < l.length → at_ l j = at_ l kk) := fun j h1 h2 _ => by rw [show j = kk from by omega]
      have HM : Hid (l.length - kk < l.length - k) := by show _ < _; omega
      by_cases hend : kk = l.length
      · have hcall := HE.out wr a n (by omega) (by omega) (fun j h1 h2 => HU.out j h1 (by omega) (by omega)) (fun h => by omega) HV.out
        unfold winV at hcall
        generalize at_ l a = p at *
        clear hc hka hn hkk
        have hb2 : kk = l.length := hend
        have i1 : ((kk : Int) == (l.length : Int)) = true := by rw [beq_iff_eq]; omega
        have HB2 := Lib.hid hb2
        clear hb2
        clear hend
        go_wp2_with fail
        go_at_fn g
        refine hcall.mono ?_
        rintro e w1 ⟨rfl, h1⟩
        have H1 := Lib.hid h1
        clear hcall h1
        go_wp2_with fail
        go_roundw
        case rel => exact ⟨kk, kk, rfl, rfl, HKN.out, Nat.le_refl _, HQ2.out, fun _ => rfl, by rw [← HN.out]; exact H1.out⟩
        case measure => (have := HM.out; simp [intOf] <;> omega)
      · have i1 : ((kk : Int) == (l.length : Int)) = false := by rw [beq_eq_false_iff_ne]; omega
        have i3 : (kk : Int) < (l.length : Int) := by omega
        have i4 : (0 : Int) ≤ (kk : Int) := by omega
        have i5 : kk < l.length := by omega
        obtain ⟨y1, _⟩ := hc kk i5
        by_cases hne : at_ l kk = at_ l a
        · have HU2 : Hid (∀ j, a ≤ j → j ≤ kk → j < l.length → at_ l j = at_ l a) := fun j h1 h2 h3 => by
            by_cases e : j = kk
            · subst e; exact hne
            · exact HU.out j h1 (by omega) h3
          have HAK : Hid (a ≤ kk) := by show _ ≤ _; omega
          have HEQ : Hid (kk = l.length → a = kk) := fun h => absurd h hend
          rw [hne] at y1
          generalize hp : at_ l a = p at *
          have HP := Lib.hid hp
          clear hp
          clear hc hka hn hkk hne hend
          go_wp2_with fail
          go_roundw
          case rel => exact ⟨a, kk, rfl, rfl, HKN.out, HAK.out, (fun j h1 h2 h3 => by rw [HP.out]; exact HU2.out j h1 h2 h3), HEQ.out, HV.out⟩
          case measure => (have := HM.out; simp [intOf] <;> omega)
        · have hcall := HE.out wr a n (by omega) (by omega) (fun j h1 h2 => HU.out j h1 (by omega) (by omega)) (fun h => by rw [HN.out]; exact hne) HV.out
          unfold winV at hcall
          have i6 : (at_ l kk == at_ l a) = false := beq_eq_false_iff_ne.2 hne
          have i7 : (at_ l kk != at_ l a) = true := bne_iff_ne.2 hne
          generalize at_ l kk = q at *
          generalize at_ l a = p at *
          clear hc hka hn hkk hend
          go_wp2_with fail
          go_at_fn g
          refine hcall.mono ?_
          rintro e w1 ⟨rfl, h1⟩
          have H1 := Lib.hid h1
          clear hcall h1
          go_wp2_with fail
          go_roundw
          case rel => exact ⟨kk, kk, rfl, rfl, HKN.out, Nat.le_refl _, (fun j h1 h2 h3 => by rw [show j = kk from by omega]), fun _ => rfl, by rw [← HN.out]; exact H1.out⟩
          case measure => (have := HM.out; simp [intOf] <;> omega)
    · have hkl : k = l.length := by omega
      have hq := HQ.out hkl
      subst hq
      subst hkl
      go_wp2_with fail
      go_end0
      exact ⟨rfl, HV.out⟩

end Tb
end Go.Proofs.Ytpodahnmdakjjaa

/-
  Layer 13 (table): plain mathematics: the windows of the first a ticks; a table has no more windows than ticks.
-/
namespace Go.Proofs.Ytpodahnmdakjjaa
open Mm
namespace Tb

/-- may these be a table's ticks -/
def ofOk (l : List Int) : Prop := 1 ≤ l.length ∧ l.length ≤ 240 ∧ ∀ j, j < l.length → -1 ≤ at_ l j ∧ at_ l j ≤ 3
/-- the windows of the first a ticks -/
structure Sof (l : List Int) (a : Nat) (W : List Win) : Prop where
  fine : Fine l.length W W.length
  low : ∀ t : Nat, t < a → tk W (t : Int) = at_ l t
  high : ∀ t : Nat, a ≤ t → tk W (t : Int) = -1
  last : 0 < W.length → (at_ W (W.length - 1)).2.1 + (at_ W (W.length - 1)).2.2 ≤ a ∧ (a < l.length → (at_ W (W.length - 1)).2.1 + (at_ W (W.length - 1)).2.2 = a → (at_ W (W.length - 1)).1 ≠ at_ l a)
theorem sof_nil (l : List Int) : Sof l 0 [] := ⟨fun i hi => by simp at hi, fun t h => by omega, fun _ _ => rfl, fun h => by simp at h⟩
theorem Sof.none {l : List Int} {a n : Nat} {W : List Win} (h : Sof l a W) (h0 : 0 < n) (_hl : a + n ≤ l.length) (hs : ∀ j, a ≤ j → j < a + n → at_ l j = at_ l a) (hp : at_ l a = -1) : Sof l (a + n) W :=
  ⟨h.fine, fun t ht => by
    by_cases e : t < a
    · exact h.low t e
    · rw [hs t (by omega) ht, hp, h.high t (by omega)], fun t ht => h.high t (by omega), fun hw => by
    have := h.last hw
    exact ⟨by omega, fun _ e => by omega⟩⟩
theorem Sof.more {l : List Int} {a n : Nat} {W : List Win} (h : Sof l a W) (h0 : 0 < n) (hl : a + n ≤ l.length) (hs : ∀ j, a ≤ j → j < a + n → at_ l j = at_ l a) (he : a + n < l.length → at_ l (a + n) ≠ at_ l a) (hp : 0 ≤ at_ l a ∧ at_ l a ≤ 3) :
    Sof l (a + n) (W ++ [(at_ l a, (a : Int), (n : Int))]) := by
  have hf : Fine l.length (W ++ [(at_ l a, (a : Int), (n : Int))]) (W ++ [(at_ l a, (a : Int), (n : Int))]).length := h.fine.snoc (win_iff.2 (by simp only; omega)) fun hw => step_iff.2 (by
    obtain ⟨h1, h2⟩ := h.last hw
    simp only
    exact ⟨by omega, fun e => fun e2 => h2 (by omega) e.symm e2.symm⟩)
  refine ⟨hf, fun t ht => ?_, fun t ht => ?_, fun _ => ?_⟩
  · rw [hf.more]
    by_cases e : t < a
    · rw [if_neg (by unfold In; simp only; omega), h.low t e]
    · rw [if_pos (by unfold In; simp only; omega), hs t (by omega) ht]
  · rw [hf.more, if_neg (by unfold In; simp only; omega), h.high t (by omega)]
  · have hl1 : (W ++ [(at_ l a, (a : Int), (n : Int))]).length - 1 = W.length := by simp
    rw [hl1, at_right (Nat.le_refl _), Nat.sub_self, at_zero]
    simp only
    exact ⟨by omega, fun h1 _ e => he h1 e.symm⟩
theorem Sof.end_ {l : List Int} {W : List Win} (h : Sof l l.length W) (ho : ofOk l) : rightB l.length W = true ∧ tkL l.length W = l :=
  ⟨right_iff.2 ⟨⟨by have := ho.1; omega, by have := ho.2.1; omega⟩, h.fine⟩, (tkL_eq rfl fun j hj => (h.low j hj).symm).symm⟩
/-- a table has no more windows than ticks -/
theorem Fine.ends {f : Int} {W : List Win} (h : Fine f W W.length) : ∀ i, i < W.length → (i : Int) + 1 ≤ (at_ W i).2.1 + (at_ W i).2.2
  | 0, hi => by have := win_iff.1 (h 0 hi).1; omega
  | i + 1, hi => by
    have h1 := h.ends i (by omega)
    have h2 := h.before (i := i) (j := i + 1) (by omega) hi
    have h3 := win_iff.1 (h (i + 1) hi).1
    omega
theorem right_len {f : Int} {W : List Win} (h : rightB f W = true) : (W.length : Int) ≤ f := by
  obtain ⟨h1, h2⟩ := right_iff.1 h
  by_cases h0 : W.length = 0
  · omega
  · have h3 := h2.ends (W.length - 1) (by omega)
    have h4 := win_iff.1 (h2 (W.length - 1) (by omega)).1
    omega

end Tb
end Go.Proofs.Ytpodahnmdakjjaa

/-
  Layer 13 (table): isPart, valid.
-/
namespace Go.Proofs.Ytpodahnmdakjjaa
open Go.RowKit Mm
namespace Tb

def partB (p : Int) : Bool := decide (0 ≤ p ∧ p ≤ 3)
theorem isPart_any (p : Int) (w : World) : Calls Try.prog 29 #[.int .i64 p] w fun e w' => e = .returned (.bool (partB p)) ∧ Below w.heap.size w w' := by
  by_cases h0 : 0 ≤ p
  · by_cases h1 : p < 4
    · have HH : Hid (partB p = true) := decide_eq_true (by omega)
      go_enter Try.func29, Try.ntmps29
      go_wp2_with fail
      go_ret
      exact ⟨ret_bool HH.out.symm, Below.refl _ _⟩
    · have HH : Hid (partB p = false) := decide_eq_false (by omega)
      go_enter Try.func29, Try.ntmps29
      go_wp2_with fail
      go_ret
      exact ⟨ret_bool HH.out.symm, Below.refl _ _⟩
  · have HH : Hid (partB p = false) := decide_eq_false (by omega)
    go_enter Try.func29, Try.ntmps29
    go_wp2_with fail
    go_ret
    exact ⟨ret_bool HH.out.symm, Below.refl _ _⟩

theorem valid_any (x : Win) (f : Int) (w : World) (hf : 0 ≤ f ∧ f ≤ 240) (fx : Fit x.2.1) : Calls Try.prog 27 #[winV x, .int .i64 f] w fun e w' => e = .returned (.bool (winB f x)) ∧ Below w.heap.size w w' := by
  obtain ⟨t1, t2, t3⟩ := wx_new w x
  have B0 := Lib.hid (below_one w (Obj.cells #[.int .i64 x.1, .int .i64 x.2.1, .int .i64 x.2.2] 54))
  unfold Fit at fx
  unfold winV
  by_cases h0 : 0 ≤ x.1 ∧ x.1 ≤ 3
  · have HP : Hid (partB x.1 = true) := decide_eq_true h0
    by_cases h1 : 0 ≤ x.2.1
    · by_cases h2 : 1 ≤ x.2.2
      · have e1 : IntKind.i64.wrap (f - x.2.1) = f - x.2.1 := IntWalk.i64_in _ (by omega)
        by_cases h3 : x.2.2 ≤ f - x.2.1
        · have HH : Hid (winB f x = true) := win_iff.2 (by omega)
          clear hf fx h0
          go_enter Try.func27, Try.ntmps27
          go_wp2_with fail
          generalize w.alloc (Obj.cells #[.int .i64 x.1, .int .i64 x.2.1, .int .i64 x.2.2] 54) = w0 at *
          refine (isPart_any x.1 _).mono ?_
          rintro e w1 ⟨rfl, b1⟩
          rw [HP.out]
          replace t1 := (cell_below b1) t1
          replace t2 := (cell_below b1) t2
          replace t3 := (cell_below b1) t3
          have B1 := Lib.hid (below_step B0.out b1)
          clear b1
          go_wp2_with fail
          go_ret
          exact ⟨ret_bool HH.out.symm, B1.out⟩
        · have HH : Hid (winB f x = false) := decide_eq_false (by omega)
          have H3 := Lib.hid h3
          clear hf fx h0
          go_enter Try.func27, Try.ntmps27
          go_wp2_with fail
          generalize w.alloc (Obj.cells #[.int .i64 x.1, .int .i64 x.2.1, .int .i64 x.2.2] 54) = w0 at *
          refine (isPart_any x.1 _).mono ?_
          rintro e w1 ⟨rfl, b1⟩
          rw [HP.out]
          replace t1 := (cell_below b1) t1
          replace t2 := (cell_below b1) t2
          replace t3 := (cell_below b1) t3
          have B1 := Lib.hid (below_step B0.out b1)
          clear b1
          go_wp2_with fail
          go_ret
          exact ⟨ret_bool (by rw [HH.out]; exact decide_eq_false (by have := H3.out; omega)), B1.out⟩
      · have HH : Hid (winB f x = false) := decide_eq_false (by omega)
        clear hf fx h0
        go_enter Try.func27, Try.ntmps27
        go_wp2_with fail
        generalize w.alloc (Obj.cells #[.int .i64 x.1, .int .i64 x.2.1, .int .i64 x.2.2] 54) = w0 at *
        refine (isPart_any x.1 _).mono ?_
        rintro e w1 ⟨rfl, b1⟩
        rw [HP.out]
        replace t1 := (cell_below b1) t1
        replace t2 := (cell_below b1) t2
        replace t3 := (cell_below b1) t3
        have B1 := Lib.hid (below_step B0.out b1)
        clear b1
        go_wp2_with fail
        go_ret
        exact ⟨ret_bool HH.out.symm, B1.out⟩
    · have HH : Hid (winB f x = false) := decide_eq_false (by omega)
      clear hf fx h0
      go_enter Try.func27, Try.ntmps27
      go_wp2_with fail
      generalize w.alloc (Obj.cells #[.int .i64 x.1, .int .i64 x.2.1, .int .i64 x.2.2] 54) = w0 at *
      refine (isPart_any x.1 _).mono ?_
      rintro e w1 ⟨rfl, b1⟩
      rw [HP.out]
      replace t1 := (cell_below b1) t1
      replace t2 := (cell_below b1) t2
      replace t3 := (cell_below b1) t3
      have B1 := Lib.hid (below_step B0.out b1)
      clear b1
      go_wp2_with fail
      go_ret
      exact ⟨ret_bool HH.out.symm, B1.out⟩
  · have HP : Hid (partB x.1 = false) := decide_eq_false h0
    have HH : Hid (winB f x = false) := decide_eq_false (by omega)
    clear hf fx h0
    go_enter Try.func27, Try.ntmps27
    go_wp2_with fail
    generalize w.alloc (Obj.cells #[.int .i64 x.1, .int .i64 x.2.1, .int .i64 x.2.2] 54) = w0 at *
    refine (isPart_any x.1 _).mono ?_
    rintro e w1 ⟨rfl, b1⟩
    rw [HP.out]
    replace t1 := (cell_below b1) t1
    replace t2 := (cell_below b1) t2
    replace t3 := (cell_below b1) t3
    have B1 := Lib.hid (below_step B0.out b1)
    clear b1
    go_wp2_with fail
    go_ret
    exact ⟨ret_bool HH.out.symm, B1.out⟩

end Tb
end Go.Proofs.Ytpodahnmdakjjaa

/-
  Layer 13 (table): Of.
-/
namespace Go.Proofs.Ytpodahnmdakjjaa
open Go.RowKit Mm
namespace Tb

theorem slW : SlT Try.prog 22 54 (Dat.k Win) := slT_of Try.underlying22 (show _ = some (some (.agg #[.int .i64 0, .int .i64 0, .int .i64 0]), 3, 24) by kernel_rfl) rfl (by omega)
theorem rd_new_win (w : World) (x : Win) (h1 : Fit x.1) (h2 : Fit x.2.1) (h3 : Fit x.2.2) : Rd (w.alloc (.cells #[.int .i64 x.1, .int .i64 x.2.1, .int .i64 x.2.2] 54)) (some ⟨w.heap.size, 0, none⟩) 1 [x] :=
  (ow_lit (l := [x]) w (fun _ => True) w.heap.size 54 #[.int .i64 x.1, .int .i64 x.2.1, .int .i64 x.2.2] (Nat.le_refl _) (by simp) ⟨[.int .i64 x.1, .int .i64 x.2.1, .int .i64 x.2.2], [], rfl, rd_win.2 ⟨rfl, h1, h2, h3⟩, rfl⟩).rd
theorem gb_set (w : World) (p : Addr) (v : Value) : w.grownBy (w.setCell p v) (some p.block) := ⟨rfl, rfl, rfl, by simp [World.setCell], fun i _ hne => Below.heap_setCell _ _ _ _ (fun e => hne (by rw [e]))⟩

/-- the table under way, in block X -/
structure Ofs (w : World) (X : Nat) (n : Int) (B : Option Addr) (cp : Nat) (W : List Win) : Prop where
  f : w.cell? ⟨X, 0, none⟩ = some (.int .i64 n)
  l : w.cell? ⟨X, 1, none⟩ = some (.slice B W.length cp)
  z : w.frozen? ⟨X, 1, none⟩ = false
  own : Ow w (X + 1) 54 B cp W
theorem Ofs.below {w w' : World} {X : Nat} {n : Int} {B : Option Addr} {cp : Nat} {W : List Win} (h : Ofs w X n B cp W) (b : Below w.heap.size w w') : Ofs w' X n B cp W :=
  ⟨cell_below b h.f, cell_below b h.l, frozen_below b h.l h.z, h.own.below b (Nat.le_refl _)⟩
theorem Ofs.lt {w : World} {X : Nat} {n : Int} {B : Option Addr} {cp : Nat} {W : List Win} (h : Ofs w X n B cp W) : X < w.heap.size := lt_of_cell h.f
/-- what the closure of Of does -/
def Ofd (w : World) (N X : Nat) (n : Int) (W : List Win) (e : Ending) (w' : World) : Prop := e = .returned (.tuple #[]) ∧ Below N w w' ∧ ∃ B cp, Ofs w' X n B cp W

set_option maxHeartbeats 1600000 in
theorem of_closure (N X : Nat) (n : Int) (B : Option Addr) (cp : Nat) (W : List Win) (x : Win) (w : World) (hN : N ≤ X) (h1 : Fit x.1) (h2 : Fit x.2.1) (h3 : Fit x.2.2) (hW : W.length ≤ 1000) (H : Ofs w X n B cp W) :
    Calls Try.prog 31 #[winV x, .pointer (some ⟨X, 0, none⟩)] w (Ofd w N X n (if x.1 = -1 then W else W ++ [x])) := by
  have hlt := H.lt
  have HX := Lib.hid hlt
  have HN := Lib.hid hN
  by_cases e : x.1 = -1
  · obtain ⟨p, a, m⟩ := x
    simp only at e
    subst e
    rw [if_pos rfl]
    obtain ⟨t1, t2, t3⟩ := wx_new w (-1, a, m)
    have b0 := below_one w (Obj.cells #[.int .i64 (-1), .int .i64 a, .int .i64 m] 54)
    have HO := Lib.hid (H.below b0)
    have B0 := Lib.hid b0
    unfold winV
    clear b0 H hlt
    go_enter Try.func31, Try.ntmps31
    go_wp2_with fail
    go_end0
    exact ⟨rfl, B0.out.mono (by have := HX.out; have := HN.out; omega), B, cp, HO.out⟩
  · obtain ⟨t1, t2, t3⟩ := wx_new w x
    have b0 := below_one w (Obj.cells #[.int .i64 x.1, .int .i64 x.2.1, .int .i64 x.2.2] 54)
    have HO := Lib.hid (H.below b0)
    have B0 := Lib.hid b0
    have e1 : (x.1 == (-1 : Int)) = false := beq_eq_false_iff_ne.2 e
    have e2 : (x.1 != (-1 : Int)) = true := bne_iff_ne.2 e
    rw [if_neg e]
    unfold winV
    have l1 := HO.out.l
    have z1 := HO.out.z
    have hsz : (w.alloc (Obj.cells #[.int .i64 x.1, .int .i64 x.2.1, .int .i64 x.2.2] 54)).heap.size = w.heap.size + 1 := by simp
    have hda := rd_new_win (w.alloc (Obj.cells #[.int .i64 x.1, .int .i64 x.2.1, .int .i64 x.2.2] 54)) x h1 h2 h3
    rw [hsz] at hda
    have HDA := Lib.hid hda
    have bA := below_one (w.alloc (Obj.cells #[.int .i64 x.1, .int .i64 x.2.1, .int .i64 x.2.2] 54)) (Obj.cells #[.int .i64 x.1, .int .i64 x.2.1, .int .i64 x.2.2] 54)
    have HRA := Lib.hid (HO.out.own.alloc (Obj.cells #[.int .i64 x.1, .int .i64 x.2.1, .int .i64 x.2.2] 54))
    have BA := Lib.hid (below_step B0.out bA)
    have L2 := Lib.hid (cell_below bA HO.out.l)
    have Z2 := Lib.hid (frozen_below bA HO.out.l HO.out.z)
    have F2 := Lib.hid (cell_below bA HO.out.f)
    have HSB : Hid (X + 1 ≤ ((w.alloc (Obj.cells #[.int .i64 x.1, .int .i64 x.2.1, .int .i64 x.2.2] 54)).alloc (Obj.cells #[.int .i64 x.1, .int .i64 x.2.1, .int .i64 x.2.2] 54)).heap.size) := by show _ ≤ _; have h1 := BA.out.size; omega
    have HW := Lib.hid hW
    have HE := Lib.hid e
    clear bA b0 H hda hsz hlt hW hN e h1 h2 h3
    go_enter Try.func31, Try.ntmps31
    go_wp2_with (at_builtin
                 refine list_app_n slW rfl _ _ rfl (base := X + 1) (l := W) (r := [x]) (n := W.length) (m := 1) rfl rfl rfl rfl HRA.out HDA.out (by have := HW.out; omega) HSB.out ?_
                 intro A3 c3 w3 k1 k2 k3
                 have O3 := Lib.hid k1
                 have B3 := Lib.hid k2
                 have l3 := (k2.cell (by show X < X + 1; omega)).trans L2.out
                 have z3 := (k2.frozen (by show X < X + 1; omega)).trans Z2.out
                 have F3 := Lib.hid ((k2.cell (by show X < X + 1; omega)).trans F2.out)
                 clear k1 k2 k3)
    go_end0
    have hn1 : (⟨X, 1, none⟩ : Addr) ≠ ⟨X, 0, none⟩ := fun e => by injection e with _ e; cases e
    have hN := HN.out
    have hX := HX.out
    refine ⟨rfl, ((BA.out.mono (by omega)).trans (B3.out.mono (by omega))).setCell (p := ⟨X, 1, none⟩) hN _, A3, c3, (World.cell?_setCell_other _ _ _ _ hn1).trans F3.out, ?_, by rw [World.frozen?_setCell]; exact z3, O3.out.gb (gb_set w3 ⟨X, 1, none⟩ _) fun g hA e => ?_⟩
    · rw [List.length_append]
      exact World.cell?_setCell_same _ _ _ l3
    · have := OwS.new O3.out g hA
      injection e with e
      simp only at e
      omega
theorem ofEnters : ∀ args w, (callFunc 31 args).run Try.prog w = .ok (.enter 31 args) w := enters_of Try.func31 (by kernel_rfl) rfl

/-- what Of answers -/
def OfTo (w : World) (l : List Int) (e : Ending) (w' : World) : Prop :=
  ofOk l ∧ (∃ B cp W, e = .returned (.tuple #[.agg #[.int .i64 (l.length : Nat), .slice B W.length cp], .int .i64 0]) ∧ rightB (l.length : Nat) W = true ∧ tkL l.length W = l ∧ Ow w' w.heap.size 54 B cp W ∧ Below w.heap.size w w') ∨
  ¬ ofOk l ∧ e = .returned (.tuple #[.agg #[.int .i64 0, .slice none 0 0], .int .i64 1]) ∧ Below w.heap.size w w'

theorem put4 {W : World} {X : Nat} {a b : Value} (h0 : W.cell? ⟨X, 0, none⟩ = some a) (h1 : W.cell? ⟨X, 1, none⟩ = some b) (u v : Value) :
    ((W.setCell ⟨X, 0, none⟩ u).setCell ⟨X, 1, none⟩ v).cell? ⟨X, 0, none⟩ = some u ∧ ((W.setCell ⟨X, 0, none⟩ u).setCell ⟨X, 1, none⟩ v).cell? ⟨X, 1, none⟩ = some v := by
  have n1 : (⟨X, 1, none⟩ : Addr) ≠ ⟨X, 0, none⟩ := fun e => by injection e with _ e; cases e
  refine ⟨?_, ?_⟩
  · rw [World.cell?_setCell_other _ _ _ _ n1]
    exact World.cell?_setCell_same _ _ _ h0
  · exact World.cell?_setCell_same _ _ _ ((World.cell?_setCell_other _ _ _ _ n1.symm).trans h1)

set_option maxHeartbeats 1600000 in
theorem of_any (A : Option Addr) (c : Nat) (l : List Int) (w : World) (H : IL w A c l) :
    Calls Try.prog 16 #[.slice A l.length c] w (OfTo w l) := by
  have hbig := H.1
  have HL := Lib.hid H
  clear H
  by_cases h1 : l.length < 1
  · have HH : Hid (¬ ofOk l) := fun h => by have := h.1; omega
    go_enter Try.func16, Try.ntmps16
    go_wp2_with fail
    refine bodyPost_ret (v := .tuple #[.agg #[.int .i64 0, .slice none 0 0], .int .i64 1]) (by simp [results, Try.results16, go_sem]) rfl ?_
    exact .inr ⟨HH.out, rfl, below_one w (Obj.cells #[.int .i64 0, .slice none 0 0] 24)⟩
  · by_cases h2 : 240 < l.length
    · have HH : Hid (¬ ofOk l) := fun h => by have := h.2.1; omega
      go_enter Try.func16, Try.ntmps16
      go_wp2_with fail
      refine bodyPost_ret (v := .tuple #[.agg #[.int .i64 0, .slice none 0 0], .int .i64 1]) (by simp [results, Try.results16, go_sem]) rfl ?_
      exact .inr ⟨HH.out, rfl, below_one w (Obj.cells #[.int .i64 0, .slice none 0 0] 24)⟩
    · have HI2 : Hid (1 ≤ l.length ∧ l.length ≤ 240) := by show _ ∧ _; omega
      have b0 := below_one w (Obj.cells #[.int .i64 0, .slice none 0 0] 24)
      have q0 : (w.alloc (Obj.cells #[.int .i64 0, .slice none 0 0] 24)).cell? ⟨w.heap.size, 0, none⟩ = some (.int .i64 0) := by simp
      have q1 : (w.alloc (Obj.cells #[.int .i64 0, .slice none 0 0] 24)).cell? ⟨w.heap.size, 1, none⟩ = some (.slice none 0 0) := by simp
      have z0 : (w.alloc (Obj.cells #[.int .i64 0, .slice none 0 0] 24)).frozen? ⟨w.heap.size, 0, none⟩ = false := by simp
      have z1 : (w.alloc (Obj.cells #[.int .i64 0, .slice none 0 0] 24)).frozen? ⟨w.heap.size, 1, none⟩ = false := by simp
      have B0 := Lib.hid b0
      replace HL := Lib.hid (HL.out.below b0)
      clear b0
      go_enter Try.func16, Try.ntmps16
      go_wp2_with fail
      generalize w.alloc (Obj.cells #[.int .i64 0, .slice none 0 0] 24) = w0 at *
      have Q0 := Lib.hid q0
      have Q1 := Lib.hid q1
      have Z0 := Lib.hid z0
      have Z1 := Lib.hid z1
      clear q0 q1 z0 z1
      go_loopw [18] (fun i wr => ∃ k : Nat, i = .int .i64 k ∧ k ≤ l.length ∧ Hid (∀ j, j < k → -1 ≤ at_ l j ∧ at_ l j ≤ 3) ∧ Hid (Below w0.heap.size w0 wr)) (fun i _ => l.length - (intOf i).toNat)
      case atStart => exact ⟨0, rfl, Nat.zero_le _, (fun j h => by omega), Below.refl _ _⟩
      case round =>
        obtain ⟨k, rfl, hk, HD, HB⟩ := hrel
        by_cases hlt : k < l.length
        · obtain ⟨b, off, rfl, hc⟩ := (HL.out.2.below HB.out).int (by omega)
          obtain ⟨x1, _⟩ := hc k hlt
          have HD2 : Hid (-1 ≤ at_ l k ∧ at_ l k ≤ 3 → ∀ j, j < k + 1 → -1 ≤ at_ l j ∧ at_ l j ≤ 3) := fun h j hj => by
            by_cases e : j = k
            · subst e; exact h
            · exact HD.out j (by omega)
          have HB9 : Hid (¬ (-1 ≤ at_ l k ∧ at_ l k ≤ 3) → ¬ ofOk l) := fun h h' => h (h'.2.2 k hlt)
          clear hc
          generalize at_ l k = p at x1 HD2 HB9
          by_cases hp : p = -1
          · subst hp
            replace HD2 := Lib.hid (HD2.out (by omega))
            go_wp2_with fail
            go_roundw
            case rel => exact ⟨k + 1, by go_num, hlt, HD2, HB⟩
            case measure => (simp [intOf] <;> omega)
          · have e1 : (p == (-1 : Int)) = false := beq_eq_false_iff_ne.2 hp
            have e2 : (p != (-1 : Int)) = true := bne_iff_ne.2 hp
            by_cases hp2 : 0 ≤ p ∧ p ≤ 3
            · have HP : Hid (partB p = true) := decide_eq_true hp2
              replace HD2 := Lib.hid (HD2.out (by omega))
              clear hp2
              go_wp2_with fail
              refine (isPart_any p _).mono ?_
              rintro e w1 ⟨rfl, b1⟩
              rw [HP.out]
              have HB1 := Lib.hid (below_step HB.out b1)
              clear b1
              go_wp2_with fail
              go_roundw
              case rel => exact ⟨k + 1, by go_num, hlt, HD2, HB1⟩
              case measure => (simp [intOf] <;> omega)
            · have HP : Hid (partB p = false) := decide_eq_false hp2
              have HH : Hid (¬ ofOk l) := HB9.out (by omega)
              clear hp2
              go_wp2_with fail
              refine (isPart_any p _).mono ?_
              rintro e w1 ⟨rfl, b1⟩
              rw [HP.out]
              have HB1 := Lib.hid (below_step HB.out b1)
              have q0 := cell_below HB1.out Q0.out
              have q1 := cell_below HB1.out Q1.out
              have z0 := frozen_below HB1.out Q0.out Z0.out
              have z1 := frozen_below HB1.out Q1.out Z1.out
              have B1 := Lib.hid (below_step B0.out HB1.out)
              clear b1 HB1
              go_wp2_with fail
              obtain ⟨k0, k1⟩ := put4 q0 q1 (.int .i64 0) (.slice none 0 0)
              refine bodyPost_ret (v := .tuple #[.agg #[.int .i64 0, .slice none 0 0], .int .i64 1]) (by simp [results, Try.results16, go_sem, k0, k1]) rfl ?_
              exact .inr ⟨HH.out, rfl, (B1.out.setCell (p := ⟨w.heap.size, 0, none⟩) (Nat.le_refl _) _).setCell (p := ⟨w.heap.size, 1, none⟩) (Nat.le_refl _) _⟩
        · have hkl : k = l.length := by omega
          subst hkl
          have HO : Hid (ofOk l) := ⟨HI2.out.1, HI2.out.2, HD.out⟩
          have q0 := cell_below HB.out Q0.out
          have q1 := cell_below HB.out Q1.out
          have z0 := frozen_below HB.out Q0.out Z0.out
          have z1 := frozen_below HB.out Q1.out Z1.out
          have B1 := Lib.hid (below_step B0.out HB.out)
          replace HL := Lib.hid (HL.out.below HB.out)
          have HNX : Hid (w.heap.size < wr.heap.size) := lt_of_cell q0
          have HI0 : Hid (Ofs (wr.alloc (Obj.cells #[.int .i64 (l.length : Nat), .slice none 0 0] 24)) wr.heap.size (l.length : Nat) none 0 []) := ⟨by simp, by simp, by simp, ow_none _ _ _⟩
          have BA := Lib.hid (below_one wr (Obj.cells #[.int .i64 (l.length : Nat), .slice none 0 0] 24))
          clear HB HD Q0 Q1 Z0 Z1
          go_wp2_with fail
          generalize wr.alloc (Obj.cells #[.int .i64 (l.length : Nat), .slice none 0 0] 24) = w2 at *
          have HLW : Hid (∀ w', Below wr.heap.size wr w' → Rd w' A c l) := fun w' b => HL.out.2.below b
          have HLL : Hid (∀ W, Sof l l.length W → rightB (l.length : Nat) W = true ∧ tkL l.length W = l) := fun W h => h.end_ HO.out
          refine (runs_any _ _ ofEnters A c l hbig (fun w' a => Below wr.heap.size wr w' ∧ ∃ B cp W, Ofs w' wr.heap.size (l.length : Nat) B cp W ∧ Sof l a W) (fun _ _ h => HLW.out _ h.1) (fun wq a n hn0 hn hs he hI => ?_) _ ⟨BA.out, none, 0, [], HI0.out, sof_nil l⟩).mono ?_
          · obtain ⟨hb, B, cp, W, hO, hS⟩ := hI
            have hp := HO.out.2.2 a (by omega)
            have hW : W.length ≤ 240 := by
              have := right_len (right_iff.2 ⟨⟨by have := HI2.out.1; omega, by have := HI2.out.2; omega⟩, hS.fine⟩ : rightB (l.length : Int) W = true)
              have := HI2.out.2
              omega
            have hl240 := HI2.out.2
            refine (of_closure wr.heap.size wr.heap.size (l.length : Nat) B cp W (at_ l a, (a : Int), (n : Int)) wq (Nat.le_refl _) ⟨by show _ ≤ at_ l a; omega, by show at_ l a ≤ _; omega⟩ ⟨by show _ ≤ (a : Int); omega, by show (a : Int) ≤ _; omega⟩ ⟨by show _ ≤ (n : Int); omega, by show (n : Int) ≤ _; omega⟩ (by omega) hO).mono ?_
            rintro e w' ⟨h1, h2, B2, cp2, h3⟩
            refine ⟨h1, hb.trans h2, B2, cp2, _, h3, ?_⟩
            by_cases e : at_ l a = -1
            · rw [if_pos e]; exact hS.none hn0 hn hs e
            · rw [if_neg e]; exact hS.more hn0 hn hs he (by omega)
          · rintro e w5 ⟨rfl, b5, B, cp, W, hO, hS⟩
            obtain ⟨g1, g2⟩ := HLL.out W hS
            have l1 := hO.f
            have l2 := hO.l
            have B5 := Lib.hid (below_step B1.out b5)
            have HG1 := Lib.hid g1
            have HG2 := Lib.hid g2
            have HRD := Lib.hid hO.own.rd
            have HOW := Lib.hid hO.own
            replace q0 := (cell_below b5) q0
            replace q1 := (cell_below b5) q1
            replace z0 := (b5.frozen (by show w.heap.size < wr.heap.size; exact HNX.out)).trans z0
            replace z1 := (b5.frozen (by show w.heap.size < wr.heap.size; exact HNX.out)).trans z1
            have HXX := Lib.hid hO.lt
            clear b5 hO hS g1 g2 HL HLW HLL BA HI0
            go_wp2_with fail
            obtain ⟨k0, k1⟩ := put4 q0 q1 (.int .i64 (l.length : Int)) (.slice B W.length cp)
            refine bodyPost_ret (v := .tuple #[.agg #[.int .i64 (l.length : Int), .slice B W.length cp], .int .i64 0]) (by simp [results, Try.results16, go_sem, k0, k1]) rfl ?_
            have hB6 : Below w.heap.size w ((w5.setCell ⟨w.heap.size, 0, none⟩ (.int .i64 (l.length : Int))).setCell ⟨w.heap.size, 1, none⟩ (.slice B W.length cp)) := (B5.out.setCell (p := ⟨w.heap.size, 0, none⟩) (Nat.le_refl _) _).setCell (p := ⟨w.heap.size, 1, none⟩) (Nat.le_refl _) _
            refine .inl ⟨HO.out, B, cp, W, rfl, HG1.out, HG2.out, ?_, hB6⟩
            have ne : ∀ g, B = some ⟨g, 0, none⟩ → some g ≠ some w.heap.size := fun g hA e => by
              have h1 := OwS.new HOW.out g hA
              have h2 := HNX.out
              injection e with e
              omega
            exact ((HOW.out.gb (gb_set w5 ⟨w.heap.size, 0, none⟩ _) ne).gb (gb_set _ ⟨w.heap.size, 1, none⟩ _) ne).rebase (by have := HNX.out; omega)

end Tb
end Go.Proofs.Ytpodahnmdakjjaa

/-
  Layer 13 (table): pass: windows go one by one to a closure.
-/
namespace Go.Proofs.Ytpodahnmdakjjaa
open Go.RowKit Mm
namespace Tb

set_option maxHeartbeats 1600000 in
/-- windows go one by one to a closure, until it says false: what holds behind k of them, and what holds where it said false -/
theorem pass_any (g : Nat) (lb : Array Value) (eg : ∀ args w, (callFunc g args).run Try.prog w = .ok (.enter g args) w) (A : Option Addr) (c : Nat) (W : List Win) (hbig : W.length ≤ 1000000) (Inv : World → Nat → Prop) (End : World → Prop)
    (hkeep : ∀ w w' k, Inv w k → Below w.heap.size w w' → Inv w' k) (hrd : ∀ w k, Inv w k → Rd w A c W)
    (each : ∀ w k, k < W.length → Inv w k → Calls Try.prog g (#[winV (at_ W k)] ++ lb) w fun e w' => ∃ b, e = .returned (.bool b) ∧ (b = true → Inv w' (k + 1)) ∧ (b = false → End w'))
    (w : World) (h0 : Inv w 0) :
    Calls Try.prog 24 #[.slice A W.length c, .func (.func g) #[] lb] w fun e w' => e = .returned (.tuple #[]) ∧ (Inv w' W.length ∨ End w') := by
  have HK := Lib.hid hkeep
  have HR := Lib.hid hrd
  have HE := Lib.hid each
  have HI := Lib.hid h0
  clear hkeep hrd each h0
  go_enter Try.func24, Try.ntmps24
  go_wp2_with fail
  go_loopw [8] (fun i wr => ∃ k : Nat, i = .int .i64 k ∧ k ≤ W.length ∧ Hid (Inv wr k)) (fun i _ => W.length - (intOf i).toNat)
  case atStart => exact ⟨0, rfl, Nat.zero_le _, HI.out⟩
  case round =>
    obtain ⟨k, rfl, hk, HV⟩ := hrel
    by_cases hlt : k < W.length
    · have hcall := fun wr => HE.out wr k hlt
      obtain ⟨b, off, rfl, hc⟩ := win_at (HR.out _ _ HV.out) (by omega)
      obtain ⟨x1, x2, x3, _⟩ := hc k hlt
      unfold winV at hcall
      clear hc
      generalize hx : at_ W k = x at *
      have HX := Lib.hid hx
      clear hx
      have HV2 := Lib.hid (HK.out _ _ _ HV.out (below_one wr (Obj.cells #[.int .i64 x.1, .int .i64 x.2.1, .int .i64 x.2.2] 54)))
      replace hcall := hcall _ HV2.out
      go_wp2_with fail
      go_at_fn g
      refine hcall.mono ?_
      rintro e w1 ⟨bb, rfl, ht, hf⟩
      clear hcall
      cases bb with
      | true =>
        have HT := Lib.hid (ht rfl)
        clear ht hf
        go_wp2_with fail
        go_roundw
        case rel => exact ⟨k + 1, by go_num, hlt, HT⟩
        case measure => (simp [intOf] <;> omega)
      | false =>
        have HT := Lib.hid (hf rfl)
        clear ht hf
        go_wp2_with fail
        refine bodyPost_ret (results_none rfl _ _ _) rfl ?_
        exact ⟨rfl, .inr HT.out⟩
    · have hkl : k = W.length := by omega
      subst hkl
      go_wp2_with fail
      go_end0
      exact ⟨rfl, .inl HV.out⟩

end Tb
end Go.Proofs.Ytpodahnmdakjjaa

/-
  Layer 13 (table): Right.
-/
namespace Go.Proofs.Ytpodahnmdakjjaa
open Go.RowKit Mm
namespace Tb

/-- where the one ahead of k ended, and whose it was -/
def endW (W : List Win) (k : Nat) : Int := if k = 0 then 0 else (at_ W (k - 1)).2.1 + (at_ W (k - 1)).2.2
def partW (W : List Win) (k : Nat) : Int := if k = 0 then -1 else (at_ W (k - 1)).1
theorem endW_succ (W : List Win) (k : Nat) : endW W (k + 1) = (at_ W k).2.1 + (at_ W k).2.2 := by unfold endW; simp
theorem partW_succ (W : List Win) (k : Nat) : partW W (k + 1) = (at_ W k).1 := by unfold partW; simp
theorem endW_pos {W : List Win} {k : Nat} (h : 0 < k) : endW W k = (at_ W (k - 1)).2.1 + (at_ W (k - 1)).2.2 := by unfold endW; rw [if_neg (by omega)]
theorem partW_pos {W : List Win} {k : Nat} (h : 0 < k) : partW W k = (at_ W (k - 1)).1 := by unfold partW; rw [if_neg (by omega)]
/-- may this window stand next -/
def nextB (f e p : Int) (x : Win) : Bool := winB f x && (decide (e < x.2.1) || decide (x.2.1 = e ∧ x.1 ≠ p))
theorem next_iff {f e p : Int} {x : Win} : nextB f e p x = true ↔ winB f x = true ∧ (e < x.2.1 ∨ x.2.1 = e ∧ x.1 ≠ p) := by
  unfold nextB
  rw [Bool.and_eq_true, Bool.or_eq_true, decide_eq_true_eq, decide_eq_true_eq]
theorem next_fine {f : Int} {W : List Win} {k : Nat} (h : Fine f W k) (hn : nextB f (endW W k) (partW W k) (at_ W k) = true) : Fine f W (k + 1) := by
  rw [next_iff] at hn
  refine h.succ hn.1 fun h0 => step_iff.2 ?_
  rw [endW_pos h0, partW_pos h0] at hn
  exact ⟨by omega, fun e => by omega⟩
theorem next_bad {f : Int} {W : List Win} {k : Nat} (hk : k < W.length) (hn : nextB f (endW W k) (partW W k) (at_ W k) = false) : rightB f W = false := by
  cases hw : winB f (at_ W k) with
  | false => exact right_win hk hw
  | true =>
    have h1 := win_iff.1 hw
    have hn' : ¬ (endW W k < (at_ W k).2.1 ∨ (at_ W k).2.1 = endW W k ∧ (at_ W k).1 ≠ partW W k) := fun e => by
      rw [next_iff.2 ⟨hw, e⟩] at hn
      cases hn
    by_cases h0 : k = 0
    · subst h0
      have e1 : endW W 0 = 0 := rfl
      have e2 : partW W 0 = -1 := rfl
      rw [e1, e2] at hn'
      omega
    · rw [endW_pos (by omega), partW_pos (by omega)] at hn'
      refine right_step hk (by omega) ?_
      cases hs : stepB (at_ W (k - 1)) (at_ W k) with
      | false => rfl
      | true =>
        have h2 := step_iff.1 hs
        omega

/-- what the closure of Right does -/
structure NextOf (B E P R : Nat) (f e p : Int) (x : Win) (a : Ending) (w w' : World) : Prop where
  a : a = .returned (.bool (nextB f e p x))
  low : Below B w w'
  r : Cv w' R (.bool (nextB f e p x))
  e : nextB f e p x = true → Cv w' E (.int .i64 (x.2.1 + x.2.2)) ∧ Cv w' P (.int .i64 x.1)

set_option maxHeartbeats 1600000 in
theorem right_closure (B T E P R : Nat) (f e p : Int) (x : Win) (w : World) (hB : B ≤ E ∧ B ≤ P ∧ B ≤ R) (hS : B ≤ w.heap.size) (h1 : E ≠ P) (h2 : E ≠ R) (h3 : P ≠ R) (hf : 0 ≤ f ∧ f ≤ 240) (fx : Fit x.2.1)
    (hT : w.cell? ⟨T, 0, none⟩ = some (.int .i64 f)) (cE : Cv w E (.int .i64 e)) (cP : Cv w P (.int .i64 p)) (cR : Cv w R (.bool true)) :
    Calls Try.prog 26 #[winV x, .pointer (some ⟨T, 0, none⟩), .pointer (some ⟨E, 0, none⟩), .pointer (some ⟨P, 0, none⟩), .pointer (some ⟨R, 0, none⟩)] w fun a w' => NextOf B E P R f e p x a w w' := by
  obtain ⟨t1, t2, t3⟩ := wx_new w x
  have b0 := below_one w (Obj.cells #[.int .i64 x.1, .int .i64 x.2.1, .int .i64 x.2.2] 54)
  have NE : Hid (w.heap.size ≠ E) := by show _ ≠ _; have := cE.lt; omega
  have HN : Hid (w.heap.size ≠ R) := by show _ ≠ _; have := cR.lt; omega
  replace hT := cell_below b0 hT
  replace cE := cE.below b0
  replace cP := cP.below b0
  replace cR := cR.below b0
  have B0 := Lib.hid b0
  have HC := Lib.hid (fun W => valid_any x f W hf fx)
  have HB := Lib.hid hB
  have HS := Lib.hid hS
  have hf2 := hf.2
  clear b0 hf fx hB hS
  unfold winV at HC ⊢
  cases hw : winB f x with
  | false =>
    have HH : Hid (nextB f e p x = false) := by show _ = _; unfold nextB; rw [hw, Bool.false_and]
    have HW := Lib.hid hw
    clear hw
    go_enter Try.func26, Try.ntmps26
    go_wp2_with fail
    generalize w.alloc (Obj.cells #[.int .i64 x.1, .int .i64 x.2.1, .int .i64 x.2.2] 54) = w0 at *
    refine (HC.out _).mono ?_
    rintro y w1 ⟨rfl, b1⟩
    rw [HW.out]
    replace t1 := (cell_below b1) t1
    replace t2 := (cell_below b1) t2
    replace t3 := (cell_below b1) t3
    replace hT := (cell_below b1) hT
    replace cE := cE.below b1
    replace cP := cP.below b1
    replace cR := cR.below b1
    have B1 := Lib.hid (below_step B0.out b1)
    have e1 := cE.c
    have e2 := cP.c
    have e3 := cR.c
    have z1 := cE.z
    have z2 := cP.z
    have z3 := cR.z
    have CE := Lib.hid cE
    have CP := Lib.hid cP
    have CR := Lib.hid cR
    clear cE cP cR
    clear b1
    go_wp2_with fail
    go_ret
    exact ⟨by rw [HH.out]; rfl, (B1.out.mono HS.out).setCell (p := ⟨R, 0, none⟩) HB.out.2.2 _, by rw [HH.out]; exact CR.out.put _, fun h => by rw [HH.out] at h; cases h⟩
  | true =>
    have hx := win_iff.1 hw
    have HW := Lib.hid hw
    have HX : Hid (IntKind.i64.wrap (x.2.1 + x.2.2) = x.2.1 + x.2.2) := IntWalk.i64_in _ (by omega)
    by_cases c1 : e < x.2.1
    · have HH : Hid (nextB f e p x = true) := next_iff.2 ⟨hw, .inl c1⟩
      clear hw hx
      have s1 := HX.out
      go_enter Try.func26, Try.ntmps26
      go_wp2_with fail
      generalize w.alloc (Obj.cells #[.int .i64 x.1, .int .i64 x.2.1, .int .i64 x.2.2] 54) = w0 at *
      refine (HC.out _).mono ?_
      rintro y w1 ⟨rfl, b1⟩
      rw [HW.out]
      replace t1 := (cell_below b1) t1
      replace t2 := (cell_below b1) t2
      replace t3 := (cell_below b1) t3
      replace hT := (cell_below b1) hT
      replace cE := cE.below b1
      replace cP := cP.below b1
      replace cR := cR.below b1
      have B1 := Lib.hid (below_step B0.out b1)
      have e1 := cE.c
      have e2 := cP.c
      have e3 := cR.c
      have z1 := cE.z
      have z2 := cP.z
      have z3 := cR.z
      have CE := Lib.hid cE
      have CP := Lib.hid cP
      have CR := Lib.hid cR
      clear cE cP cR
      clear b1
      have n0 : w.heap.size ≠ R := HN.out
      have c0 : ∀ {q : Addr} {v : Value}, q.block ≠ R → w1.cell? q = some v → (w1.setCell ⟨R, 0, none⟩ (.bool true)).cell? q = some v := fun hq h => (World.cell?_of_block (w := w1) (Below.heap_setCell _ _ _ _ hq)).trans h
      have u1 := c0 n0 t1
      have u2 := c0 n0 t2
      have u3 := c0 n0 t3
      have C1 := Lib.hid (CE.out.far (p := ⟨R, 0, none⟩) h2 (.bool true))
      have C2 := Lib.hid (CP.out.far (p := ⟨R, 0, none⟩) h3 (.bool true))
      have C3 := Lib.hid (CR.out.put (.bool true))
      have B2 := Lib.hid ((B1.out.mono HS.out).setCell (p := ⟨R, 0, none⟩) HB.out.2.2 (.bool true))
      clear c0
      go_wp2_with fail
      generalize w1.setCell ⟨R, 0, none⟩ (.bool true) = w2 at *
      replace e1 := C1.out.c
      replace e2 := C2.out.c
      replace z1 := C1.out.z
      replace z2 := C2.out.z
      clear e3 z3 hT t1 t2 t3
      have v1 := (World.cell?_of_block (w := w2) (Below.heap_setCell w2 ⟨E, 0, none⟩ (.int .i64 (x.2.1 + x.2.2)) w.heap.size NE.out)).trans u1
      go_region
      have D1 := Lib.hid ((((C1.out.put (.int .i64 (x.2.1 + x.2.2))).far (p := ⟨P, 0, none⟩) h1 (.int .i64 x.1))).below (Below.refl _ _).drew)
      have D2 := Lib.hid ((((C2.out.far (p := ⟨E, 0, none⟩) h1.symm (.int .i64 (x.2.1 + x.2.2))).put (.int .i64 x.1))).below (Below.refl _ _).drew)
      have D3 := Lib.hid ((((C3.out.far (p := ⟨E, 0, none⟩) h2.symm (.int .i64 (x.2.1 + x.2.2))).far (p := ⟨P, 0, none⟩) h3.symm (.int .i64 x.1))).below (Below.refl _ _).drew)
      have B3 := Lib.hid (((B2.out.setCell (p := ⟨E, 0, none⟩) HB.out.1 (.int .i64 (x.2.1 + x.2.2))).setCell (p := ⟨P, 0, none⟩) HB.out.2.1 (.int .i64 x.1)).drew)
      generalize ((w2.setCell ⟨E, 0, none⟩ (.int .i64 (x.2.1 + x.2.2))).setCell ⟨P, 0, none⟩ (.int .i64 x.1)).drew = w3 at *
      have e3 := D3.out.c
      go_wp2_with fail
      go_ret
      exact ⟨by rw [HH.out]; rfl, B3.out, by rw [HH.out]; exact D3.out, fun _ => ⟨D1.out, D2.out⟩⟩
    · by_cases c2 : x.2.1 = e
      · subst c2
        by_cases c3 : x.1 = p
        · subst c3
          have HH : Hid (nextB f x.2.1 x.1 x = false) := by
            show _ = _
            cases hn : nextB f x.2.1 x.1 x with
            | false => rfl
            | true => have := next_iff.1 hn; omega
          clear hw hx
          go_enter Try.func26, Try.ntmps26
          go_wp2_with fail
          generalize w.alloc (Obj.cells #[.int .i64 x.1, .int .i64 x.2.1, .int .i64 x.2.2] 54) = w0 at *
          refine (HC.out _).mono ?_
          rintro y w1 ⟨rfl, b1⟩
          rw [HW.out]
          replace t1 := (cell_below b1) t1
          replace t2 := (cell_below b1) t2
          replace t3 := (cell_below b1) t3
          replace hT := (cell_below b1) hT
          replace cE := cE.below b1
          replace cP := cP.below b1
          replace cR := cR.below b1
          have B1 := Lib.hid (below_step B0.out b1)
          have e1 := cE.c
          have e2 := cP.c
          have e3 := cR.c
          have z1 := cE.z
          have z2 := cP.z
          have z3 := cR.z
          have CE := Lib.hid cE
          have CP := Lib.hid cP
          have CR := Lib.hid cR
          clear cE cP cR
          clear b1
          go_wp2_with fail
          go_ret
          exact ⟨by rw [HH.out]; rfl, (B1.out.mono HS.out).setCell (p := ⟨R, 0, none⟩) HB.out.2.2 _, by rw [HH.out]; exact CR.out.put _, fun h => by rw [HH.out] at h; cases h⟩
        · have HH : Hid (nextB f x.2.1 p x = true) := next_iff.2 ⟨hw, .inr ⟨rfl, c3⟩⟩
          have d2 : (x.1 != p) = true := bne_iff_ne.2 c3
          clear hw hx
          have s1 := HX.out
          go_enter Try.func26, Try.ntmps26
          go_wp2_with fail
          generalize w.alloc (Obj.cells #[.int .i64 x.1, .int .i64 x.2.1, .int .i64 x.2.2] 54) = w0 at *
          refine (HC.out _).mono ?_
          rintro y w1 ⟨rfl, b1⟩
          rw [HW.out]
          replace t1 := (cell_below b1) t1
          replace t2 := (cell_below b1) t2
          replace t3 := (cell_below b1) t3
          replace hT := (cell_below b1) hT
          replace cE := cE.below b1
          replace cP := cP.below b1
          replace cR := cR.below b1
          have B1 := Lib.hid (below_step B0.out b1)
          have e1 := cE.c
          have e2 := cP.c
          have e3 := cR.c
          have z1 := cE.z
          have z2 := cP.z
          have z3 := cR.z
          have CE := Lib.hid cE
          have CP := Lib.hid cP
          have CR := Lib.hid cR
          clear cE cP cR
          clear b1
          have n0 : w.heap.size ≠ R := HN.out
          have c0 : ∀ {q : Addr} {v : Value}, q.block ≠ R → w1.cell? q = some v → (w1.setCell ⟨R, 0, none⟩ (.bool true)).cell? q = some v := fun hq h => (World.cell?_of_block (w := w1) (Below.heap_setCell _ _ _ _ hq)).trans h
          have u1 := c0 n0 t1
          have u2 := c0 n0 t2
          have u3 := c0 n0 t3
          have C1 := Lib.hid (CE.out.far (p := ⟨R, 0, none⟩) h2 (.bool true))
          have C2 := Lib.hid (CP.out.far (p := ⟨R, 0, none⟩) h3 (.bool true))
          have C3 := Lib.hid (CR.out.put (.bool true))
          have B2 := Lib.hid ((B1.out.mono HS.out).setCell (p := ⟨R, 0, none⟩) HB.out.2.2 (.bool true))
          clear c0
          go_wp2_with fail
          generalize w1.setCell ⟨R, 0, none⟩ (.bool true) = w2 at *
          replace e1 := C1.out.c
          replace e2 := C2.out.c
          replace z1 := C1.out.z
          replace z2 := C2.out.z
          clear e3 z3 hT t1 t2 t3
          have v1 := (World.cell?_of_block (w := w2) (Below.heap_setCell w2 ⟨E, 0, none⟩ (.int .i64 (x.2.1 + x.2.2)) w.heap.size NE.out)).trans u1
          go_region
          have D1 := Lib.hid ((((C1.out.put (.int .i64 (x.2.1 + x.2.2))).far (p := ⟨P, 0, none⟩) h1 (.int .i64 x.1))).below (Below.refl _ _).drew)
          have D2 := Lib.hid ((((C2.out.far (p := ⟨E, 0, none⟩) h1.symm (.int .i64 (x.2.1 + x.2.2))).put (.int .i64 x.1))).below (Below.refl _ _).drew)
          have D3 := Lib.hid ((((C3.out.far (p := ⟨E, 0, none⟩) h2.symm (.int .i64 (x.2.1 + x.2.2))).far (p := ⟨P, 0, none⟩) h3.symm (.int .i64 x.1))).below (Below.refl _ _).drew)
          have B3 := Lib.hid (((B2.out.setCell (p := ⟨E, 0, none⟩) HB.out.1 (.int .i64 (x.2.1 + x.2.2))).setCell (p := ⟨P, 0, none⟩) HB.out.2.1 (.int .i64 x.1)).drew)
          generalize ((w2.setCell ⟨E, 0, none⟩ (.int .i64 (x.2.1 + x.2.2))).setCell ⟨P, 0, none⟩ (.int .i64 x.1)).drew = w3 at *
          have e3 := D3.out.c
          go_wp2_with fail
          go_ret
          exact ⟨by rw [HH.out]; rfl, B3.out, by rw [HH.out]; exact D3.out, fun _ => ⟨D1.out, D2.out⟩⟩
      · have HH : Hid (nextB f e p x = false) := by
          show _ = _
          cases hn : nextB f e p x with
          | false => rfl
          | true => have := next_iff.1 hn; omega
        have d1 : decide (e < x.2.1) = false := decide_eq_false c1
        clear hw hx
        go_enter Try.func26, Try.ntmps26
        go_wp2_with fail
        generalize w.alloc (Obj.cells #[.int .i64 x.1, .int .i64 x.2.1, .int .i64 x.2.2] 54) = w0 at *
        refine (HC.out _).mono ?_
        rintro y w1 ⟨rfl, b1⟩
        rw [HW.out]
        replace t1 := (cell_below b1) t1
        replace t2 := (cell_below b1) t2
        replace t3 := (cell_below b1) t3
        replace hT := (cell_below b1) hT
        replace cE := cE.below b1
        replace cP := cP.below b1
        replace cR := cR.below b1
        have B1 := Lib.hid (below_step B0.out b1)
        have e1 := cE.c
        have e2 := cP.c
        have e3 := cR.c
        have z1 := cE.z
        have z2 := cP.z
        have z3 := cR.z
        have CE := Lib.hid cE
        have CP := Lib.hid cP
        have CR := Lib.hid cR
        clear cE cP cR
        clear b1
        go_wp2_with fail
        go_ret
        exact ⟨by rw [HH.out]; rfl, (B1.out.mono HS.out).setCell (p := ⟨R, 0, none⟩) HB.out.2.2 _, by rw [HH.out]; exact CR.out.put _, fun h => by rw [HH.out] at h; cases h⟩

theorem rightEnters : ∀ args w, (callFunc 26 args).run Try.prog w = .ok (.enter 26 args) w := enters_of Try.func26 (by kernel_rfl) rfl

/-- the boxes of Right -/
def boxR (w : World) (f : Int) (A : Option Addr) (n c : Nat) : World := (((w.alloc (.cells #[.int .i64 f, .slice A n c] 24)).alloc (.cells #[.int .i64 0] 3)).alloc (.cells #[.int .i64 (-1)] 3)).alloc (.cells #[.bool true] 4)
/-- while windows are passed: k of them were fine -/
structure InR (w : World) (f : Int) (W : List Win) (w' : World) (k : Nat) : Prop where
  low : Below w.heap.size w w'
  t : w'.cell? ⟨w.heap.size, 0, none⟩ = some (.int .i64 f)
  e : Cv w' (w.heap.size + 1) (.int .i64 (endW W k))
  p : Cv w' (w.heap.size + 1 + 1) (.int .i64 (partW W k))
  r : Cv w' (w.heap.size + 1 + 1 + 1) (.bool true)
  fine : Fine f W k
theorem InR.below {w w1 w2 : World} {f : Int} {W : List Win} {k : Nat} (h : InR w f W w1 k) (b : Below w1.heap.size w1 w2) : InR w f W w2 k :=
  ⟨h.low.trans (b.mono h.low.size), cell_below b h.t, h.e.below b, h.p.below b, h.r.below b, h.fine⟩
theorem inR (w : World) (f : Int) (A : Option Addr) (c : Nat) (W : List Win) : InR w f W (boxR w f A W.length c) 0 := by
  unfold boxR
  refine ⟨(below_three _ _ _ _).alloc (by simp; omega) _, ?_, ⟨?_, ?_⟩, ⟨?_, ?_⟩, ⟨?_, ?_⟩, fun i hi => by omega⟩ <;> first | (go_simp; done) | (show World.cell? _ _ = some (.int .i64 0); go_simp; done) | (show World.cell? _ _ = some (.int .i64 (-1)); go_simp; done)

set_option maxHeartbeats 1600000 in
theorem right_any (f : Int) (A : Option Addr) (c : Nat) (W : List Win) (w : World) (H : WL w A c W) :
    Calls Try.prog 11 #[.agg #[.int .i64 f, .slice A W.length c]] w fun e w' => e = .returned (.bool (rightB f W)) ∧ Below w.heap.size w w' := by
  have b0 := below_one w (Obj.cells #[.int .i64 f, .slice A W.length c] 24)
  by_cases h1 : f < 1
  · have HH := Lib.hid (right_bad (f := f) (W := W) (by omega))
    go_enter Try.func11, Try.ntmps11
    go_wp2_with fail
    go_ret
    exact ⟨ret_bool HH.out.symm, b0⟩
  · by_cases h2 : 240 < f
    · have HH := Lib.hid (right_bad (f := f) (W := W) (by omega))
      go_enter Try.func11, Try.ntmps11
      go_wp2_with fail
      go_ret
      exact ⟨ret_bool HH.out.symm, b0⟩
    · have HI := Lib.hid (inR w f A c W)
      have HW := Lib.hid H
      have HF : Hid (0 ≤ f ∧ f ≤ 240) := by show _ ∧ _; omega
      have HF1 : Hid (1 ≤ f ∧ f ≤ 240) := by show _ ∧ _; omega
      clear H
      go_enter Try.func11, Try.ntmps11
      go_wp2_with fail
      rw [← boxR]
      refine (pass_any _ _ rightEnters A c W HW.out.1 (InR w f W) (fun w' => Below w.heap.size w w' ∧ Cv w' (w.heap.size + 1 + 1 + 1) (.bool false) ∧ rightB f W = false) (fun _ _ _ h b => h.below b) (fun _ _ h => (HW.out.2.below h.low)) (fun wr k hk h => ?_) _ HI.out).mono ?_
      · have hs := h.r.lt
        refine (right_closure (w.heap.size + 1) w.heap.size (w.heap.size + 1) (w.heap.size + 1 + 1) (w.heap.size + 1 + 1 + 1) f (endW W k) (partW W k) (at_ W k) wr ⟨by omega, by omega, by omega⟩ (by omega) (by omega) (by omega) (by omega) HF.out (win_fit (HW.out.2.below h.low) hk).2.1 h.t h.e h.p h.r).mono ?_
        rintro a w' ⟨a1, a2, a3, a4⟩
        have hb := h.low.trans (a2.mono (by omega))
        refine ⟨_, a1, fun hn => ?_, fun hn => ?_⟩
        · rw [hn] at a3
          refine ⟨hb, (a2.cell (by show w.heap.size < _; omega)).trans h.t, ?_, ?_, a3, next_fine h.fine hn⟩
          · rw [endW_succ]; exact (a4 hn).1
          · rw [partW_succ]; exact (a4 hn).2
        · rw [hn] at a3
          exact ⟨hb, a3, next_bad hk hn⟩
      · rintro e w1 ⟨rfl, h⟩
        rcases h with h | ⟨g1, g2, g3⟩
        · have r1 := h.r.c
          have HH : Hid (rightB f W = true) := right_iff.2 ⟨HF1.out, h.fine⟩
          have B1 := Lib.hid h.low
          clear h HI
          go_wp2_with fail
          go_ret
          exact ⟨ret_bool HH.out.symm, B1.out⟩
        · have r1 := g2.c
          have HH := Lib.hid g3
          have B1 := Lib.hid g1
          clear g1 g2 g3 HI
          go_wp2_with fail
          go_ret
          exact ⟨ret_bool HH.out.symm, B1.out⟩

end Tb
end Go.Proofs.Ytpodahnmdakjjaa

/-
  Layer 13 (table): At.
-/
namespace Go.Proofs.Ytpodahnmdakjjaa
open Go.RowKit Mm
namespace Tb

/-- what the closure of At does -/
structure HitOf (B P : Nat) (q : Int) (x : Win) (a : Ending) (w w' : World) : Prop where
  a : a = .returned (.bool (decide (¬ In x q)))
  low : Below B w w'
  p : Cv w' P (.int .i64 (if In x q then x.1 else -1))

set_option maxHeartbeats 1600000 in
theorem at_closure (B Q P : Nat) (q f : Int) (x : Win) (w : World) (hB : B ≤ P) (hS : B ≤ w.heap.size) (_h1 : Q ≠ P) (hf : f ≤ 240) (hx : winB f x = true) (hQ : w.cell? ⟨Q, 0, none⟩ = some (.int .i64 q)) (cP : Cv w P (.int .i64 (-1))) :
    Calls Try.prog 28 #[winV x, .pointer (some ⟨Q, 0, none⟩), .pointer (some ⟨P, 0, none⟩)] w fun a w' => HitOf B P q x a w w' := by
  obtain ⟨t1, t2, t3⟩ := wx_new w x
  have b0 := below_one w (Obj.cells #[.int .i64 x.1, .int .i64 x.2.1, .int .i64 x.2.2] 54)
  replace hQ := cell_below b0 hQ
  replace cP := cP.below b0
  have B0 := Lib.hid b0
  have HB := Lib.hid hB
  have HS := Lib.hid hS
  obtain ⟨g1, g2, g3, g4, g5⟩ := win_iff.1 hx
  have s1 : IntKind.i64.wrap (x.2.1 + x.2.2) = x.2.1 + x.2.2 := IntWalk.i64_in _ (by omega)
  have e1 := cP.c
  have z1 := cP.z
  have CP := Lib.hid cP
  have d1 : (x.1 == (-1 : Int)) = false := beq_eq_false_iff_ne.2 (by omega)
  have d2 : ¬ x.1 = (-1 : Int) := by omega
  unfold winV
  by_cases c1 : x.2.1 ≤ q
  · by_cases c2 : q < x.2.1 + x.2.2
    · have HH : Hid (In x q) := ⟨c1, c2⟩
      clear b0 hB hS hf hx g1 g2 g3 g4 g5 cP
      go_enter Try.func28, Try.ntmps28
      go_wp2_with fail
      go_ret
      exact ⟨by rw [decide_eq_false (fun h => h HH.out)]; rfl, (B0.out.mono HS.out).setCell (p := ⟨P, 0, none⟩) HB.out _, by rw [if_pos HH.out]; exact CP.out.put _⟩
    · have HH : Hid (¬ In x q) := fun h => c2 h.2
      clear b0 hB hS hf hx g1 g2 g3 g4 g5 cP
      go_enter Try.func28, Try.ntmps28
      go_wp2_with fail
      go_ret
      exact ⟨by rw [decide_eq_true HH.out]; rfl, B0.out.mono HS.out, by rw [if_neg HH.out]; exact CP.out⟩
  · have HH : Hid (¬ In x q) := fun h => c1 h.1
    clear b0 hB hS hf hx g1 g2 g3 g4 g5 cP
    go_enter Try.func28, Try.ntmps28
    go_wp2_with fail
    go_ret
    exact ⟨by rw [decide_eq_true HH.out]; rfl, B0.out.mono HS.out, by rw [if_neg HH.out]; exact CP.out⟩
theorem atEnters : ∀ args w, (callFunc 28 args).run Try.prog w = .ok (.enter 28 args) w := enters_of Try.func28 (by kernel_rfl) rfl

/-- what At answers -/
def atV (f : Int) (W : List Win) (t : Int) : Int := if 0 ≤ t ∧ rightB f W = true then tk W (t % f) else -1
theorem atV_of {fr q t : Nat} {W : List Win} (h : rightB fr W = true) (hq : t % fr = q) : atV fr W t = tk W q := by
  unfold atV
  rw [if_pos ⟨by omega, h⟩, ← hq]
  push_cast
  rfl

/-- while windows are passed: none of k has the tick -/
structure InA (w : World) (q : Int) (W : List Win) (w' : World) (k : Nat) : Prop where
  low : Below w.heap.size w w'
  c : w'.cell? ⟨w.heap.size, 0, none⟩ = some (.int .i64 q)
  p : Cv w' (w.heap.size + 1) (.int .i64 (-1))
  no : ∀ j, j < k → ¬ In (at_ W j) q
theorem InA.below {w w1 w2 : World} {q : Int} {W : List Win} {k : Nat} (h : InA w q W w1 k) (b : Below w1.heap.size w1 w2) : InA w q W w2 k :=
  ⟨h.low.trans (b.mono h.low.size), cell_below b h.c, h.p.below b, h.no⟩
def boxA (w : World) (q : Int) : World := (w.alloc (.cells #[.int .i64 q] 3)).alloc (.cells #[.int .i64 (-1)] 3)
theorem inA (w : World) (q : Int) (W : List Win) : InA w q W (boxA w q) 0 := by
  unfold boxA
  refine ⟨below_two _ _ _, ?_, ⟨?_, ?_⟩, fun i hi => by omega⟩ <;> go_simp

set_option maxHeartbeats 1600000 in
theorem at_any (f : Int) (A : Option Addr) (c : Nat) (W : List Win) (t : Int) (w : World) (H : WL w A c W) :
    Calls Try.prog 12 #[.agg #[.int .i64 f, .slice A W.length c], .int .i64 t] w fun e w' => e = .returned (.int .i64 (atV f W t)) ∧ Below w.heap.size w w' := by
  have b0 := below_one w (Obj.cells #[.int .i64 f, .slice A W.length c] 24)
  have hT := tx_new w f A W.length c
  obtain ⟨t1, t2⟩ := hT
  have HL := Lib.hid (H.below b0)
  have B0 := Lib.hid b0
  clear b0 H
  by_cases h1 : t < 0
  · have HH : Hid (atV f W t = -1) := by show _ = _; unfold atV; rw [if_neg (by omega)]
    go_enter Try.func12, Try.ntmps12
    go_wp2_with fail
    go_ret
    exact ⟨ret_int HH.out.symm, B0.out⟩
  · cases hr : rightB f W with
    | false =>
      have HH : Hid (atV f W t = -1) := by show _ = _; unfold atV; rw [if_neg (by rw [hr]; simp)]
      have HR := Lib.hid hr
      clear hr
      go_enter Try.func12, Try.ntmps12
      go_wp2_with fail
      generalize w.alloc (Obj.cells #[.int .i64 f, .slice A W.length c] 24) = w0 at *
      refine (right_any f A c W _ HL.out).mono ?_
      rintro e w1 ⟨rfl, b1⟩
      rw [HR.out]
      have B1 := Lib.hid (below_step B0.out b1)
      clear b1
      go_wp2_with fail
      go_ret
      exact ⟨ret_int HH.out.symm, B1.out⟩
    | true =>
      obtain ⟨hf, hfine⟩ := right_iff.1 hr
      obtain ⟨fr, rfl⟩ : ∃ fr : Nat, f = fr := ⟨f.toNat, by omega⟩
      obtain ⟨n, rfl⟩ : ∃ n : Nat, t = n := ⟨t.toNat, by omega⟩
      obtain ⟨q, hq⟩ : ∃ q, n % fr = q := ⟨_, rfl⟩
      have q1 : (n : Int) % (fr : Int) = (q : Int) := by rw [← hq]; push_cast; rfl
      have q2 : (n : Int).tmod (fr : Int) = (q : Int) := by rw [Int.tmod_eq_emod_of_nonneg (by omega), q1]
      have hq2 : q < fr := by rw [← hq]; exact Nat.mod_lt _ (by omega)
      have q3 : IntKind.i64.wrap (q : Int) = (q : Int) := IntWalk.i64_in _ (by omega)
      have j1 : ¬ (fr : Int) = 0 := by omega
      have j2 : ¬ fr = 0 := by omega
      have HH := Lib.hid (atV_of hr hq)
      have HF := Lib.hid hfine
      have HF2 : Hid ((fr : Int) ≤ 240) := hf.2
      have HR := Lib.hid hr
      clear hr hq hfine
      go_enter Try.func12, Try.ntmps12
      go_wp2_with fail
      generalize w.alloc (Obj.cells #[.int .i64 (fr : Int), .slice A W.length c] 24) = w0 at *
      refine (right_any fr A c W _ HL.out).mono ?_
      rintro e w1 ⟨rfl, b1⟩
      rw [HR.out]
      have B1 := Lib.hid (below_step B0.out b1)
      replace HL := Lib.hid (HL.out.below b1)
      replace t1 := (cell_below b1) t1
      replace t2 := (cell_below b1) t2
      clear b1
      have b2 := below_two w1 (Obj.cells #[.int .i64 (q : Int)] 3) (Obj.cells #[.int .i64 (-1)] 3)
      have u1 := cell_below b2 t1
      have u2 := cell_below b2 t2
      have HI := Lib.hid (inA w1 q W)
      have HL2 := Lib.hid (HL.out.below b2)
      clear b2
      go_wp2_with fail
      rw [← boxA]
      refine (pass_any _ _ atEnters A c W HL.out.1 (InA w1 q W) (fun w' => Below w1.heap.size w1 w' ∧ Cv w' (w1.heap.size + 1) (.int .i64 (tk W q))) (fun _ _ _ h b => h.below b) (fun _ _ h => (HL.out.2.below h.low)) (fun wr k hk h => ?_) _ HI.out).mono ?_
      · have hs := h.p.lt
        refine (at_closure (w1.heap.size + 1) w1.heap.size (w1.heap.size + 1) q fr (at_ W k) wr (Nat.le_refl _) (by omega) (by omega) HF2.out (HF.out k hk).1 h.c h.p).mono ?_
        rintro a w' ⟨a1, a2, a3⟩
        have hb := h.low.trans (a2.mono (by omega))
        refine ⟨_, a1, fun hn => ?_, fun hn => ?_⟩
        · have hn' := of_decide_eq_true hn
          rw [if_neg hn'] at a3
          refine ⟨hb, (a2.cell (by show w1.heap.size < _; omega)).trans h.c, a3, fun j hj => ?_⟩
          by_cases e : j = k
          · subst e; exact hn'
          · exact h.no j (by omega)
        · have hn' : In (at_ W k) q := Classical.byContradiction fun h' => by rw [decide_eq_true h'] at hn; cases hn
          rw [if_pos hn', ← HF.out.one hk hn'] at a3
          exact ⟨hb, a3⟩
      · rintro e w2 ⟨rfl, h⟩
        rcases h with h | ⟨g1, g2⟩
        · have r1 := h.p.c
          have HT := Lib.hid (tk_none h.no)
          have B2 := Lib.hid (below_step B1.out h.low)
          clear h HI u1 u2 t1 t2
          go_wp2_with fail
          go_ret
          exact ⟨ret_int (by rw [HH.out, HT.out]), B2.out⟩
        · have r1 := g2.c
          have B2 := Lib.hid (below_step B1.out g1)
          clear g1 g2 HI u1 u2 t1 t2
          go_wp2_with fail
          go_ret
          exact ⟨ret_int HH.out.symm, B2.out⟩

end Tb
end Go.Proofs.Ytpodahnmdakjjaa

/-
  Layer 13 (table): the library's Repeat of one int; its product of two words at 1.
-/
namespace Go.Proofs.Ytpodahnmdakjjaa
open Go.RowKit Mm
namespace Tb

set_option maxHeartbeats 1600000 in
theorem mul64_one (n : Nat) (hn : n < 4294967296) (w : World) : Calls Try.prog 44 #[.int .u64 1, .int .u64 n] w fun e w' => e = .returned (.tuple #[.int .u64 0, .int .u64 n]) ∧ w' = w := by
  have m1 : bits .and .u64 1 4294967295 = 1 := by rfl
  have m2 : bits .and .u64 (n : Int) 4294967295 = (n : Int) := by rw [Mul64.maskN n (by omega), Nat.mod_eq_of_lt hn]
  have m3 : (n : Int) / 4294967296 = 0 := Int.ediv_eq_zero_of_lt (by omega) (by omega)
  have m4 : IntKind.u64.wrap (n : Int) = (n : Int) := by rw [IntKind.wrap_u64]; omega
  have m5 : bits .and .u64 0 4294967295 = 0 := by rfl
  go_enter Try.func44, Try.ntmps44
  go_wp2
  go_ret2
  refine ⟨?_, rfl⟩
  simp
  done
theorem mul_one_ (n : Nat) (hn : n < 4294967296) (w : World) : Calls Try.prog 38 #[.int .u64 1, .int .u64 n] w fun e w' => e = .returned (.tuple #[.int .u64 0, .int .u64 n]) ∧ w' = w := by
  go_enter Try.func38, Try.ntmps38
  go_wp2_with fail
  refine (mul64_one n hn w).mono ?_
  rintro e w1 ⟨rfl, rfl⟩
  go_wp2_with fail
  go_ret2
  exact ⟨rfl, rfl⟩

/-- m times a number, behind them noughts: N cells -/
def repl (x : Int) (m N : Nat) : List Value := List.replicate m (.int .i64 x) ++ List.replicate (N - m) (.int .i64 0)
theorem repl_length {x : Int} {m N : Nat} (h : m ≤ N) : (repl x m N).length = N := by simp [repl]; omega
theorem repl_at {x : Int} {m N j : Nat} (h : j < m) : (repl x m N)[j]? = some (.int .i64 x) := by
  unfold repl
  rw [List.getElem?_append_left (by simpa using h), List.getElem?_replicate, if_pos h]
theorem repl_splice {x : Int} {m k N : Nat} (h : m + k ≤ N) : splice (repl x m N) m (List.replicate k (.int .i64 x)) = repl x (m + k) N := by
  unfold splice repl
  rw [List.length_replicate, List.take_left' (by simp), List.drop_append, List.drop_eq_nil_of_le (by simp), List.nil_append, List.length_replicate, List.drop_replicate, ← List.append_assoc, List.replicate_append_replicate]
  congr 2
  omega
theorem made_repl (x : Int) (N : Nat) : madeCells #[.int .i64 0] N = (repl x 0 N).toArray := by
  apply Array.ext
  · simp [madeCells, repl]
  · intro i h1 h2
    simp [madeCells, repl, Nat.mod_one]
/-- block g holds them -/
def Rp (w : World) (g : Nat) (x : Int) (m N : Nat) : Prop := w.heap[g]? = some (.cells (repl x m N).toArray 3 (0, 0))
theorem Rp.cell {w : World} {g : Nat} {x : Int} {m N j : Nat} (h : Rp w g x m N) (hj : j < m) : w.cell? ⟨g, j, none⟩ = some (.int .i64 x) := by
  unfold Rp at h
  have := repl_at (x := x) (N := N) hj
  simp [World.cell?, h, this]
theorem Rp.ti {w : World} {g : Nat} {x : Int} {N : Nat} (h : Rp w g x N N) : Ti w g N (fun _ => x) :=
  ⟨fun j hj => h.cell hj, fun j => by unfold Rp at h; simp [World.frozen?, h], by
    unfold Rp at h
    rcases Nat.lt_or_ge g w.heap.size with h' | h'
    · exact h'
    · rw [Array.getElem?_eq_none h'] at h; cases h⟩
theorem rp_new (w : World) (x : Int) (N : Nat) : Rp (w.alloc (.cells (madeCells #[.int .i64 0] N) 3)) w.heap.size x 0 N := by
  unfold Rp
  rw [made_repl x N]
  exact heap_alloc_new _ _

theorem sizeInt : (Try.prog.info? 3).map (·.size) = some 1 := by kernel_rfl

set_option maxHeartbeats 3200000 in
theorem rep_any (A : Option Addr) (c : Nat) (x : Int) (n : Nat) (w : World) (h1 : 1 ≤ n) (h2 : n ≤ 240) (hr : Rd w A c [x]) :
    Calls Try.prog 23 #[.slice A 1 c, .int .i64 n] w fun e w' => e = .returned (.slice (some ⟨w.heap.size, 0, none⟩) n n) ∧ Ti w' w.heap.size n (fun _ => x) ∧ Below w.heap.size w w' := by
  have m1 : IntKind.u64.wrap (n : Int) = (n : Int) := by rw [IntKind.wrap_u64]; omega
  have m2 : IntKind.i64.wrap (n : Int) = (n : Int) := IntWalk.i64_in _ (by omega)
  have HM := Lib.hid (fun W => mul_one_ n (by omega) W)
  obtain ⟨b, off, rfl, hc⟩ := hr.int (by simp)
  have x1 := (hc 0 (by simp)).1
  rw [Nat.add_zero] at x1
  have x2 : w.cell? ⟨b, off, none⟩ = some (.int .i64 x) := x1
  clear x1 hc hr
  have HR0 := Lib.hid (rp_new w x n)
  have B0 := Lib.hid (below_one w (Obj.cells (madeCells #[.int .i64 0] n) 3))
  have x3 := cell_below B0.out x2
  go_enter Try.func23, Try.ntmps23
  go_wp2_with fail
  refine (HM.out _).mono ?_
  rintro e w1 ⟨rfl, rfl⟩
  have HSRC : Hid (∀ j v, (List.replicate 1 (Value.int .i64 x))[j]? = some v → (w1.alloc (.cells (madeCells #[.int .i64 0] n) 3)).cell? ((⟨b, off, none⟩ : Addr).add j) = some v) := fun j v hv => by
    match j, hv with
    | 0, hv => simp at hv; subst hv; simpa [Addr.add] using x3
    | j + 1, hv => simp at hv
  have HMIN : Hid ((List.replicate 1 (Value.int .i64 x)).length = Nat.min 1 n) := by show _ = _; rw [List.length_replicate]; exact (Nat.min_eq_left h1).symm
  have HFIT : Hid (0 + (List.replicate 1 (Value.int .i64 x)).length ≤ (repl x 0 n).length) := by show _ ≤ _; rw [repl_length (Nat.zero_le _), List.length_replicate]; omega
  have HONE : Hid (∀ v ∈ List.replicate 1 (Value.int .i64 x), v.oneCell' = true) := fun v hv => by rw [List.eq_of_mem_replicate hv]; rfl
  go_wp2_with (first
    | (at_make; refine list_ints rfl _ _ rfl n rfl rfl (by omega) ?_)
    | (refine wpList_copy_splice rfl _ _ _ _ rfl 3 Try.underlying26 sizeInt _ _ _ _ _ _ rfl rfl w1.heap.size 0 (repl x 0 n) 3 HR0.out (List.replicate 1 (.int .i64 x)) HMIN.out (fun _ => ⟨rfl, _, rfl, HSRC.out⟩) HFIT.out HONE.out w1.heap.size w1 B0.out (Nat.le_refl _) ?_; intro w4 hg4 hb4))
  have HR4 : Hid (Rp w4 w1.heap.size x 1 n) := by
    have h := hg4.out
    rw [repl_splice (by omega)] at h
    exact h
  have HB4 := Lib.hid hb4
  clear hg4 hb4 HSRC HMIN HFIT HONE HR0 B0 HM x2 x3
  go_loopw [8] (fun i wr => ∃ m : Nat, i = .int .i64 m ∧ 1 ≤ m ∧ m ≤ n ∧ Hid (Rp wr w1.heap.size x m n) ∧ Hid (Below w1.heap.size w1 wr)) (fun i _ => n - (intOf i).toNat)
  case atStart => exact ⟨1, rfl, Nat.le_refl _, h1, HR4.out, HB4.out⟩
  case round =>
    obtain ⟨m, rfl, hm1, hm, HR, HB⟩ := hrel
    by_cases hlt : m < n
    · obtain ⟨k, hk⟩ : ∃ k, k = Nat.min m (n - m) := ⟨_, rfl⟩
      have hk1 : 1 ≤ k ∧ k ≤ m ∧ k ≤ n - m := by rw [hk]; exact ⟨Nat.le_min.2 ⟨hm1, by omega⟩, Nat.min_le_left _ _, Nat.min_le_right _ _⟩
      have HSRC : Hid (∀ j v, (List.replicate k (Value.int .i64 x))[j]? = some v → wr.drew.cell? ((⟨w1.heap.size, 0, none⟩ : Addr).add j) = some v) := fun j v hv => by
        rw [List.getElem?_replicate] at hv
        split at hv
        · rename_i hj
          injection hv with hv
          subst hv
          have : wr.cell? ⟨w1.heap.size, j, none⟩ = _ := HR.out.cell (show j < m by omega)
          rw [show ((⟨w1.heap.size, 0, none⟩ : Addr).add j) = ⟨w1.heap.size, j, none⟩ from by unfold Addr.add; split <;> simp_all]
          exact this
        · cases hv
      have HMIN : Hid ((List.replicate k (Value.int .i64 x)).length = Nat.min m (n - m)) := by show _ = _; rw [List.length_replicate]; exact hk
      have HFIT : Hid (m + (List.replicate k (Value.int .i64 x)).length ≤ (repl x m n).length) := by show _ ≤ _; rw [repl_length hm, List.length_replicate]; omega
      have HONE : Hid (∀ v ∈ List.replicate k (Value.int .i64 x), v.oneCell' = true) := fun v hv => by rw [List.eq_of_mem_replicate hv]; rfl
      have HRD : Hid (wr.drew.heap[w1.heap.size]? = some (.cells (repl x m n).toArray 3 (0, 0))) := HR.out
      have HBD := Lib.hid (HB.out.drew)
      have HSP := Lib.hid (repl_splice (x := x) (m := m) (k := k) (N := n) (by omega))
      have HK := Lib.hid hk1
      have j1 : (0 : Int) ≤ (m : Int) := by omega
      have j2 : (m : Int) ≤ (n : Int) := by omega
      have j3 : ¬ (m : Int) = (n : Int) := by omega
      have j4 : ¬ m = n := by omega
      have j5 : ¬ (n : Int) = (m : Int) := by omega
      have j6 : ¬ n = m := by omega
      have e1 : IntKind.i64.wrap ((m : Int) + (k : Int)) = (m : Int) + (k : Int) := IntWalk.i64_in _ (by omega)
      have HLK : Hid ((List.replicate k (Value.int .i64 x)).length = k) := List.length_replicate ..
      clear hk hk1
      go_wp2_with fail
      go_region_law (refine step_copy_splice rfl (.tmp 41) (.tmp 44) _ _ rfl 3 Try.underlying26 sizeInt (some ⟨w1.heap.size, m, none⟩) (some ⟨w1.heap.size, 0, none⟩) (n - m) (n - m) m n (by go_simp) (by go_simp) w1.heap.size m (repl x m n) 3 HRD.out (List.replicate k (.int .i64 x)) HMIN.out (fun _ => ⟨rfl, _, rfl, HSRC.out⟩) HFIT.out HONE.out w1.heap.size w1 HBD.out (Nat.le_refl _) ?_; intro w5 hg5 hb5)
      have HR5 : Hid (Rp w5 w1.heap.size x (m + k) n) := by
        have h := hg5.out
        rw [HSP.out] at h
        exact h
      have HB5 := Lib.hid hb5
      clear hg5 hb5
      go_simp
      go_wp2_with fail
      go_roundw
      case rel => exact ⟨m + k, by go_num, by omega, by have := HK.out; omega, HR5, HB5⟩
      case measure => (have := HK.out; simp [intOf] <;> omega)
    · have hmn : m = n := by omega
      subst hmn
      go_wp2_with fail
      go_ret
      exact ⟨rfl, HR.out.ti, HB.out⟩

end Tb
end Go.Proofs.Ytpodahnmdakjjaa

/-
  Layer 13 (table): Ticks.
-/
namespace Go.Proofs.Ytpodahnmdakjjaa
open Go.RowKit Mm
namespace Tb

/-- whose a tick is, one window more laid over what was -/
def over (x : Win) (h : Nat → Int) (j : Nat) : Int := if In x (j : Int) then x.1 else h j
/-- .. its first i ticks alone -/
def overTo (x : Win) (h : Nat → Int) (i j : Nat) : Int := if x.2.1 ≤ (j : Int) ∧ (j : Int) < x.2.1 + i then x.1 else h j

/-- what the closure of Ticks does -/
structure LaidOf (B T g fr : Nat) (x : Win) (h : Nat → Int) (a : Ending) (w w' : World) : Prop where
  a : a = .returned (.bool true)
  low : Below B w w'
  t : w'.cell? ⟨T, 0, none⟩ = some (.slice (some ⟨g, 0, none⟩) fr fr)
  l : Ti w' g fr (over x h)

set_option maxHeartbeats 1600000 in
theorem ticks_closure (B T g fr : Nat) (x : Win) (h : Nat → Int) (w : World) (hB : B ≤ g) (hS : B ≤ w.heap.size) (h1 : T ≠ g) (hf : fr ≤ 240) (hx : winB fr x = true) (hT : w.cell? ⟨T, 0, none⟩ = some (.slice (some ⟨g, 0, none⟩) fr fr)) (hL : Ti w g fr h) :
    Calls Try.prog 25 #[winV x, .pointer (some ⟨T, 0, none⟩)] w fun a w' => LaidOf B T g fr x h a w w' := by
  obtain ⟨p, a, n⟩ := x
  obtain ⟨g1, g2, g3, g4, g5⟩ := win_iff.1 hx
  simp only at g1 g2 g3 g4 g5
  obtain ⟨a, rfl⟩ : ∃ a' : Nat, a = a' := ⟨a.toNat, by omega⟩
  obtain ⟨n, rfl⟩ : ∃ n' : Nat, n = n' := ⟨n.toNat, by omega⟩
  obtain ⟨t1, t2, t3⟩ := wx_new w (p, (a : Int), (n : Int))
  have b0 := below_one w (Obj.cells #[.int .i64 p, .int .i64 (a : Int), .int .i64 (n : Int)] 54)
  have hg : g < w.heap.size := hL.lt
  have HL := Lib.hid (hL.below b0)
  have HT := Lib.hid (cell_below b0 hT)
  have B0 := Lib.hid b0
  have HB := Lib.hid hB
  have HS := Lib.hid hS
  have n1 : some w.heap.size ≠ some g := fun e => by injection e with e; omega
  have n2 : some T ≠ some g := fun e => by injection e with e; exact h1 e
  unfold winV
  clear b0 hB hS hx hT hL
  have HN := Lib.hid n1
  have HN2 := Lib.hid n2
  clear n1 n2 h1 hg
  go_enter Try.func25, Try.ntmps25
  go_wp2_with fail
  generalize w.alloc (Obj.cells #[.int .i64 p, .int .i64 (a : Int), .int .i64 (n : Int)] 54) = w0 at *
  go_loopw [7] (fun i wr => ∃ m : Nat, i = .int .i64 m ∧ m ≤ n ∧ Hid (Ti wr g fr (overTo (p, (a : Int), (n : Int)) h m)) ∧ Hid (w0.grownBy wr (some g))) (fun i _ => n - (intOf i).toNat)
  case atStart => exact ⟨0, rfl, Nat.zero_le _, HL.out.same fun j _ => by unfold overTo; rw [if_neg (by simp only; omega)], gb_refl _ _⟩
  case round =>
    obtain ⟨m, rfl, hm, HTI, HG⟩ := hrel
    by_cases hlt : m < n
    · have u1 := gb_cell HG.out t1 HN.out
      have u2 := gb_cell HG.out t2 HN.out
      have u3 := gb_cell HG.out HT.out HN2.out
      obtain ⟨k, hk⟩ : ∃ k, k = a + m := ⟨_, rfl⟩
      have e1 : IntKind.i64.wrap ((a : Int) + (m : Int)) = (k : Int) := by rw [IntWalk.i64_in _ (by omega)]; omega
      have hkf : k < fr := by omega
      have i1 : (0 : Int) ≤ (k : Int) := by omega
      have i2 : (k : Int) < (fr : Int) := by omega
      have c1 := HTI.out.c k hkf
      have z1 := HTI.out.z k
      generalize overTo (p, (a : Int), (n : Int)) h m k = old at c1
      have HK := Lib.hid hk
      clear hk
      go_wp2_with fail
      have HT2 : Hid (Ti (wr.setCell ⟨g, k, none⟩ (.int .i64 p)) g fr (overTo (p, (a : Int), (n : Int)) h (m + 1))) := (HTI.out.put k p).same fun j hj => by
        have := HK.out
        unfold overTo
        simp only
        by_cases e : j = k
        · subst e
          rw [if_pos rfl, if_pos (by omega)]
        · rw [if_neg e]
          by_cases e2 : (a : Int) ≤ (j : Int) ∧ (j : Int) < (a : Int) + (m : Int)
          · rw [if_pos e2, if_pos (by omega)]
          · rw [if_neg e2, if_neg (by omega)]
      have HG2 := Lib.hid (gb_trans HG.out (show wr.grownBy (wr.setCell ⟨g, k, none⟩ (.int .i64 p)) (some g) from ⟨rfl, rfl, rfl, by simp [World.setCell], fun i _ hne => Below.heap_setCell _ _ _ _ (fun e => hne (by rw [e]))⟩))
      go_roundw
      case rel => exact ⟨m + 1, by go_num, hlt, HT2, HG2⟩
      case measure => (simp [intOf] <;> omega)
    · have hmn : m = n := by omega
      subst hmn
      have B1 : Hid (Below B w wr) := below_of_gb (B0.out.mono HS.out) HG.out (by have := B0.out.size; have := HS.out; omega) (fun k hk => by injection hk with hk; have := HB.out; omega)
      have u3 := Lib.hid (gb_cell HG.out HT.out HN2.out)
      go_wp2_with fail
      go_ret
      refine ⟨rfl, B1.out, u3.out, HTI.out.same fun j _ => ?_⟩
      by_cases e : In (p, (a : Int), (m : Int)) (j : Int)
      · exact (if_pos e).trans (if_pos e).symm
      · exact (if_neg e).trans (if_neg e).symm

theorem ticksEnters : ∀ args w, (callFunc 25 args).run Try.prog w = .ok (.enter 25 args) w := enters_of Try.func25 (by kernel_rfl) rfl

/-- what Ticks answers -/
def ticksL (f : Int) (W : List Win) : List Int := if rightB f W = true then tkL f.toNat W else []
def ticksE (f : Int) (W : List Win) : Nat := if rightB f W = true then 0 else 1
def TicksOf (w : World) (f : Int) (W : List Win) (e : Ending) (w' : World) : Prop := ∃ B cp, e = .returned (.tuple #[.slice B (ticksL f W).length cp, .int .i64 (ticksE f W : Nat)]) ∧ Rd w' B cp (ticksL f W) ∧ Below w.heap.size w w'

/-- while windows are passed: the first k are laid -/
structure InT (w : World) (T g fr : Nat) (W : List Win) (w' : World) (k : Nat) : Prop where
  low : Below w.heap.size w w'
  t : w'.cell? ⟨T, 0, none⟩ = some (.slice (some ⟨g, 0, none⟩) fr fr)
  l : Ti w' g fr (fun j => tkTo W k (j : Int))
theorem InT.below {w w1 w2 : World} {T g fr : Nat} {W : List Win} {k : Nat} (h : InT w T g fr W w1 k) (b : Below w1.heap.size w1 w2) : InT w T g fr W w2 k :=
  ⟨h.low.trans (b.mono h.low.size), cell_below b h.t, h.l.below b⟩

set_option maxHeartbeats 1600000 in
theorem ticks_any (f : Int) (A : Option Addr) (c : Nat) (W : List Win) (w : World) (H : WL w A c W) :
    Calls Try.prog 9 #[.agg #[.int .i64 f, .slice A W.length c]] w (TicksOf w f W) := by
  have b0 := below_one w (Obj.cells #[.int .i64 f, .slice A W.length c] 24)
  obtain ⟨t1, t2⟩ := tx_new w f A W.length c
  have HL := Lib.hid (H.below b0)
  have HRW0 := Lib.hid H.2
  have B0 := Lib.hid b0
  clear b0 H
  cases hr : rightB f W with
  | false =>
    have HH : Hid (ticksL f W = [] ∧ ticksE f W = 1) := by show _ ∧ _; unfold ticksL ticksE; rw [hr]; exact ⟨rfl, rfl⟩
    have HR := Lib.hid hr
    clear hr
    go_enter Try.func9, Try.ntmps9
    go_wp2_with fail
    generalize w.alloc (Obj.cells #[.int .i64 f, .slice A W.length c] 24) = w0 at *
    refine (right_any f A c W _ HL.out).mono ?_
    rintro e w1 ⟨rfl, b1⟩
    rw [HR.out]
    have B1 := Lib.hid (below_step B0.out b1)
    clear b1
    go_wp2_with fail
    go_ret2
    refine ⟨none, 0, ?_, ?_, B1.out⟩
    · rw [HH.out.1, HH.out.2]; rfl
    · rw [HH.out.1]; exact rd_nil (fun _ => rfl) (Nat.zero_le _)
  | true =>
    obtain ⟨hf, hfine⟩ := right_iff.1 hr
    obtain ⟨fr, rfl⟩ : ∃ fr : Nat, f = fr := ⟨f.toNat, by omega⟩
    have HH : Hid (ticksL fr W = tkL fr W ∧ ticksE fr W = 0) := by show _ ∧ _; unfold ticksL ticksE; rw [hr]; exact ⟨rfl, rfl⟩
    have HF := Lib.hid hfine
    have HF2 : Hid (1 ≤ fr ∧ fr ≤ 240) := by show _ ∧ _; omega
    have HR := Lib.hid hr
    clear hr hfine hf
    go_enter Try.func9, Try.ntmps9
    go_wp2_with fail
    generalize w.alloc (Obj.cells #[.int .i64 (fr : Int), .slice A W.length c] 24) = w0 at *
    refine (right_any fr A c W _ HL.out).mono ?_
    rintro e w1 ⟨rfl, b1⟩
    rw [HR.out]
    have B1 := Lib.hid (below_step B0.out b1)
    replace HL := Lib.hid (HL.out.below b1)
    replace t1 := (cell_below b1) t1
    replace t2 := (cell_below b1) t2
    clear b1
    have b2 := below_one w1 (Obj.cells #[.int .i64 (-1)] 3)
    have HD : Hid (Rd (w1.alloc (Obj.cells #[.int .i64 (-1)] 3)) (some ⟨w1.heap.size, 0, none⟩) 1 [-1]) := rd_new1 w1 3 (-1) ⟨by omega, by omega⟩
    have u1 := cell_below b2 t1
    have u2 := cell_below b2 t2
    replace HL := Lib.hid (HL.out.below b2)
    have B2 := Lib.hid (below_step B1.out b2)
    clear b2
    go_wp2_with fail
    have HY := Lib.hid (rep_any (some ⟨w1.heap.size, 0, none⟩) 1 (-1) fr _ HF2.out.1 HF2.out.2 HD.out)
    generalize w1.alloc (Obj.cells #[.int .i64 (-1)] 3) = w2 at *
    refine HY.out.mono ?_
    rintro e w3 ⟨rfl, k1, k2⟩
    replace HL := Lib.hid (HL.out.below k2)
    replace u1 := (cell_below k2) u1
    replace u2 := (cell_below k2) u2
    have B3 := Lib.hid (below_step B2.out k2)
    have HGW : Hid (w.heap.size ≤ w2.heap.size) := B2.out.size
    have HTI := Lib.hid k1
    clear HD HY k1 k2
    generalize w2.heap.size = g at *
    have b4 := below_one w3 (Obj.cells #[.slice (some ⟨g, 0, none⟩) fr fr] 26)
    replace u1 := (cell_below b4) u1
    replace u2 := (cell_below b4) u2
    have HI : Hid (InT w w3.heap.size g fr W (w3.alloc (Obj.cells #[.slice (some ⟨g, 0, none⟩) fr fr] 26)) 0) := ⟨below_step B3.out b4, by simp, (HTI.out.below b4).same fun j _ => rfl⟩
    have HT : Hid (w3.heap.size ≠ g) := by show _ ≠ _; have := HTI.out.lt; omega
    have HRW : Hid (∀ w', Below w.heap.size w w' → Rd w' A c W) := fun w' b => HRW0.out.below b
    clear b4
    go_wp2_with fail
    generalize w3.alloc (Obj.cells #[.slice (some ⟨g, 0, none⟩) fr fr] 26) = w4 at *
    generalize w3.heap.size = T at *
    refine (pass_any _ _ ticksEnters A c W HL.out.1 (InT w T g fr W) (fun _ => False) (fun _ _ _ h b => h.below b) (fun _ _ h => HRW.out _ h.low) (fun wr k hk h => ?_) _ HI.out).mono ?_
    · refine (ticks_closure w.heap.size T g fr (at_ W k) (fun j => tkTo W k (j : Int)) wr HGW.out h.low.size HT.out HF2.out.2 (HF.out k hk).1 h.t h.l).mono ?_
      rintro a w' ⟨a1, a2, a3, a4⟩
      refine ⟨true, a1, fun _ => ⟨h.low.trans a2, a3, a4.same fun j _ => ?_⟩, fun hn => by cases hn⟩
      unfold over
      by_cases e : In (at_ W k) (j : Int)
      · rw [if_pos e]; exact HF.out.to_in hk e
      · rw [if_neg e]; exact to_out hk e
    · rintro e w5 ⟨rfl, h⟩
      rcases h with h | h
      · have r1 := h.t
        have B5 := Lib.hid h.low
        have HR5 : Hid (Rd w5 (some ⟨g, 0, none⟩) fr (tkL fr W)) := h.l.rd (tkL_length _ _) (by have := HF2.out; omega) (fun j hj => by rw [tkL_at hj, tkTo_end]) (fun j hj => by
          rw [tkTo_end]
          have := HF.out.bounds (j : Int)
          exact ⟨by omega, by omega⟩)
        clear h HI u1 u2 t1 t2
        go_wp2_with fail
        go_ret2
        exact ⟨some ⟨g, 0, none⟩, fr, by rw [HH.out.1, HH.out.2, tkL_length]; rfl, by rw [HH.out.1]; exact HR5.out, B5.out⟩
      · exact h.elim

/-- .. the answer named -/
def TicksTo (w : World) (l : List Int) (k : Nat) (er : Int) (e : Ending) (w' : World) : Prop := ∃ B cp, e = .returned (.tuple #[.slice B k cp, .int .i64 er]) ∧ Rd w' B cp l ∧ Below w.heap.size w w'
theorem ticks_to (f : Int) (A : Option Addr) (c : Nat) (W : List Win) (l : List Int) (k : Nat) (er : Int) (hl : ticksL f W = l) (hk : l.length = k) (he : ((ticksE f W : Nat) : Int) = er) (m : Nat) (hm : W.length = m) (w : World) (H : WL w A c W) :
    Calls Try.prog 9 #[.agg #[.int .i64 f, .slice A m c]] w (TicksTo w l k er) := by
  subst hl; subst hk; subst he; subst hm
  exact (ticks_any f A c W w H).mono fun e w' ⟨B, cp, h1, h2, h3⟩ => ⟨B, cp, h1, h2, h3⟩
theorem ticks_right {fr : Nat} {W : List Win} (h : rightB fr W = true) : ticksL fr W = tkL fr W ∧ ((ticksE fr W : Nat) : Int) = 0 := by unfold ticksL ticksE; rw [h]; exact ⟨rfl, rfl⟩
theorem ticks_wrong {f : Int} {W : List Win} (h : rightB f W = false) : ticksL f W = [] ∧ ((ticksE f W : Nat) : Int) = 1 := by unfold ticksL ticksE; rw [h]; exact ⟨rfl, rfl⟩

end Tb
end Go.Proofs.Ytpodahnmdakjjaa

/-
  Layer 13 (table): Least.
-/
namespace Go.Proofs.Ytpodahnmdakjjaa
open Go.RowKit Mm
namespace Tb

theorem hasN_step (g : Nat → Int) (f : Nat) (part : Int) (a n : Nat) : hasN g f part (a + 1) n + (if mineP g f part a then 1 else 0) = hasN g f part a n + (if mineP g f part (a + n) then 1 else 0) := by
  have h1 := Sp.cnt_mono (mineP g f part) (Nat.le_add_right a n)
  have h2 := Sp.cnt_mono (mineP g f part) (Nat.le_add_right (a + 1) n)
  have e1 : Sp.cnt (mineP g f part) (a + 1) = Sp.cnt (mineP g f part) a + (if mineP g f part a then 1 else 0) := rfl
  have e2 : Sp.cnt (mineP g f part) (a + 1 + n) = Sp.cnt (mineP g f part) (a + n) + (if mineP g f part (a + n) then 1 else 0) := by rw [show a + 1 + n = a + n + 1 from by omega]; rfl
  unfold hasN
  omega
theorem hasN_round (g : Nat → Int) (f : Nat) (part : Int) : ∀ n, hasN g f part f n = hasN g f part 0 n
  | 0 => by rw [hasN_zero, hasN_zero]
  | n + 1 => by
    rw [hasN_succ, hasN_succ, hasN_round g f part n]
    have e : mineP g f part (f + n) = mineP g f part (0 + n) := by
      unfold mineP
      rw [Nat.add_mod_left, Nat.zero_add]
    rw [e]
theorem hasN_first (g : Nat → Int) (f : Nat) (part : Int) (n : Nat) : hasN g f part 0 n = Sp.cnt (mineP g f part) n := by
  unfold hasN
  rw [Nat.zero_add]
  rfl
/-- the least of those that begin at 0 to k -/
def Low (g : Nat → Int) (f : Nat) (part : Int) (n k b : Nat) : Prop := (∀ a, a ≤ k → b ≤ hasN g f part a n) ∧ ∃ a, a ≤ k ∧ b = hasN g f part a n
theorem low_zero (g : Nat → Int) (f : Nat) (part : Int) (n : Nat) : Low g f part n 0 (hasN g f part 0 n) :=
  ⟨fun a h => by rw [show a = 0 from by omega]; exact Nat.le_refl _, 0, Nat.le_refl _, rfl⟩
theorem Low.stay {g : Nat → Int} {f : Nat} {part : Int} {n k b : Nat} (h : Low g f part n k b) (hb : b ≤ hasN g f part (k + 1) n) : Low g f part n (k + 1) b :=
  ⟨fun a ha => by
    by_cases e : a = k + 1
    · subst e; exact hb
    · exact h.1 a (by omega), by obtain ⟨a, h1, h2⟩ := h.2; exact ⟨a, by omega, h2⟩⟩
theorem Low.go {g : Nat → Int} {f : Nat} {part : Int} {n k b : Nat} (h : Low g f part n k b) (hb : hasN g f part (k + 1) n ≤ b) : Low g f part n (k + 1) (hasN g f part (k + 1) n) :=
  ⟨fun a ha => by
    by_cases e : a = k + 1
    · subst e; exact Nat.le_refl _
    · exact Nat.le_trans hb (h.1 a (by omega)), k + 1, Nat.le_refl _, rfl⟩
theorem Low.end_ {g : Nat → Int} {f : Nat} {part : Int} {n b : Nat} (h : Low g f part n f b) (hf : 0 < f) : b = leastN g f part n f := by
  obtain ⟨a, h1, h2⟩ := h.2
  refine leastN_min ?_ (fun a ha => h.1 a (by omega)) (.inr ?_)
  · rw [h2]; exact hasN_le _ _ _ _ _
  · by_cases e : a = f
    · subst e; exact ⟨0, hf, by rw [h2, hasN_round]⟩
    · exact ⟨a, by omega, h2⟩

/-- does a tick belong to the part -/
def bel (l : List Int) (fr : Nat) (p : Int) (t : Nat) : Nat := if at_ l (t % fr) = p then 1 else 0
theorem bel_mine {W : List Win} {fr t : Nat} {p : Int} (hf : 0 < fr) (hp : 0 ≤ p) : bel (tkL fr W) fr p t = if mineP (fun j => tk W (j : Int)) fr p t then 1 else 0 := by
  unfold bel mineP
  rw [tkL_at (Nat.mod_lt _ hf)]
  by_cases e : tk W ((t % fr : Nat) : Int) = p
  · rw [if_pos e, decide_eq_true ⟨e, hp⟩]; rfl
  · rw [if_neg e, decide_eq_false (fun h => e h.1)]; rfl

set_option maxHeartbeats 1600000 in
theorem bel_closure (X T P : Nat) (B : Option Addr) (cp : Nat) (l : List Int) (fr t : Nat) (p : Int) (b : Nat) (hb : bel l fr p t = b) (w : World) (hl : l.length = fr) (h1 : 1 ≤ fr) (h2 : fr ≤ 240) (ht : t ≤ 1000000) (hX : w.cell? ⟨X, 0, none⟩ = some (.slice B fr cp)) (hT : w.cell? ⟨T, 0, none⟩ = some (.int .i64 fr)) (hP : w.cell? ⟨P, 0, none⟩ = some (.int .i64 p)) (hr : Rd w B cp l) :
    Calls Try.prog 32 #[.int .i64 t, .pointer (some ⟨X, 0, none⟩), .pointer (some ⟨T, 0, none⟩), .pointer (some ⟨P, 0, none⟩)] w fun e w' => e = .returned (.int .i64 b) ∧ Below w.heap.size w w' := by
  obtain ⟨q, hq⟩ : ∃ q, t % fr = q := ⟨_, rfl⟩
  have hq2 : q < fr := by rw [← hq]; exact Nat.mod_lt _ (by omega)
  obtain ⟨bb, off, rfl, hc⟩ := hr.int (by omega)
  have x1 := (hc q (by omega)).1
  unfold bel at hb
  rw [hq] at hb
  have q1 : (t : Int) % (fr : Int) = (q : Int) := by rw [← hq]; push_cast; rfl
  have q2 : (t : Int).tmod (fr : Int) = (q : Int) := by rw [Int.tmod_eq_emod_of_nonneg (by omega), q1]
  have q3 : IntKind.i64.wrap (q : Int) = (q : Int) := IntWalk.i64_in _ (by omega)
  have j1 : ¬ (fr : Int) = 0 := by omega
  have j2 : ¬ fr = 0 := by omega
  have j3 : (0 : Int) ≤ (q : Int) := by omega
  have j4 : (q : Int) < (fr : Int) := by omega
  have j5 : decide ((0 : Int) ≤ (q : Int) ∧ (q : Int) < (fr : Int)) = true := decide_eq_true ⟨j3, j4⟩
  generalize at_ l q = v at *
  clear hc hr hq hl h1 h2 ht
  by_cases e : v = p
  · subst e
    rw [if_pos rfl] at hb
    subst hb
    go_enter Try.func32, Try.ntmps32
    go_wp2_with fail
    replace x1 := cell_bw x1
    replace hX := cell_bw hX
    replace hT := cell_bw hT
    replace hP := cell_bw hP
    refine wp_region_bw (by kernel_rfl) (by kernel_rfl) ?_
    repeat
      (with_reducible refine wpQuiet_step (fun K hK => ?_)
       go_simp
       first
         | (with_reducible refine hK _ ?_
            clear hK K)
         | (rw [if_neg]
            rotate_left
            focus (intro h; cases h; done)
            with_reducible refine hK _ ?_
            clear hK K)
         | (apply Exists.intro
            refine ⟨fun _ => ?_, hK _ ?_⟩
            (fail)
            clear hK K))
    with_reducible refine wpQuiet_nil ?_
    intro wb hw'
    obtain ⟨⟨wb', lb⟩, hw''⟩ := hw'
    subst hw''
    have HB := Lib.hid lb
    clear lb
    go_wp2_with fail
    go_ret
    exact ⟨rfl, HB.out⟩
  · rw [if_neg e] at hb
    subst hb
    have e2 : (v == p) = false := beq_eq_false_iff_ne.2 e
    go_enter Try.func32, Try.ntmps32
    go_wp2_with fail
    replace x1 := cell_bw x1
    replace hX := cell_bw hX
    replace hT := cell_bw hT
    replace hP := cell_bw hP
    refine wp_region_bw (by kernel_rfl) (by kernel_rfl) ?_
    repeat
      (with_reducible refine wpQuiet_step (fun K hK => ?_)
       go_simp
       first
         | (with_reducible refine hK _ ?_
            clear hK K)
         | (rw [if_neg]
            rotate_left
            focus (intro h; cases h; done)
            with_reducible refine hK _ ?_
            clear hK K)
         | (apply Exists.intro
            refine ⟨fun _ => ?_, hK _ ?_⟩
            (fail)
            clear hK K))
    with_reducible refine wpQuiet_nil ?_
    intro wb hw'
    obtain ⟨⟨wb', lb⟩, hw''⟩ := hw'
    subst hw''
    have HB := Lib.hid lb
    clear lb
    go_wp2_with fail
    go_ret
    exact ⟨rfl, HB.out⟩

/-- what Least answers -/
def lstOk (f : Int) (W : List Win) (n : Int) : Prop := rightB f W = true ∧ 0 ≤ n ∧ n ≤ 2000
instance (f : Int) (W : List Win) (n : Int) : Decidable (lstOk f W n) := inferInstanceAs (Decidable (_ ∧ _))
def lstV (f : Int) (W : List Win) (part n : Int) : Nat := if lstOk f W n then leastN (fun j => tk W (j : Int)) f.toNat part n.toNat f.toNat else 0
def lstE (f : Int) (W : List Win) (n : Int) : Nat := if lstOk f W n then 0 else 1
theorem lst_bad {f : Int} {W : List Win} {part n : Int} (h : ¬ lstOk f W n) : lstV f W part n = 0 ∧ lstE f W n = 1 := by unfold lstV lstE; rw [if_neg h, if_neg h]; exact ⟨rfl, rfl⟩
theorem lst_ok {fr n : Nat} {W : List Win} {part : Int} (h : lstOk fr W n) : lstV fr W part n = leastN (fun j => tk W (j : Int)) fr part n fr ∧ lstE fr W n = 0 := by unfold lstV lstE; rw [if_pos h, if_pos h]; exact ⟨rfl, rfl⟩
theorem least_neg {g : Nat → Int} {fr n : Nat} {part : Int} (hf : 0 < fr) (hp : part < 0) : leastN g fr part n fr = 0 := by
  have := leastN_at (g := g) (f := fr) (part := part) (n := n) hf
  rw [hasN_neg hp] at this
  omega

set_option maxHeartbeats 3200000 in
theorem least_any (f : Int) (A : Option Addr) (c : Nat) (W : List Win) (part n : Int) (w : World) (H : WL w A c W) :
    Calls Try.prog 18 #[.agg #[.int .i64 f, .slice A W.length c], .int .i64 part, .int .i64 n] w fun e w' => e = .returned (.tuple #[.int .i64 (lstV f W part n : Nat), .int .i64 (lstE f W n : Nat)]) ∧ Below w.heap.size w w' := by
  have b0 := below_two w (Obj.cells #[.int .i64 f, .slice A W.length c] 24) (Obj.cells #[.int .i64 part] 3)
  have t1 := cell_new (tx_new w f A W.length c).f (Obj.cells #[.int .i64 part] 3)
  have t3 : ((w.alloc (Obj.cells #[.int .i64 f, .slice A W.length c] 24)).alloc (Obj.cells #[.int .i64 part] 3)).cell? ⟨w.heap.size + 1, 0, none⟩ = some (.int .i64 part) := by simp
  have HL := Lib.hid (H.below b0)
  have B0 := Lib.hid b0
  clear b0 H
  cases hr : rightB f W with
  | false =>
    have HH := Lib.hid (lst_bad (f := f) (W := W) (part := part) (n := n) (fun h => by have := h.1; rw [hr] at this; cases this))
    have HT := Lib.hid (ticks_to f A c W [] 0 1 (ticks_wrong hr).1 rfl (ticks_wrong hr).2 W.length rfl)
    clear hr
    go_enter Try.func18, Try.ntmps18
    go_wp2_with fail
    generalize (w.alloc (Obj.cells #[.int .i64 f, .slice A W.length c] 24)).alloc (Obj.cells #[.int .i64 part] 3) = w0 at *
    refine (HT.out _ HL.out).mono ?_
    rintro e w1 ⟨B, cp, rfl, hr1, b1⟩
    have B1 := Lib.hid (below_step B0.out b1)
    replace t1 := (cell_below b1) t1
    replace t3 := (cell_below b1) t3
    have b2 := below_one w1 (Obj.cells #[.slice B 0 cp] 26)
    have B2 := Lib.hid (below_step B1.out b2)
    replace t1 := (cell_below b2) t1
    replace t3 := (cell_below b2) t3
    clear b1 hr1 b2
    go_wp2_with fail
    go_ret2
    exact ⟨by rw [HH.out.1, HH.out.2]; rfl, B2.out⟩
  | true =>
    obtain ⟨hf, hfine⟩ := right_iff.1 hr
    obtain ⟨fr, rfl⟩ : ∃ fr : Nat, f = fr := ⟨f.toNat, by omega⟩
    have HT := Lib.hid (ticks_to fr A c W (tkL fr W) fr 0 (ticks_right hr).1 (tkL_length _ _) (ticks_right hr).2 W.length rfl)
    by_cases h1 : n < 0
    · have HH := Lib.hid (lst_bad (f := fr) (W := W) (part := part) (n := n) (fun h => by have := h.2; omega))
      clear hr hfine
      go_enter Try.func18, Try.ntmps18
      go_wp2_with fail
      generalize (w.alloc (Obj.cells #[.int .i64 (fr : Int), .slice A W.length c] 24)).alloc (Obj.cells #[.int .i64 part] 3) = w0 at *
      refine (HT.out _ HL.out).mono ?_
      rintro e w1 ⟨B, cp, rfl, hr1, b1⟩
      have B1 := Lib.hid (below_step B0.out b1)
      replace t1 := (cell_below b1) t1
      replace t3 := (cell_below b1) t3
      have b2 := below_one w1 (Obj.cells #[.slice B fr cp] 26)
      have B2 := Lib.hid (below_step B1.out b2)
      replace t1 := (cell_below b2) t1
      replace t3 := (cell_below b2) t3
      clear b1 hr1 b2
      go_wp2_with fail
      go_ret2
      exact ⟨by rw [HH.out.1, HH.out.2]; rfl, B2.out⟩
    · by_cases h2 : 2000 < n
      · have HH := Lib.hid (lst_bad (f := fr) (W := W) (part := part) (n := n) (fun h => by have := h.2; omega))
        clear hr hfine
        go_enter Try.func18, Try.ntmps18
        go_wp2_with fail
        generalize (w.alloc (Obj.cells #[.int .i64 (fr : Int), .slice A W.length c] 24)).alloc (Obj.cells #[.int .i64 part] 3) = w0 at *
        refine (HT.out _ HL.out).mono ?_
        rintro e w1 ⟨B, cp, rfl, hr1, b1⟩
        have B1 := Lib.hid (below_step B0.out b1)
        replace t1 := (cell_below b1) t1
        replace t3 := (cell_below b1) t3
        have b2 := below_one w1 (Obj.cells #[.slice B fr cp] 26)
        have B2 := Lib.hid (below_step B1.out b2)
        replace t1 := (cell_below b2) t1
        replace t3 := (cell_below b2) t3
        clear b1 hr1 b2
        go_wp2_with fail
        go_ret2
        exact ⟨by rw [HH.out.1, HH.out.2]; rfl, B2.out⟩
      · obtain ⟨n, rfl⟩ : ∃ m : Nat, n = m := ⟨n.toNat, by omega⟩
        have hn : n ≤ 2000 := by omega
        have hf1 : 1 ≤ fr := by omega
        have hf2 : fr ≤ 240 := by omega
        by_cases hp : part < 0
        · have HH : Hid (lstV fr W part n = 0 ∧ lstE fr W n = 0) := by
            have := lst_ok (part := part) (show lstOk fr W n from ⟨hr, by omega, by omega⟩)
            rw [least_neg (by omega) hp] at this
            exact this
          clear hr hfine
          go_enter Try.func18, Try.ntmps18
          go_wp2_with fail
          generalize (w.alloc (Obj.cells #[.int .i64 (fr : Int), .slice A W.length c] 24)).alloc (Obj.cells #[.int .i64 part] 3) = w0 at *
          refine (HT.out _ HL.out).mono ?_
          rintro e w1 ⟨B, cp, rfl, hr1, b1⟩
          have B1 := Lib.hid (below_step B0.out b1)
          replace t1 := (cell_below b1) t1
          replace t3 := (cell_below b1) t3
          have b2 := below_one w1 (Obj.cells #[.slice B fr cp] 26)
          have B2 := Lib.hid (below_step B1.out b2)
          replace t1 := (cell_below b2) t1
          replace t3 := (cell_below b2) t3
          clear b1 hr1 b2
          go_wp2_with fail
          go_ret2
          exact ⟨by rw [HH.out.1, HH.out.2]; rfl, B2.out⟩
        · have HH := Lib.hid (lst_ok (part := part) (show lstOk fr W n from ⟨hr, by omega, by omega⟩))
          have HBM : Hid (∀ t, bel (tkL fr W) fr part t = if mineP (fun j => tk W (j : Int)) fr part t then 1 else 0) := fun t => bel_mine (by omega) (by omega)
          clear hr hfine
          generalize hg : (fun j : Nat => tk W (j : Int)) = g at *
          go_enter Try.func18, Try.ntmps18
          go_wp2_with fail
          generalize (w.alloc (Obj.cells #[.int .i64 (fr : Int), .slice A W.length c] 24)).alloc (Obj.cells #[.int .i64 part] 3) = w0 at *
          refine (HT.out _ HL.out).mono ?_
          rintro e w1 ⟨B, cp, rfl, hr1, b1⟩
          have B1 := Lib.hid (below_step B0.out b1)
          replace t1 := (cell_below b1) t1
          replace t3 := (cell_below b1) t3
          have b2 := below_one w1 (Obj.cells #[.slice B fr cp] 26)
          have B2 := Lib.hid (below_step B1.out b2)
          replace t1 := (cell_below b2) t1
          replace t3 := (cell_below b2) t3
          have u2 : (w1.alloc (Obj.cells #[.slice B fr cp] 26)).cell? ⟨w1.heap.size, 0, none⟩ = some (.slice B fr cp) := by simp
          have HR := Lib.hid (hr1.below b2)
          have HLL : Hid ((tkL fr W).length = fr) := tkL_length _ _
          generalize tkL fr W = l at *
          clear b1 hr1 b2 hg hf HL HT
          go_wp2_with fail
          generalize w1.alloc (Obj.cells #[.slice B fr cp] 26) = w2 at *
          go_loopw [11, 34] (fun s i wr => ∃ k : Nat, i = .int .i64 k ∧ s = .int .i64 (Sp.cnt (mineP g fr part) k : Nat) ∧ k ≤ n ∧ Hid (Below w2.heap.size w2 wr)) (fun _ i _ => n - (intOf i).toNat)
          case atStart => exact ⟨0, rfl, rfl, Nat.zero_le _, Below.refl _ _⟩
          case round =>
            obtain ⟨k, rfl, rfl, hk, HB⟩ := hrel
            by_cases hlt : k < n
            · obtain ⟨b, hb⟩ : ∃ b, bel l fr part k = b := ⟨_, rfl⟩
              have hS : Sp.cnt (mineP g fr part) k + b = Sp.cnt (mineP g fr part) (k + 1) := by rw [← hb, HBM.out]; rfl
              have hck : Sp.cnt (mineP g fr part) k ≤ k := by have := Sp.cnt_slow (mineP g fr part) (Nat.zero_le k); simpa [Sp.cnt] using this
              have hb1 : b ≤ 1 := by rw [← hb]; unfold bel; split <;> omega
              have HBB := Lib.hid hb
              generalize Sp.cnt (mineP g fr part) k = s at *
              generalize hs2 : Sp.cnt (mineP g fr part) (k + 1) = s2 at hS
              have e1 : IntKind.i64.wrap ((s : Int) + (b : Int)) = (s2 : Int) := by rw [IntWalk.i64_in _ (by omega)]; omega
              have HS := Lib.hid hs2
              clear hS hs2
              have y1 := cell_below HB.out u2
              have y2 := cell_below HB.out t1
              have y3 := cell_below HB.out t3
              have HR2 := Lib.hid (HR.out.below HB.out)
              clear hb
              go_wp2_with fail
              refine (bel_closure _ _ _ B cp l fr k part b HBB.out wr HLL.out hf1 hf2 (by omega) y1 y2 y3 HR2.out).mono ?_
              rintro e w3 ⟨rfl, b3⟩
              have HB3 := Lib.hid (below_step HB.out b3)
              clear b3
              go_wp2_with fail
              go_roundw
              case rel => exact ⟨k + 1, by go_num, by rw [HS.out], hlt, HB3⟩
              case measure => (simp [intOf] <;> omega)
            · have hkn : k = n := by omega
              subst hkn
              replace HR := Lib.hid (HR.out.below HB.out)
              replace u2 := (cell_below HB.out) u2
              replace t1 := (cell_below HB.out) t1
              replace t3 := (cell_below HB.out) t3
              replace B2 := Lib.hid (below_step B2.out HB.out)
              have HLW : Hid (Low g fr part k 0 (Sp.cnt (mineP g fr part) k)) := by show Low _ _ _ _ _ _; rw [← hasN_first]; exact low_zero _ _ _ _
              have HS0 : Hid (Sp.cnt (mineP g fr part) k = hasN g fr part 0 k) := (hasN_first _ _ _ _).symm
              generalize Sp.cnt (mineP g fr part) k = s0 at *
              clear HB
              go_wp2_with fail
              generalize wr = wo at *
              go_loopw [11, 13, 46] (fun s m i wr => ∃ (j a b : Nat), i = .int .i64 j ∧ s = .int .i64 (a : Nat) ∧ m = .int .i64 (b : Nat) ∧ j ≤ fr ∧ Hid (a = hasN g fr part j k) ∧ Hid (Low g fr part k j b) ∧ Hid (Below wo.heap.size wo wr)) (fun _ _ i _ => fr - (intOf i).toNat)
              case atStart => exact ⟨0, s0, s0, rfl, rfl, rfl, Nat.zero_le _, HS0.out, HLW.out, Below.refl _ _⟩
              case round =>
                obtain ⟨j, a, b, rfl, rfl, rfl, hj, HA, HLO, HB⟩ := hrel
                clear HLW HS0
                by_cases hlt : j < fr
                · obtain ⟨x, hx⟩ : ∃ x, bel l fr part (j + k) = x := ⟨_, rfl⟩
                  obtain ⟨y, hy⟩ : ∃ y, bel l fr part j = y := ⟨_, rfl⟩
                  have hst := hasN_step g fr part j k
                  rw [← HBM.out, ← HBM.out, hx, hy, ← HA.out] at hst
                  have hx1 : x ≤ 1 := by rw [← hx]; unfold bel; split <;> omega
                  have hy1 : y ≤ 1 := by rw [← hy]; unfold bel; split <;> omega
                  have hak : a ≤ k := by rw [HA.out]; exact hasN_le _ _ _ _ _
                  obtain ⟨a2, ha2⟩ : ∃ a2, hasN g fr part (j + 1) k = a2 := ⟨_, rfl⟩
                  rw [ha2] at hst
                  obtain ⟨jk, hjk⟩ : ∃ jk, j + k = jk := ⟨_, rfl⟩
                  rw [hjk] at hx
                  obtain ⟨d, hd⟩ : ∃ d : Int, (x : Int) - (y : Int) = d := ⟨_, rfl⟩
                  have e1 : IntKind.i64.wrap ((j : Int) + (k : Int)) = (jk : Int) := by rw [IntWalk.i64_in _ (by omega)]; omega
                  have e2 : IntKind.i64.wrap ((x : Int) - (y : Int)) = d := by rw [IntWalk.i64_in _ (by omega)]; omega
                  have e3 : IntKind.i64.wrap ((a : Int) + d) = (a2 : Int) := by rw [IntWalk.i64_in _ (by omega)]; omega
                  have HX := Lib.hid hx
                  have HY := Lib.hid hy
                  have HA2 := Lib.hid ha2
                  have HJK : Hid (jk ≤ 1000000) := by show _ ≤ _; omega
                  have HJ1 : Hid (j ≤ 1000000) := by show _ ≤ _; omega
                  have y1 := cell_below HB.out u2
                  have y2 := cell_below HB.out t1
                  have y3 := cell_below HB.out t3
                  have HR2 := Lib.hid (HR.out.below HB.out)
                  have HLS := Lib.hid (fun h => HLO.out.stay (show b ≤ hasN g fr part (j + 1) k from h))
                  have HLG := Lib.hid (fun h => HLO.out.go (show hasN g fr part (j + 1) k ≤ b from h))
                  rw [ha2] at HLS HLG
                  clear hx hy ha2 hst hd hjk hx1 hy1 hak HLO
                  go_wp2_with fail
                  refine (bel_closure _ _ _ B cp l fr jk part x HX.out wr HLL.out hf1 hf2 HJK.out y1 y2 y3 HR2.out).mono ?_
                  rintro e w3 ⟨rfl, b3⟩
                  have HB3 := Lib.hid (below_step HB.out b3)
                  replace HR2 := Lib.hid (HR2.out.below b3)
                  replace y1 := (cell_below b3) y1
                  replace y2 := (cell_below b3) y2
                  replace y3 := (cell_below b3) y3
                  clear b3
                  go_wp2_with fail
                  refine (bel_closure _ _ _ B cp l fr j part y HY.out w3 HLL.out hf1 hf2 HJ1.out y1 y2 y3 HR2.out).mono ?_
                  rintro e w4 ⟨rfl, b4⟩
                  have HB4 := Lib.hid (below_step HB3.out b4)
                  clear b4 HB3 HR2 y1 y2 y3 HB
                  by_cases hm : b ≤ a2
                  · have m1 : (b : Int) ≤ (a2 : Int) := by omega
                    have HLW := Lib.hid (HLS.out hm)
                    clear hm
                    go_wp2_with fail
                    go_roundw
                    case rel => exact ⟨j + 1, a2, b, by go_num, rfl, rfl, hlt, HA2.out.symm, HLW, HB4⟩
                    case measure => (simp [intOf] <;> omega)
                  · have m1 : ¬ (b : Int) ≤ (a2 : Int) := by omega
                    have HLW := Lib.hid (HLG.out (by omega))
                    clear hm
                    go_wp2_with fail
                    go_roundw
                    case rel => exact ⟨j + 1, a2, a2, by go_num, rfl, rfl, hlt, HA2.out.symm, HLW, HB4⟩
                    case measure => (simp [intOf] <;> omega)
                · have hjf : j = fr := by omega
                  subst hjf
                  have B3 := Lib.hid (below_step B2.out HB.out)
                  have HE := Lib.hid (HLO.out.end_ (by omega))
                  clear HB
                  go_wp2_with fail
                  go_ret2
                  exact ⟨by rw [HH.out.1, HH.out.2, HE.out]; rfl, B3.out⟩

end Tb
end Go.Proofs.Ytpodahnmdakjjaa

/-
  Layer 13 (table): the calls under other names.
-/
namespace Go.Proofs.Ytpodahnmdakjjaa
open Go.RowKit Mm
namespace Tb

theorem right_to (f : Int) (A : Option Addr) (c : Nat) (W : List Win) (b : Bool) (hb : rightB f W = b) (m : Nat) (hm : W.length = m) (w : World) (H : WL w A c W) :
    Calls Try.prog 11 #[.agg #[.int .i64 f, .slice A m c]] w fun e w' => e = .returned (.bool b) ∧ Below w.heap.size w w' := by
  subst hb; subst hm
  exact right_any f A c W w H
theorem at_to (f : Int) (A : Option Addr) (c : Nat) (W : List Win) (t x : Int) (hx : atV f W t = x) (m : Nat) (hm : W.length = m) (w : World) (H : WL w A c W) :
    Calls Try.prog 12 #[.agg #[.int .i64 f, .slice A m c], .int .i64 t] w fun e w' => e = .returned (.int .i64 x) ∧ Below w.heap.size w w' := by
  subst hx; subst hm
  exact at_any f A c W t w H
theorem least_to (f : Int) (A : Option Addr) (c : Nat) (W : List Win) (part n v er : Int) (hv : ((lstV f W part n : Nat) : Int) = v) (he : ((lstE f W n : Nat) : Int) = er) (m : Nat) (hm : W.length = m) (w : World) (H : WL w A c W) :
    Calls Try.prog 18 #[.agg #[.int .i64 f, .slice A m c], .int .i64 part, .int .i64 n] w fun e w' => e = .returned (.tuple #[.int .i64 v, .int .i64 er]) ∧ Below w.heap.size w w' := by
  subst hv; subst he; subst hm
  exact least_any f A c W part n w H
theorem of_to (A : Option Addr) (c : Nat) (l : List Int) (k : Nat) (hk : l.length = k) (w : World) (H : IL w A c l) :
    Calls Try.prog 16 #[.slice A k c] w (OfTo w l) := by
  subst hk
  exact of_any A c l w H

theorem wl_of {w : World} {A : Option Addr} {c : Nat} {f : Int} {W : List Win} (h : rightB f W = true) (hr : Rd w A c W) : WL w A c W := ⟨by have := right_len h; have := (right_iff.1 h).1; omega, hr⟩
/-- a table was answered -/
def OfGood (w : World) (W : List Win) (k m : Nat) (e : Ending) (w' : World) : Prop := ∃ B cp, e = .returned (.tuple #[.agg #[.int .i64 k, .slice B m cp], .int .i64 0]) ∧ Ow w' w.heap.size 54 B cp W ∧ WL w' B cp W ∧ Below w.heap.size w w'
/-- none was -/
def OfBad (w : World) (er : Int) (e : Ending) (w' : World) : Prop := e = .returned (.tuple #[.agg #[.int .i64 0, .slice none 0 0], .int .i64 er]) ∧ Below w.heap.size w w'
theorem OfTo.good {w w' : World} {l : List Int} {e : Ending} (h : OfTo w l e w') (ho : ofOk l) : ∃ W, rightB (l.length : Nat) W = true ∧ tkL l.length W = l ∧ OfGood w W l.length W.length e w' := by
  rcases h with ⟨_, B, cp, W, h1, h2, h3, h4, h5⟩ | ⟨h, _⟩
  · exact ⟨W, h2, h3, B, cp, h1, h4, wl_of h2 h4.rd, h5⟩
  · exact absurd ho h
theorem OfTo.bad {w w' : World} {l : List Int} {e : Ending} (h : OfTo w l e w') (ho : ¬ ofOk l) : OfBad w 1 e w' := by
  rcases h with ⟨h, _⟩ | ⟨_, h⟩
  · exact absurd h ho
  · exact h
theorem of_good (A : Option Addr) (c : Nat) (l : List Int) (k : Nat) (hk : l.length = k) (ho : ofOk l) (w : World) (H : IL w A c l) :
    Calls Try.prog 16 #[.slice A k c] w fun e w' => ∃ W m, W.length = m ∧ rightB k W = true ∧ tkL k W = l ∧ OfGood w W k m e w' :=
  (of_to A c l k hk w H).mono fun e w' h => by
    obtain ⟨W, h1, h2, h3⟩ := h.good ho
    rw [hk] at h1 h2 h3
    exact ⟨W, _, rfl, h1, h2, h3⟩
theorem of_bad (A : Option Addr) (c : Nat) (l : List Int) (k : Nat) (hk : l.length = k) (ho : ¬ ofOk l) (w : World) (H : IL w A c l) :
    Calls Try.prog 16 #[.slice A k c] w (OfBad w 1) :=
  (of_to A c l k hk w H).mono fun _ _ h => h.bad ho
/-- the windows are told by the ticks -/
theorem of_told (A : Option Addr) (c : Nat) (l : List Int) (W : List Win) (k m : Nat) (hk : l.length = k) (hm : W.length = m) (ho : ofOk l) (hr : rightB k W = true) (ht : tkL k W = l) (w : World) (H : IL w A c l) :
    Calls Try.prog 16 #[.slice A k c] w (OfGood w W k m) :=
  (of_to A c l k hk w H).mono fun e w' h => by
    obtain ⟨W', h1, h2, h3⟩ := h.good ho
    rw [hk] at h1 h2 h3
    have := right_told h1 hr (by rw [h2, ht])
    subst this
    rw [hm] at h3
    exact h3
theorem tkL_ok {fr : Nat} {W : List Win} (h : rightB fr W = true) : ofOk (tkL fr W) := by
  obtain ⟨h1, h2⟩ := right_iff.1 h
  refine ⟨by rw [tkL_length]; omega, by rw [tkL_length]; omega, fun j hj => ?_⟩
  rw [tkL_length] at hj
  rw [tkL_at hj]
  exact h2.bounds _
theorem tkL_il {w : World} {A : Option Addr} {c fr : Nat} {W : List Win} (h : fr ≤ 240) (hr : Rd w A c (tkL fr W)) : IL w A c (tkL fr W) := ⟨by rw [tkL_length]; omega, hr⟩

end Tb
end Go.Proofs.Ytpodahnmdakjjaa

/-
  Layer 13 (table): Make.
-/
namespace Go.Proofs.Ytpodahnmdakjjaa
open Go.RowKit Mm
namespace Tb
open Sy

theorem layL_ok {F : List Fce} (h : layE F = 0) : ofOk (layL F) := by
  obtain ⟨h1, _, h3⟩ := lay_fine h
  obtain ⟨ho, h4⟩ := frmE_zero.1 h1
  have h5 := frm_pos ho
  have h6 := (okF_iff.1 ho).1
  rw [h3]
  refine ⟨by rw [lay_length]; exact h5, by rw [lay_length]; exact h4, fun j hj => ?_⟩
  rw [lay_length] at hj
  have h7 := gF_bounds F j
  have e : at_ (lay F.length (Pn F) (Bn F) (frm F)) j = gF F j := lay_at hj
  rw [e]
  omega
theorem layL_frame {F : List Fce} (h : layE F = 0) : (layL F).length = frm F := by rw [(lay_fine h).2.2, lay_length]

set_option maxHeartbeats 1600000 in
theorem make_good (A : Option Addr) (c : Nat) (F : List Fce) (h : layE F = 0) (k : Nat) (hk : (layL F).length = k) (w : World) (H : CL w A c F) :
    Calls Try.prog 20 #[.slice A F.length c] w fun e w' => ∃ W m, W.length = m ∧ rightB k W = true ∧ tkL k W = layL F ∧ OfGood w W k m e w' := by
  have b0 := below_one w (Obj.cells #[.int .i64 0, .slice none 0 0] 24)
  have q0 : (w.alloc (Obj.cells #[.int .i64 0, .slice none 0 0] 24)).cell? ⟨w.heap.size, 0, none⟩ = some (.int .i64 0) := by simp
  have q1 : (w.alloc (Obj.cells #[.int .i64 0, .slice none 0 0] 24)).cell? ⟨w.heap.size, 1, none⟩ = some (.slice none 0 0) := by simp
  have z0 : (w.alloc (Obj.cells #[.int .i64 0, .slice none 0 0] 24)).frozen? ⟨w.heap.size, 0, none⟩ = false := by simp
  have z1 : (w.alloc (Obj.cells #[.int .i64 0, .slice none 0 0] 24)).frozen? ⟨w.heap.size, 1, none⟩ = false := by simp
  have B0 := Lib.hid b0
  have HT := Lib.hid (H.below b0)
  have HC := Lib.hid (lay_to A c F (layL F) k 0 rfl hk (by rw [h]; rfl) F.length rfl)
  have HO := Lib.hid (layL_ok h)
  have HK := Lib.hid hk
  have hk2 : k ≤ 240 := by have := HO.out.2.1; rw [hk] at this; exact this
  clear b0 H h hk
  go_enter Try.func20, Try.ntmps20
  go_wp2_with fail
  generalize w.alloc (Obj.cells #[.int .i64 0, .slice none 0 0] 24) = w0 at *
  have Q0 := Lib.hid q0
  have Q1 := Lib.hid q1
  have Z0 := Lib.hid z0
  have Z1 := Lib.hid z1
  clear q0 q1 z0 z1
  refine (HC.out _ HT.out).mono ?_
  rintro e w1 ⟨B, cp, rfl, hr1, b1⟩
  have HR1 : Hid (IL w1 B cp (layL F)) := ⟨by rw [HK.out]; omega, hr1⟩
  have q0 := Lib.hid (cell_below b1 Q0.out)
  have q1 := Lib.hid (cell_below b1 Q1.out)
  have z0 := Lib.hid (frozen_below b1 Q0.out Z0.out)
  have z1 := Lib.hid (frozen_below b1 Q1.out Z1.out)
  have B1 := Lib.hid (below_step B0.out b1)
  clear hr1 b1 HC HT Q0 Q1 Z0 Z1
  go_wp2_with fail
  refine (of_good B cp (layL F) k HK.out HO.out _ HR1.out).mono ?_
  rintro e w2 ⟨W, m, hm, hr, ht, D, dp, rfl, hW, hL, b2⟩
  have HX : Hid (w.heap.size < w1.heap.size) := lt_of_cell q0.out
  have g0 := cell_below b2 q0.out
  have g1 := cell_below b2 q1.out
  have y0 := frozen_below b2 q0.out z0.out
  have y1 := frozen_below b2 q1.out z1.out
  have B2 := Lib.hid (below_step B1.out b2)
  have HOW := Lib.hid hW
  have HM := Lib.hid hm
  have HRR := Lib.hid hr
  have HTT := Lib.hid ht
  clear b2 hW hL hm hr ht q0 q1 z0 z1
  go_wp2_with fail
  obtain ⟨k0, k1⟩ := put4 g0 g1 (.int .i64 (k : Int)) (.slice D m dp)
  refine bodyPost_ret (v := .tuple #[.agg #[.int .i64 (k : Int), .slice D m dp], .int .i64 0]) (by simp [results, Try.results20, go_sem, k0, k1]) rfl ?_
  have hB6 : Below w.heap.size w ((w2.setCell ⟨w.heap.size, 0, none⟩ (.int .i64 (k : Int))).setCell ⟨w.heap.size, 1, none⟩ (.slice D m dp)) := (B2.out.setCell (p := ⟨w.heap.size, 0, none⟩) (Nat.le_refl _) _).setCell (p := ⟨w.heap.size, 1, none⟩) (Nat.le_refl _) _
  have ne : ∀ g, D = some ⟨g, 0, none⟩ → some g ≠ some w.heap.size := fun g hA e => by
    have h1 := OwS.new HOW.out g hA
    have h2 := HX.out
    injection e with e
    omega
  have hO := ((HOW.out.gb (gb_set w2 ⟨w.heap.size, 0, none⟩ (.int .i64 (k : Int))) ne).gb (gb_set _ ⟨w.heap.size, 1, none⟩ (.slice D m dp)) ne).rebase (base' := w.heap.size) (by have := HX.out; omega)
  exact ⟨W, m, HM.out, HRR.out, HTT.out, D, dp, rfl, hO, wl_of HRR.out hO.rd, hB6⟩

set_option maxHeartbeats 1600000 in
theorem make_bad (A : Option Addr) (c : Nat) (F : List Fce) (er : Int) (h : layE F ≠ 0) (he : ((layE F : Nat) : Int) = er) (w : World) (H : CL w A c F) :
    Calls Try.prog 20 #[.slice A F.length c] w (OfBad w er) := by
  have b0 := below_one w (Obj.cells #[.int .i64 0, .slice none 0 0] 24)
  have q0 : (w.alloc (Obj.cells #[.int .i64 0, .slice none 0 0] 24)).cell? ⟨w.heap.size, 0, none⟩ = some (.int .i64 0) := by simp
  have q1 : (w.alloc (Obj.cells #[.int .i64 0, .slice none 0 0] 24)).cell? ⟨w.heap.size, 1, none⟩ = some (.slice none 0 0) := by simp
  have z0 : (w.alloc (Obj.cells #[.int .i64 0, .slice none 0 0] 24)).frozen? ⟨w.heap.size, 0, none⟩ = false := by simp
  have z1 : (w.alloc (Obj.cells #[.int .i64 0, .slice none 0 0] 24)).frozen? ⟨w.heap.size, 1, none⟩ = false := by simp
  have B0 := Lib.hid b0
  have HT := Lib.hid (H.below b0)
  have HC := Lib.hid (lay_to A c F [] 0 er (lay_bad h) rfl he F.length rfl)
  have n1 : (er == 0) = false := by rw [beq_eq_false_iff_ne]; omega
  have n2 : (er != 0) = true := by rw [bne_iff_ne]; omega
  have n3 : ¬ er = 0 := by omega
  clear b0 H h he
  go_enter Try.func20, Try.ntmps20
  go_wp2_with fail
  generalize w.alloc (Obj.cells #[.int .i64 0, .slice none 0 0] 24) = w0 at *
  have Q0 := Lib.hid q0
  have Q1 := Lib.hid q1
  have Z0 := Lib.hid z0
  have Z1 := Lib.hid z1
  clear q0 q1 z0 z1
  refine (HC.out _ HT.out).mono ?_
  rintro e w1 ⟨B, cp, rfl, _, b1⟩
  have q0 := cell_below b1 Q0.out
  have q1 := cell_below b1 Q1.out
  have z0 := frozen_below b1 Q0.out Z0.out
  have z1 := frozen_below b1 Q1.out Z1.out
  have B1 := Lib.hid (below_step B0.out b1)
  clear b1 HC HT Q0 Q1 Z0 Z1
  go_wp2_with fail
  obtain ⟨k0, k1⟩ := put4 q0 q1 (.int .i64 0) (.slice none 0 0)
  refine bodyPost_ret (v := .tuple #[.agg #[.int .i64 0, .slice none 0 0], .int .i64 er]) (by simp [results, Try.results20, go_sem, k0, k1]) rfl ?_
  exact ⟨rfl, (B1.out.setCell (p := ⟨w.heap.size, 0, none⟩) (Nat.le_refl _) _).setCell (p := ⟨w.heap.size, 1, none⟩) (Nat.le_refl _) _⟩

end Tb
end Go.Proofs.Ytpodahnmdakjjaa

