/-
  Merged texts: SupplyMath, SupplyFace, SupplyList, SupplyCalls.
-/
import Derived.Test.YtmfbmbbndiafiaaGmem
import Derived.WalkSmall
/-
  Layer 9 (supply): plain mathematics: the bound, patterns, the worst one.
-/
namespace Go.Proofs.Ytmfbmbbndiafiaa
namespace Sp
open Mm

/-- how many of the first n ticks are given -/
def cnt (p : Nat → Bool) : Nat → Nat
  | 0 => 0
  | n + 1 => cnt p n + (if p n then 1 else 0)
theorem cnt_le_add (p : Nat → Bool) (n : Nat) : ∀ d, cnt p n ≤ cnt p (n + d) ∧ cnt p (n + d) ≤ cnt p n + d
  | 0 => ⟨Nat.le_refl _, Nat.le_refl _⟩
  | d + 1 => by
    have h := cnt_le_add p n d
    rw [show n + (d + 1) = (n + d) + 1 from by omega, cnt]
    split <;> omega
theorem cnt_mono (p : Nat → Bool) {a b : Nat} (h : a ≤ b) : cnt p a ≤ cnt p b := by
  have := (cnt_le_add p a (b - a)).1
  rwa [show a + (b - a) = b from by omega] at this
theorem cnt_slow (p : Nat → Bool) {a b : Nat} (h : a ≤ b) : cnt p b ≤ cnt p a + (b - a) := by
  have := (cnt_le_add p a (b - a)).2
  rwa [show a + (b - a) = b from by omega] at this
theorem cnt_congr {p q : Nat → Bool} : ∀ {n : Nat}, (∀ i, i < n → p i = q i) → cnt p n = cnt q n
  | 0, _ => rfl
  | n + 1, h => by rw [cnt, cnt, cnt_congr (fun i hi => h i (by omega)), h n (by omega)]

/-- the bound -/
def sbf (P B t : Nat) : Nat := if t < P - B then 0 else B * ((t - (P - B)) / P) + ((t - (P - B)) % P - (P - B))
theorem sbf_low {P B t : Nat} (h : t < P - B) : sbf P B t = 0 := by simp [sbf, h]
theorem sbf_at {P B : Nat} (k r : Nat) (hr : r < P) : sbf P B ((P - B) + k * P + r) = B * k + (r - (P - B)) := by
  have h1 : P - B + k * P + r - (P - B) = r + k * P := by omega
  unfold sbf
  rw [if_neg (by omega), h1, Nat.add_mul_div_right _ _ (by omega), Nat.div_eq_of_lt hr, Nat.add_mul_mod_self_right, Nat.mod_eq_of_lt hr, Nat.zero_add]
/-- each number is below the first place, or k periods and r ticks behind it -/
theorem split_at {P B t : Nat} (hP : 0 < P) (h : P - B ≤ t) : ∃ k r, r < P ∧ t = (P - B) + k * P + r := by
  refine ⟨(t - (P - B)) / P, (t - (P - B)) % P, Nat.mod_lt _ hP, ?_⟩
  have := Nat.div_add_mod (t - (P - B)) P
  rw [Nat.mul_comm] at this
  omega

/-- the worst pattern -/
def worst (P B i : Nat) : Bool := if i < P then decide (i < B) else decide (P - B ≤ i % P)
theorem sbf_succ {P B t : Nat} (hB : 1 ≤ B) (hBP : B ≤ P) : sbf P B (t + 1) = sbf P B t + (if worst P B (B + t) then 1 else 0) := by
  rcases Nat.lt_or_ge t (P - B) with h | h
  · have hw : worst P B (B + t) = false := by
      unfold worst
      rw [if_pos (by omega)]
      simp
    rw [hw, sbf_low h]
    rcases Nat.lt_or_ge (t + 1) (P - B) with h' | h'
    · rw [sbf_low h']; rfl
    · have e : t + 1 = (P - B) + 0 * P + 0 := by omega
      rw [e, sbf_at 0 0 (by omega)]
      simp
  · obtain ⟨k, r, hr, e⟩ := split_at (by omega) h
    have hbt : B + t = (k + 1) * P + r := by rw [e, Nat.add_mul]; omega
    have hge : P ≤ (k + 1) * P := by rw [Nat.add_mul]; omega
    have hw : worst P B (B + t) = decide (P - B ≤ r) := by
      unfold worst
      rw [hbt, if_neg (by omega), show (k + 1) * P + r = r + (k + 1) * P from by omega, Nat.add_mul_mod_self_right, Nat.mod_eq_of_lt hr]
    rw [hw]
    rcases Nat.lt_or_ge (r + 1) P with h' | h'
    · rw [show t + 1 = (P - B) + k * P + (r + 1) from by omega, sbf_at k (r + 1) h', e, sbf_at k r hr]
      by_cases hg : P - B ≤ r
      · simp [hg]; omega
      · simp [hg]; omega
    · have hr1 : r = P - 1 := by omega
      rw [show t + 1 = (P - B) + (k + 1) * P + 0 from by rw [e, Nat.add_mul]; omega, sbf_at (k + 1) 0 (by omega), e, sbf_at k r hr, Nat.mul_add]
      have hg : P - B ≤ r := by omega
      simp [hg]; omega
/-- the bound is what the worst pattern gives behind its first ticks -/
theorem sbf_worst {P B : Nat} (hB : 1 ≤ B) (hBP : B ≤ P) : ∀ t, cnt (worst P B) (B + t) = B + sbf P B t
  | 0 => by
    have h : ∀ n, n ≤ B → cnt (worst P B) n = n := by
      intro n
      induction n with
      | zero => intro _; rfl
      | succ n ih =>
        intro hn
        have hw : worst P B n = true := by
          unfold worst
          rw [if_pos (by omega)]
          simp; omega
        rw [cnt, ih (by omega), hw]; rfl
    rw [Nat.add_zero, h B (Nat.le_refl _)]
    have : sbf P B 0 = 0 := by
      rcases Nat.lt_or_ge 0 (P - B) with h' | h'
      · exact sbf_low h'
      · have := sbf_at (P := P) (B := B) 0 0 (by omega)
        rw [show (P - B) + 0 * P + 0 = 0 from by omega] at this
        rw [this]; simp
    omega
  | t + 1 => by
    rw [show B + (t + 1) = (B + t) + 1 from by omega, cnt, sbf_worst hB hBP t, sbf_succ hB hBP]
    omega
/-- P9.4 -/
theorem sbf_rise {P B t : Nat} (hB : 1 ≤ B) (hBP : B ≤ P) : sbf P B (t + 1) = sbf P B t ∨ sbf P B (t + 1) = sbf P B t + 1 := by
  rw [sbf_succ hB hBP]
  split <;> omega
theorem sbf_zero {P B : Nat} (hB : 1 ≤ B) (hBP : B ≤ P) : sbf P B 0 = 0 := by
  have h1 := sbf_worst hB hBP 0
  have h2 := cnt_slow (worst P B) (Nat.zero_le (B + 0))
  have : cnt (worst P B) 0 = 0 := rfl
  omega
theorem sbf_le {P B : Nat} (hB : 1 ≤ B) (hBP : B ≤ P) : ∀ t, sbf P B t ≤ t
  | 0 => by rw [sbf_zero hB hBP]; omega
  | t + 1 => by
    have := sbf_le hB hBP t
    rcases sbf_rise (t := t) hB hBP with h | h <;> omega
theorem sbf_mono {P B t u : Nat} (hB : 1 ≤ B) (hBP : B ≤ P) (h : t ≤ u) : sbf P B t ≤ sbf P B u := by
  have h1 := sbf_worst hB hBP t
  have h2 := sbf_worst hB hBP u
  have := cnt_mono (worst P B) (show B + t ≤ B + u by omega)
  omega
theorem sbf_period {P B t : Nat} (hB : 1 ≤ B) (hBP : B ≤ P) (h : P - B ≤ t) : sbf P B (t + P) = sbf P B t + B := by
  obtain ⟨k, r, hr, e⟩ := split_at (by omega) h
  rw [show t + P = (P - B) + (k + 1) * P + r from by rw [e, Nat.add_mul]; omega, sbf_at _ _ hr, e, sbf_at _ _ hr, Nat.mul_add]
  omega
theorem sbf_periods {P B t : Nat} (hB : 1 ≤ B) (hBP : B ≤ P) (h : P - B ≤ t) : ∀ m, sbf P B (t + m * P) = sbf P B t + m * B
  | 0 => by simp
  | m + 1 => by
    rw [show t + (m + 1) * P = (t + m * P) + P from by rw [Nat.add_mul]; omega, sbf_period hB hBP (by omega), sbf_periods hB hBP h m, Nat.add_mul]
    omega

/-- P9.3: no pattern gives less, in ticks that lie in whole periods -/
theorem least_any {p : Nat → Bool} {P B M : Nat} (hB : 1 ≤ B) (hBP : B ≤ P) (hleg : ∀ j, j < M → cnt p (j * P) + B ≤ cnt p ((j + 1) * P)) {s t : Nat} (h : s + t ≤ M * P) : cnt p s + sbf P B t ≤ cnt p (s + t) := by
  have hP : 0 < P := by omega
  have many : ∀ d j, j + d ≤ M → cnt p (j * P) + B * d ≤ cnt p ((j + d) * P) := by
    intro d
    induction d with
    | zero => intro j _; simp
    | succ d ih =>
      intro j hj
      have h1 := ih j (by omega)
      have h2 := hleg (j + d) (by omega)
      rw [show j + (d + 1) = j + d + 1 from by omega, Nat.mul_add]
      omega
  -- ticks of one period: all but P - B are given
  have one : ∀ j a b, j < M → j * P ≤ a → a ≤ b → b ≤ (j + 1) * P → cnt p a + (b - a) ≤ cnt p b + (P - B) := by
    intro j a b hj h1 h2 h3
    have e1 := hleg j hj
    have e2 := cnt_slow p h1
    have e3 := cnt_slow p h3
    have e4 : (j + 1) * P = j * P + P := by rw [Nat.add_mul]; omega
    omega
  have hs : s = (s / P) * P + s % P := by have := Nat.div_add_mod s P; rw [Nat.mul_comm] at this; omega
  have he : s + t = ((s + t) / P) * P + (s + t) % P := by have := Nat.div_add_mod (s + t) P; rw [Nat.mul_comm] at this; omega
  have hsl := Nat.mod_lt s hP
  have hel := Nat.mod_lt (s + t) hP
  have hle : s / P ≤ (s + t) / P := Nat.div_le_div_right (by omega)
  generalize s / P = j at *
  generalize (s + t) / P = e at *
  generalize hx : s % P = x at *
  generalize hy : (s + t) % P = y at *
  have heM : e ≤ M := by
    rcases Nat.lt_or_ge M e with h' | h'
    · have := Nat.mul_le_mul_right P (show M + 1 ≤ e by omega)
      rw [Nat.add_mul] at this
      omega
    · exact h'
  -- both ends in one period
  have inside : ∀ q, q < M → q * P ≤ s → s + t ≤ (q + 1) * P → cnt p s + sbf P B t ≤ cnt p (s + t) := by
    intro q hq h1 h2
    have h3 := one q s (s + t) hq h1 (by omega) h2
    have h4 := cnt_mono p (show s ≤ s + t by omega)
    have e4 : (q + 1) * P = q * P + P := by rw [Nat.add_mul]; omega
    have h5 : sbf P B t ≤ t - (P - B) := by
      rcases Nat.lt_or_ge t (P - B) with h' | h'
      · rw [sbf_low h']; omega
      · obtain ⟨k, r, hr, et⟩ := split_at hP h'
        rw [et, sbf_at k r hr]
        have hk : k = 0 ∨ k = 1 := by
          rcases Nat.lt_or_ge k 2 with h | h
          · omega
          · have := Nat.mul_le_mul_right P h
            omega
        rcases hk with rfl | rfl
        · omega
        · omega
    omega
  by_cases hje : j = e
  · subst hje
    by_cases hjM : j < M
    · exact inside j hjM (by omega) (by rw [Nat.add_mul]; omega)
    · have : j = M := by omega
      subst this
      have ht : t = 0 := by omega
      subst ht
      rw [sbf_zero hB hBP]; simp
  · have hlt : j < e := by omega
    -- the part of s's period, whole periods, the last part
    have e1 : (j + 1) * P = j * P + P := by rw [Nat.add_mul]; omega
    have a1 := one j s ((j + 1) * P) (by omega) (by omega) (by omega) (Nat.le_refl _)
    have a1' := cnt_mono p (show s ≤ (j + 1) * P by omega)
    have a2 := many (e - (j + 1)) (j + 1) (by omega)
    rw [show j + 1 + (e - (j + 1)) = e from by omega] at a2
    have a3 : cnt p (e * P) + (y - (P - B)) ≤ cnt p (s + t) := by
      have m3 := cnt_mono p (show e * P ≤ s + t by omega)
      rcases Nat.lt_or_ge e M with h' | h'
      · have := one e (e * P) (s + t) h' (Nat.le_refl _) (by omega) (by rw [Nat.add_mul]; omega)
        omega
      · have : e = M := by omega
        subst this
        have : y = 0 := by omega
        omega
    generalize hm : e - (j + 1) = m at *
    have e2 : e * P = (j + 1) * P + m * P := by rw [← Nat.add_mul]; congr 1; omega
    generalize hg : P - B = g at *
    -- a ticks of the first part, y of the last
    have ht : t = (P - x) + m * P + y := by omega
    have key : sbf P B t ≤ B * m + ((P - x) - g) + (y - g) := by
      generalize P - x = a at *
      have ha : a ≤ P := by omega
      rcases Nat.lt_or_ge t (P - B) with h' | h'
      · rw [sbf_low h']; omega
      · rw [hg] at h'
        rcases Nat.lt_or_ge (a + y) g with c | c
        · -- k = m - 1
          have hm1 : 1 ≤ m := by
            rcases Nat.eq_zero_or_pos m with h0 | h0
            · subst h0; omega
            · exact h0
          obtain ⟨m', rfl⟩ : ∃ m', m = m' + 1 := ⟨m - 1, by omega⟩
          rw [ht, show a + (m' + 1) * P + y = (P - B) + m' * P + (a + y + P - g) from by rw [Nat.add_mul]; omega, sbf_at m' _ (by omega), Nat.mul_add]
          omega
        · rcases Nat.lt_or_ge (a + y) (g + P) with c2 | c2
          · rw [ht, show a + m * P + y = (P - B) + m * P + (a + y - g) from by omega, sbf_at m _ (by omega)]
            omega
          · rcases Nat.lt_or_ge (a + y - g - P) P with c3 | c3
            · rw [ht, show a + m * P + y = (P - B) + (m + 1) * P + (a + y - g - P) from by rw [Nat.add_mul]; omega, sbf_at (m + 1) _ c3, Nat.mul_add]
              omega
            · omega
    omega
/-- the worst pattern is legal -/
theorem worst_period {P B : Nat} (hB : 1 ≤ B) (hBP : B ≤ P) (j : Nat) : cnt (worst P B) ((j + 1) * P) = cnt (worst P B) (j * P) + B := by
  have h0 : cnt (worst P B) P = B := by
    have h1 := sbf_worst hB hBP (P - B)
    rw [show B + (P - B) = P from by omega] at h1
    rw [h1, show P - B = (P - B) + 0 * P + 0 from by omega, sbf_at 0 0 (by omega)]
    simp
  cases j with
  | zero =>
    rw [Nat.zero_add, Nat.one_mul, Nat.zero_mul, h0, cnt, Nat.zero_add]
  | succ j =>
    have e1 : (j + 1 + 1) * P = B + ((P - B) + j * P + P) := by rw [Nat.add_mul, Nat.add_mul]; omega
    have e2 : (j + 1) * P = B + ((P - B) + j * P) := by rw [Nat.add_mul]; omega
    rw [e1, e2, sbf_worst hB hBP, sbf_worst hB hBP, sbf_period hB hBP (by omega)]
    omega
/-- more budget gives not less -/
theorem sbf_more {P B : Nat} (hB : 1 ≤ B) (hBP : B + 1 ≤ P) (t : Nat) : sbf P B t ≤ sbf P (B + 1) t := by
  have h1 := sbf_worst (P := P) (B := B + 1) (by omega) hBP t
  have h2 := sbf_worst (P := P) (B := B + 1) (by omega) hBP 0
  rw [sbf_zero (by omega) hBP] at h2
  have h3 := least_any (p := worst P (B + 1)) (P := P) (B := B) (M := B + 1 + t) hB (by omega) (fun j _ => by rw [worst_period (by omega) hBP]; omega) (s := B + 1) (t := t) (by
    have := Nat.mul_le_mul_left (B + 1 + t) (show 1 ≤ P by omega)
    omega)
  rw [Nat.add_zero] at h2
  omega
theorem sbf_more' {P B C : Nat} (hB : 1 ≤ B) (hBC : B ≤ C) (hC : C ≤ P) (t : Nat) : sbf P B t ≤ sbf P C t := by
  induction C with
  | zero => omega
  | succ C ih =>
    by_cases e : B = C + 1
    · subst e; exact Nat.le_refl _
    · exact Nat.le_trans (ih (by omega) (by omega)) (sbf_more (by omega) hC t)
theorem sbf_all (P t : Nat) : sbf P P t = t := by
  unfold sbf
  rw [Nat.sub_self, if_neg (by omega), Nat.sub_zero, Nat.sub_zero]
  exact Nat.div_add_mod t P

end Sp
end Go.Proofs.Ytmfbmbbndiafiaa

/-
  Layer 9 (supply): an interface in a block of its own; Right; literals of an interface.
-/
namespace Go.Proofs.Ytmfbmbbndiafiaa
open Go.RowKit Mm
namespace Sp

/-- block X holds this interface -/
def Fc (w : World) (X : Nat) (P B : Int) : Prop := w.cell? ⟨X, 0, none⟩ = some (.int .i64 P) ∧ w.cell? ⟨X, 1, none⟩ = some (.int .i64 B)
theorem Fc.below {w w' : World} {X : Nat} {P B : Int} (h : Fc w X P B) (b : Below w.heap.size w w') : Fc w' X P B := ⟨cell_below b h.1, cell_below b h.2⟩
theorem fc_new (w : World) (P B : Int) : Fc (w.alloc (.cells #[.int .i64 P, .int .i64 B] 32)) w.heap.size P B := by
  refine ⟨?_, ?_⟩ <;> simp

/-- which interfaces are right -/
def rightB (P B : Int) : Bool := decide (1 ≤ B ∧ B ≤ P ∧ P ≤ 200)
theorem right_iff {P B : Int} : rightB P B = true ↔ 1 ≤ B ∧ B ≤ P ∧ P ≤ 200 := by unfold rightB; exact decide_eq_true_iff
theorem right_no {P B : Int} : rightB P B = false ↔ ¬ (1 ≤ B ∧ B ≤ P ∧ P ≤ 200) := by unfold rightB; exact decide_eq_false_iff_not
theorem right_nat {P B : Int} (h : rightB P B = true) : ∃ p b : Nat, P = p ∧ B = b ∧ 1 ≤ b ∧ b ≤ p ∧ p ≤ 200 := by
  have := right_iff.1 h
  exact ⟨P.toNat, B.toNat, by omega, by omega, by omega, by omega, by omega⟩

set_option maxHeartbeats 800000 in
theorem right_any (P B : Int) (w : World) :
    Calls Try.prog 26 #[.agg #[.int .i64 P, .int .i64 B]] w fun e w' => e = .returned (.bool (rightB P B)) ∧ Below w.heap.size w w' := by
  obtain ⟨t1, t2⟩ := fc_new w P B
  have b0 := below_one w (Obj.cells #[.int .i64 P, .int .i64 B] 32)
  have B0 := Lib.hid b0
  clear b0
  cases h : rightB P B with
  | true =>
    obtain ⟨h1, h2, h3⟩ := right_iff.1 h
    go_enter Try.func26, Try.ntmps26
    go_wp2
    go_ret
    exact ⟨rfl, B0.out⟩
  | false =>
    have h' := right_no.1 h
    by_cases h1 : 1 ≤ B
    · by_cases h2 : B ≤ P
      · have h3 : ¬ P ≤ 200 := fun h3 => h' ⟨h1, h2, h3⟩
        go_enter Try.func26, Try.ntmps26
        go_wp2
        go_ret
        exact ⟨rfl, B0.out⟩
      · go_enter Try.func26, Try.ntmps26
        go_wp2
        go_ret
        exact ⟨rfl, B0.out⟩
    · go_enter Try.func26, Try.ntmps26
      go_wp2
      go_ret
      exact ⟨rfl, B0.out⟩
theorem right_v (P B : Int) (v : Bool) (hv : rightB P B = v) (w : World) :
    Calls Try.prog 26 #[.agg #[.int .i64 P, .int .i64 B]] w fun e w' => e = .returned (.bool v) ∧ Below w.heap.size w w' := by
  subst hv
  exact right_any P B w

theorem buildFace2 (a b : Int) (w : World) : (Instr.build 32 #[(0, .int .i64 a), (1, .int .i64 b)]).run Try.prog w = .ok (.agg #[.int .i64 a, .int .i64 b]) w := by kernel_rfl
theorem buildFace1 (a : Int) (w : World) : (Instr.build 32 #[(0, .int .i64 a)]).run Try.prog w = .ok (.agg #[.int .i64 a, .int .i64 0]) w := by kernel_rfl

end Sp
end Go.Proofs.Ytmfbmbbndiafiaa

/-
  Layer 9 (supply): how many of a list; which lists are legal; what they give at least: plain mathematics.
-/
namespace Go.Proofs.Ytmfbmbbndiafiaa
open Go.RowKit Mm
namespace Sp

theorem cnt_succ (p : Nat → Bool) (n : Nat) : cnt p (n + 1) = cnt p n + (if p n then 1 else 0) := rfl
theorem cnt_zero (p : Nat → Bool) : cnt p 0 = 0 := rfl
theorem cnt_len (p : Nat → Bool) (n : Nat) : cnt p n ≤ n := by
  have := cnt_slow p (Nat.zero_le n)
  rw [cnt_zero] at this
  omega
/-- how many of l are given, from i on and below j -/
def inN (l : List Bool) (i j : Nat) : Nat := cnt (at_ l) j - cnt (at_ l) i
theorem inN_len (l : List Bool) (i j : Nat) : inN l i j ≤ j - i := by
  unfold inN
  rcases Nat.le_total i j with h | h
  · have := cnt_slow (at_ l) h
    omega
  · have := cnt_mono (at_ l) h
    omega
theorem inN_same (l : List Bool) (i : Nat) : inN l i i = 0 := Nat.sub_self _
theorem inN_yes {l : List Bool} {i j : Nat} (h : i ≤ j) (hp : at_ l j = true) : inN l i (j + 1) = inN l i j + 1 := by
  have := cnt_mono (at_ l) h
  unfold inN
  rw [cnt_succ, hp]
  simp; omega
theorem inN_no {l : List Bool} {i j : Nat} (hp : at_ l j = false) : inN l i (j + 1) = inN l i j := by
  unfold inN
  rw [cnt_succ, hp]
  simp
theorem inN_add (l : List Bool) {i j k : Nat} (h1 : i ≤ j) (h2 : j ≤ k) : inN l i k = inN l i j + inN l j k := by
  have := cnt_mono (at_ l) h1
  have := cnt_mono (at_ l) h2
  unfold inN
  omega

/-- every whole period has its ticks -/
def legB (P B : Nat) (l : List Bool) : Bool := decide (∀ j, j < l.length / P → B ≤ inN l (j * P) (j * P + P))
theorem leg_iff {P B : Nat} {l : List Bool} : legB P B l = true ↔ ∀ j, j < l.length / P → B ≤ inN l (j * P) (j * P + P) := by unfold legB; exact decide_eq_true_iff
theorem leg_no {P B : Nat} {l : List Bool} {j : Nat} (hj : j < l.length / P) (h : ¬ B ≤ inN l (j * P) (j * P + P)) : legB P B l = false := by
  unfold legB
  rw [decide_eq_false_iff_not]
  exact fun e => h (e j hj)
/-- .. of an interface that is right -/
def legalB (P B : Int) (l : List Bool) : Bool := rightB P B && legB P.toNat B.toNat l
theorem legal_iff {P B : Int} {l : List Bool} : legalB P B l = true ↔ rightB P B = true ∧ legB P.toNat B.toNat l = true := by unfold legalB; rw [Bool.and_eq_true]
theorem period_le {P j n : Nat} (_ : 0 < P) (hj : j < n / P) : j * P + P ≤ n := by
  have h1 := Nat.mul_le_mul_right P (show j + 1 ≤ n / P from hj)
  have h2 := Nat.div_mul_le_self n P
  rw [Nat.add_mul] at h1
  omega

/-- the least of the first k + 1 places -/
def leastTo (l : List Bool) (t : Nat) : Nat → Nat
  | 0 => inN l 0 t
  | k + 1 => min (leastTo l t k) (inN l (k + 1) (k + 1 + t))
theorem leastTo_len (l : List Bool) (t : Nat) : ∀ k, leastTo l t k ≤ t
  | 0 => by have := inN_len l 0 t; rw [leastTo]; omega
  | k + 1 => by have := leastTo_len l t k; rw [leastTo]; omega
theorem leastTo_le (l : List Bool) (t : Nat) : ∀ k j, j ≤ k → leastTo l t k ≤ inN l j (j + t)
  | 0, j, h => by
    have : j = 0 := by omega
    subst this
    rw [leastTo, Nat.zero_add]
    exact Nat.le_refl _
  | k + 1, j, h => by
    rw [leastTo]
    rcases Nat.lt_or_ge j (k + 1) with h' | h'
    · have := leastTo_le l t k j (by omega)
      omega
    · have : j = k + 1 := by omega
      subst this
      omega
theorem leastTo_ge {l : List Bool} {t m : Nat} : ∀ {k}, (∀ j, j ≤ k → m ≤ inN l j (j + t)) → m ≤ leastTo l t k
  | 0, h => by have := h 0 (by omega); rw [Nat.zero_add] at this; exact this
  | k + 1, h => by
    have h1 := leastTo_ge (k := k) (fun j hj => h j (by omega))
    have h2 := h (k + 1) (by omega)
    rw [leastTo]
    omega
/-- what is given at least in t ticks one behind the other -/
def leastZ (l : List Bool) (t : Int) : Nat := if 0 ≤ t ∧ t ≤ l.length then leastTo l t.toNat (l.length - t.toNat) else 0
theorem leastZ_in {l : List Bool} {t : Nat} (h : t ≤ l.length) : leastZ l t = leastTo l t (l.length - t) := by
  unfold leastZ
  rw [if_pos ⟨by omega, by omega⟩, Int.toNat_natCast]
theorem leastZ_out {l : List Bool} {t : Int} (h : t < 0 ∨ l.length < t) : leastZ l t = 0 := by
  unfold leastZ
  rw [if_neg (by omega)]
theorem leastZ_zero (l : List Bool) : leastZ l 0 = 0 := by
  have := leastTo_len l 0 (l.length - 0)
  have h := leastZ_in (l := l) (t := 0) (by omega)
  have e : leastZ l ((0 : Nat) : Int) = leastZ l 0 := rfl
  omega
theorem leastZ_len (l : List Bool) (t : Int) : leastZ l t ≤ l.length := by
  unfold leastZ
  split
  · have := leastTo_len l t.toNat (l.length - t.toNat)
    omega
  · omega
/-- the tick that leaves and the one that joins -/
theorem inN_slide (l : List Bool) (k t : Nat) : inN l (k + 1) (k + 1 + t) + inN l k (k + 1) = inN l k (k + t) + inN l (k + t) (k + t + 1) := by
  have h1 := inN_add l (i := k) (j := k + 1) (k := k + 1 + t) (by omega) (by omega)
  have h2 := inN_add l (i := k) (j := k + t) (k := k + t + 1) (by omega) (by omega)
  rw [show k + t + 1 = k + 1 + t from by omega] at *
  omega

end Sp
end Go.Proofs.Ytmfbmbbndiafiaa

/-
  Layer 9 (supply): provided, Legal, Least.
-/
namespace Go.Proofs.Ytmfbmbbndiafiaa
open Go.RowKit Mm
namespace Sp

set_option maxHeartbeats 1600000 in
theorem prov_any (A : Option Addr) (c : Nat) (l : List Bool) (i j : Nat) (w : World) (hij : i ≤ j) (hj : j ≤ l.length) (H : FL w A c l) :
    Calls Try.prog 27 #[.slice A l.length c, .int .i64 i, .int .i64 j] w fun e w' => e = .returned (.int .i64 (inN l i j : Nat)) ∧ Below w.heap.size w w' := by
  have hb := H.1
  have hle := H.2.le
  by_cases hlt : i < j
  · obtain ⟨b, off, rfl, hc⟩ := H.2.flag (by omega)
    have HC := Lib.hid hc
    clear H hc
    go_enter Try.func27, Try.ntmps27
    go_wp2_with fail
    go_loop [7, 16] (fun n k => ∃ q m : Nat, k = .int .i64 q ∧ n = .int .i64 m ∧ q ≤ j - i ∧ m ≤ q ∧ Hid (m = inN l i (i + q))) (fun _ k => j - i - (intOf k).toNat)
    case atStart => exact ⟨0, 0, rfl, rfl, Nat.zero_le _, Nat.le_refl _, (inN_same l i).symm⟩
    case round =>
      obtain ⟨q, m, rfl, rfl, hq, hm, HM⟩ := hrel
      by_cases hlt : q < j - i
      · have x1 := HC.out (i + q) (by omega)
        rw [← Nat.add_assoc] at x1
        cases hp : at_ l (i + q) with
        | true =>
          rw [hp] at x1
          have HN : Hid (m + 1 = inN l i (i + (q + 1))) := by show _ = _; rw [← Nat.add_assoc, inN_yes (by omega) hp, ← HM.out]
          clear hp
          go_wp2_with fail
          go_round
          case rel => exact ⟨q + 1, m + 1, by go_num, by go_num, hlt, by omega, HN⟩
          case measure => simp [intOf]; omega
        | false =>
          rw [hp] at x1
          have HN : Hid (m = inN l i (i + (q + 1))) := by show _ = _; rw [← Nat.add_assoc, inN_no hp, ← HM.out]
          clear hp
          go_wp2_with fail
          go_round
          case rel => exact ⟨q + 1, m, by go_num, rfl, hlt, by omega, HN⟩
          case measure => simp [intOf]; omega
      · have hq' : i + q = j := by omega
        have HF : Hid (m = inN l i j) := by show _ = _; rw [HM.out, hq']
        clear hq'
        go_wp2_with fail
        go_ret
        exact ⟨ret_int (by rw [HF.out]), Below.refl _ _⟩
  · have : j = i := by omega
    subst this
    have HZ := Lib.hid (inN_same l j)
    rcases A with _ | a
    · have := H.2.none_ rfl
      go_enter Try.func27, Try.ntmps27
      go_wp2_with fail
      go_loop [7, 16] (fun n k => n = .int .i64 0 ∧ k = .int .i64 0) (fun _ k => 0)
      case atStart => exact ⟨rfl, rfl⟩
      case round =>
        obtain ⟨rfl, rfl⟩ := hrel
        go_wp2_with fail
        go_ret
        exact ⟨by rw [HZ.out]; rfl, Below.refl _ _⟩
    · go_enter Try.func27, Try.ntmps27
      go_wp2_with fail
      go_loop [7, 16] (fun n k => n = .int .i64 0 ∧ k = .int .i64 0) (fun _ k => 0)
      case atStart => exact ⟨rfl, rfl⟩
      case round =>
        obtain ⟨rfl, rfl⟩ := hrel
        go_wp2_with fail
        go_ret
        exact ⟨by rw [HZ.out]; rfl, Below.refl _ _⟩
theorem prov_v (A : Option Addr) (c : Nat) (l : List Bool) (i j : Nat) (x y z : Int) (n : Nat) (hn : l.length = n) (hx : (i : Int) = x) (hy : (j : Int) = y) (hz : ((inN l i j : Nat) : Int) = z) (w : World) (hij : i ≤ j) (hj : j ≤ l.length) (H : FL w A c l) :
    Calls Try.prog 27 #[.slice A n c, .int .i64 x, .int .i64 y] w fun e w' => e = .returned (.int .i64 z) ∧ Below w.heap.size w w' := by
  subst hx; subst hy; subst hz; subst hn
  exact prov_any A c l i j w hij hj H

set_option maxHeartbeats 1600000 in
theorem legal_any (P B : Int) (A : Option Addr) (c : Nat) (l : List Bool) (w : World) (H : FL w A c l) :
    Calls Try.prog 16 #[.agg #[.int .i64 P, .int .i64 B], .slice A l.length c] w fun e w' => e = .returned (.bool (legalB P B l)) ∧ Below w.heap.size w w' := by
  obtain ⟨t1, t2⟩ := fc_new w P B
  have b0 := below_one w (Obj.cells #[.int .i64 P, .int .i64 B] 32)
  have HT := Lib.hid (H.below b0)
  have hb := H.1
  have B0 := Lib.hid b0
  clear b0
  clear H
  cases hv : rightB P B with
  | false =>
    have HL : Hid (legalB P B l = false) := by show _ = _; unfold legalB; rw [hv]; rfl
    have HV := Lib.hid hv
    clear hv
    go_enter Try.func16, Try.ntmps16
    go_wp2_with fail
    refine (right_v P B false HV.out _).mono ?_
    rintro e w1 ⟨rfl, b1⟩
    replace t1 := cell_below b1 t1
    replace t2 := cell_below b1 t2
    have B1 := Lib.hid (below_step B0.out b1)
    clear b1
    go_wp2_with fail
    go_ret
    exact ⟨ret_bool HL.out.symm, B1.out⟩
  | true =>
    have HL : Hid (legalB P B l = legB P.toNat B.toNat l) := by show _ = _; unfold legalB; rw [hv]; rfl
    obtain ⟨p, b, rfl, rfl, h1, h2, h3⟩ := right_nat hv
    rw [Int.toNat_natCast, Int.toNat_natCast] at HL
    have HV := Lib.hid hv
    clear hv
    obtain ⟨m, hm⟩ : ∃ m, l.length / p = m := ⟨_, rfl⟩
    have hml : m ≤ l.length := by rw [← hm]; exact Nat.div_le_self _ _
    have e1 : ((l.length : Int)) / (p : Int) = (m : Int) := by rw [← Int.natCast_ediv, hm]
    have e2 : IntKind.i64.wrap ((l.length : Int).tdiv (p : Int)) = (m : Int) := by rw [IntWalk.i64_quo _ _ ⟨by omega, by omega, by omega⟩, e1]
    have e3 : IntKind.i64.wrap (m : Int) = (m : Int) := IntWalk.i64_in _ (by omega)
    have i1 : ¬ (p : Int) = 0 := by omega
    have HM := Lib.hid hm
    clear hm
    go_enter Try.func16, Try.ntmps16
    go_wp2_with fail
    refine (right_v p b true HV.out _).mono ?_
    rintro e w1 ⟨rfl, b1⟩
    replace t1 := cell_below b1 t1
    replace t2 := cell_below b1 t2
    have B1 := Lib.hid (below_step B0.out b1)
    replace HT := Lib.hid (HT.out.below b1)
    clear b1
    go_wp2_with fail
    go_loopw [15] (fun i wr => ∃ k : Nat, i = .int .i64 k ∧ k ≤ m ∧ Hid (∀ j, j < k → b ≤ inN l (j * p) (j * p + p)) ∧ Hid (Below w1.heap.size w1 wr)) (fun i _ => m - (intOf i).toNat)
    case atStart => exact ⟨0, rfl, Nat.zero_le _, (fun j h1 => by omega), Below.refl _ _⟩
    case round =>
      obtain ⟨k, rfl, hk, HH, HB⟩ := hrel
      replace t1 := cell_below HB.out t1
      replace t2 := cell_below HB.out t2
      replace HT := Lib.hid (HT.out.below HB.out)
      by_cases hlt : k < m
      · obtain ⟨a, ha⟩ : ∃ a, k * p = a := ⟨_, rfl⟩
        obtain ⟨n, hn⟩ : ∃ n, inN l a (a + p) = n := ⟨_, rfl⟩
        have hap : a + p ≤ l.length := by
          rw [← ha]
          exact period_le (by omega) (by rw [HM.out]; exact hlt)
        have hnp : n ≤ p := by have := inN_len l a (a + p); omega
        have q1 : IntKind.i64.wrap ((k : Int) * (p : Int)) = (a : Int) := by
          rw [show (k : Int) * (p : Int) = (a : Int) from by rw [← ha]; push_cast; rfl]
          exact IntWalk.i64_in _ (by omega)
        have q2 : IntKind.i64.wrap ((a : Int) + (p : Int)) = (a : Int) + (p : Int) := IntWalk.i64_in _ (by omega)
        have HNI : Hid (((inN l a (a + p) : Nat) : Int) = (n : Int)) := by show _ = _; rw [hn]
        by_cases hg : b ≤ n
        · have HH2 : Hid (∀ j, j < k + 1 → b ≤ inN l (j * p) (j * p + p)) := by
            intro j hj
            by_cases e : j = k
            · subst e; rw [ha, hn]; exact hg
            · exact HH.out j (by omega)
          have HA := Lib.hid ha
          have HN := Lib.hid hn
          clear ha hn
          go_wp2_with fail
          replace t1 := cell_bw t1
          replace t2 := cell_bw t2
          have HY : ((a + p : Nat) : Int) = (a : Int) + (p : Int) := by push_cast; rfl
          refine wp_region_bw (by kernel_rfl) (by kernel_rfl) ?_
          repeat
            (with_reducible refine wpQuiet_step (fun K hK => ?_)
             go_simp
             first
               | (with_reducible refine hK _ ?_
                  clear hK K)
               | (rw [if_neg]
                  rotate_left
                  focus (intro h; cases h; done)
                  with_reducible refine hK _ ?_
                  clear hK K)
               | (apply Exists.intro
                  refine ⟨fun _ => ?_, hK _ ?_⟩
                  (exact Calls.bw (prov_v A c l a (a + p) _ _ (n : Int) _ rfl rfl HY HNI.out _ (Nat.le_add_right a p) hap (HT.out.bw _)))
                  clear hK K))
          with_reducible refine wpQuiet_nil ?_
          intro wb hw'
          obtain ⟨⟨wb', lb⟩, hw''⟩ := hw'
          subst hw''
          have B2 := Lib.hid (below_step HB.out lb)
          clear lb
          go_wp2_with fail
          go_roundw
          case rel => exact ⟨k + 1, by go_num, hlt, HH2, B2⟩
          case measure => simp [intOf]; omega
        · have HF : Hid (legalB (p : Int) (b : Int) l = false) := by
            show _ = _
            rw [HL.out]
            exact leg_no (j := k) (by rw [HM.out]; exact hlt) (by rw [ha, hn]; exact hg)
          have HA := Lib.hid ha
          have HN := Lib.hid hn
          clear ha hn
          go_wp2_with fail
          replace t1 := cell_bw t1
          replace t2 := cell_bw t2
          have HY : ((a + p : Nat) : Int) = (a : Int) + (p : Int) := by push_cast; rfl
          refine wp_region_bw (by kernel_rfl) (by kernel_rfl) ?_
          repeat
            (with_reducible refine wpQuiet_step (fun K hK => ?_)
             go_simp
             first
               | (with_reducible refine hK _ ?_
                  clear hK K)
               | (rw [if_neg]
                  rotate_left
                  focus (intro h; cases h; done)
                  with_reducible refine hK _ ?_
                  clear hK K)
               | (apply Exists.intro
                  refine ⟨fun _ => ?_, hK _ ?_⟩
                  (exact Calls.bw (prov_v A c l a (a + p) _ _ (n : Int) _ rfl rfl HY HNI.out _ (Nat.le_add_right a p) hap (HT.out.bw _)))
                  clear hK K))
          with_reducible refine wpQuiet_nil ?_
          intro wb hw'
          obtain ⟨⟨wb', lb⟩, hw''⟩ := hw'
          subst hw''
          have B2 := Lib.hid (below_step HB.out lb)
          clear lb
          go_wp2_with fail
          go_ret
          exact ⟨ret_bool HF.out.symm, below_step B1.out B2.out⟩
      · have HF : Hid (legalB (p : Int) (b : Int) l = true) := by
          show _ = _
          rw [HL.out]
          exact leg_iff.2 fun j hj => HH.out j (by rw [HM.out] at hj; omega)
        go_wp2_with fail
        go_ret
        exact ⟨ret_bool HF.out.symm, below_step B1.out HB.out⟩
theorem legal_v (P B : Int) (A : Option Addr) (c : Nat) (l : List Bool) (v : Bool) (hv : legalB P B l = v) (n : Nat) (hn : l.length = n) (w : World) (H : FL w A c l) :
    Calls Try.prog 16 #[.agg #[.int .i64 P, .int .i64 B], .slice A n c] w fun e w' => e = .returned (.bool v) ∧ Below w.heap.size w w' := by
  subst hv; subst hn
  exact legal_any P B A c l w H

set_option maxHeartbeats 1600000 in
theorem least_out (A : Option Addr) (c : Nat) (l : List Bool) (t : Int) (w : World) (ht : t < 0 ∨ l.length < t) (hb : l.length ≤ 1000000) :
    Calls Try.prog 17 #[.slice A l.length c, .int .i64 t] w fun e w' => e = .returned (.int .i64 (leastZ l t : Nat)) ∧ Below w.heap.size w w' := by
  have HZ := Lib.hid (leastZ_out ht)
  rcases ht with h | h
  · go_enter Try.func17, Try.ntmps17
    go_wp2_with fail
    go_ret
    exact ⟨by rw [HZ.out]; rfl, Below.refl _ _⟩
  · go_enter Try.func17, Try.ntmps17
    go_wp2_with fail
    go_ret
    exact ⟨by rw [HZ.out]; rfl, Below.refl _ _⟩

set_option maxHeartbeats 1600000 in
theorem least_in (A : Option Addr) (c : Nat) (l : List Bool) (t : Nat) (w : World) (ht : t ≤ l.length) (H : FL w A c l) :
    Calls Try.prog 17 #[.slice A l.length c, .int .i64 t] w fun e w' => e = .returned (.int .i64 (leastZ l t : Nat)) ∧ Below w.heap.size w w' := by
  have hb := H.1
  have HT := Lib.hid H
  have HZ := Lib.hid (leastZ_in ht)
  clear H
  obtain ⟨d, hd⟩ : ∃ d, l.length - t = d := ⟨_, rfl⟩
  rw [hd] at HZ
  have hdl : l.length = t + d := by omega
  obtain ⟨q0, hq0⟩ : ∃ q0, inN l 0 t = q0 := ⟨_, rfl⟩
  have hq0t : q0 ≤ t := by have := inN_len l 0 t; omega
  have HQ0 : Hid (((inN l 0 t : Nat) : Int) = (q0 : Int)) := by show _ = _; rw [hq0]
  have HLE : Hid (leastTo l t 0 = q0) := hq0
  have e1 : IntKind.i64.wrap ((l.length : Int) - (t : Int)) = (d : Int) := by rw [IntWalk.i64_in _ (by omega)]; omega
  have e2 : IntKind.i64.wrap (d : Int) = (d : Int) := IntWalk.i64_in _ (by omega)
  clear hd hq0
  have HDL := Lib.hid hdl
  clear hdl
  have hdb : d ≤ 1000000 := by have := HDL.out; omega
  have htb : t ≤ 1000000 := by omega
  go_enter Try.func17, Try.ntmps17
  go_wp2_with fail
  refine (prov_v A c l 0 t _ _ (q0 : Int) _ rfl rfl rfl HQ0.out _ (Nat.zero_le _) ht HT.out).mono ?_
  rintro e w1 ⟨rfl, b1⟩
  have B1 := Lib.hid b1
  replace HT := Lib.hid (HT.out.below b1)
  clear b1
  go_wp2_with fail
  go_loopw [5, 6, 24] (fun q r i wr => ∃ k a m : Nat, i = .int .i64 k ∧ q = .int .i64 a ∧ r = .int .i64 m ∧ k ≤ d ∧ a ≤ t ∧ m ≤ t ∧ Hid (inN l k (k + t) = a) ∧ Hid (leastTo l t k = m) ∧ Hid (Below w1.heap.size w1 wr)) (fun _ _ i _ => d - (intOf i).toNat)
  case atStart =>
    refine ⟨0, q0, q0, rfl, rfl, rfl, Nat.zero_le _, hq0t, hq0t, ?_, HLE.out, Below.refl _ _⟩
    show _ = _
    rw [Nat.zero_add]
    have := HQ0.out
    omega
  case round =>
    obtain ⟨k, a, m, rfl, rfl, rfl, hk, ha, hm, HA, HM, HB⟩ := hrel
    replace HT := Lib.hid (HT.out.below HB.out)
    by_cases hlt : k < d
    · obtain ⟨x, hx⟩ : ∃ x, inN l (k + t) (k + t + 1) = x := ⟨_, rfl⟩
      obtain ⟨y, hy⟩ : ∃ y, inN l k (k + 1) = y := ⟨_, rfl⟩
      obtain ⟨z, hz⟩ : ∃ z, inN l (k + 1) (k + 1 + t) = z := ⟨_, rfl⟩
      have hx1 : x ≤ 1 := by have := inN_len l (k + t) (k + t + 1); omega
      have hy1 : y ≤ 1 := by have := inN_len l k (k + 1); omega
      have hzt : z ≤ t := by have := inN_len l (k + 1) (k + 1 + t); omega
      have hs := inN_slide l k t
      rw [hx, hy, hz, HA.out] at hs
      have e3 : IntKind.i64.wrap ((a : Int) + ((x : Int) - (y : Int))) = (z : Int) := by rw [IntWalk.i64_in _ (by omega)]; omega
      have HXX : Hid (((inN l (k + t) (k + t + 1) : Nat) : Int) = (x : Int)) := by show _ = _; rw [hx]
      have HYY : Hid (((inN l k (k + 1) : Nat) : Int) = (y : Int)) := by show _ = _; rw [hy]
      have hkt : k + t + 1 ≤ l.length := by have := HDL.out; omega
      have hk1 : k + 1 ≤ l.length := by omega
      have c1 : ((k + t : Nat) : Int) = (k : Int) + (t : Int) := by push_cast; rfl
      have c2 : ((k + t + 1 : Nat) : Int) = (k : Int) + (t : Int) + 1 := by push_cast; rfl
      have c3 : ((k + 1 : Nat) : Int) = (k : Int) + 1 := by push_cast; rfl
      have HX := Lib.hid hx
      have HY := Lib.hid hy
      have HS := Lib.hid hs
      have C1 := Lib.hid c1
      have C2 := Lib.hid c2
      have C3 := Lib.hid c3
      have HKT := Lib.hid hkt
      have HK1 := Lib.hid hk1
      clear hx hy hs c1 c2 c3 hkt hk1
      have HZ2 := Lib.hid hz
      clear hz
      by_cases hc : z < m
      · have HN : Hid (leastTo l t (k + 1) = z) := by show _ = _; rw [leastTo, HM.out, HZ2.out]; omega
        go_wp2_with fail
        refine (prov_v A c l (k + t) (k + t + 1) _ _ (x : Int) _ rfl C1.out C2.out HXX.out _ (by omega) HKT.out HT.out).mono ?_
        rintro e w2 ⟨rfl, b2⟩
        have B2 := Lib.hid b2
        replace HT := Lib.hid (HT.out.below b2)
        clear b2
        go_wp2_with fail
        refine (prov_v A c l k (k + 1) _ _ (y : Int) _ rfl rfl C3.out HYY.out _ (by omega) HK1.out HT.out).mono ?_
        rintro e w3 ⟨rfl, b3⟩
        have B3 := Lib.hid (below_step B2.out b3)
        replace HT := Lib.hid (HT.out.below b3)
        clear b3
        go_wp2_with fail
        go_roundw
        case rel => exact ⟨k + 1, z, z, by go_num, rfl, rfl, hlt, hzt, hzt, HZ2.out, HN.out, below_step HB.out B3.out⟩
        case measure => simp [intOf]; omega
      · have HN : Hid (leastTo l t (k + 1) = m) := by show _ = _; rw [leastTo, HM.out, HZ2.out]; omega
        go_wp2_with fail
        refine (prov_v A c l (k + t) (k + t + 1) _ _ (x : Int) _ rfl C1.out C2.out HXX.out _ (by omega) HKT.out HT.out).mono ?_
        rintro e w2 ⟨rfl, b2⟩
        have B2 := Lib.hid b2
        replace HT := Lib.hid (HT.out.below b2)
        clear b2
        go_wp2_with fail
        refine (prov_v A c l k (k + 1) _ _ (y : Int) _ rfl rfl C3.out HYY.out _ (by omega) HK1.out HT.out).mono ?_
        rintro e w3 ⟨rfl, b3⟩
        have B3 := Lib.hid (below_step B2.out b3)
        replace HT := Lib.hid (HT.out.below b3)
        clear b3
        go_wp2_with fail
        go_roundw
        case rel => exact ⟨k + 1, z, m, by go_num, rfl, rfl, hlt, hzt, hm, HZ2.out, HN.out, below_step HB.out B3.out⟩
        case measure => simp [intOf]; omega
    · have hkd : k = d := by omega
      subst hkd
      have HF : Hid (leastZ l (t : Int) = m) := by show _ = _; rw [HZ.out, HM.out]
      go_wp2_with fail
      go_ret
      exact ⟨by rw [HF.out]; rfl, below_step B1.out HB.out⟩
theorem least_call (A : Option Addr) (c : Nat) (l : List Bool) (t : Int) (w : World) (H : FL w A c l) :
    Calls Try.prog 17 #[.slice A l.length c, .int .i64 t] w fun e w' => e = .returned (.int .i64 (leastZ l t : Nat)) ∧ Below w.heap.size w w' := by
  by_cases h : 0 ≤ t ∧ t ≤ l.length
  · obtain ⟨k, rfl⟩ : ∃ k : Nat, t = k := ⟨t.toNat, by omega⟩
    exact least_in A c l k w (by omega) H
  · exact least_out A c l t w (by omega) H.1
theorem least_v (A : Option Addr) (c : Nat) (l : List Bool) (t z : Int) (hz : ((leastZ l t : Nat) : Int) = z) (n : Nat) (hn : l.length = n) (w : World) (H : FL w A c l) :
    Calls Try.prog 17 #[.slice A n c, .int .i64 t] w fun e w' => e = .returned (.int .i64 z) ∧ Below w.heap.size w w' := by
  subst hz; subst hn
  exact least_call A c l t w H

end Sp
end Go.Proofs.Ytmfbmbbndiafiaa

