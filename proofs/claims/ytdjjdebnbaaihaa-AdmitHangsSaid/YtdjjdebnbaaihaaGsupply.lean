/-
  Merged texts: SupplyMath, SupplyFace, SupplyBound.
-/
import Derived.Test.YtdjjdebnbaaihaaGmem
import Derived.WalkSmall
/-
  Layer 9 (supply): plain mathematics: the bound, patterns, the worst one.
-/
namespace Go.Proofs.Ytdjjdebnbaaihaa
namespace Sp
open Mm

/-- how many of the first n ticks are given -/
def cnt (p : Nat → Bool) : Nat → Nat
  | 0 => 0
  | n + 1 => cnt p n + (if p n then 1 else 0)
theorem cnt_le_add (p : Nat → Bool) (n : Nat) : ∀ d, cnt p n ≤ cnt p (n + d) ∧ cnt p (n + d) ≤ cnt p n + d
  | 0 => ⟨Nat.le_refl _, Nat.le_refl _⟩
  | d + 1 => by
    have h := cnt_le_add p n d
    rw [show n + (d + 1) = (n + d) + 1 from by omega, cnt]
    split <;> omega
theorem cnt_mono (p : Nat → Bool) {a b : Nat} (h : a ≤ b) : cnt p a ≤ cnt p b := by
  have := (cnt_le_add p a (b - a)).1
  rwa [show a + (b - a) = b from by omega] at this
theorem cnt_slow (p : Nat → Bool) {a b : Nat} (h : a ≤ b) : cnt p b ≤ cnt p a + (b - a) := by
  have := (cnt_le_add p a (b - a)).2
  rwa [show a + (b - a) = b from by omega] at this
theorem cnt_congr {p q : Nat → Bool} : ∀ {n : Nat}, (∀ i, i < n → p i = q i) → cnt p n = cnt q n
  | 0, _ => rfl
  | n + 1, h => by rw [cnt, cnt, cnt_congr (fun i hi => h i (by omega)), h n (by omega)]

/-- the bound -/
def sbf (P B t : Nat) : Nat := if t < P - B then 0 else B * ((t - (P - B)) / P) + ((t - (P - B)) % P - (P - B))
theorem sbf_low {P B t : Nat} (h : t < P - B) : sbf P B t = 0 := by simp [sbf, h]
theorem sbf_at {P B : Nat} (k r : Nat) (hr : r < P) : sbf P B ((P - B) + k * P + r) = B * k + (r - (P - B)) := by
  have h1 : P - B + k * P + r - (P - B) = r + k * P := by omega
  unfold sbf
  rw [if_neg (by omega), h1, Nat.add_mul_div_right _ _ (by omega), Nat.div_eq_of_lt hr, Nat.add_mul_mod_self_right, Nat.mod_eq_of_lt hr, Nat.zero_add]
/-- each number is below the first place, or k periods and r ticks behind it -/
theorem split_at {P B t : Nat} (hP : 0 < P) (h : P - B ≤ t) : ∃ k r, r < P ∧ t = (P - B) + k * P + r := by
  refine ⟨(t - (P - B)) / P, (t - (P - B)) % P, Nat.mod_lt _ hP, ?_⟩
  have := Nat.div_add_mod (t - (P - B)) P
  rw [Nat.mul_comm] at this
  omega

/-- the worst pattern -/
def worst (P B i : Nat) : Bool := if i < P then decide (i < B) else decide (P - B ≤ i % P)
theorem sbf_succ {P B t : Nat} (hB : 1 ≤ B) (hBP : B ≤ P) : sbf P B (t + 1) = sbf P B t + (if worst P B (B + t) then 1 else 0) := by
  rcases Nat.lt_or_ge t (P - B) with h | h
  · have hw : worst P B (B + t) = false := by
      unfold worst
      rw [if_pos (by omega)]
      simp
    rw [hw, sbf_low h]
    rcases Nat.lt_or_ge (t + 1) (P - B) with h' | h'
    · rw [sbf_low h']; rfl
    · have e : t + 1 = (P - B) + 0 * P + 0 := by omega
      rw [e, sbf_at 0 0 (by omega)]
      simp
  · obtain ⟨k, r, hr, e⟩ := split_at (by omega) h
    have hbt : B + t = (k + 1) * P + r := by rw [e, Nat.add_mul]; omega
    have hge : P ≤ (k + 1) * P := by rw [Nat.add_mul]; omega
    have hw : worst P B (B + t) = decide (P - B ≤ r) := by
      unfold worst
      rw [hbt, if_neg (by omega), show (k + 1) * P + r = r + (k + 1) * P from by omega, Nat.add_mul_mod_self_right, Nat.mod_eq_of_lt hr]
    rw [hw]
    rcases Nat.lt_or_ge (r + 1) P with h' | h'
    · rw [show t + 1 = (P - B) + k * P + (r + 1) from by omega, sbf_at k (r + 1) h', e, sbf_at k r hr]
      by_cases hg : P - B ≤ r
      · simp [hg]; omega
      · simp [hg]; omega
    · have hr1 : r = P - 1 := by omega
      rw [show t + 1 = (P - B) + (k + 1) * P + 0 from by rw [e, Nat.add_mul]; omega, sbf_at (k + 1) 0 (by omega), e, sbf_at k r hr, Nat.mul_add]
      have hg : P - B ≤ r := by omega
      simp [hg]; omega
/-- the bound is what the worst pattern gives behind its first ticks -/
theorem sbf_worst {P B : Nat} (hB : 1 ≤ B) (hBP : B ≤ P) : ∀ t, cnt (worst P B) (B + t) = B + sbf P B t
  | 0 => by
    have h : ∀ n, n ≤ B → cnt (worst P B) n = n := by
      intro n
      induction n with
      | zero => intro _; rfl
      | succ n ih =>
        intro hn
        have hw : worst P B n = true := by
          unfold worst
          rw [if_pos (by omega)]
          simp; omega
        rw [cnt, ih (by omega), hw]; rfl
    rw [Nat.add_zero, h B (Nat.le_refl _)]
    have : sbf P B 0 = 0 := by
      rcases Nat.lt_or_ge 0 (P - B) with h' | h'
      · exact sbf_low h'
      · have := sbf_at (P := P) (B := B) 0 0 (by omega)
        rw [show (P - B) + 0 * P + 0 = 0 from by omega] at this
        rw [this]; simp
    omega
  | t + 1 => by
    rw [show B + (t + 1) = (B + t) + 1 from by omega, cnt, sbf_worst hB hBP t, sbf_succ hB hBP]
    omega
/-- P9.4 -/
theorem sbf_rise {P B t : Nat} (hB : 1 ≤ B) (hBP : B ≤ P) : sbf P B (t + 1) = sbf P B t ∨ sbf P B (t + 1) = sbf P B t + 1 := by
  rw [sbf_succ hB hBP]
  split <;> omega
theorem sbf_zero {P B : Nat} (hB : 1 ≤ B) (hBP : B ≤ P) : sbf P B 0 = 0 := by
  have h1 := sbf_worst hB hBP 0
  have h2 := cnt_slow (worst P B) (Nat.zero_le (B + 0))
  have : cnt (worst P B) 0 = 0 := rfl
  omega
theorem sbf_le {P B : Nat} (hB : 1 ≤ B) (hBP : B ≤ P) : ∀ t, sbf P B t ≤ t
  | 0 => by rw [sbf_zero hB hBP]; omega
  | t + 1 => by
    have := sbf_le hB hBP t
    rcases sbf_rise (t := t) hB hBP with h | h <;> omega
theorem sbf_mono {P B t u : Nat} (hB : 1 ≤ B) (hBP : B ≤ P) (h : t ≤ u) : sbf P B t ≤ sbf P B u := by
  have h1 := sbf_worst hB hBP t
  have h2 := sbf_worst hB hBP u
  have := cnt_mono (worst P B) (show B + t ≤ B + u by omega)
  omega
theorem sbf_period {P B t : Nat} (hB : 1 ≤ B) (hBP : B ≤ P) (h : P - B ≤ t) : sbf P B (t + P) = sbf P B t + B := by
  obtain ⟨k, r, hr, e⟩ := split_at (by omega) h
  rw [show t + P = (P - B) + (k + 1) * P + r from by rw [e, Nat.add_mul]; omega, sbf_at _ _ hr, e, sbf_at _ _ hr, Nat.mul_add]
  omega
theorem sbf_periods {P B t : Nat} (hB : 1 ≤ B) (hBP : B ≤ P) (h : P - B ≤ t) : ∀ m, sbf P B (t + m * P) = sbf P B t + m * B
  | 0 => by simp
  | m + 1 => by
    rw [show t + (m + 1) * P = (t + m * P) + P from by rw [Nat.add_mul]; omega, sbf_period hB hBP (by omega), sbf_periods hB hBP h m, Nat.add_mul]
    omega

/-- P9.3: no pattern gives less, in ticks that lie in whole periods -/
theorem least_any {p : Nat → Bool} {P B M : Nat} (hB : 1 ≤ B) (hBP : B ≤ P) (hleg : ∀ j, j < M → cnt p (j * P) + B ≤ cnt p ((j + 1) * P)) {s t : Nat} (h : s + t ≤ M * P) : cnt p s + sbf P B t ≤ cnt p (s + t) := by
  have hP : 0 < P := by omega
  have many : ∀ d j, j + d ≤ M → cnt p (j * P) + B * d ≤ cnt p ((j + d) * P) := by
    intro d
    induction d with
    | zero => intro j _; simp
    | succ d ih =>
      intro j hj
      have h1 := ih j (by omega)
      have h2 := hleg (j + d) (by omega)
      rw [show j + (d + 1) = j + d + 1 from by omega, Nat.mul_add]
      omega
  -- ticks of one period: all but P - B are given
  have one : ∀ j a b, j < M → j * P ≤ a → a ≤ b → b ≤ (j + 1) * P → cnt p a + (b - a) ≤ cnt p b + (P - B) := by
    intro j a b hj h1 h2 h3
    have e1 := hleg j hj
    have e2 := cnt_slow p h1
    have e3 := cnt_slow p h3
    have e4 : (j + 1) * P = j * P + P := by rw [Nat.add_mul]; omega
    omega
  have hs : s = (s / P) * P + s % P := by have := Nat.div_add_mod s P; rw [Nat.mul_comm] at this; omega
  have he : s + t = ((s + t) / P) * P + (s + t) % P := by have := Nat.div_add_mod (s + t) P; rw [Nat.mul_comm] at this; omega
  have hsl := Nat.mod_lt s hP
  have hel := Nat.mod_lt (s + t) hP
  have hle : s / P ≤ (s + t) / P := Nat.div_le_div_right (by omega)
  generalize s / P = j at *
  generalize (s + t) / P = e at *
  generalize hx : s % P = x at *
  generalize hy : (s + t) % P = y at *
  have heM : e ≤ M := by
    rcases Nat.lt_or_ge M e with h' | h'
    · have := Nat.mul_le_mul_right P (show M + 1 ≤ e by omega)
      rw [Nat.add_mul] at this
      omega
    · exact h'
  -- both ends in one period
  have inside : ∀ q, q < M → q * P ≤ s → s + t ≤ (q + 1) * P → cnt p s + sbf P B t ≤ cnt p (s + t) := by
    intro q hq h1 h2
    have h3 := one q s (s + t) hq h1 (by omega) h2
    have h4 := cnt_mono p (show s ≤ s + t by omega)
    have e4 : (q + 1) * P = q * P + P := by rw [Nat.add_mul]; omega
    have h5 : sbf P B t ≤ t - (P - B) := by
      rcases Nat.lt_or_ge t (P - B) with h' | h'
      · rw [sbf_low h']; omega
      · obtain ⟨k, r, hr, et⟩ := split_at hP h'
        rw [et, sbf_at k r hr]
        have hk : k = 0 ∨ k = 1 := by
          rcases Nat.lt_or_ge k 2 with h | h
          · omega
          · have := Nat.mul_le_mul_right P h
            omega
        rcases hk with rfl | rfl
        · omega
        · omega
    omega
  by_cases hje : j = e
  · subst hje
    by_cases hjM : j < M
    · exact inside j hjM (by omega) (by rw [Nat.add_mul]; omega)
    · have : j = M := by omega
      subst this
      have ht : t = 0 := by omega
      subst ht
      rw [sbf_zero hB hBP]; simp
  · have hlt : j < e := by omega
    -- the part of s's period, whole periods, the last part
    have e1 : (j + 1) * P = j * P + P := by rw [Nat.add_mul]; omega
    have a1 := one j s ((j + 1) * P) (by omega) (by omega) (by omega) (Nat.le_refl _)
    have a1' := cnt_mono p (show s ≤ (j + 1) * P by omega)
    have a2 := many (e - (j + 1)) (j + 1) (by omega)
    rw [show j + 1 + (e - (j + 1)) = e from by omega] at a2
    have a3 : cnt p (e * P) + (y - (P - B)) ≤ cnt p (s + t) := by
      have m3 := cnt_mono p (show e * P ≤ s + t by omega)
      rcases Nat.lt_or_ge e M with h' | h'
      · have := one e (e * P) (s + t) h' (Nat.le_refl _) (by omega) (by rw [Nat.add_mul]; omega)
        omega
      · have : e = M := by omega
        subst this
        have : y = 0 := by omega
        omega
    generalize hm : e - (j + 1) = m at *
    have e2 : e * P = (j + 1) * P + m * P := by rw [← Nat.add_mul]; congr 1; omega
    generalize hg : P - B = g at *
    -- a ticks of the first part, y of the last
    have ht : t = (P - x) + m * P + y := by omega
    have key : sbf P B t ≤ B * m + ((P - x) - g) + (y - g) := by
      generalize P - x = a at *
      have ha : a ≤ P := by omega
      rcases Nat.lt_or_ge t (P - B) with h' | h'
      · rw [sbf_low h']; omega
      · rw [hg] at h'
        rcases Nat.lt_or_ge (a + y) g with c | c
        · -- k = m - 1
          have hm1 : 1 ≤ m := by
            rcases Nat.eq_zero_or_pos m with h0 | h0
            · subst h0; omega
            · exact h0
          obtain ⟨m', rfl⟩ : ∃ m', m = m' + 1 := ⟨m - 1, by omega⟩
          rw [ht, show a + (m' + 1) * P + y = (P - B) + m' * P + (a + y + P - g) from by rw [Nat.add_mul]; omega, sbf_at m' _ (by omega), Nat.mul_add]
          omega
        · rcases Nat.lt_or_ge (a + y) (g + P) with c2 | c2
          · rw [ht, show a + m * P + y = (P - B) + m * P + (a + y - g) from by omega, sbf_at m _ (by omega)]
            omega
          · rcases Nat.lt_or_ge (a + y - g - P) P with c3 | c3
            · rw [ht, show a + m * P + y = (P - B) + (m + 1) * P + (a + y - g - P) from by rw [Nat.add_mul]; omega, sbf_at (m + 1) _ c3, Nat.mul_add]
              omega
            · omega
    omega
/-- the worst pattern is legal -/
theorem worst_period {P B : Nat} (hB : 1 ≤ B) (hBP : B ≤ P) (j : Nat) : cnt (worst P B) ((j + 1) * P) = cnt (worst P B) (j * P) + B := by
  have h0 : cnt (worst P B) P = B := by
    have h1 := sbf_worst hB hBP (P - B)
    rw [show B + (P - B) = P from by omega] at h1
    rw [h1, show P - B = (P - B) + 0 * P + 0 from by omega, sbf_at 0 0 (by omega)]
    simp
  cases j with
  | zero =>
    rw [Nat.zero_add, Nat.one_mul, Nat.zero_mul, h0, cnt, Nat.zero_add]
  | succ j =>
    have e1 : (j + 1 + 1) * P = B + ((P - B) + j * P + P) := by rw [Nat.add_mul, Nat.add_mul]; omega
    have e2 : (j + 1) * P = B + ((P - B) + j * P) := by rw [Nat.add_mul]; omega
    rw [e1, e2, sbf_worst hB hBP, sbf_worst hB hBP, sbf_period hB hBP (by omega)]
    omega
/-- more budget gives not less -/
theorem sbf_more {P B : Nat} (hB : 1 ≤ B) (hBP : B + 1 ≤ P) (t : Nat) : sbf P B t ≤ sbf P (B + 1) t := by
  have h1 := sbf_worst (P := P) (B := B + 1) (by omega) hBP t
  have h2 := sbf_worst (P := P) (B := B + 1) (by omega) hBP 0
  rw [sbf_zero (by omega) hBP] at h2
  have h3 := least_any (p := worst P (B + 1)) (P := P) (B := B) (M := B + 1 + t) hB (by omega) (fun j _ => by rw [worst_period (by omega) hBP]; omega) (s := B + 1) (t := t) (by
    have := Nat.mul_le_mul_left (B + 1 + t) (show 1 ≤ P by omega)
    omega)
  rw [Nat.add_zero] at h2
  omega
theorem sbf_more' {P B C : Nat} (hB : 1 ≤ B) (hBC : B ≤ C) (hC : C ≤ P) (t : Nat) : sbf P B t ≤ sbf P C t := by
  induction C with
  | zero => omega
  | succ C ih =>
    by_cases e : B = C + 1
    · subst e; exact Nat.le_refl _
    · exact Nat.le_trans (ih (by omega) (by omega)) (sbf_more (by omega) hC t)
theorem sbf_all (P t : Nat) : sbf P P t = t := by
  unfold sbf
  rw [Nat.sub_self, if_neg (by omega), Nat.sub_zero, Nat.sub_zero]
  exact Nat.div_add_mod t P

end Sp
end Go.Proofs.Ytdjjdebnbaaihaa

/-
  Layer 9 (supply): an interface in a block of its own; Right; literals of an interface.
-/
namespace Go.Proofs.Ytdjjdebnbaaihaa
open Go.RowKit Mm
namespace Sp

/-- block X holds this interface -/
def Fc (w : World) (X : Nat) (P B : Int) : Prop := w.cell? ⟨X, 0, none⟩ = some (.int .i64 P) ∧ w.cell? ⟨X, 1, none⟩ = some (.int .i64 B)
theorem Fc.below {w w' : World} {X : Nat} {P B : Int} (h : Fc w X P B) (b : Below w.heap.size w w') : Fc w' X P B := ⟨cell_below b h.1, cell_below b h.2⟩
theorem fc_new (w : World) (P B : Int) : Fc (w.alloc (.cells #[.int .i64 P, .int .i64 B] 30)) w.heap.size P B := by
  refine ⟨?_, ?_⟩ <;> simp

/-- which interfaces are right -/
def rightB (P B : Int) : Bool := decide (1 ≤ B ∧ B ≤ P ∧ P ≤ 200)
theorem right_iff {P B : Int} : rightB P B = true ↔ 1 ≤ B ∧ B ≤ P ∧ P ≤ 200 := by unfold rightB; exact decide_eq_true_iff
theorem right_no {P B : Int} : rightB P B = false ↔ ¬ (1 ≤ B ∧ B ≤ P ∧ P ≤ 200) := by unfold rightB; exact decide_eq_false_iff_not
theorem right_nat {P B : Int} (h : rightB P B = true) : ∃ p b : Nat, P = p ∧ B = b ∧ 1 ≤ b ∧ b ≤ p ∧ p ≤ 200 := by
  have := right_iff.1 h
  exact ⟨P.toNat, B.toNat, by omega, by omega, by omega, by omega, by omega⟩

set_option maxHeartbeats 800000 in
theorem right_any (P B : Int) (w : World) :
    Calls Try.prog 22 #[.agg #[.int .i64 P, .int .i64 B]] w fun e w' => e = .returned (.bool (rightB P B)) ∧ Below w.heap.size w w' := by
  obtain ⟨t1, t2⟩ := fc_new w P B
  have b0 := below_one w (Obj.cells #[.int .i64 P, .int .i64 B] 30)
  have B0 := Lib.hid b0
  clear b0
  cases h : rightB P B with
  | true =>
    obtain ⟨h1, h2, h3⟩ := right_iff.1 h
    go_enter Try.func22, Try.ntmps22
    go_wp2
    go_ret
    exact ⟨rfl, B0.out⟩
  | false =>
    have h' := right_no.1 h
    by_cases h1 : 1 ≤ B
    · by_cases h2 : B ≤ P
      · have h3 : ¬ P ≤ 200 := fun h3 => h' ⟨h1, h2, h3⟩
        go_enter Try.func22, Try.ntmps22
        go_wp2
        go_ret
        exact ⟨rfl, B0.out⟩
      · go_enter Try.func22, Try.ntmps22
        go_wp2
        go_ret
        exact ⟨rfl, B0.out⟩
    · go_enter Try.func22, Try.ntmps22
      go_wp2
      go_ret
      exact ⟨rfl, B0.out⟩
theorem right_v (P B : Int) (v : Bool) (hv : rightB P B = v) (w : World) :
    Calls Try.prog 22 #[.agg #[.int .i64 P, .int .i64 B]] w fun e w' => e = .returned (.bool v) ∧ Below w.heap.size w w' := by
  subst hv
  exact right_any P B w

theorem buildFace2 (a b : Int) (w : World) : (Instr.build 30 #[(0, .int .i64 a), (1, .int .i64 b)]).run Try.prog w = .ok (.agg #[.int .i64 a, .int .i64 b]) w := by kernel_rfl
theorem buildFace1 (a : Int) (w : World) : (Instr.build 30 #[(0, .int .i64 a)]).run Try.prog w = .ok (.agg #[.int .i64 a, .int .i64 0]) w := by kernel_rfl

end Sp
end Go.Proofs.Ytdjjdebnbaaihaa

/-
  Layer 9 (supply): what Bound answers, in all cases.
-/
namespace Go.Proofs.Ytdjjdebnbaaihaa
open Go.RowKit Mm
namespace Sp

/-- an interface that is right, and a number that may be -/
def okB (P B t : Int) : Bool := rightB P B && decide (0 ≤ t ∧ t ≤ 4611686018427387903)
theorem ok_iff {P B t : Int} : okB P B t = true ↔ rightB P B = true ∧ 0 ≤ t ∧ t ≤ 4611686018427387903 := by
  unfold okB
  rw [Bool.and_eq_true, decide_eq_true_iff]

set_option maxHeartbeats 1600000 in
theorem bound_bad (P B t : Int) (h : okB P B t = false) (w : World) :
    Calls Try.prog 80 #[.agg #[.int .i64 P, .int .i64 B], .int .i64 t] w fun e w' => e = .returned (.tuple #[.int .i64 0, .int .i64 1]) ∧ Below w.heap.size w w' := by
  obtain ⟨t1, t2⟩ := fc_new w P B
  have b0 := below_one w (Obj.cells #[.int .i64 P, .int .i64 B] 30)
  have B0 := Lib.hid b0
  clear b0
  have h' : ¬ (rightB P B = true ∧ 0 ≤ t ∧ t ≤ 4611686018427387903) := fun e => by rw [ok_iff.2 e] at h; cases h
  clear h
  cases hv : rightB P B with
  | false =>
    have HV := Lib.hid hv
    clear hv
    clear h'
    go_enter Try.func80, Try.ntmps80
    go_wp2_with fail
    refine (right_v P B false HV.out _).mono ?_
    rintro e w1 ⟨rfl, b1⟩
    replace t1 := cell_below b1 t1
    replace t2 := cell_below b1 t2
    have B1 := Lib.hid (below_step B0.out b1)
    clear b1
    go_wp2_with fail
    go_ret2
    exact ⟨rfl, B1.out⟩
  | true =>
    have h1 : t < 0 ∨ 4611686018427387903 < t := by
      rcases Int.lt_or_le t 0 with e | e
      · exact .inl e
      · right
        rcases Int.lt_or_le 4611686018427387903 t with e' | e'
        · exact e'
        · exact absurd ⟨hv, e, e'⟩ h'
    have HV := Lib.hid hv
    clear hv
    clear h'
    rcases h1 with h1 | h1
    · go_enter Try.func80, Try.ntmps80
      go_wp2_with fail
      refine (right_v P B true HV.out _).mono ?_
      rintro e w1 ⟨rfl, b1⟩
      replace t1 := cell_below b1 t1
      replace t2 := cell_below b1 t2
      have B1 := Lib.hid (below_step B0.out b1)
      clear b1
      go_wp2_with fail
      go_ret2
      exact ⟨rfl, B1.out⟩
    · go_enter Try.func80, Try.ntmps80
      go_wp2_with fail
      refine (right_v P B true HV.out _).mono ?_
      rintro e w1 ⟨rfl, b1⟩
      replace t1 := cell_below b1 t1
      replace t2 := cell_below b1 t2
      have B1 := Lib.hid (below_step B0.out b1)
      clear b1
      go_wp2_with fail
      go_ret2
      exact ⟨rfl, B1.out⟩

set_option maxHeartbeats 1600000 in
theorem bound_ok (P B t : Nat) (hB : 1 ≤ B) (hBP : B ≤ P) (hP : P ≤ 200) (ht : t ≤ 4611686018427387903) (w : World) :
    Calls Try.prog 80 #[.agg #[.int .i64 P, .int .i64 B], .int .i64 t] w fun e w' => e = .returned (.tuple #[.int .i64 (sbf P B t : Nat), .int .i64 0]) ∧ Below w.heap.size w w' := by
  obtain ⟨t1, t2⟩ := fc_new w (P : Int) (B : Int)
  have b0 := below_one w (Obj.cells #[.int .i64 P, .int .i64 B] 30)
  have HV : Hid (rightB P B = true) := right_iff.2 ⟨by omega, by omega, by omega⟩
  obtain ⟨g, hg⟩ : ∃ g, P - B = g := ⟨_, rfl⟩
  have e0 : IntKind.i64.wrap ((P : Int) - (B : Int)) = (g : Int) := by rw [IntWalk.i64_in _ (by omega)]; omega
  have hgP : g < P := by omega
  have B0 := Lib.hid b0
  clear b0
  by_cases hlt : t < g
  · have HZ : Hid (sbf P B t = 0) := sbf_low (by omega)
    have hi : (t : Int) < (g : Int) := by omega
    clear hlt
    have HG := Lib.hid hg
    clear hg
    go_enter Try.func80, Try.ntmps80
    go_wp2_with fail
    refine (right_v P B true HV.out _).mono ?_
    rintro e w1 ⟨rfl, b1⟩
    replace t1 := cell_below b1 t1
    replace t2 := cell_below b1 t2
    have B1 := Lib.hid (below_step B0.out b1)
    clear b1
    go_wp2_with fail
    go_ret2
    exact ⟨by rw [HZ.out]; rfl, B1.out⟩
  · obtain ⟨k, r, hr, et⟩ := split_at (P := P) (B := B) (t := t) (by omega) (by omega)
    rw [hg] at et
    have hz : sbf P B t = B * k + (r - g) := by
      have := sbf_at (P := P) (B := B) k r hr
      rw [hg] at this
      rw [et, this]
    obtain ⟨a, ha⟩ : ∃ a, k * P = a := ⟨_, rfl⟩
    obtain ⟨m, hm⟩ : ∃ m, B * k = m := ⟨_, rfl⟩
    have hma : m ≤ a := by
      rw [← hm, ← ha, Nat.mul_comm k P]
      exact Nat.mul_le_mul_right k hBP
    have hka : k ≤ a := by
      rw [← ha]
      exact Nat.le_mul_of_pos_right k (by omega)
    rw [ha] at et
    rw [hm] at hz
    have e2 : IntKind.i64.wrap (((t : Int) - (g : Int)).tdiv (P : Int)) = (k : Int) := by
      rw [IntWalk.i64_quo _ _ ⟨by omega, by omega, by omega⟩]
      rw [show (t : Int) - (g : Int) = ((r + k * P : Nat) : Int) from by rw [ha]; omega]
      rw [← Int.natCast_ediv, Nat.add_mul_div_right _ _ (by omega), Nat.div_eq_of_lt hr, Nat.zero_add]
    have e3 : IntKind.i64.wrap ((k : Int) * (P : Int)) = (a : Int) := by
      rw [show (k : Int) * (P : Int) = (a : Int) from by rw [← ha]; push_cast; rfl]
      exact IntWalk.i64_in _ (by omega)
    have e6 : IntKind.i64.wrap ((B : Int) * (k : Int)) = (m : Int) := by
      rw [show (B : Int) * (k : Int) = (m : Int) from by rw [← hm]; push_cast; rfl]
      exact IntWalk.i64_in _ (by omega)
    have i1 : ¬ (t : Int) < (g : Int) := by omega
    have i2 : ¬ (P : Int) = 0 := by omega
    have i3 : IntKind.i64.wrap ((t : Int) - (g : Int)) = (t : Int) - (g : Int) := IntWalk.i64_in _ (by omega)
    have e2' : ((t : Int) - (g : Int)) / (P : Int) = (k : Int) := by
      rw [show (t : Int) - (g : Int) = ((r + k * P : Nat) : Int) from by rw [ha]; omega]
      rw [← Int.natCast_ediv, Nat.add_mul_div_right _ _ (by omega), Nat.div_eq_of_lt hr, Nat.zero_add]
    have e5 : IntKind.i64.wrap ((a : Int) + 2 * (g : Int)) = (a : Int) + 2 * (g : Int) := IntWalk.i64_in _ (by omega)
    have e7 : IntKind.i64.wrap ((t : Int) - ((a : Int) + 2 * (g : Int))) = (t : Int) - ((a : Int) + 2 * (g : Int)) := IntWalk.i64_in _ (by omega)
    have HG := Lib.hid hg
    have HA := Lib.hid ha
    have HM := Lib.hid hm
    have HZ := Lib.hid hz
    clear hg ha hm hz
    have HLT := Lib.hid hlt
    clear hlt
    by_cases hn : g < r
    · have i4 : ¬ (t : Int) ≤ (a : Int) + 2 * (g : Int) := by omega
      have e8 : IntKind.i64.wrap ((m : Int) + ((t : Int) - ((a : Int) + 2 * (g : Int)))) = (m : Int) + ((t : Int) - ((a : Int) + 2 * (g : Int))) := IntWalk.i64_in _ (by omega)
      have ET := Lib.hid et
      have HN := Lib.hid hn
      clear et hn
      go_enter Try.func80, Try.ntmps80
      go_wp2_with fail
      refine (right_v P B true HV.out _).mono ?_
      rintro e w1 ⟨rfl, b1⟩
      replace t1 := cell_below b1 t1
      replace t2 := cell_below b1 t2
      have B1 := Lib.hid (below_step B0.out b1)
      clear b1
      go_wp2_with fail
      go_ret2
      have h1 := ET.out
      have h2 := HN.out
      exact ⟨by rw [HZ.out, show ((m + (r - g) : Nat) : Int) = (m : Int) + ((t : Int) - ((a : Int) + 2 * (g : Int))) from by omega]; rfl, B1.out⟩
    · have i4 : (t : Int) ≤ (a : Int) + 2 * (g : Int) := by omega
      have e9 : IntKind.i64.wrap (m : Int) = (m : Int) := IntWalk.i64_in _ (by omega)
      have ET := Lib.hid et
      have HN := Lib.hid hn
      clear et hn
      go_enter Try.func80, Try.ntmps80
      go_wp2_with fail
      refine (right_v P B true HV.out _).mono ?_
      rintro e w1 ⟨rfl, b1⟩
      replace t1 := cell_below b1 t1
      replace t2 := cell_below b1 t2
      have B1 := Lib.hid (below_step B0.out b1)
      clear b1
      go_wp2_with fail
      go_ret2
      have h2 := HN.out
      exact ⟨by rw [HZ.out, show r - g = 0 from by omega]; rfl, B1.out⟩

/-- what Bound answers -/
def bndZ (P B t : Int) : Nat := if okB P B t then sbf P.toNat B.toNat t.toNat else 0
def bndE (P B t : Int) : Nat := if okB P B t then 0 else 1
theorem bound_any (P B t : Int) (w : World) :
    Calls Try.prog 80 #[.agg #[.int .i64 P, .int .i64 B], .int .i64 t] w fun e w' => e = .returned (.tuple #[.int .i64 (bndZ P B t : Nat), .int .i64 (bndE P B t : Nat)]) ∧ Below w.heap.size w w' := by
  unfold bndZ bndE
  cases h : okB P B t with
  | false => exact bound_bad P B t h w
  | true =>
    obtain ⟨h1, h2, h3⟩ := ok_iff.1 h
    obtain ⟨p, b, rfl, rfl, h4, h5, h6⟩ := right_nat h1
    obtain ⟨k, rfl⟩ : ∃ k : Nat, t = k := ⟨t.toNat, by omega⟩
    simp only [if_true, Int.toNat_natCast]
    exact bound_ok p b k h4 h5 h6 (by omega) w
theorem bound_v (P B t z e : Int) (hz : ((bndZ P B t : Nat) : Int) = z) (he : ((bndE P B t : Nat) : Int) = e) (w : World) :
    Calls Try.prog 80 #[.agg #[.int .i64 P, .int .i64 B], .int .i64 t] w fun x w' => x = .returned (.tuple #[.int .i64 z, .int .i64 e]) ∧ Below w.heap.size w w' := by
  subst hz; subst he
  exact bound_any P B t w

end Sp
end Go.Proofs.Ytdjjdebnbaaihaa

