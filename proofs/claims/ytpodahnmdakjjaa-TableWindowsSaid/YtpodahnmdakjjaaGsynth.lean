/-
  Merged texts: SynthMath, SynthList, SynthSupply, SynthFrame, SynthMem, SynthRight, SynthLo, SynthBegin, SynthGive, SynthTake, SynthLay, SynthTo.
-/
import Derived.Test.YtpodahnmdakjjaaGmem
import Derived.Test.YtpodahnmdakjjaaGsupply
import Derived.Test.YtpodahnmdakjjaaGarith
import Derived.Deep.Draws
/-
  Layer 12 (synth): plain mathematics: earliest deadline first, of periods that begin together: somebody is late just if more is wanted than there is.
-/
namespace Go.Proofs.Ytpodahnmdakjjaa
namespace Sy

/-! ### sums, and how many ticks are whose -/
def sumTo (f : Nat → Nat) : Nat → Nat
  | 0 => 0
  | n + 1 => sumTo f n + f n
theorem sum_le {f h : Nat → Nat} : ∀ {n : Nat}, (∀ j, j < n → f j ≤ h j) → sumTo f n ≤ sumTo h n
  | 0, _ => Nat.le_refl _
  | n + 1, e => by
    have h1 := sum_le (n := n) fun j hj => e j (by omega)
    have h2 := e n (by omega)
    rw [sumTo, sumTo]
    omega
theorem sum_same {f h : Nat → Nat} {n : Nat} (e : ∀ j, j < n → f j = h j) : sumTo f n = sumTo h n :=
  Nat.le_antisymm (sum_le fun j hj => by rw [e j hj]; exact Nat.le_refl _) (sum_le fun j hj => by rw [e j hj]; exact Nat.le_refl _)
theorem sum_lt {f h : Nat → Nat} {i : Nat} : ∀ {n : Nat}, (∀ j, j < n → f j ≤ h j) → i < n → f i < h i → sumTo f n < sumTo h n
  | 0, _, hi, _ => by omega
  | n + 1, e, hi, hl => by
    have h2 := e n (by omega)
    rw [sumTo, sumTo]
    by_cases h : i = n
    · subst h
      have h1 := sum_le (n := i) fun j hj => e j (by omega)
      omega
    · have h1 := sum_lt (n := n) (fun j hj => e j (by omega)) (by omega) hl
      omega
theorem sum_mul (c : Nat) (f : Nat → Nat) : ∀ n, sumTo (fun j => c * f j) n = c * sumTo f n
  | 0 => rfl
  | n + 1 => by rw [sumTo, sumTo, sum_mul c f n, Nat.mul_add]
theorem sum_zero : ∀ n, sumTo (fun _ => 0) n = 0
  | 0 => rfl
  | n + 1 => by rw [sumTo, sum_zero n]
theorem sum_add (f h : Nat → Nat) : ∀ n, sumTo (fun j => f j + h j) n = sumTo f n + sumTo h n
  | 0 => rfl
  | n + 1 => by rw [sumTo, sumTo, sumTo, sum_add f h n]; omega
theorem sum_one (x : Int) : ∀ n : Nat, sumTo (fun j => if x = (j : Int) then 1 else 0) n = if 0 ≤ x ∧ x < n then 1 else 0
  | 0 => by rw [sumTo, if_neg (by omega)]
  | n + 1 => by
    rw [sumTo, sum_one x n]
    by_cases h : x = (n : Int)
    · rw [if_pos h, if_neg (by omega), if_pos (by omega)]
    · rw [if_neg h]
      by_cases h' : 0 ≤ x ∧ x < (n : Int)
      · rw [if_pos h', if_pos (by omega)]
      · rw [if_neg h', if_neg (by omega)]

/-- how many of the ticks from a on, and below b, are j's -/
def cnt (g : Nat → Int) (j a : Nat) : Nat → Nat
  | 0 => 0
  | b + 1 => cnt g j a b + (if a ≤ b ∧ g b = (j : Int) then 1 else 0)
section
variable {g : Nat → Int} {j a b : Nat}
theorem cnt_none : ∀ {b : Nat}, b ≤ a → cnt g j a b = 0
  | 0, _ => rfl
  | b + 1, h => by rw [cnt, cnt_none (b := b) (by omega), if_neg (by omega)]
theorem cnt_succ (h : a ≤ b) : cnt g j a (b + 1) = cnt g j a b + (if g b = (j : Int) then 1 else 0) := by
  rw [cnt]
  by_cases e : g b = (j : Int)
  · rw [if_pos ⟨h, e⟩, if_pos e]
  · rw [if_neg (fun h => e h.2), if_neg e]
theorem cnt_split {m : Nat} (h1 : a ≤ m) : ∀ {b : Nat}, m ≤ b → cnt g j a b = cnt g j a m + cnt g j m b
  | 0, h2 => by
    have : m = 0 := by omega
    subst this
    rfl
  | b + 1, h2 => by
    by_cases e : m = b + 1
    · subst e
      rw [cnt_none (a := b + 1) (Nat.le_refl _)]
      omega
    · rw [cnt_succ (by omega), cnt_succ (a := m) (by omega), cnt_split h1 (b := b) (by omega)]
      omega
theorem cnt_mono {b' : Nat} (h : b ≤ b') : cnt g j a b ≤ cnt g j a b' := by
  rcases Nat.le_total a b with e | e
  · rw [cnt_split e h]; omega
  · rw [cnt_none e]; omega
theorem cnt_zero : ∀ {b : Nat}, (∀ t, a ≤ t → t < b → g t ≠ (j : Int)) → cnt g j a b = 0
  | 0, _ => rfl
  | b + 1, h => by
    rw [cnt, cnt_zero (b := b) fun t h1 h2 => h t h1 (by omega), if_neg (fun e => h b e.1 (by omega) e.2)]
theorem cnt_same {h : Nat → Int} : ∀ {b : Nat}, (∀ t, t < b → g t = h t) → cnt g j a b = cnt h j a b
  | 0, _ => rfl
  | b + 1, e => by rw [cnt, cnt, cnt_same (b := b) fun t ht => e t (by omega), e b (by omega)]
theorem cnt_len : ∀ {b : Nat}, cnt g j a b ≤ b - a
  | 0 => by rw [cnt]; omega
  | b + 1 => by
    have := cnt_len (b := b)
    rw [cnt]
    by_cases e : a ≤ b ∧ g b = (j : Int)
    · rw [if_pos e]; omega
    · rw [if_neg e]; omega
end
/-- all ticks are somebody's -/
theorem sum_all {g : Nat → Int} {n a : Nat} : ∀ {b : Nat}, a ≤ b → (∀ t, a ≤ t → t < b → ∃ j : Nat, j < n ∧ g t = j) → sumTo (fun j => cnt g j a b) n = b - a
  | 0, h, _ => by
    have : a = 0 := by omega
    subst this
    exact sum_zero n
  | b + 1, h, hh => by
    by_cases e : a = b + 1
    · subst e
      rw [sum_same (h := fun _ => 0) fun j _ => cnt_none (Nat.le_refl _), sum_zero]
      omega
    · have ih := sum_all (b := b) (by omega) fun t h1 h2 => hh t h1 (by omega)
      obtain ⟨j, hj, e'⟩ := hh b (by omega) (by omega)
      rw [sum_same (h := fun j => cnt g j a b + (if g b = (j : Int) then 1 else 0)) fun j _ => cnt_succ (by omega), sum_add, ih, sum_one, if_pos (by omega)]
      omega
/-- how many ticks are anybody's -/
def any (g : Nat → Int) : Nat → Nat
  | 0 => 0
  | t + 1 => any g t + (if 0 ≤ g t then 1 else 0)
theorem any_le (g : Nat → Int) : ∀ t, any g t ≤ t
  | 0 => Nat.le_refl _
  | t + 1 => by
    have := any_le g t
    rw [any]
    split <;> omega
theorem sum_any {g : Nat → Int} {n : Nat} : ∀ {b : Nat}, (∀ t, t < b → g t < n) → sumTo (fun j => cnt g j 0 b) n = any g b
  | 0, _ => sum_zero n
  | b + 1, h => by
    have ih := sum_any (b := b) fun t ht => h t (by omega)
    have hb := h b (by omega)
    rw [sum_same (h := fun j => cnt g j 0 b + (if g b = (j : Int) then 1 else 0)) fun j _ => cnt_succ (by omega), sum_add, ih, sum_one, any]
    by_cases e : 0 ≤ g b
    · rw [if_pos ⟨e, hb⟩, if_pos e]
    · rw [if_neg (fun h => e h.1), if_neg e]

/-! ### earliest deadline first -/
/-- how many ticks j has had in the period that has begun by t; the next tick at which one begins -/
def had (g : Nat → Int) (P : Nat → Nat) (j t : Nat) : Nat := cnt g j (t / P j * P j) t
def dl (P : Nat → Nat) (j t : Nat) : Nat := (t / P j + 1) * P j
/-- each tick is given to one with the earliest deadline of those that want some; or to none -/
structure Edf (n : Nat) (P B : Nat → Nat) (g : Nat → Int) : Prop where
  pos : ∀ j, j < n → 1 ≤ P j
  who : ∀ t, (g t = -1 ∧ ∀ k, k < n → B k ≤ had g P k t) ∨ ∃ j : Nat, j < n ∧ g t = j ∧ had g P j t < B j ∧ ∀ k, k < n → had g P k t < B k → dl P j t ≤ dl P k t
/-- j had too little in the period that ends at d -/
def late (P B : Nat → Nat) (g : Nat → Int) (j d : Nat) : Prop := P j ∣ d ∧ P j ≤ d ∧ cnt g j (d - P j) d < B j

theorem div_in {P q t : Nat} (h : t < P) : (q * P + t) / P = q := by
  rw [Nat.mul_comm, Nat.mul_add_div (by omega), Nat.div_eq_of_lt h]; omega
theorem dl_gt {P : Nat → Nat} {j t : Nat} (h : 1 ≤ P j) : t < dl P j t := by
  unfold dl
  have := Nat.div_add_mod t (P j)
  have h2 := Nat.mod_lt t (show 0 < P j by omega)
  rw [Nat.add_mul, Nat.one_mul, Nat.mul_comm (t / P j)]
  omega
section
variable {n : Nat} {P B : Nat → Nat} {g : Nat → Int}
theorem Edf.one (E : Edf n P B g) {j t : Nat} (h : g t = (j : Int)) : j < n ∧ had g P j t < B j ∧ ∀ k, k < n → had g P k t < B k → dl P j t ≤ dl P k t := by
  rcases E.who t with ⟨h1, _⟩ | ⟨i, h1, h2, h3, h4⟩
  · omega
  · have : i = j := by omega
    subst this
    exact ⟨h1, h3, h4⟩
theorem Edf.lt (E : Edf n P B g) (t : Nat) : g t < n := by
  rcases E.who t with ⟨h1, _⟩ | ⟨i, h1, h2, _⟩ <;> omega
/-- nobody has more in a period than its budget -/
theorem Edf.within (E : Edf n P B g) {j : Nat} (hj : j < n) (q : Nat) : ∀ {t : Nat}, t ≤ P j → cnt g j (q * P j) (q * P j + t) ≤ B j
  | 0, _ => by
    show cnt g j (q * P j) (q * P j) ≤ B j
    rw [cnt_none (Nat.le_refl _)]
    omega
  | t + 1, h => by
    have ih := E.within hj q (t := t) (by omega)
    rw [← Nat.add_assoc, cnt_succ (by omega)]
    by_cases e : g (q * P j + t) = (j : Int)
    · have := (E.one e).2.1
      unfold had at this
      rw [div_in (by omega)] at this
      rw [if_pos e]
      omega
    · rw [if_neg e]; omega
theorem Edf.period (E : Edf n P B g) {j : Nat} (hj : j < n) (q : Nat) : cnt g j (q * P j) ((q + 1) * P j) ≤ B j := by
  rw [Nat.add_mul, Nat.one_mul]
  exact E.within hj q (Nat.le_refl _)
theorem Edf.periods (E : Edf n P B g) {j : Nat} (hj : j < n) (r : Nat) : ∀ {k : Nat}, cnt g j (r * P j) ((r + k) * P j) ≤ k * B j
  | 0 => by
    show cnt g j (r * P j) (r * P j) ≤ _
    rw [cnt_none (Nat.le_refl _)]
    omega
  | k + 1 => by
    have ih := E.periods hj r (k := k)
    have h1 := E.period hj (r + k)
    rw [cnt_split (m := (r + k) * P j) (Nat.mul_le_mul_right _ (by omega)) (Nat.mul_le_mul_right _ (by omega)), Nat.add_mul k, Nat.one_mul]
    have : r + (k + 1) = r + k + 1 := by omega
    rw [this]
    omega

theorem last_one (Q : Nat → Prop) : ∀ d : Nat, ∃ s, s ≤ d ∧ (∀ t, s ≤ t → t < d → ¬ Q t) ∧ (s = 0 ∨ Q (s - 1))
  | 0 => ⟨0, Nat.le_refl _, fun t h1 h2 => by omega, .inl rfl⟩
  | d + 1 => by
    rcases Classical.em (Q d) with h | h
    · exact ⟨d + 1, Nat.le_refl _, fun t h1 h2 => by omega, .inr h⟩
    · obtain ⟨s, h1, h2, h3⟩ := last_one Q d
      refine ⟨s, by omega, fun t h4 h5 => ?_, h3⟩
      by_cases e : t = d
      · subst e; exact h
      · exact h2 t h4 (by omega)

/-- at a tick that is nobody's, or somebody's who is due later, all who are due by d have had theirs -/
theorem Edf.done (E : Edf n P B g) {d t k : Nat} (hQ : g t = -1 ∨ ∃ j : Nat, g t = j ∧ d < dl P j t) (hk : k < n) (hd : dl P k t ≤ d) : B k ≤ had g P k t := by
  rcases hQ with h | ⟨j, h, hj⟩
  · rcases E.who t with ⟨_, h2⟩ | ⟨i, _, h2, _⟩
    · exact h2 k hk
    · omega
  · rcases Nat.lt_or_ge (had g P k t) (B k) with e | e
    · have := (E.one h).2.2 k hk e
      omega
    · exact e

theorem ceil_le {s P : Nat} (h : 1 ≤ P) : s ≤ (s + P - 1) / P * P := by
  have h1 := Nat.div_add_mod (s + P - 1) P
  have h2 := Nat.mod_lt (s + P - 1) (show 0 < P by omega)
  rw [Nat.mul_comm] at h1
  omega
theorem ceil_lt {s P : Nat} (h : 1 ≤ P) : (s + P - 1) / P * P < s + P := by
  have h1 := Nat.div_add_mod (s + P - 1) P
  rw [Nat.mul_comm] at h1
  omega
theorem div_le' {d P : Nat} : d / P * P ≤ d := Nat.div_mul_le_self _ _
theorem lt_div' {d P : Nat} (h : 1 ≤ P) : d < d / P * P + P := by
  have h1 := Nat.div_add_mod d P
  have h2 := Nat.mod_lt d (show 0 < P by omega)
  rw [Nat.mul_comm] at h1
  omega

/-- what one has in a busy stretch is what its periods inside it hold -/
theorem Edf.stretch (E : Edf n P B g) {s d j : Nat} (_hs : s ≤ d) (hj : j < n) (hb : ∀ t, s ≤ t → t < d → ¬ (g t = -1 ∨ ∃ j : Nat, g t = j ∧ d < dl P j t)) (h0 : s = 0 ∨ (g (s - 1) = -1 ∨ ∃ j : Nat, g (s - 1) = j ∧ d < dl P j (s - 1))) :
    cnt g j s d = cnt g j ((s + P j - 1) / P j * P j) (d / P j * P j) ∨ (d / P j * P j < (s + P j - 1) / P j * P j ∧ cnt g j s d = 0) := by
  have hp := E.pos j hj
  have r1 := ceil_le (s := s) hp
  have r2 := ceil_lt (s := s) hp
  have d1 := div_le' (d := d) (P := P j)
  have d2 := lt_div' (d := d) hp
  -- a tick of j's in the stretch lies in a period that ends by d
  have due : ∀ t, s ≤ t → t < d → g t = (j : Int) → (t / P j + 1) * P j ≤ d := fun t h1 h2 e => by
    rcases Nat.lt_or_ge d (dl P j t) with h | h
    · exact absurd (.inr ⟨j, e, h⟩) (hb t h1 h2)
    · exact h
  -- .. and begins in the stretch
  have from_ : ∀ t, s ≤ t → t < d → g t = (j : Int) → s ≤ t / P j * P j := fun t h1 h2 e => by
    rcases Nat.lt_or_ge (t / P j * P j) s with h | h
    · have h9 : s ≠ 0 := by omega
      have hQ := h0.resolve_left h9
      have hq : (s - 1) / P j = t / P j := by
        have hle : (s - 1) / P j ≤ t / P j := Nat.div_le_div_right (by omega)
        have hge : t / P j ≤ (s - 1) / P j := (Nat.le_div_iff_mul_le (by omega)).2 (by omega)
        omega
      have hd := E.done hQ hj (by unfold dl; rw [hq]; exact due t h1 h2 e)
      have hw := (E.one e).2.1
      unfold had at hd hw
      rw [hq] at hd
      have := cnt_mono (g := g) (j := j) (a := t / P j * P j) (show s - 1 ≤ t by omega)
      omega
    · exact h
  generalize hR : (s + P j - 1) / P j = R at *
  generalize hD : d / P j = D at *
  rcases Nat.lt_or_ge (D * P j) (R * P j) with h | h
  · refine .inr ⟨h, cnt_zero fun t h1 h2 e => ?_⟩
    have q1 := due t h1 h2 e
    have q2 := from_ t h1 h2 e
    -- R ≤ t / P and t / P + 1 ≤ D
    have q3 : R ≤ t / P j := by
      rw [← hR]
      have : s + P j - 1 < (t / P j + 1) * P j := by rw [Nat.add_mul, Nat.one_mul]; omega
      have := Nat.div_lt_of_lt_mul (show s + P j - 1 < P j * (t / P j + 1) by rw [Nat.mul_comm]; exact this)
      omega
    have q4 : t / P j + 1 ≤ D := by
      rw [← hD]
      exact (Nat.le_div_iff_mul_le (by omega)).2 q1
    have q5 : R * P j ≤ D * P j := Nat.mul_le_mul_right _ (by omega)
    omega
  · left
    rw [cnt_split (m := R * P j) (by omega) (by omega), cnt_split (a := R * P j) (m := D * P j) h (by omega)]
    have z1 : cnt g j s (R * P j) = 0 := cnt_zero fun t h1 h2 e => by
      have q2 := from_ t h1 (by omega) e
      have q3 : R ≤ t / P j := by
        rw [← hR]
        have : s + P j - 1 < (t / P j + 1) * P j := by rw [Nat.add_mul, Nat.one_mul]; omega
        have := Nat.div_lt_of_lt_mul (show s + P j - 1 < P j * (t / P j + 1) by rw [Nat.mul_comm]; exact this)
        omega
      have q5 : R * P j ≤ t / P j * P j := Nat.mul_le_mul_right _ q3
      have := div_le' (d := t) (P := P j)
      omega
    have z2 : cnt g j (D * P j) d = 0 := cnt_zero fun t h1 h2 e => by
      have q1 := due t (by omega) h2 e
      have q4 : t / P j + 1 ≤ D := by
        rw [← hD]
        exact (Nat.le_div_iff_mul_le (by omega)).2 q1
      have := lt_div' (d := t) hp
      have q5 : (t / P j + 1) * P j ≤ D * P j := Nat.mul_le_mul_right _ q4
      rw [Nat.add_mul, Nat.one_mul] at q5
      omega
    omega

/-- if no more is wanted than there is, nobody is late -/
theorem Edf.never (E : Edf n P B g) {H : Nat} (hH : 0 < H) (hP : ∀ j, j < n → P j ∣ H) (hs : sumTo (fun j => B j * (H / P j)) n ≤ H) {i d : Nat} (hi : i < n) (hl : late P B g i d) : False := by
  obtain ⟨⟨q, hq⟩, hPd, hlt⟩ := hl
  have hp := E.pos i hi
  obtain ⟨s, hsd, hb, h0⟩ := last_one (fun t => g t = -1 ∨ ∃ j : Nat, g t = j ∧ d < dl P j t) d
  -- the late one's last period begins in the stretch
  have hdi : d / P i = q := by rw [hq]; exact Nat.mul_div_cancel_left _ (by omega)
  have hq1 : 1 ≤ q := by
    rcases Nat.eq_zero_or_pos q with e | e
    · subst e; omega
    · exact e
  have hd' : d - P i = (q - 1) * P i := by rw [hq, Nat.sub_mul, Nat.one_mul, Nat.mul_comm]
  have hd2 : d = (q - 1) * P i + P i := by
    rw [← hd']; omega
  have hsi : s ≤ d - P i := by
    rcases Nat.lt_or_ge (d - P i) s with h | h
    · have hQ := h0.resolve_left (by omega)
      have e1 : (s - 1) / P i = q - 1 := by
        have : s - 1 = (q - 1) * P i + (s - 1 - (q - 1) * P i) := by omega
        rw [this]
        exact div_in (by omega)
      have := E.done hQ hi (by unfold dl; rw [e1, Nat.add_mul, Nat.one_mul]; omega)
      unfold had at this
      rw [e1, ← hd'] at this
      have h2 := cnt_mono (g := g) (j := i) (a := d - P i) (show s - 1 ≤ d by omega)
      omega
    · exact h
  -- how many periods of each lie in the stretch
  let K : Nat → Nat := fun j => d / P j - (s + P j - 1) / P j
  have hK : ∀ j, j < n → cnt g j s d ≤ K j * B j ∧ K j * P j ≤ d - s := fun j hj => by
    have hpj := E.pos j hj
    have r1 := ceil_le (s := s) hpj
    have d1 := div_le' (d := d) (P := P j)
    have hKd : K j = d / P j - (s + P j - 1) / P j := rfl
    have e2 : K j * P j ≤ d - s := by
      rw [hKd, Nat.sub_mul]
      omega
    refine ⟨?_, e2⟩
    rcases E.stretch hsd hj hb h0 with h | ⟨_, h⟩
    · rw [h]
      rcases Nat.lt_or_ge (d / P j) ((s + P j - 1) / P j) with h' | h'
      · rw [cnt_none (Nat.mul_le_mul_right _ (by omega))]
        omega
      · have := E.periods hj ((s + P j - 1) / P j) (k := K j)
        rw [hKd, show (s + P j - 1) / P j + (d / P j - (s + P j - 1) / P j) = d / P j from by omega] at this
        rw [hKd]
        exact this
    · rw [h]; omega
  have hKi : cnt g i s d < K i * B i := by
    have hKd : K i = q - (s + P i - 1) / P i := by show d / P i - (s + P i - 1) / P i = _; rw [hdi]
    have hR : (s + P i - 1) / P i ≤ q - 1 := by
      have : s + P i - 1 < P i * (q - 1 + 1) := by rw [Nat.mul_add, Nat.mul_one, Nat.mul_comm]; omega
      have := Nat.div_lt_of_lt_mul this
      omega
    rcases E.stretch hsd hi hb h0 with h | ⟨h', _⟩
    · rw [h, hdi]
      generalize (s + P i - 1) / P i = R at *
      have h1 := E.periods hi R (k := q - 1 - R)
      rw [show R + (q - 1 - R) = q - 1 from by omega] at h1
      rw [cnt_split (m := (q - 1) * P i) (Nat.mul_le_mul_right _ hR) (Nat.mul_le_mul_right _ (by omega)), hKd, show q - R = (q - 1 - R) + 1 from by omega, Nat.add_mul, Nat.one_mul]
      rw [hd', show d = q * P i from by rw [hq, Nat.mul_comm]] at hlt
      omega
    · rw [hdi] at h'
      have : (s + P i - 1) / P i * P i ≤ q * P i := Nat.mul_le_mul_right _ (by omega)
      omega
  -- all ticks of the stretch are somebody's
  have hall := sum_all (g := g) (n := n) hsd fun t h1 h2 => by
    rcases E.who t with ⟨h, _⟩ | ⟨j, hj, h, _⟩
    · exact absurd (.inl h) (hb t h1 h2)
    · exact ⟨j, hj, h⟩
  have hlt2 : d - s < sumTo (fun j => K j * B j) n := by
    rw [← hall]
    exact sum_lt (fun j hj => (hK j hj).1) hi hKi
  have h1 : H * (d - s) < H * sumTo (fun j => K j * B j) n := Nat.mul_lt_mul_of_pos_left hlt2 hH
  rw [← sum_mul] at h1
  have h2 : sumTo (fun j => H * (K j * B j)) n ≤ sumTo (fun j => (d - s) * (B j * (H / P j))) n := sum_le fun j hj => by
    obtain ⟨m, hm⟩ := hP j hj
    have hpj := E.pos j hj
    rw [hm, Nat.mul_div_cancel_left _ (by omega)]
    have e1 : P j * m * (K j * B j) = (K j * P j) * (B j * m) := by
      ac_rfl
    rw [e1]
    exact Nat.mul_le_mul_right _ (hK j hj).2
  rw [sum_mul (d - s)] at h2
  have h3 : (d - s) * sumTo (fun j => B j * (H / P j)) n ≤ (d - s) * H := Nat.mul_le_mul_left _ hs
  rw [Nat.mul_comm (d - s) H] at h3
  omega

/-- if nobody is late, each has just its budget in each period -/
theorem Edf.just (E : Edf n P B g) {j q : Nat} (hj : j < n) (h : ¬ late P B g j ((q + 1) * P j)) : cnt g j (q * P j) ((q + 1) * P j) = B j := by
  have h1 := E.period hj q
  rcases Nat.lt_or_ge (cnt g j (q * P j) ((q + 1) * P j)) (B j) with e | e
  · refine absurd ⟨⟨q + 1, Nat.mul_comm _ _⟩, ?_, ?_⟩ h
    · rw [Nat.add_mul, Nat.one_mul]; omega
    · rw [show (q + 1) * P j - P j = q * P j from by rw [Nat.add_mul, Nat.one_mul]; omega]
      exact e
  · omega
theorem Edf.total (E : Edf n P B g) {j : Nat} (hj : j < n) : ∀ {k : Nat}, (∀ q, q < k → ¬ late P B g j ((q + 1) * P j)) → cnt g j 0 (k * P j) = k * B j
  | 0, _ => by rw [Nat.zero_mul, Nat.zero_mul]; rfl
  | k + 1, h => by
    rw [cnt_split (m := k * P j) (Nat.zero_le _) (Nat.mul_le_mul_right _ (by omega)), E.total hj (k := k) (fun q hq => h q (by omega)), E.just hj (h k (by omega)), Nat.add_mul, Nat.one_mul]
/-- if nobody is late in the frame, no more is wanted than there is; and as many ticks are given as are wanted -/
theorem Edf.share (E : Edf n P B g) {H : Nat} (hP : ∀ j, j < n → P j ∣ H) (hl : ∀ j d, j < n → d ≤ H → ¬ late P B g j d) : any g H = sumTo (fun j => B j * (H / P j)) n := by
  rw [← sum_any (n := n) fun t _ => E.lt t]
  refine sum_same fun j hj => ?_
  obtain ⟨m, hm⟩ := hP j hj
  have hpj := E.pos j hj
  have := E.total hj (k := m) fun q hq => hl j _ hj (by
    rw [hm, Nat.mul_comm (P j)]
    exact Nat.mul_le_mul_right _ (by omega))
  rw [show H / P j = m from by rw [hm]; exact Nat.mul_div_cancel_left _ (by omega)]
  rw [hm, Nat.mul_comm (P j), this, Nat.mul_comm]
end

end Sy
end Go.Proofs.Ytpodahnmdakjjaa

/-
  Layer 12 (synth): plain mathematics: to whom a tick is given; the ticks of a frame, one by one; the frame; whether laying succeeds.
-/
namespace Go.Proofs.Ytpodahnmdakjjaa
open Mm
namespace Sy

/-! ### to whom a tick is given -/
section
variable (P B : Nat → Nat) (h : Nat → Int) (t : Nat)
def wants (i : Nat) : Prop := had h P i t < B i
instance (i : Nat) : Decidable (wants P B h t i) := inferInstanceAs (Decidable (_ < _))
/-- of those in S that want ticks x has the earliest deadline, and of these the smallest number; or none wants any, and x is -1 -/
def Pick (S : Nat → Prop) (x : Int) : Prop :=
  (x = -1 ∧ ∀ i, S i → ¬ wants P B h t i) ∨ ∃ j : Nat, x = j ∧ S j ∧ wants P B h t j ∧ ∀ k, S k → wants P B h t k → dl P j t < dl P k t ∨ (dl P j t = dl P k t ∧ j ≤ k)
end
section
variable {P B : Nat → Nat} {h : Nat → Int} {t : Nat} {S S' : Nat → Prop} {x y : Int} {i : Nat}
theorem Pick.same (a : Pick P B h t S x) (b : Pick P B h t S y) : x = y := by
  rcases a with ⟨rfl, a⟩ | ⟨j, rfl, a1, a2, a3⟩
  · rcases b with ⟨rfl, _⟩ | ⟨k, _, b1, b2, _⟩
    · rfl
    · exact absurd b2 (a k b1)
  · rcases b with ⟨_, b⟩ | ⟨k, rfl, b1, b2, b3⟩
    · exact absurd a2 (b j a1)
    · have := a3 k b1 b2
      have := b3 j a1 a2
      omega
theorem pick_none : Pick P B h t (fun _ => False) (-1) := .inl ⟨rfl, fun _ h => h.elim⟩
/-- one more: it wants none -/
theorem Pick.skip (a : Pick P B h t S x) (hS : ∀ k, S' k ↔ S k ∨ k = i) (hw : ¬ wants P B h t i) : Pick P B h t S' x := by
  rcases a with ⟨rfl, a⟩ | ⟨j, rfl, a1, a2, a3⟩
  · refine .inl ⟨rfl, fun k hk => ?_⟩
    rcases (hS k).1 hk with e | rfl
    · exact a k e
    · exact hw
  · refine .inr ⟨j, rfl, (hS j).2 (.inl a1), a2, fun k hk hkw => ?_⟩
    rcases (hS k).1 hk with e | rfl
    · exact a3 k e hkw
    · exact absurd hkw hw
/-- .. it is the first that wants any -/
theorem Pick.first (a : Pick P B h t S (-1)) (hS : ∀ k, S' k ↔ S k ∨ k = i) (hw : wants P B h t i) : Pick P B h t S' (i : Int) := by
  rcases a with ⟨_, a⟩ | ⟨j, e, _⟩
  · refine .inr ⟨i, rfl, (hS i).2 (.inr rfl), hw, fun k hk hkw => ?_⟩
    rcases (hS k).1 hk with e | rfl
    · exact absurd hkw (a k e)
    · exact .inr ⟨rfl, Nat.le_refl _⟩
  · omega
/-- .. it is better -/
theorem Pick.take {j : Nat} (a : Pick P B h t S (j : Int)) (hS : ∀ k, S' k ↔ S k ∨ k = i) (hw : wants P B h t i) (hd : dl P i t < dl P j t ∨ (dl P i t = dl P j t ∧ i ≤ j)) : Pick P B h t S' (i : Int) := by
  rcases a with ⟨e, _⟩ | ⟨m, e, a1, a2, a3⟩
  · omega
  · have : m = j := by omega
    subst this
    refine .inr ⟨i, rfl, (hS i).2 (.inr rfl), hw, fun k hk hkw => ?_⟩
    rcases (hS k).1 hk with e | rfl
    · have := a3 k e hkw
      omega
    · exact .inr ⟨rfl, Nat.le_refl _⟩
/-- .. it is not -/
theorem Pick.keep {j : Nat} (a : Pick P B h t S (j : Int)) (hS : ∀ k, S' k ↔ S k ∨ k = i) (hd : dl P j t < dl P i t ∨ (dl P j t = dl P i t ∧ j ≤ i)) : Pick P B h t S' (j : Int) := by
  rcases a with ⟨e, _⟩ | ⟨m, e, a1, a2, a3⟩
  · omega
  · have : m = j := by omega
    subst this
    refine .inr ⟨m, rfl, (hS m).2 (.inl a1), a2, fun k hk hkw => ?_⟩
    rcases (hS k).1 hk with e | rfl
    · exact a3 k e hkw
    · exact hd
theorem Pick.of (a : Pick P B h t S x) (hS : ∀ k, S' k ↔ S k) : Pick P B h t S' x := by
  rcases a with ⟨rfl, a⟩ | ⟨j, rfl, a1, a2, a3⟩
  · exact .inl ⟨rfl, fun k hk => a k ((hS k).1 hk)⟩
  · exact .inr ⟨j, rfl, (hS j).2 a1, a2, fun k hk hkw => a3 k ((hS k).1 hk) hkw⟩
/-- only what was given before counts -/
theorem had_same {h' : Nat → Int} {i : Nat} (e : ∀ s, s < t → h s = h' s) : had h P i t = had h' P i t := cnt_same e
theorem Pick.hist {h' : Nat → Int} (a : Pick P B h t S x) (e : ∀ s, s < t → h s = h' s) : Pick P B h' t S x := by
  have e' : ∀ i, wants P B h t i ↔ wants P B h' t i := fun i => by unfold wants; rw [had_same e]
  rcases a with ⟨rfl, a⟩ | ⟨j, rfl, a1, a2, a3⟩
  · exact .inl ⟨rfl, fun k hk hw => a k hk ((e' k).2 hw)⟩
  · exact .inr ⟨j, rfl, a1, (e' j).1 a2, fun k hk hw => a3 k hk ((e' k).2 hw)⟩
end

/-- looked for among the k greatest numbers -/
def pickTo (n : Nat) (P B : Nat → Nat) (h : Nat → Int) (t : Nat) : Nat → Int
  | 0 => -1
  | k + 1 => if wants P B h t (n - 1 - k) ∧ (pickTo n P B h t k < 0 ∨ dl P (n - 1 - k) t ≤ dl P (pickTo n P B h t k).toNat t) then ((n - 1 - k : Nat) : Int) else pickTo n P B h t k
theorem pick_step {n k : Nat} {P B : Nat → Nat} {h : Nat → Int} {t : Nat} {x : Int} (hk : k < n) (a : Pick P B h t (fun i => n - k ≤ i ∧ i < n) x) :
    Pick P B h t (fun i => n - (k + 1) ≤ i ∧ i < n) (if wants P B h t (n - 1 - k) ∧ (x < 0 ∨ dl P (n - 1 - k) t ≤ dl P x.toNat t) then ((n - 1 - k : Nat) : Int) else x) := by
  have hS : ∀ i, (n - (k + 1) ≤ i ∧ i < n) ↔ (n - k ≤ i ∧ i < n) ∨ i = n - 1 - k := fun i => by omega
  by_cases hw : wants P B h t (n - 1 - k)
  · by_cases hx : x < 0
    · rw [if_pos ⟨hw, .inl hx⟩]
      have : x = -1 := by rcases a with ⟨e, _⟩ | ⟨j, e, _⟩ <;> omega
      subst this
      exact a.first hS hw
    · obtain ⟨j, rfl⟩ : ∃ j : Nat, x = j := ⟨x.toNat, by omega⟩
      have hj : n - k ≤ j := by
        rcases a with ⟨e, _⟩ | ⟨m, e, a1, _⟩
        · omega
        · have : m = j := by omega
          subst this
          exact a1.1
      by_cases hd : dl P (n - 1 - k) t ≤ dl P j t
      · rw [if_pos ⟨hw, .inr hd⟩]
        exact a.take hS hw (by omega)
      · rw [if_neg (by rintro ⟨_, h | h⟩; exact hx h; exact hd h)]
        exact a.keep hS (.inl (by omega))
  · rw [if_neg (fun h => hw h.1)]
    exact a.skip hS hw
theorem pickTo_pick {n : Nat} {P B : Nat → Nat} {h : Nat → Int} {t : Nat} : ∀ {k : Nat}, k ≤ n → Pick P B h t (fun i => n - k ≤ i ∧ i < n) (pickTo n P B h t k)
  | 0, _ => .inl ⟨rfl, fun i hi => by omega⟩
  | k + 1, hk => pick_step hk (pickTo_pick (k := k) (by omega))

/-! ### the ticks, one by one -/
def lay (n : Nat) (P B : Nat → Nat) : Nat → List Int
  | 0 => []
  | t + 1 => lay n P B t ++ [pickTo n P B (at_ (lay n P B t)) t n]
theorem lay_length (n : Nat) (P B : Nat → Nat) : ∀ t, (lay n P B t).length = t
  | 0 => rfl
  | t + 1 => by rw [lay, List.length_append, lay_length n P B t]; rfl
/-- whose tick t is -/
def gs (n : Nat) (P B : Nat → Nat) (t : Nat) : Int := at_ (lay n P B (t + 1)) t
theorem lay_at {n : Nat} {P B : Nat → Nat} {s : Nat} : ∀ {t : Nat}, s < t → at_ (lay n P B t) s = gs n P B s
  | 0, h => by omega
  | t + 1, h => by
    by_cases e : s = t
    · subst e; rfl
    · rw [lay, at_left (by rw [lay_length]; omega)]
      exact lay_at (by omega)
theorem lay_map (n : Nat) (P B : Nat → Nat) (t : Nat) : lay n P B t = (List.range t).map (gs n P B) :=
  at_eq_of (by rw [lay_length]; simp) fun i hi => by
    rw [lay_length] at hi
    rw [lay_at hi, at_get (by simpa using hi)]
    simp
theorem gs_pick (n : Nat) (P B : Nat → Nat) (t : Nat) : Pick P B (gs n P B) t (fun i => i < n) (gs n P B t) := by
  have h := pickTo_pick (n := n) (P := P) (B := B) (h := at_ (lay n P B t)) (t := t) (k := n) (Nat.le_refl _)
  have e : gs n P B t = pickTo n P B (at_ (lay n P B t)) t n := by
    unfold gs
    rw [lay, at_right (by rw [lay_length]; exact Nat.le_refl _), lay_length, Nat.sub_self]
    rfl
  rw [e]
  exact (h.of fun k => by omega).hist fun s hs => lay_at hs
theorem gs_edf {n : Nat} {P B : Nat → Nat} (hP : ∀ j, j < n → 1 ≤ P j) : Edf n P B (gs n P B) where
  pos := hP
  who := fun t => by
    rcases gs_pick n P B t with ⟨h1, h2⟩ | ⟨j, h1, h2, h3, h4⟩
    · refine .inl ⟨h1, fun k hk => ?_⟩
      have := h2 k hk
      unfold wants at this
      omega
    · refine .inr ⟨j, h2, h1, h3, fun k hk hw => ?_⟩
      have := h4 k hk hw
      omega
/-- what was laid by hand is this, if each tick was given so -/
theorem gs_of {n : Nat} {P B : Nat → Nat} {l : List Int} {t : Nat} {x : Int} (hl : l = lay n P B t) (hx : Pick P B (at_ l) t (fun i => i < n) x) : l ++ [x] = lay n P B (t + 1) := by
  subst hl
  rw [lay]
  congr 2
  exact hx.same ((pickTo_pick (Nat.le_refl _)).of fun k => by omega)

/-! ### whether somebody is late -/
def lateAt (n : Nat) (P B : Nat → Nat) (g : Nat → Int) (d : Nat) : Bool := (List.range n).any fun j => decide (P j ∣ d ∧ P j ≤ d ∧ cnt g j (d - P j) d < B j)
theorem lateAt_iff {n : Nat} {P B : Nat → Nat} {g : Nat → Int} {d : Nat} : lateAt n P B g d = true ↔ ∃ j, j < n ∧ late P B g j d := by
  unfold lateAt late
  rw [List.any_eq_true]
  constructor
  · rintro ⟨j, hj, h⟩
    exact ⟨j, by simpa using hj, of_decide_eq_true h⟩
  · rintro ⟨j, hj, h⟩
    exact ⟨j, by simpa using hj, decide_eq_true h⟩
/-- in ticks up to H -/
def share (n : Nat) (P B : Nat → Nat) (H : Nat) : Nat := sumTo (fun j => B j * (H / P j)) n
/-- laying succeeds just if the share is not above the frame -/
theorem late_iff {n : Nat} {P B : Nat → Nat} {H : Nat} (hP : ∀ j, j < n → 1 ≤ P j) (hd : ∀ j, j < n → P j ∣ H) (hH : 0 < H) : (∃ d, d ≤ H ∧ lateAt n P B (gs n P B) d = true) ↔ H < share n P B H := by
  have E := gs_edf (B := B) hP
  constructor
  · rintro ⟨d, _, hl⟩
    obtain ⟨j, hj, hl⟩ := lateAt_iff.1 hl
    rcases Nat.lt_or_ge H (share n P B H) with h | h
    · exact h
    · exact (E.never hH hd h hj hl).elim
  · intro h
    rcases Classical.em (∃ d, d ≤ H ∧ lateAt n P B (gs n P B) d = true) with e | e
    · exact e
    · have := E.share (H := H) hd fun j d hj hdH hl => e ⟨d, hdH, lateAt_iff.2 ⟨j, hj, hl⟩⟩
      have h2 := any_le (gs n P B) H
      unfold share at h
      omega
theorem share_any {n : Nat} {P B : Nat → Nat} {H : Nat} (hP : ∀ j, j < n → 1 ≤ P j) (hd : ∀ j, j < n → P j ∣ H) (hl : ∀ d, d ≤ H → lateAt n P B (gs n P B) d = false) : any (gs n P B) H = share n P B H :=
  (gs_edf (B := B) hP).share hd fun j d hj hdH h => by
    have := lateAt_iff.2 ⟨j, hj, h⟩
    rw [hl d hdH] at this
    cases this
/-- each has just its budget in each of its periods -/
theorem period_just {n : Nat} {P B : Nat → Nat} {H j q : Nat} (hP : ∀ j, j < n → 1 ≤ P j) (hl : ∀ d, d ≤ H → lateAt n P B (gs n P B) d = false) (hj : j < n) (hq : (q + 1) * P j ≤ H) : cnt (gs n P B) j (q * P j) ((q + 1) * P j) = B j :=
  (gs_edf (B := B) hP).just hj fun h => by
    have := lateAt_iff.2 ⟨j, hj, h⟩
    rw [hl _ hq] at this
    cases this

end Sy
end Go.Proofs.Ytpodahnmdakjjaa

/-
  Layer 12 (synth): plain mathematics: the frame, repeated, gives each interface its budget in each of its periods.
-/
namespace Go.Proofs.Ytpodahnmdakjjaa
namespace Sy

/-- is a tick of the repeated frame k's -/
def mine (f : Nat → Int) (H k t : Nat) : Bool := decide (f (t % H) = (k : Int))
theorem rep_cnt {f : Nat → Int} {H k a b : Nat} : ∀ {i}, b + i ≤ H → Sp.cnt (mine f H k) (a * H + b + i) = Sp.cnt (mine f H k) (a * H + b) + cnt f k b (b + i)
  | 0, _ => by rw [Nat.add_zero, Nat.add_zero, cnt_none (Nat.le_refl _)]; rfl
  | i + 1, h => by
    have ih := rep_cnt (f := f) (H := H) (k := k) (a := a) (b := b) (i := i) (by omega)
    have e : (a * H + b + i) % H = b + i := by
      rw [Nat.add_assoc, Nat.add_comm (a * H), Nat.add_mul_mod_self_right]
      exact Nat.mod_eq_of_lt (by omega)
    show Sp.cnt (mine f H k) (a * H + b + i) + (if mine f H k (a * H + b + i) then 1 else 0) = _ + cnt f k b (b + i + 1)
    rw [ih, cnt_succ (by omega)]
    unfold mine
    rw [e]
    by_cases hf : f (b + i) = (k : Int)
    · simp [hf, Nat.add_assoc]
    · simp [hf]
/-- in each period, wherever -/
theorem rep_supply {n : Nat} {P B : Nat → Nat} {H j : Nat} (hP : ∀ j, j < n → 1 ≤ P j) (hd : ∀ j, j < n → P j ∣ H) (hH : 0 < H) (hl : ∀ d, d ≤ H → lateAt n P B (gs n P B) d = false) (hj : j < n) (q : Nat) :
    Sp.cnt (mine (gs n P B) H j) (q * P j) + B j ≤ Sp.cnt (mine (gs n P B) H j) ((q + 1) * P j) := by
  obtain ⟨m, hm⟩ := hd j hj
  have hpj := hP j hj
  have hm0 : 0 < m := by
    rcases Nat.eq_zero_or_pos m with e | e
    · subst e; omega
    · exact e
  have hr := Nat.mod_lt q hm0
  have hq := Nat.div_add_mod q m
  have hle : (q % m + 1) * P j ≤ H := by
    rw [hm, Nat.mul_comm (P j)]
    exact Nat.mul_le_mul_right _ hr
  have e1 : q * P j = (q / m) * H + q % m * P j := by
    rw [hm]
    calc q * P j = (m * (q / m) + q % m) * P j := by rw [hq]
      _ = m * (q / m) * P j + q % m * P j := Nat.add_mul _ _ _
      _ = q / m * (P j * m) + q % m * P j := by congr 1; ac_rfl
  have e2 : (q + 1) * P j = (q / m) * H + q % m * P j + P j := by rw [Nat.add_mul, Nat.one_mul, e1]
  rw [Nat.add_mul, Nat.one_mul] at hle
  rw [e2, e1, rep_cnt (f := gs n P B) (k := j) (a := q / m) (b := q % m * P j) (i := P j) hle]
  have := period_just (q := q % m) hP hl hj (by rw [Nat.add_mul, Nat.one_mul]; exact hle)
  rw [Nat.add_mul, Nat.one_mul] at this
  omega

end Sy
end Go.Proofs.Ytpodahnmdakjjaa

/-
  Layer 12 (synth): plain mathematics: lists of interfaces: their frame, their share, their layout.
-/
namespace Go.Proofs.Ytpodahnmdakjjaa
namespace Sy
open Mm

abbrev Fce := Int × Int
def Pn (F : List Fce) (j : Nat) : Nat := (at_ F j).1.toNat
def Bn (F : List Fce) (j : Nat) : Nat := (at_ F j).2.toNat
/-- is this such a list -/
def okF (F : List Fce) : Bool := decide (F.length ≤ 4) && F.all fun f => Sp.rightB f.1 f.2
theorem okF_iff {F : List Fce} : okF F = true ↔ F.length ≤ 4 ∧ ∀ j, j < F.length → Sp.rightB (at_ F j).1 (at_ F j).2 = true := by
  unfold okF
  rw [Bool.and_eq_true, decide_eq_true_iff, List.all_eq_true]
  constructor
  · rintro ⟨h1, h2⟩
    exact ⟨h1, fun j hj => h2 _ (at_mem hj)⟩
  · rintro ⟨h1, h2⟩
    refine ⟨h1, fun x hx => ?_⟩
    obtain ⟨j, hj, rfl⟩ := mem_at hx
    exact h2 j hj
theorem okF_at {F : List Fce} (h : okF F = true) {j : Nat} (hj : j < F.length) : (at_ F j).1 = Pn F j ∧ (at_ F j).2 = Bn F j ∧ 1 ≤ Bn F j ∧ Bn F j ≤ Pn F j ∧ Pn F j ≤ 200 := by
  have := Sp.right_iff.1 ((okF_iff.1 h).2 j hj)
  unfold Pn Bn
  omega
theorem okF_pos {F : List Fce} (h : okF F = true) : ∀ j, j < F.length → 1 ≤ Pn F j := fun j hj => by have := okF_at h hj; omega
/-- the least number that all P divide -/
def lcmP (F : List Fce) : Nat → Nat
  | 0 => 1
  | k + 1 => Nat.lcm (lcmP F k) (Pn F k)
def frm (F : List Fce) : Nat := lcmP F F.length
theorem lcmP_pos {F : List Fce} (h : ∀ j, j < F.length → 1 ≤ Pn F j) : ∀ {k}, k ≤ F.length → 1 ≤ lcmP F k
  | 0, _ => Nat.le_refl _
  | k + 1, hk => by
    have h1 := lcmP_pos h (k := k) (by omega)
    have h2 := h k (by omega)
    rw [lcmP]
    exact Nat.lcm_pos (by omega) (by omega)
theorem lcmP_dvd {F : List Fce} {j : Nat} : ∀ {k}, j < k → Pn F j ∣ lcmP F k
  | 0, h => by omega
  | k + 1, h => by
    rw [lcmP]
    by_cases e : j = k
    · subst e; exact Nat.dvd_lcm_right _ _
    · exact Nat.dvd_trans (lcmP_dvd (k := k) (by omega)) (Nat.dvd_lcm_left _ _)
theorem lcmP_least {F : List Fce} {n : Nat} : ∀ {k}, (∀ j, j < k → Pn F j ∣ n) → lcmP F k ∣ n
  | 0, _ => Nat.one_dvd n
  | k + 1, h => by
    rw [lcmP]
    exact Nat.lcm_dvd (lcmP_least (k := k) fun j hj => h j (by omega)) (h k (by omega))
theorem lcmP_up {F : List Fce} (h : ∀ j, j < F.length → 1 ≤ Pn F j) {i k : Nat} (hik : i ≤ k) (hk : k ≤ F.length) : lcmP F i ≤ lcmP F k :=
  Nat.le_of_dvd (by have := lcmP_pos h hk; omega) (lcmP_least fun j hj => lcmP_dvd (by omega))
theorem frm_pos {F : List Fce} (h : okF F = true) : 0 < frm F := lcmP_pos (okF_pos h) (Nat.le_refl _)
theorem frm_dvd {F : List Fce} : ∀ j, j < F.length → Pn F j ∣ frm F := fun _ hj => lcmP_dvd hj
theorem frm_least {F : List Fce} {n : Nat} (h : ∀ j, j < F.length → Pn F j ∣ n) : frm F ∣ n := lcmP_least h
/-- do all P divide n -/
def dvF (F : List Fce) (n : Nat) : Nat → Bool
  | 0 => true
  | k + 1 => dvF F n k && decide (n % Pn F k = 0)
theorem dvF_iff {F : List Fce} {n : Nat} : ∀ {k}, dvF F n k = true ↔ ∀ j, j < k → Pn F j ∣ n
  | 0 => by simp [dvF]
  | k + 1 => by
    rw [dvF, Bool.and_eq_true, dvF_iff, decide_eq_true_iff]
    constructor
    · rintro ⟨h1, h2⟩ j hj
      by_cases e : j = k
      · subst e; exact Nat.dvd_of_mod_eq_zero h2
      · exact h1 j (by omega)
    · exact fun h => ⟨fun j hj => h j (by omega), Nat.mod_eq_zero_of_dvd (h k (by omega))⟩
theorem dvF_frm {F : List Fce} {n : Nat} (h0 : 1 ≤ n) (hn : n ≤ frm F) (h : dvF F n F.length = true) : n = frm F :=
  Nat.le_antisymm hn (Nat.le_of_dvd h0 (frm_least (dvF_iff.1 h)))
theorem dvF_not {F : List Fce} {n : Nat} (hn : n ≤ frm F) (h : dvF F n F.length = false) : n < frm F := by
  rcases Nat.lt_or_ge n (frm F) with e | e
  · exact e
  · have : n = frm F := by omega
    subst this
    rw [dvF_iff.2 frm_dvd] at h
    cases h

/-- the frame, the error -/
def frmE (F : List Fce) : Nat := if okF F then (if frm F ≤ 240 then 0 else 5) else 1
def frmZ (F : List Fce) : Nat := if frmE F = 0 then frm F else 0
theorem frm_bad {F : List Fce} (h : okF F = false) : frmE F = 1 ∧ frmZ F = 0 := by
  have : frmE F = 1 := by unfold frmE; rw [h]; rfl
  exact ⟨this, by unfold frmZ; rw [this]; rfl⟩
theorem frm_large {F : List Fce} (h : okF F = true) (h' : 240 < frm F) : frmE F = 5 ∧ frmZ F = 0 := by
  have : frmE F = 5 := by unfold frmE; rw [h, if_pos rfl, if_neg (by omega)]
  exact ⟨this, by unfold frmZ; rw [this]; rfl⟩
theorem frm_fine {F : List Fce} (h : okF F = true) (h' : frm F ≤ 240) : frmE F = 0 ∧ frmZ F = frm F := by
  have : frmE F = 0 := by unfold frmE; rw [h, if_pos rfl, if_pos h']
  exact ⟨this, by unfold frmZ; rw [this]; rfl⟩
theorem frmE_zero {F : List Fce} : frmE F = 0 ↔ okF F = true ∧ frm F ≤ 240 := by
  constructor
  · intro h
    cases ho : okF F with
    | false => rw [(frm_bad ho).1] at h; cases h
    | true =>
      rcases Nat.lt_or_ge 240 (frm F) with e | e
      · rw [(frm_large ho e).1] at h; cases h
      · exact ⟨rfl, e⟩
  · rintro ⟨h1, h2⟩
    exact (frm_fine h1 h2).1
theorem frmE_cases (F : List Fce) : frmE F = 0 ∨ frmE F = 1 ∨ frmE F = 5 := by
  unfold frmE
  split
  · split <;> simp
  · simp
/-- the share -/
def shr (F : List Fce) : Nat := share F.length (Pn F) (Bn F) (frm F)
def shrZ (F : List Fce) : Nat := if frmE F = 0 then shr F else 0
theorem sum_small {f : Nat → Nat} {m : Nat} : ∀ {n}, (∀ j, j < n → f j ≤ m) → sumTo f n ≤ n * m
  | 0, _ => by rw [sumTo]; omega
  | n + 1, h => by
    have := sum_small (n := n) fun j hj => h j (by omega)
    have := h n (by omega)
    rw [sumTo, Nat.add_mul]
    omega
theorem share_le {F : List Fce} (h : okF F = true) (j : Nat) (hj : j < F.length) : Bn F j * (frm F / Pn F j) ≤ frm F := by
  have := okF_at h hj
  obtain ⟨m, hm⟩ := frm_dvd j hj
  rw [hm, Nat.mul_div_cancel_left _ (by omega)]
  exact Nat.mul_le_mul_right _ (by omega)
theorem shr_small {F : List Fce} (h : frmE F = 0) : shr F ≤ 960 := by
  obtain ⟨h1, h2⟩ := frmE_zero.1 h
  have h3 := sum_small (f := fun j => Bn F j * (frm F / Pn F j)) (m := 240) (n := F.length) fun j hj => Nat.le_trans (share_le h1 j hj) h2
  have h4 := (okF_iff.1 h1).1
  unfold shr share
  omega
/-- the layout, the error -/
abbrev gF (F : List Fce) : Nat → Int := gs F.length (Pn F) (Bn F)
def layE (F : List Fce) : Nat := if frmE F = 0 then (if frm F < shr F then 7 else 0) else frmE F
def layL (F : List Fce) : List Int := if layE F = 0 then lay F.length (Pn F) (Bn F) (frm F) else []
theorem lay_fine {F : List Fce} (h : layE F = 0) : frmE F = 0 ∧ shr F ≤ frm F ∧ layL F = lay F.length (Pn F) (Bn F) (frm F) := by
  have h1 : frmE F = 0 := by
    rcases Nat.eq_zero_or_pos (frmE F) with e | e
    · exact e
    · unfold layE at h; rw [if_neg (by omega)] at h; exact h
  refine ⟨h1, ?_, by unfold layL; rw [if_pos h]⟩
  unfold layE at h
  rw [if_pos h1] at h
  split at h
  · cases h
  · omega
theorem lay_bad {F : List Fce} (h : layE F ≠ 0) : layL F = [] := by unfold layL; rw [if_neg h]
theorem lay_frame {F : List Fce} (h : frmE F ≠ 0) : layE F = frmE F ∧ layL F = [] := by
  have : layE F = frmE F := by unfold layE; rw [if_neg h]
  exact ⟨this, lay_bad (by omega)⟩
/-- laying fails just if somebody is late -/
theorem lay_late {F : List Fce} (h : frmE F = 0) : layE F = 7 ↔ ∃ d, d ≤ frm F ∧ lateAt F.length (Pn F) (Bn F) (gF F) d = true := by
  obtain ⟨h1, _⟩ := frmE_zero.1 h
  rw [late_iff (okF_pos h1) frm_dvd (frm_pos h1)]
  unfold layE shr
  rw [if_pos h]
  split
  · exact ⟨fun _ => by assumption, fun _ => rfl⟩
  · exact ⟨fun e => (by cases e), fun e => (by omega)⟩
theorem lay_never {F : List Fce} (h : layE F = 0) : ∀ d, d ≤ frm F → lateAt F.length (Pn F) (Bn F) (gF F) d = false := fun d hd => by
  cases e : lateAt F.length (Pn F) (Bn F) (gF F) d with
  | false => rfl
  | true =>
    have := (lay_late (lay_fine h).1).2 ⟨d, hd, e⟩
    omega
theorem lay_seven {F : List Fce} (h : frmE F = 0) {d : Nat} (hd : d ≤ frm F) (hl : lateAt F.length (Pn F) (Bn F) (gF F) d = true) : layE F = 7 ∧ layL F = [] := by
  have := (lay_late h).2 ⟨d, hd, hl⟩
  exact ⟨this, lay_bad (by omega)⟩
theorem lay_none {F : List Fce} (h : frmE F = 0) (hl : ∀ d, d ≤ frm F → lateAt F.length (Pn F) (Bn F) (gF F) d = false) : layE F = 0 := by
  rcases Nat.eq_zero_or_pos (layE F) with e | e
  · exact e
  · have h7 : layE F = 7 := by
      unfold layE at e ⊢
      rw [if_pos h] at e ⊢
      split at e
      · rw [if_pos (by assumption)]
      · omega
    obtain ⟨d, hd, he⟩ := (lay_late h).1 h7
    rw [hl d hd] at he
    cases he
/-- P12.3 -/
theorem lay_any {F : List Fce} (h : layE F = 0) : any (gF F) (frm F) = shr F := by
  obtain ⟨h1, _⟩ := frmE_zero.1 (lay_fine h).1
  exact share_any (okF_pos h1) frm_dvd (lay_never h)
/-- P12.4 -/
theorem lay_period {F : List Fce} (h : layE F = 0) {j q : Nat} (hj : j < F.length) (hq : (q + 1) * Pn F j ≤ frm F) : cnt (gF F) j (q * Pn F j) ((q + 1) * Pn F j) = Bn F j := by
  obtain ⟨h1, _⟩ := frmE_zero.1 (lay_fine h).1
  exact period_just (okF_pos h1) (lay_never h) hj hq
theorem lay_supply {F : List Fce} (h : layE F = 0) {j : Nat} (hj : j < F.length) (q : Nat) : Sp.cnt (mine (gF F) (frm F) j) (q * Pn F j) + Bn F j ≤ Sp.cnt (mine (gF F) (frm F) j) ((q + 1) * Pn F j) := by
  obtain ⟨h1, _⟩ := frmE_zero.1 (lay_fine h).1
  exact rep_supply (okF_pos h1) frm_dvd (frm_pos h1) (lay_never h) hj q
/-- nowhere less than the bound -/
theorem lay_least {F : List Fce} (h : layE F = 0) {j : Nat} (hj : j < F.length) (s t : Nat) : Sp.cnt (mine (gF F) (frm F) j) s + Sp.sbf (Pn F j) (Bn F j) t ≤ Sp.cnt (mine (gF F) (frm F) j) (s + t) := by
  obtain ⟨h1, _⟩ := frmE_zero.1 (lay_fine h).1
  have h2 := okF_at h1 hj
  refine Sp.least_any (M := s + t) h2.2.2.1 h2.2.2.2.1 (fun q _ => lay_supply h hj q) ?_
  exact Nat.le_mul_of_pos_right _ (by omega)

end Sy
end Go.Proofs.Ytpodahnmdakjjaa

/-
  Layer 12 (synth): a list of interfaces as an argument; an interface of a list in a block of its own.
-/
namespace Go.Proofs.Ytpodahnmdakjjaa
open Go.RowKit Mm
namespace Sy

theorem rd_face {w : World} {S : Nat → Prop} {vs : List Value} {x : Fce} : Dat.rd w S vs x ↔ vs = [.int .i64 x.1, .int .i64 x.2] ∧ Fit x.1 ∧ Fit x.2 := by
  constructor
  · rintro ⟨v, r, rfl, ⟨rfl, h1⟩, ⟨rfl, h2⟩⟩
    exact ⟨rfl, h1, h2⟩
  · rintro ⟨rfl, h1, h2⟩
    exact ⟨[.int .i64 x.1], [.int .i64 x.2], rfl, ⟨rfl, h1⟩, ⟨rfl, h2⟩⟩
theorem face_at {w : World} {S : Nat → Prop} {A : Option Addr} {c : Nat} {F : List Fce} (h : RdS w S A c F) (h0 : 0 < F.length) : ∃ b off, A = some ⟨b, off, none⟩ ∧ ∀ j, j < F.length →
    w.cell? ⟨b, off + j * 2, none⟩ = some (.int .i64 (at_ F j).1) ∧ w.cell? ⟨b, off + j * 2 + 1, none⟩ = some (.int .i64 (at_ F j).2) ∧ Fit (at_ F j).1 ∧ Fit (at_ F j).2 := by
  obtain ⟨b, off, e, hc⟩ := h.cells h0
  refine ⟨b, off, e, fun j hj => ?_⟩
  obtain ⟨vs, h1, h2⟩ := hc j hj
  obtain ⟨rfl, f1, f2⟩ := rd_face.1 h1
  exact ⟨h2 0 _ rfl, h2 1 _ rfl, f1, f2⟩
/-- a list of interfaces, as an argument -/
def CL (w : World) (A : Option Addr) (c : Nat) (F : List Fce) : Prop := F.length ≤ 1000000 ∧ Rd w A c F
theorem CL.below {w w' : World} {A : Option Addr} {c : Nat} {F : List Fce} (H : CL w A c F) (b : Below w.heap.size w w') : CL w' A c F := ⟨H.1, H.2.below b⟩
theorem CL.bw {w : World} {A : Option Addr} {c : Nat} {F : List Fce} (H : CL w A c F) (p : BW w) : CL p.to A c F := H.below p.low
theorem rows_face {w : World} {S : Nat → Prop} {r : List Value} {F : List Fce} (P B : Int) (h1 : Fit P) (h2 : Fit B) (h : Mm.Rows w S r F) : Mm.Rows w S (.int .i64 P :: .int .i64 B :: r) ((P, B) :: F) :=
  ⟨[.int .i64 P, .int .i64 B], r, rfl, rd_face.2 ⟨rfl, h1, h2⟩, h⟩

end Sy
end Go.Proofs.Ytpodahnmdakjjaa

/-
  Layer 12 (synth): right, Frame, Share.
-/
namespace Go.Proofs.Ytpodahnmdakjjaa
open Go.RowKit Mm Sp
namespace Sy

theorem okF_long {F : List Fce} (h : ¬ F.length ≤ 4) : okF F = false := by
  cases e : okF F with
  | false => rfl
  | true => exact absurd (okF_iff.1 e).1 h
theorem okF_bad {F : List Fce} {j : Nat} (hj : j < F.length) (h : rightB (at_ F j).1 (at_ F j).2 = false) : okF F = false := by
  cases e : okF F with
  | false => rfl
  | true => rw [(okF_iff.1 e).2 j hj] at h; cases h

set_option maxHeartbeats 1600000 in
theorem right_any (A : Option Addr) (c : Nat) (F : List Fce) (w : World) (H : CL w A c F) :
    Calls Try.prog 45 #[.slice A F.length c] w fun e w' => e = .returned (.bool (okF F)) ∧ Below w.heap.size w w' := by
  have hb := H.1
  have HT := Lib.hid H
  clear H
  by_cases hl : F.length ≤ 4
  · have hi : ¬ (4 : Int) < (F.length : Int) := by omega
    have HL := Lib.hid hl
    clear hl
    go_enter Try.func45, Try.ntmps45
    go_wp2_with fail
    go_loopw [10] (fun i wr => ∃ k : Nat, i = .int .i64 k ∧ k ≤ F.length ∧ Hid (∀ j, j < k → rightB (at_ F j).1 (at_ F j).2 = true) ∧ Hid (Below w.heap.size w wr)) (fun i _ => F.length - (intOf i).toNat)
    case atStart => exact ⟨0, rfl, Nat.zero_le _, (fun j h => by omega), Below.refl _ _⟩
    case round =>
      obtain ⟨k, rfl, hk, HH, HB⟩ := hrel
      by_cases hlt : k < F.length
      · obtain ⟨b, off, rfl, hc⟩ := face_at (HT.out.below HB.out).2 (by omega)
        obtain ⟨x1, x2, _, _⟩ := hc k hlt
        have HF : Hid (rightB (at_ F k).1 (at_ F k).2 = false → okF F = false) := okF_bad hlt
        have HY : Hid (rightB (at_ F k).1 (at_ F k).2 = true → ∀ j, j < k + 1 → rightB (at_ F j).1 (at_ F j).2 = true) := fun h j hj => by
          by_cases e : j = k
          · subst e; exact h
          · exact HH.out j (by omega)
        clear hc
        generalize at_ F k = x at *
        obtain ⟨t1, t2⟩ := fc_new wr x.1 x.2
        have b1 := below_one wr (Obj.cells #[.int .i64 x.1, .int .i64 x.2] 51)
        have B1 := Lib.hid (below_step HB.out b1)
        clear b1
        cases hv : rightB x.1 x.2 with
        | true =>
          have HN := Lib.hid (HY.out hv)
          have HV := Lib.hid hv
          clear hv
          go_wp2_with fail
          refine (right_v x.1 x.2 true HV.out _).mono ?_
          rintro e w2 ⟨rfl, b2⟩
          have B2 := Lib.hid (below_step B1.out b2)
          clear b2
          go_wp2_with fail
          go_roundw
          case rel => exact ⟨k + 1, by go_num, hlt, HN, B2⟩
          case measure => simp [intOf]; omega
        | false =>
          have HN := Lib.hid (HF.out hv)
          have HV := Lib.hid hv
          clear hv
          go_wp2_with fail
          refine (right_v x.1 x.2 false HV.out _).mono ?_
          rintro e w2 ⟨rfl, b2⟩
          have B2 := Lib.hid (below_step B1.out b2)
          clear b2
          go_wp2_with fail
          go_ret
          exact ⟨ret_bool HN.out.symm, B2.out⟩
      · have hkl : k = F.length := by omega
        subst hkl
        have HF : Hid (okF F = true) := okF_iff.2 ⟨HL.out, HH.out⟩
        go_wp2_with fail
        go_ret
        exact ⟨ret_bool HF.out.symm, HB.out⟩
  · have hi : (4 : Int) < (F.length : Int) := by omega
    have HF := Lib.hid (okF_long hl)
    go_enter Try.func45, Try.ntmps45
    go_wp2_with fail
    go_ret
    exact ⟨ret_bool HF.out.symm, Below.refl _ _⟩
theorem right_v (A : Option Addr) (c : Nat) (F : List Fce) (v : Bool) (hv : okF F = v) (w : World) (H : CL w A c F) :
    Calls Try.prog 45 #[.slice A F.length c] w fun e w' => e = .returned (.bool v) ∧ Below w.heap.size w w' := by
  subst hv
  exact right_any A c F w H

/-- the least number that all of k divide is small -/
theorem lcmP_le {F : List Fce} (h : okF F = true) : ∀ {k}, k ≤ F.length → lcmP F k ≤ 200 ^ k
  | 0, _ => Nat.le_refl _
  | k + 1, hk => by
    have h1 := lcmP_le h (k := k) (by omega)
    have h2 := okF_at h (j := k) (by omega)
    have h3 : lcmP F (k + 1) ≤ lcmP F k * Pn F k := Nat.le_of_dvd (Nat.mul_pos (lcmP_pos (okF_pos h) (by omega)) (by omega)) (Nat.lcm_dvd (Nat.dvd_mul_right _ _) (Nat.dvd_mul_left _ _))
    exact Nat.le_trans h3 (by rw [Nat.pow_succ]; exact Nat.mul_le_mul h1 (by omega))
theorem lcmP_small {F : List Fce} (h : okF F = true) {k : Nat} (hk : k ≤ F.length) : lcmP F k ≤ 1600000000 := by
  have h1 := (okF_iff.1 h).1
  refine Nat.le_trans (lcmP_le h hk) ?_
  exact Nat.le_trans (Nat.pow_le_pow_right (by omega) (show k ≤ 4 by omega)) (by decide)
theorem lcm_quo (a b : Nat) : ((a : Int) / Ar.gcdZ (a : Int) (b : Int) * (b : Int)) = ((Nat.lcm a b : Nat) : Int) := by
  have : Nat.lcm a b = a / Nat.gcd a b * b := by
    rw [Nat.lcm, Nat.div_mul_right_comm (Nat.gcd_dvd_left a b)]
  rw [this]
  unfold Ar.gcdZ
  simp only [Int.toNat_natCast]
  push_cast
  rfl
theorem lcm_nat (a b m : Nat) (ha : 1 ≤ a) (hb : 1 ≤ b) (hm : Nat.lcm a b = m) (h1 : a ≤ 1600000000) (h2 : b ≤ 200) (h3 : m ≤ 1600000000) (w : World) :
    Calls Try.prog 46 #[.int .i64 a, .int .i64 b] w fun e w' => e = .returned (.tuple #[.int .i64 (m : Int), .int .i64 0]) ∧ Below w.heap.size w w' := by
  have e := lcm_quo a b
  rw [hm] at e
  have := Ar.lcm_ok a b w (Ar.perm_iff.2 (by omega)) (Ar.perm_iff.2 (by omega)) (by omega) (by omega) (by rw [e]; exact Ar.perm_iff.2 (by omega))
  rw [e] at this
  exact this

def frmT (F : List Fce) : Value := .tuple #[.int .i64 (frmZ F : Nat), .int .i64 (frmE F : Nat)]
set_option maxHeartbeats 1600000 in
theorem frame_any (A : Option Addr) (c : Nat) (F : List Fce) (w : World) (H : CL w A c F) :
    Calls Try.prog 39 #[.slice A F.length c] w fun e w' => e = .returned (frmT F) ∧ Below w.heap.size w w' := by
  have hb := H.1
  have HT := Lib.hid H
  have B0 := Lib.hid (below_one w (Obj.cells #[.int .i64 0] 3))
  clear H
  cases ho : okF F with
  | false =>
    have HV : Hid (frmT F = .tuple #[.int .i64 0, .int .i64 1]) := by show _ = _; unfold frmT; rw [(frm_bad ho).1, (frm_bad ho).2]; rfl
    have HO := Lib.hid ho
    clear ho
    go_enter Try.func39, Try.ntmps39
    go_wp2_with fail
    refine (right_v A c F false HO.out _ HT.out).mono ?_
    rintro e w1 ⟨rfl, b1⟩
    have B1 := Lib.hid b1
    clear b1
    go_wp2_with fail
    go_ret2
    exact ⟨by rw [HV.out]; rfl, B1.out⟩
  | true =>
    have HO := Lib.hid ho
    clear ho
    go_enter Try.func39, Try.ntmps39
    go_wp2_with fail
    refine (right_v A c F true HO.out _ HT.out).mono ?_
    rintro e w1 ⟨rfl, b1⟩
    have B1 := Lib.hid b1
    replace HT := Lib.hid (HT.out.below b1)
    clear b1
    go_wp2_with fail
    go_loopw [4, 12] (fun m i wr => ∃ k q : Nat, i = .int .i64 k ∧ m = .int .i64 q ∧ k ≤ F.length ∧ q ≤ 1600000000 ∧ Hid (lcmP F k = q) ∧ Hid (Below w1.heap.size w1 wr)) (fun _ i _ => F.length - (intOf i).toNat)
    case atStart => exact ⟨0, 1, rfl, rfl, Nat.zero_le _, by omega, rfl, Below.refl _ _⟩
    case round =>
      obtain ⟨k, q, rfl, rfl, hk, hq, HQ, HB⟩ := hrel
      by_cases hlt : k < F.length
      · obtain ⟨b, off, rfl, hc⟩ := face_at (HT.out.below HB.out).2 (by omega)
        obtain ⟨x1, x2, _, _⟩ := hc k hlt
        obtain ⟨e1, e2, h1, h2, h3⟩ := okF_at HO.out hlt
        have hq1 : 1 ≤ q := by rw [← HQ.out]; exact lcmP_pos (okF_pos HO.out) hk
        obtain ⟨m, hm⟩ : ∃ m, Nat.lcm q (Pn F k) = m := ⟨_, rfl⟩
        have hn : lcmP F (k + 1) = m := by rw [lcmP, HQ.out, hm]
        have hm2 : m ≤ 1600000000 := by rw [← hn]; exact lcmP_small HO.out hlt
        rw [e1] at x1
        rw [e2] at x2
        have HM := Lib.hid hm
        have HN := Lib.hid hn
        clear hm hn
        clear hc e1 e2
        generalize Pn F k = p at *
        generalize Bn F k = d at *
        obtain ⟨t1, t2⟩ := fc_new wr (p : Int) (d : Int)
        have b1 := below_one wr (Obj.cells #[.int .i64 (p : Int), .int .i64 (d : Int)] 51)
        have B2 := Lib.hid (below_step HB.out b1)
        clear b1
        go_wp2_with fail
        refine (lcm_nat q p m hq1 (by omega) HM.out hq (by omega) hm2 _).mono ?_
        rintro e w3 ⟨rfl, b3⟩
        have B3 := Lib.hid (below_step B2.out b3)
        clear b3
        go_wp2_with fail
        go_roundw
        case rel => exact ⟨k + 1, m, by go_num, rfl, hlt, hm2, HN, B3⟩
        case measure => simp [intOf]; omega
      · have hkl : k = F.length := by omega
        subst hkl
        by_cases hg : q ≤ 240
        · have HV : Hid (frmT F = .tuple #[.int .i64 (q : Int), .int .i64 0]) := by
            show _ = _
            unfold frmT
            have h := frm_fine HO.out (show frm F ≤ 240 by unfold frm; rw [HQ.out]; exact hg)
            rw [h.1, h.2]
            unfold frm
            rw [HQ.out]
            rfl
          go_wp2_with fail
          go_ret2
          exact ⟨by rw [HV.out]; rfl, below_step B1.out HB.out⟩
        · have HV : Hid (frmT F = .tuple #[.int .i64 0, .int .i64 5]) := by
            show _ = _
            unfold frmT
            have h := frm_large HO.out (show 240 < frm F by unfold frm; rw [HQ.out]; omega)
            rw [h.1, h.2]
            rfl
          go_wp2_with fail
          go_ret2
          exact ⟨by rw [HV.out]; rfl, below_step B1.out HB.out⟩
theorem frame_v (A : Option Addr) (c : Nat) (F : List Fce) (z e : Int) (hz : ((frmZ F : Nat) : Int) = z) (he : ((frmE F : Nat) : Int) = e) (n : Nat) (hn : F.length = n) (w : World) (H : CL w A c F) :
    Calls Try.prog 39 #[.slice A n c] w fun x w' => x = .returned (.tuple #[.int .i64 z, .int .i64 e]) ∧ Below w.heap.size w w' := by
  subst hz; subst he; subst hn
  exact frame_any A c F w H

end Sy
end Go.Proofs.Ytpodahnmdakjjaa

/-
  Layer 12 (synth): the layout under way, in memory; who wants how many ticks: plain mathematics.
-/
namespace Go.Proofs.Ytpodahnmdakjjaa
open Go.RowKit Mm
namespace Sy

/-- nothing but two blocks, and what is new, has turned -/
structure Tw (Y V : Nat) (w w' : World) : Prop where
  os : w'.os = w.os
  tape : w'.tape = w.tape
  output : w'.output = w.output
  size : w.heap.size ≤ w'.heap.size
  block : ∀ k, k < w.heap.size → k ≠ Y → k ≠ V → w'.heap[k]? = w.heap[k]?
theorem Tw.refl (Y V : Nat) (w : World) : Tw Y V w w := ⟨rfl, rfl, rfl, Nat.le_refl _, fun _ _ _ _ => rfl⟩
theorem Tw.trans {Y V : Nat} {a b c : World} (h : Tw Y V a b) (k : Tw Y V b c) : Tw Y V a c :=
  ⟨k.os.trans h.os, k.tape.trans h.tape, k.output.trans h.output, Nat.le_trans h.size k.size, fun i hi h1 h2 => (k.block i (Nat.lt_of_lt_of_le hi h.size) h1 h2).trans (h.block i hi h1 h2)⟩
theorem Tw.of {Y V : Nat} {w w' : World} (b : Below w.heap.size w w') : Tw Y V w w' := ⟨b.os, b.tape, b.output, b.size, fun k hk _ _ => b.block k hk⟩
theorem tw_set (Y V : Nat) (w : World) (X o : Nat) (v : Value) (h : X = Y ∨ X = V) : Tw Y V w (w.setCell ⟨X, o, none⟩ v) :=
  ⟨rfl, rfl, rfl, by simp [World.setCell], fun k _ h1 h2 => Below.heap_setCell _ _ _ _ (by show k ≠ X; omega)⟩
theorem Tw.below {Y V B : Nat} {w w' : World} (h : Tw Y V w w') (hB : B ≤ w.heap.size) (hY : B ≤ Y) (hV : B ≤ V) : Below B w w' :=
  ⟨h.os, h.tape, h.output, h.size, fun k hk => h.block k (by omega) (by omega) (by omega)⟩
theorem Tw.cell {Y V : Nat} {w w' : World} (h : Tw Y V w w') {p : Addr} {v : Value} (hc : w.cell? p = some v) (h1 : p.block ≠ Y) (h2 : p.block ≠ V) : w'.cell? p = some v :=
  (World.cell?_of_block (w := w) (h.block p.block (lt_of_cell hc) h1 h2)).trans hc

/-- block Y holds the layout: the interfaces, what is still wanted (in block V), the tick -/
structure Lo (w : World) (Y V lim : Nat) (A : Option Addr) (c : Nat) (F : List Fce) (t : Int) (v : Nat → Nat) : Prop where
  y0 : w.cell? ⟨Y, 0, none⟩ = some (.slice A F.length c)
  y1 : w.cell? ⟨Y, 1, none⟩ = some (.slice (some ⟨V, 0, none⟩) F.length F.length)
  y2 : w.cell? ⟨Y, 2, none⟩ = some (.int .i64 t)
  z2 : w.frozen? ⟨Y, 2, none⟩ = false
  v0 : ∀ j, j < F.length → w.cell? ⟨V, j, none⟩ = some (.int .i64 (v j : Nat))
  zv : ∀ j, w.frozen? ⟨V, j, none⟩ = false
  ne : V ≠ Y
  ltV : V < w.heap.size
  limY : lim ≤ Y
  limV : lim ≤ V
  l : RdS w (fun b => b < lim) A c F
section
variable {w w' : World} {Y V lim : Nat} {A : Option Addr} {c : Nat} {F : List Fce} {t : Int} {v : Nat → Nat}
theorem Lo.ltY (h : Lo w Y V lim A c F t v) : Y < w.heap.size := lt_of_cell h.y0
theorem Lo.below (h : Lo w Y V lim A c F t v) (b : Below w.heap.size w w') : Lo w' Y V lim A c F t v :=
  ⟨cell_below b h.y0, cell_below b h.y1, cell_below b h.y2, frozen_below b h.y2 h.z2, fun j hj => cell_below b (h.v0 j hj), fun j => (b.frozen h.ltV).trans (h.zv j), h.ne, Nat.lt_of_lt_of_le h.ltV b.size, h.limY, h.limV, h.l.below b⟩
theorem Lo.face (h : Lo w Y V lim A c F t v) (hb : F.length ≤ 1000000) : CL w A c F := ⟨hb, h.l.rd⟩
/-- the tick goes on -/
theorem Lo.tick (h : Lo w Y V lim A c F t v) (s : Int) : Lo (w.setCell ⟨Y, 2, none⟩ (.int .i64 s)) Y V lim A c F s v := by
  have n1 : (⟨Y, 0, none⟩ : Addr) ≠ ⟨Y, 2, none⟩ := fun e => by injection e with _ e; omega
  have n2 : (⟨Y, 1, none⟩ : Addr) ≠ ⟨Y, 2, none⟩ := fun e => by injection e with _ e; omega
  have n3 : ∀ j, (⟨V, j, none⟩ : Addr) ≠ ⟨Y, 2, none⟩ := fun j e => by injection e with e; exact h.ne e
  refine ⟨(World.cell?_setCell_other _ _ _ _ n1.symm).trans h.y0, (World.cell?_setCell_other _ _ _ _ n2.symm).trans h.y1, World.cell?_setCell_same _ _ _ h.y2, by rw [World.frozen?_setCell]; exact h.z2,
    fun j hj => (World.cell?_setCell_other _ _ _ _ (n3 j).symm).trans (h.v0 j hj), fun j => by rw [World.frozen?_setCell]; exact h.zv j, h.ne, by simp [World.setCell]; exact h.ltV, h.limY, h.limV, ?_⟩
  exact h.l.keep fun b hb hs => ⟨hs, Below.heap_setCell _ _ _ _ (by show b ≠ Y; have := h.limY; omega)⟩
/-- what one wants is written -/
theorem Lo.want (h : Lo w Y V lim A c F t v) (k : Nat) (m : Nat) (hk : k < F.length) : Lo (w.setCell ⟨V, k, none⟩ (.int .i64 (m : Nat))) Y V lim A c F t (fun j => if j = k then m else v j) := by
  have n1 : ∀ o, (⟨Y, o, none⟩ : Addr) ≠ ⟨V, k, none⟩ := fun o e => by injection e with e; exact h.ne e.symm
  refine ⟨(World.cell?_setCell_other _ _ _ _ (n1 0).symm).trans h.y0, (World.cell?_setCell_other _ _ _ _ (n1 1).symm).trans h.y1, (World.cell?_setCell_other _ _ _ _ (n1 2).symm).trans h.y2, by rw [World.frozen?_setCell]; exact h.z2,
    fun j hj => ?_, fun j => by rw [World.frozen?_setCell]; exact h.zv j, h.ne, by simp [World.setCell]; exact h.ltV, h.limY, h.limV, ?_⟩
  · by_cases e : j = k
    · subst e
      rw [if_pos rfl]
      exact World.cell?_setCell_same _ _ _ (h.v0 j hk)
    · rw [if_neg e]
      exact (World.cell?_setCell_other _ _ _ _ (fun e' => e (by injection e' with _ e'; exact e'.symm))).trans (h.v0 j hj)
  · exact h.l.keep fun b hb hs => ⟨hs, Below.heap_setCell _ _ _ _ (by show b ≠ V; have := h.limV; omega)⟩
theorem Lo.same {v' : Nat → Nat} (h : Lo w Y V lim A c F t v) (e : ∀ j, j < F.length → v' j = v j) : Lo w Y V lim A c F t v' :=
  ⟨h.y0, h.y1, h.y2, h.z2, fun j hj => by rw [e j hj]; exact h.v0 j hj, h.zv, h.ne, h.ltV, h.limY, h.limV, h.l⟩
/-- another block is written -/
theorem Lo.keep_ (h : Lo w Y V lim A c F t v) (T k : Nat) (x : Value) (h1 : T ≠ Y ∧ T ≠ V) (h2 : lim ≤ T) : Lo (w.setCell ⟨T, k, none⟩ x) Y V lim A c F t v := by
  have n1 : ∀ o, (⟨T, k, none⟩ : Addr) ≠ ⟨Y, o, none⟩ := fun o e => by injection e with e; exact h1.1 e
  have n2 : ∀ o, (⟨T, k, none⟩ : Addr) ≠ ⟨V, o, none⟩ := fun o e => by injection e with e; exact h1.2 e
  exact ⟨(World.cell?_setCell_other _ _ _ _ (n1 0)).trans h.y0, (World.cell?_setCell_other _ _ _ _ (n1 1)).trans h.y1, (World.cell?_setCell_other _ _ _ _ (n1 2)).trans h.y2, by rw [World.frozen?_setCell]; exact h.z2,
    fun j hj => (World.cell?_setCell_other _ _ _ _ (n2 j)).trans (h.v0 j hj), fun j => by rw [World.frozen?_setCell]; exact h.zv j, h.ne, by simp [World.setCell]; exact h.ltV, h.limY, h.limV,
    h.l.keep fun b hb hs => ⟨hs, Below.heap_setCell _ _ _ _ (by show b ≠ T; omega)⟩⟩
theorem Lo.drew (h : Lo w Y V lim A c F t v) : Lo w.drew Y V lim A c F t v := h.below (Below.refl _ _).drew
end

/-! ### what is still wanted: ahead of a tick's beginning, and behind it -/
def wB (F : List Fce) (t j : Nat) : Nat := Bn F j - had (gF F) (Pn F) j t
def wA (F : List Fce) (t j : Nat) : Nat := if t = 0 then 0 else Bn F j - cnt (gF F) j ((t - 1) / Pn F j * Pn F j) t
theorem wA_zero (F : List Fce) (j : Nat) : wA F 0 j = 0 := rfl
theorem dvd_back {p t : Nat} (hp : 1 ≤ p) (ht : 0 < t) (h : p ∣ t) : p ≤ t ∧ (t - 1) / p * p = t - p := by
  obtain ⟨m, rfl⟩ := h
  have hm : 1 ≤ m := by
    rcases Nat.eq_zero_or_pos m with e | e
    · subst e; omega
    · exact e
  have h1 : p ≤ p * m := Nat.le_mul_of_pos_right _ hm
  refine ⟨h1, ?_⟩
  have h2 : p * m - 1 = p * (m - 1) + (p - 1) := by
    rw [Nat.mul_sub, Nat.mul_one]
    omega
  rw [h2, Nat.mul_add_div (by omega), Nat.div_eq_of_lt (by omega), Nat.add_zero, Nat.mul_comm, Nat.mul_sub, Nat.mul_one]
theorem div_back {p t : Nat} (hp : 1 ≤ p) (h : ¬ p ∣ t) : (t - 1) / p = t / p := by
  have h1 := Nat.div_add_mod t p
  have h2 := Nat.mod_lt t (show 0 < p by omega)
  have h3 : t % p ≠ 0 := fun e => h (Nat.dvd_of_mod_eq_zero e)
  have h4 : t - 1 = p * (t / p) + (t % p - 1) := by omega
  rw [h4, Nat.mul_add_div (by omega), Nat.div_eq_of_lt (a := t % p - 1) (by omega), Nat.add_zero]
/-- one whose period does not begin -/
theorem w_on {F : List Fce} {t j : Nat} (hp : 1 ≤ Pn F j) (h : ¬ Pn F j ∣ t) : wA F t j = wB F t j := by
  unfold wA wB had
  rw [div_back hp h, if_neg (fun e => h (by rw [e]; exact Nat.dvd_zero _))]
/-- one whose period begins: late; or it wants all -/
theorem w_begin {F : List Fce} {t j : Nat} (h : Pn F j ∣ t) : wB F t j = Bn F j := by
  unfold wB had
  rw [Nat.div_mul_cancel h, cnt_none (Nat.le_refl _)]
  rfl
theorem w_late {F : List Fce} {t j : Nat} (hj : j < F.length) (hp : 1 ≤ Pn F j) (h : Pn F j ∣ t) (hw : 0 < wA F t j) : lateAt F.length (Pn F) (Bn F) (gF F) t = true := by
  rw [lateAt_iff]
  refine ⟨j, hj, ?_⟩
  unfold wA at hw
  split at hw
  · omega
  · obtain ⟨h1, h2⟩ := dvd_back hp (by omega) h
    rw [h2] at hw
    exact ⟨h, h1, by omega⟩
theorem w_fine {F : List Fce} {t : Nat} (hP : ∀ j, j < F.length → 1 ≤ Pn F j) (h : ∀ j, j < F.length → Pn F j ∣ t → wA F t j = 0) : lateAt F.length (Pn F) (Bn F) (gF F) t = false := by
  cases e : lateAt F.length (Pn F) (Bn F) (gF F) t with
  | false => rfl
  | true =>
    obtain ⟨j, hj, h1, h2, h3⟩ := lateAt_iff.1 e
    have h4 := h j hj h1
    have hp := hP j hj
    unfold wA at h4
    rw [if_neg (by omega), (dvd_back hp (by omega) h1).2] at h4
    omega
/-- one tick on -/
theorem w_next {F : List Fce} {t j : Nat} : wA F (t + 1) j = wB F t j - (if gF F t = (j : Int) then 1 else 0) := by
  unfold wA wB had
  rw [if_neg (by omega), Nat.add_sub_cancel, cnt_succ (Nat.div_mul_le_self _ _)]
  omega
theorem w_wants {F : List Fce} {t j : Nat} : wants (Pn F) (Bn F) (gF F) t j ↔ 0 < wB F t j := by
  unfold wants wB
  omega
theorem wB_le (F : List Fce) (t j : Nat) : wB F t j ≤ Bn F j := Nat.sub_le _ _
theorem wA_le (F : List Fce) (t j : Nat) : wA F t j ≤ Bn F j := by
  unfold wA
  split
  · exact Nat.zero_le _
  · exact Nat.sub_le _ _

/-! ### those that want some, in order; the first of them by deadline -/
def wl (v : Nat → Nat) : Nat → List Int
  | 0 => []
  | k + 1 => if 0 < v k then wl v k ++ [(k : Int)] else wl v k
theorem wl_yes {v : Nat → Nat} {k : Nat} (h : 0 < v k) : wl v (k + 1) = wl v k ++ [(k : Int)] := by rw [wl, if_pos h]
theorem wl_no {v : Nat → Nat} {k : Nat} (h : ¬ 0 < v k) : wl v (k + 1) = wl v k := by rw [wl, if_neg h]
theorem wl_mem {v : Nat → Nat} {x : Int} : ∀ {k : Nat}, x ∈ wl v k ↔ ∃ j : Nat, x = j ∧ j < k ∧ 0 < v j
  | 0 => by simp [wl]
  | k + 1 => by
    by_cases h : 0 < v k
    · rw [wl_yes h, List.mem_append, wl_mem, List.mem_singleton]
      constructor
      · rintro (⟨j, rfl, h1, h2⟩ | rfl)
        · exact ⟨j, rfl, by omega, h2⟩
        · exact ⟨k, rfl, by omega, h⟩
      · rintro ⟨j, rfl, h1, h2⟩
        by_cases e : j = k
        · subst e; exact .inr rfl
        · exact .inl ⟨j, rfl, by omega, h2⟩
    · rw [wl_no h, wl_mem]
      constructor
      · rintro ⟨j, rfl, h1, h2⟩
        exact ⟨j, rfl, by omega, h2⟩
      · rintro ⟨j, rfl, h1, h2⟩
        by_cases e : j = k
        · subst e; exact absurd h2 h
        · exact ⟨j, rfl, by omega, h2⟩
theorem wl_length {v : Nat → Nat} : ∀ {k : Nat}, (wl v k).length ≤ k
  | 0 => Nat.le_refl _
  | k + 1 => by
    have := wl_length (v := v) (k := k)
    rw [wl]
    split
    · rw [List.length_append]; simp; exact this
    · omega
theorem wl_rise {v : Nat → Nat} : ∀ {k : Nat}, (wl v k).Pairwise (· < ·)
  | 0 => List.Pairwise.nil
  | k + 1 => by
    have ih := wl_rise (v := v) (k := k)
    by_cases h : 0 < v k
    · rw [wl_yes h, List.pairwise_append]
      refine ⟨ih, List.pairwise_singleton _ _, fun a ha b hb => ?_⟩
      obtain ⟨j, rfl, h1, _⟩ := wl_mem.1 ha
      rw [List.mem_singleton.1 hb]
      omega
    · rw [wl_no h]
      exact ih
/-- the first of the lowest of elements 0 to k -/
def minL (f : Int → Nat) (L : List Int) : Nat → Int
  | 0 => at_ L 0
  | k + 1 => if f (at_ L (k + 1)) < f (minL f L k) then at_ L (k + 1) else minL f L k
theorem minL_spec {f : Int → Nat} {L : List Int} (hL : L.Pairwise (· < ·)) : ∀ {k : Nat}, k < L.length → ∃ i, i ≤ k ∧ minL f L k = at_ L i ∧ ∀ j, j ≤ k → f (at_ L i) < f (at_ L j) ∨ (f (at_ L i) = f (at_ L j) ∧ i ≤ j)
  | 0, _ => ⟨0, Nat.le_refl _, rfl, fun j hj => by
    have : j = 0 := by omega
    subst this
    exact .inr ⟨rfl, Nat.le_refl _⟩⟩
  | k + 1, hk => by
    obtain ⟨i, h1, h2, h3⟩ := minL_spec hL (k := k) (by omega)
    rw [minL, h2]
    by_cases h : f (at_ L (k + 1)) < f (at_ L i)
    · rw [if_pos h]
      refine ⟨k + 1, Nat.le_refl _, rfl, fun j hj => ?_⟩
      by_cases e : j = k + 1
      · subst e; exact .inr ⟨rfl, Nat.le_refl _⟩
      · have := h3 j (by omega)
        omega
    · rw [if_neg h]
      refine ⟨i, by omega, rfl, fun j hj => ?_⟩
      by_cases e : j = k + 1
      · subst e; omega
      · exact h3 j (by omega)
theorem minL_mem {f : Int → Nat} {L : List Int} (hL : L.Pairwise (· < ·)) {k : Nat} (hk : k < L.length) : minL f L k ∈ L := by
  obtain ⟨i, h1, h2, _⟩ := minL_spec (f := f) hL hk
  rw [h2]
  exact at_mem (by omega)
theorem at_lt {L : List Int} (hL : L.Pairwise (· < ·)) {i j : Nat} (hij : i < j) (hj : j < L.length) : at_ L i < at_ L j := by
  rw [at_get (by omega), at_get hj]
  exact List.pairwise_iff_getElem.1 hL i j (by omega) hj hij
/-- whose tick it is -/
theorem pick_min {F : List Fce} {t : Nat} {f : Int → Nat} (hf : ∀ j : Nat, j < F.length → f j = dl (Pn F) j t) (h0 : 0 < (wl (wB F t) F.length).length) :
    minL f (wl (wB F t) F.length) ((wl (wB F t) F.length).length - 1) = gF F t := by
  have hL := wl_rise (v := wB F t) (k := F.length)
  obtain ⟨i, h1, h2, h3⟩ := minL_spec (f := f) hL (k := (wl (wB F t) F.length).length - 1) (by omega)
  have hi : i < (wl (wB F t) F.length).length := by omega
  obtain ⟨m, hm, hmn, hmw⟩ := wl_mem.1 (at_mem hi)
  have hp : Pick (Pn F) (Bn F) (gF F) t (fun i => i < F.length) (m : Int) := by
    refine .inr ⟨m, rfl, hmn, w_wants.2 hmw, fun k hk hkw => ?_⟩
    obtain ⟨j, hj, e⟩ := mem_at (wl_mem.2 ⟨k, rfl, hk, w_wants.1 hkw⟩)
    have h4 := h3 j (by omega)
    rw [hm, e, hf m hmn, hf k hk] at h4
    rcases h4 with h4 | ⟨h4, h5⟩
    · exact .inl h4
    · refine .inr ⟨h4, ?_⟩
      by_cases e2 : i = j
      · subst e2
        rw [hm] at e
        omega
      · have := at_lt hL (show i < j by omega) hj
        rw [hm, e] at this
        omega
  rw [h2, hm]
  exact hp.same (gs_pick _ _ _ t)
theorem pick_empty {F : List Fce} {t : Nat} (h0 : (wl (wB F t) F.length).length = 0) : gF F t = -1 := by
  refine (gs_pick _ _ _ t).same (.inl ⟨rfl, fun k hk hw => ?_⟩)
  have := wl_mem.2 ⟨k, rfl, hk, w_wants.1 hw⟩
  rw [List.eq_nil_of_length_eq_zero h0] at this
  simp at this
theorem gF_bounds (F : List Fce) (t : Nat) : -1 ≤ gF F t ∧ gF F t < F.length := by
  rcases gs_pick F.length (Pn F) (Bn F) t with ⟨h, _⟩ | ⟨j, h, hj, _⟩
  · show -1 ≤ gs _ _ _ t ∧ gs _ _ _ t < _
    omega
  · have hj' : j < F.length := hj
    show -1 ≤ gs _ _ _ t ∧ gs _ _ _ t < _
    omega

end Sy
end Go.Proofs.Ytpodahnmdakjjaa

/-
  Layer 12 (synth): begin.
-/
namespace Go.Proofs.Ytpodahnmdakjjaa
open Go.RowKit Mm Sp
namespace Sy

abbrev lateF (F : List Fce) (t : Nat) : Bool := lateAt F.length (Pn F) (Bn F) (gF F) t
def BeginOf (Y V lim : Nat) (A : Option Addr) (c : Nat) (F : List Fce) (t : Nat) (v : Bool) (w : World) (e : Ending) (w' : World) : Prop := e = .returned (.bool v) ∧ Tw Y V w w' ∧ lateF F t = !v ∧ (v = true → Lo w' Y V lim A c F t (wB F t))
/-- the first k have begun -/
def wK (F : List Fce) (t k j : Nat) : Nat := if j < k then wB F t j else wA F t j

set_option maxHeartbeats 1600000 in
theorem begin_any (Y V lim : Nat) (A : Option Addr) (c : Nat) (F : List Fce) (t : Nat) (s : Int) (w : World) (ho : okF F = true) (ht : t ≤ 1000) (H : Lo w Y V lim A c F s (wA F t)) :
    Calls Try.prog 40 #[.pointer (some ⟨Y, 0, none⟩), .int .i64 t] w (fun e w' => ∃ v, BeginOf Y V lim A c F t v w e w') := by
  have y2 := H.y2
  have z2 := H.z2
  have y0 := H.y0
  have HT := Lib.hid (H.tick t)
  have HW := Lib.hid (tw_set Y V w Y 2 (.int .i64 t) (.inl rfl))
  have q0 := HT.out.y0
  have hn := (okF_iff.1 ho).1
  clear H
  go_enter Try.func40, Try.ntmps40
  go_wp2_with fail
  clear q0
  generalize w.setCell ⟨Y, 2, none⟩ (.int .i64 t) = w1 at *
  go_loopw [16] (fun i wr => ∃ k : Nat, i = .int .i64 k ∧ k ≤ F.length ∧ Hid (Lo wr Y V lim A c F t (wK F t k)) ∧ Hid (∀ j, j < k → Pn F j ∣ t → wA F t j = 0) ∧ Hid (Tw Y V w wr)) (fun i _ => F.length - (intOf i).toNat)
  case atStart => exact ⟨0, rfl, Nat.zero_le _, HT.out.same fun j _ => by unfold wK; rw [if_neg (by omega)], (fun j h => by omega), HW.out⟩
  case round =>
    obtain ⟨k, rfl, hk, HL, HH, HB⟩ := hrel
    clear HT HW
    by_cases hlt : k < F.length
    · obtain ⟨b, off, rfl, hc⟩ := face_at HL.out.l (by omega)
      obtain ⟨x1, x2, _, _⟩ := hc k hlt
      obtain ⟨f1, f2, h1, h2, h3⟩ := okF_at ho hlt
      rw [f1] at x1
      rw [f2] at x2
      have p1 := HL.out.y1
      have p2 := HL.out.v0 k hlt
      have p3 := HL.out.zv k
      have hwk : wK F t k k = wA F t k := by unfold wK; rw [if_neg (by omega)]
      rw [hwk] at p2
      have hwa := wA_le F t k
      have i1 : (0 : Int) ≤ (k : Int) := by omega
      have i2 : (k : Int) < (F.length : Int) := by omega
      have HNX : Hid (∀ j, j < F.length → j ≠ k → wK F t (k + 1) j = wK F t k j) := fun j _ e => by
        unfold wK
        by_cases e2 : j < k
        · rw [if_pos (by omega), if_pos e2]
        · rw [if_neg (by omega), if_neg e2]
      have HNK : Hid (wK F t (k + 1) k = wB F t k) := by show _ = _; unfold wK; rw [if_pos (by omega)]
      have HD : Hid (∀ r, t % Pn F k = r → r = 0 → Pn F k ∣ t) := fun r h e => Nat.dvd_of_mod_eq_zero (h.trans e)
      have HD2 : Hid (∀ r, t % Pn F k = r → r ≠ 0 → ¬ Pn F k ∣ t) := fun r h e h' => e (h.symm.trans (Nat.mod_eq_zero_of_dvd h'))
      have HBG : Hid (Pn F k ∣ t → wB F t k = Bn F k) := fun h => w_begin h
      have HON : Hid (¬ Pn F k ∣ t → wA F t k = wB F t k) := fun h => w_on (by omega) h
      have HLT : Hid (Pn F k ∣ t → 0 < wA F t k → lateF F t = true) := fun h h' => w_late hlt (by omega) h h'
      obtain ⟨r, hr⟩ : ∃ r, t % Pn F k = r := ⟨_, rfl⟩
      have HRR := Lib.hid hr
      clear hc f1 f2 hwk
      generalize hp : Pn F k = p at *
      generalize hb : Bn F k = bb at *
      have HPP := Lib.hid hp
      have HBB := Lib.hid hb
      have hrp : r < p := by rw [← hr]; exact Nat.mod_lt _ (by omega)
      have q1 : (t : Int) % (p : Int) = (r : Int) := by rw [← hr]; push_cast; rfl
      have q2 : (t : Int).tmod (p : Int) = (r : Int) := by rw [Int.tmod_eq_emod_of_nonneg (by omega), q1]
      have q3 : IntKind.i64.wrap (r : Int) = (r : Int) := IntWalk.i64_in _ (by omega)
      have j1 : ¬ (p : Int) = 0 := by omega
      have j2 : ¬ p = 0 := by omega
      have j3 : decide ((p : Int) = 0) = false := decide_eq_false j1
      have j4 : ((p : Int) == 0) = false := by simpa using j2
      obtain ⟨t1, t2⟩ := fc_new wr (p : Int) (bb : Int)
      have b1 := below_one wr (Obj.cells #[.int .i64 (p : Int), .int .i64 (bb : Int)] 51)
      replace p1 := (cell_below b1) p1
      replace p2 := (cell_below b1) p2
      replace p3 := (b1.frozen HL.out.ltV).trans p3
      have HL2 := Lib.hid (HL.out.below b1)
      have HB2 := Lib.hid (HB.out.trans (Tw.of b1))
      clear hr hp hb b1
      by_cases hr0 : r = 0
      · have hd := HD.out r HRR.out hr0
        subst hr0
        clear q1 q2 q3
        have q1 : (t : Int) % (p : Int) = 0 := by have := HRR.out; rw [show (0 : Int) = ((0 : Nat) : Int) from rfl, ← this]; push_cast; rfl
        have q2 : (t : Int).tmod (p : Int) = 0 := by rw [Int.tmod_eq_emod_of_nonneg (by omega), q1]
        have HD3 := Lib.hid hd
        clear hd
        by_cases hw : 0 < wA F t k
        · have HF := Lib.hid (HLT.out HD3.out hw)
          have i3 : (0 : Int) < (wA F t k : Int) := by omega
          generalize wA F t k = z at *
          go_wp2_with fail
          clear x1 x2
          go_ret
          exact ⟨false, rfl, HB2.out, HF.out, fun h => by cases h⟩
        · have hz : wA F t k = 0 := by omega
          have HZ := Lib.hid hz
          have HH2 : Hid (∀ j, j < k + 1 → Pn F j ∣ t → wA F t j = 0) := fun j hj h => by
            by_cases e : j = k
            · subst e; exact HZ.out
            · exact HH.out j (by omega) h
          rw [hz] at p2
          rw [show ((0 : Nat) : Int) = 0 from rfl] at p2
          clear hz hwa hw
          go_wp2_with fail
          have HL3 := Lib.hid (HL2.out.want k bb hlt)
          have HB3 := Lib.hid (HB2.out.trans (tw_set Y V _ V k (.int .i64 (bb : Int)) (.inr rfl)))
          have HL4 : Hid (Lo ((wr.alloc (Obj.cells #[.int .i64 (p : Int), .int .i64 (bb : Int)] 51)).setCell ⟨V, k, none⟩ (.int .i64 (bb : Int))) Y V lim (some ⟨b, off, none⟩) c F t (wK F t (k + 1))) := HL3.out.same fun j hj => by
            by_cases e : j = k
            · subst e; rw [HNK.out, HBG.out HD3.out, if_pos rfl]
            · rw [HNX.out j hj e, if_neg e]
          clear x1 x2 HL3
          generalize wr.alloc (Obj.cells #[.int .i64 (p : Int), .int .i64 (bb : Int)] 51) = w2 at *
          go_region
          go_wp2_with fail
          go_roundw
          case rel => exact ⟨k + 1, by go_num, hlt, HL4.out.drew, HH2, HB3.out.trans (Tw.of (Below.refl _ _).drew)⟩
          case measure => simp [intOf]; omega
      · have HD3 := Lib.hid (HD2.out r HRR.out hr0)
        have HH2 : Hid (∀ j, j < k + 1 → Pn F j ∣ t → wA F t j = 0) := fun j hj h => by
          by_cases e : j = k
          · subst e; exact absurd (by rw [HPP.out] at h; exact h) HD3.out
          · exact HH.out j (by omega) h
        have HL4 := Lib.hid (HL2.out.same (v' := wK F t (k + 1)) fun j hj => by
          by_cases e : j = k
          · subst e
            rw [HNK.out, ← HON.out HD3.out]
            unfold wK
            rw [if_neg (by omega)]
          · exact HNX.out j hj e)
        have i9 : ¬ (r : Int) = 0 := by omega
        go_wp2_with fail
        clear x1 x2
        go_roundw
        case rel => exact ⟨k + 1, by go_num, hlt, HL4, HH2, HB2⟩
        case measure => simp [intOf]; omega
    · have hkl : k = F.length := by omega
      subst hkl
      have HF : Hid (lateF F t = false) := w_fine (okF_pos ho) HH.out
      have HL2 := Lib.hid (HL.out.same (v' := wB F t) fun j hj => by unfold wK; rw [if_pos hj])
      go_wp2_with fail
      go_ret
      exact ⟨true, rfl, HB.out, HF.out, fun _ => HL2.out⟩

end Sy
end Go.Proofs.Ytpodahnmdakjjaa

/-
  Layer 12 (synth): begin, deadline, compare, waiting, the library's MinFunc with compare, give.
-/
namespace Go.Proofs.Ytpodahnmdakjjaa
open Go.RowKit Mm Sp
namespace Sy

/-- deadlines -/
def dlI (F : List Fce) (t : Nat) (x : Int) : Nat := dl (Pn F) x.toNat t
theorem dl_sub {P : Nat → Nat} {j t : Nat} : dl P j t + t % P j = t + P j := by
  have := Nat.div_add_mod t (P j)
  unfold dl
  rw [Nat.add_mul, Nat.one_mul, Nat.mul_comm]
  omega

set_option maxHeartbeats 1600000 in
theorem deadline_any (Y V lim : Nat) (A : Option Addr) (c : Nat) (F : List Fce) (t i d : Nat) (v : Nat → Nat) (w : World) (ho : okF F = true) (ht : t ≤ 1000) (hi : i < F.length) (hd : dl (Pn F) i t = d) (H : Lo w Y V lim A c F t v) :
    Calls Try.prog 55 #[.pointer (some ⟨Y, 0, none⟩), .int .i64 i] w fun e w' => e = .returned (.int .i64 (d : Int)) ∧ Below w.heap.size w w' := by
  have hb := (okF_iff.1 ho).1
  obtain ⟨b, off, rfl, hc⟩ := face_at H.l (by omega)
  obtain ⟨x1, _, _, _⟩ := hc i hi
  obtain ⟨e1, _, h1, h2, h3⟩ := okF_at ho hi
  have hs := dl_sub (P := Pn F) (j := i) (t := t)
  rw [hd] at hs
  rw [e1] at x1
  have y0 := H.y0
  have y2 := H.y2
  clear hc e1 H hd
  generalize Pn F i = p at *
  generalize Bn F i = bb at *
  have hr := Nat.mod_lt t (show 0 < p by omega)
  obtain ⟨r, hr0⟩ : ∃ r, t % p = r := ⟨_, rfl⟩
  rw [hr0] at hs hr
  have q1 : (t : Int) % (p : Int) = (r : Int) := by rw [← hr0]; push_cast; rfl
  have q2 : (t : Int).tmod (p : Int) = (r : Int) := by rw [Int.tmod_eq_emod_of_nonneg (by omega), q1]
  have q3 : IntKind.i64.wrap (r : Int) = (r : Int) := IntWalk.i64_in _ (by omega)
  have q4 : IntKind.i64.wrap ((t : Int) - (r : Int)) = (t : Int) - (r : Int) := IntWalk.i64_in _ (by omega)
  have q5 : IntKind.i64.wrap ((t : Int) - (r : Int) + (p : Int)) = (d : Int) := by rw [IntWalk.i64_in _ (by omega)]; omega
  have i1 : ¬ (p : Int) = 0 := by omega
  have i2 : ¬ p = 0 := by omega
  have i3 : decide ((p : Int) = 0) = false := decide_eq_false i1
  have i4 : ((p : Int) == 0) = false := by simpa using i2
  have i5 : (0 : Int) ≤ (i : Int) := by omega
  have i6 : (i : Int) < (F.length : Int) := by omega
  have HS := Lib.hid hs
  have HR0 := Lib.hid hr0
  clear hs hr0
  go_enter Try.func55, Try.ntmps55
  go_wp2_with fail
  clear x1
  replace y0 := cell_bw y0
  replace y2 := cell_bw y2
  refine wp_region_bw (by kernel_rfl) (by kernel_rfl) ?_
  repeat
    (with_reducible refine wpQuiet_step (fun K hK => ?_)
     go_simp
     first
       | (with_reducible refine hK _ ?_
          clear hK K)
       | (rw [if_neg]
          rotate_left
          focus (intro h; cases h; done)
          with_reducible refine hK _ ?_
          clear hK K)
       | (apply Exists.intro
          refine ⟨fun _ => ?_, hK _ ?_⟩
          (fail)
          clear hK K))
  with_reducible refine wpQuiet_nil ?_
  intro wb hw'
  obtain ⟨⟨wb', lb⟩, hw''⟩ := hw'
  subst hw''
  have B1 := Lib.hid lb
  clear lb
  go_wp2_with fail
  go_ret
  exact ⟨rfl, B1.out⟩

set_option maxHeartbeats 800000 in
theorem nan_any (x : Int) (w : World) : Calls Try.prog 57 #[.int .i64 x] w fun e w' => e = .returned (.bool false) ∧ Below w.heap.size w w' := by
  go_enter Try.func57, Try.ntmps57
  go_wp2_with fail
  go_ret
  exact ⟨ret_bool (by simp), Below.refl _ _⟩

/-- what Compare answers -/
def cmpZ (x y : Int) : Int := if x < y then -1 else if y < x then 1 else 0
set_option maxHeartbeats 1600000 in
theorem cmp_any (x y z : Int) (hz : cmpZ x y = z) (w : World) : Calls Try.prog 54 #[.int .i64 x, .int .i64 y] w fun e w' => e = .returned (.int .i64 z) ∧ Below w.heap.size w w' := by
  by_cases h1 : x < y
  · have HZ : Hid (z = -1) := by show _ = _; rw [← hz]; unfold cmpZ; rw [if_pos h1]
    clear hz
    go_enter Try.func54, Try.ntmps54
    go_wp2_with fail
    refine (nan_any x _).mono ?_
    rintro e w1 ⟨rfl, b1⟩
    have B1 := Lib.hid b1
    clear b1
    go_wp2_with fail
    refine (nan_any y _).mono ?_
    rintro e w2 ⟨rfl, b2⟩
    have B2 := Lib.hid (below_step B1.out b2)
    clear b2
    go_wp2_with fail
    go_ret
    exact ⟨by rw [HZ.out]; rfl, B2.out⟩
  · by_cases h2 : y < x
    · have HZ : Hid (z = 1) := by show _ = _; rw [← hz]; unfold cmpZ; rw [if_neg h1, if_pos h2]
      clear hz
      go_enter Try.func54, Try.ntmps54
      go_wp2_with fail
      refine (nan_any x _).mono ?_
      rintro e w1 ⟨rfl, b1⟩
      have B1 := Lib.hid b1
      clear b1
      go_wp2_with fail
      refine (nan_any y _).mono ?_
      rintro e w2 ⟨rfl, b2⟩
      have B2 := Lib.hid (below_step B1.out b2)
      clear b2
      go_wp2_with fail
      go_ret
      exact ⟨by rw [HZ.out]; rfl, B2.out⟩
    · have HZ : Hid (z = 0) := by show _ = _; rw [← hz]; unfold cmpZ; rw [if_neg h1, if_neg h2]
      clear hz
      go_enter Try.func54, Try.ntmps54
      go_wp2_with fail
      refine (nan_any x _).mono ?_
      rintro e w1 ⟨rfl, b1⟩
      have B1 := Lib.hid b1
      clear b1
      go_wp2_with fail
      refine (nan_any y _).mono ?_
      rintro e w2 ⟨rfl, b2⟩
      have B2 := Lib.hid (below_step B1.out b2)
      clear b2
      go_wp2_with fail
      go_ret
      exact ⟨by rw [HZ.out]; rfl, B2.out⟩

set_option maxHeartbeats 1600000 in
theorem compare_any (Y V lim : Nat) (A : Option Addr) (c : Nat) (F : List Fce) (t i j : Nat) (z : Int) (v : Nat → Nat) (w : World) (ho : okF F = true) (ht : t ≤ 1000) (hi : i < F.length) (hj : j < F.length) (hz : cmpZ (dl (Pn F) i t : Nat) (dl (Pn F) j t : Nat) = z) (H : Lo w Y V lim A c F t v) :
    Calls Try.prog 49 #[.pointer (some ⟨Y, 0, none⟩), .int .i64 i, .int .i64 j] w fun e w' => e = .returned (.int .i64 z) ∧ Below w.heap.size w w' := by
  have HT := Lib.hid H
  obtain ⟨a, ha⟩ : ∃ a, dl (Pn F) i t = a := ⟨_, rfl⟩
  obtain ⟨b, hb⟩ : ∃ b, dl (Pn F) j t = b := ⟨_, rfl⟩
  rw [ha, hb] at hz
  have HA := Lib.hid ha
  have HB := Lib.hid hb
  have HZ := Lib.hid hz
  clear ha hb hz
  clear H
  go_enter Try.func49, Try.ntmps49
  go_wp2_with fail
  refine (deadline_any Y V lim A c F t i a v _ ho ht hi HA.out HT.out).mono ?_
  rintro e w1 ⟨rfl, b1⟩
  have B1 := Lib.hid b1
  replace HT := Lib.hid (HT.out.below b1)
  clear b1
  go_wp2_with fail
  refine (deadline_any Y V lim A c F t j b v _ ho ht hj HB.out HT.out).mono ?_
  rintro e w2 ⟨rfl, b2⟩
  have B2 := Lib.hid (below_step B1.out b2)
  clear b2
  go_wp2_with fail
  refine (cmp_any a b z HZ.out _).mono ?_
  rintro e w3 ⟨rfl, b3⟩
  have B3 := Lib.hid (below_step B2.out b3)
  clear b3
  go_wp2_with fail
  go_ret
  exact ⟨rfl, B3.out⟩

/-- the method value -/
def cmpV (Y : Nat) : Value := .func (.func 49) #[.pointer (some ⟨Y, 0, none⟩)] #[]

end Sy
end Go.Proofs.Ytpodahnmdakjjaa

/-
  Layer 12 (synth): waiting, the library's MinFunc with compare, give.
-/
namespace Go.Proofs.Ytpodahnmdakjjaa
open Go.RowKit Mm Sp
namespace Sy

def WaitOf (w : World) (L : List Int) (e : Ending) (w' : World) : Prop := ∃ B cp, e = .returned (.slice B L.length cp) ∧ Rd w' B cp L ∧ Below w.heap.size w w'
set_option maxHeartbeats 1600000 in
theorem waiting_any (Y V lim : Nat) (A : Option Addr) (c : Nat) (F : List Fce) (t : Int) (v : Nat → Nat) (w : World) (hn : F.length ≤ 4) (hv : ∀ j, j < F.length → v j ≤ 200) (H : Lo w Y V lim A c F t v) :
    Calls Try.prog 47 #[.pointer (some ⟨Y, 0, none⟩)] w (WaitOf w (wl v F.length)) := by
  have HT := Lib.hid H
  have y1 := H.y1
  have HC := Lib.hid H.v0
  clear H
  have HV := Lib.hid hv
  clear hv
  generalize F.length = n at *
  go_enter Try.func47, Try.ntmps47
  go_wp2_with fail
  go_loopw [3, 11] (fun out i wr => ∃ (k : Nat) (B : Option Addr) (m cp : Nat), i = .int .i64 k ∧ out = .slice B m cp ∧ k ≤ n ∧ m ≤ k ∧ Hid ((wl v k).length = m) ∧ Hid (Ow wr w.heap.size 3 B cp (wl v k)) ∧ Hid (Below w.heap.size w wr)) (fun _ i _ => n - (intOf i).toNat)
  case atStart => exact ⟨0, none, 0, 0, rfl, rfl, Nat.zero_le _, Nat.le_refl _, rfl, ow_none _ _ _, Below.refl _ _⟩
  case round =>
    obtain ⟨k, B, m, cp, rfl, rfl, hk, hm, HM, HO, HB⟩ := hrel
    by_cases hlt : k < n
    · have x1 := cell_below HB.out (HC.out k hlt)
      have hv := HV.out k hlt
      by_cases h0 : 0 < v k
      · have HW := Lib.hid (wl_yes h0)
        have hi : (0 : Int) < (v k : Int) := by omega
        generalize v k = q at *
        have bA := below_one wr (Obj.cells #[.int .i64 k] 3)
        have HDA := Lib.hid (rd_new1 wr 3 (k : Int) (by exact ⟨by omega, by omega⟩))
        have HRA := Lib.hid (HO.out.alloc (Obj.cells #[.int .i64 k] 3))
        have BA := Lib.hid (below_step HB.out bA)
        have HJ2 : Hid (m + 1 ≤ 1000000) := by show _ ≤ _; omega
        have HN2 : Hid ((wl v (k + 1)).length = m + 1) := by show List.length _ = _; rw [HW.out, List.length_append, HM.out]; rfl
        clear bA
        go_wp2_with (at_builtin
                     refine list_app_n slI rfl _ _ rfl (base := w.heap.size) (l := wl v k) (r := [(k : Int)]) (n := m) (m := 1) HM.out rfl rfl rfl HRA.out HDA.out HJ2.out (by have := BA.out.size; exact this) ?_
                     intro A3 c3 w3 k1 k2 k3
                     have O3 := Lib.hid k1
                     have B3 := Lib.hid (BA.out.trans k2)
                     clear k1 k2 k3)
        rw [← HW.out] at O3
        go_roundw
        case rel => exact ⟨k + 1, A3, m + 1, c3, by go_num, rfl, hlt, by omega, HN2, O3, B3⟩
        case measure => simp [intOf]; omega
      · have HW := Lib.hid (wl_no h0)
        have hi : ¬ (0 : Int) < (v k : Int) := by omega
        generalize v k = q at *
        have HM2 : Hid ((wl v (k + 1)).length = m) := by show List.length _ = _; rw [HW.out]; exact HM.out
        rw [← HW.out] at HO
        go_wp2_with fail
        go_roundw
        case rel => exact ⟨k + 1, B, m, cp, by go_num, rfl, hlt, by omega, HM2, HO, HB⟩
        case measure => simp [intOf]; omega
    · have hkn : k = n := by omega
      subst hkn
      have HF : Hid (WaitOf w (wl v k) (.returned (.slice B m cp)) wr) := ⟨B, cp, by rw [HM.out], HO.out.rd, HB.out⟩
      go_wp2_with fail
      go_ret
      exact HF.out

set_option maxHeartbeats 1600000 in
theorem min_any (Y V lim : Nat) (A : Option Addr) (c : Nat) (F : List Fce) (t : Nat) (v : Nat → Nat) (B : Option Addr) (cp : Nat) (L : List Int) (w : World) (ho : okF F = true) (ht : t ≤ 1000) (hl : L.length ≤ 4) (h0 : 0 < L.length)
    (hL : ∀ x ∈ L, ∃ j : Nat, x = j ∧ j < F.length) (hr : Rd w B cp L) (H : Lo w Y V lim A c F t v) :
    Calls Try.prog 48 #[.slice B L.length cp, cmpV Y] w fun e w' => e = .returned (.int .i64 (minL (dlI F t) L (L.length - 1))) ∧ Below w.heap.size w w' := by
  have HT := Lib.hid H
  obtain ⟨b, off, rfl, hc⟩ := hr.int h0
  have x0 := (hc 0 h0).1
  rw [Nat.add_zero] at x0
  have HC := Lib.hid hc
  have HR := Lib.hid hL
  have HM0 : Hid (minL (dlI F t) L 0 = at_ L 0) := rfl
  clear hc hL H hr
  have i1 : ¬ (L.length : Int) < 1 := by omega
  generalize at_ L 0 = z0 at *
  unfold cmpV
  go_enter Try.func48, Try.ntmps48
  go_wp2_with fail
  go_loopw [5, 6] (fun m i wr => ∃ (k : Nat) (x : Int), i = .int .i64 k ∧ m = .int .i64 x ∧ 1 ≤ k ∧ k ≤ L.length ∧ Hid (minL (dlI F t) L (k - 1) = x) ∧ Hid (x ∈ L) ∧ Hid (Below w.heap.size w wr)) (fun _ i _ => L.length - (intOf i).toNat)
  case atStart => exact ⟨1, z0, rfl, rfl, Nat.le_refl _, h0, HM0.out, by rw [← HM0.out]; exact at_mem h0, Below.refl _ _⟩
  case round =>
    obtain ⟨k, x, rfl, rfl, hk1, hk, HX, HI, HB⟩ := hrel
    by_cases hlt : k < L.length
    · have x1 := cell_below HB.out (HC.out k hlt).1
      have HA := Lib.hid (at_mem hlt)
      have HS : Hid (minL (dlI F t) L (k + 1 - 1) = if dlI F t (at_ L k) < dlI F t x then at_ L k else x) := by
        show _ = _
        obtain ⟨q, rfl⟩ : ∃ q, k = q + 1 := ⟨k - 1, by omega⟩
        rw [Nat.add_sub_cancel, minL, ← HX.out]
        rfl
      obtain ⟨p, hp, hpn⟩ := HR.out _ HA.out
      obtain ⟨q, rfl, hqn⟩ := HR.out _ HI.out
      rw [hp] at x1 HA HS
      clear hp
      have hd : dlI F t (p : Int) = dl (Pn F) p t ∧ dlI F t (q : Int) = dl (Pn F) q t := ⟨by unfold dlI; rw [Int.toNat_natCast], by unfold dlI; rw [Int.toNat_natCast]⟩
      rw [hd.1, hd.2] at HS
      clear hd
      replace HT := Lib.hid (HT.out.below HB.out)
      have j1 : (0 : Int) ≤ (k : Int) := by omega
      have j2 : (k : Int) < (L.length : Int) := by omega
      obtain ⟨z, hz⟩ : ∃ z, cmpZ (dl (Pn F) p t : Nat) (dl (Pn F) q t : Nat) = z := ⟨_, rfl⟩
      have HCM := Lib.hid (compare_any Y V lim A c F t p q z v wr ho ht hpn hqn hz HT.out)
      by_cases hd : dl (Pn F) p t < dl (Pn F) q t
      · have hz1 : z = -1 := by rw [← hz]; unfold cmpZ; rw [if_pos (by omega)]
        subst hz1
        rw [if_pos hd] at HS
        have HZ := Lib.hid hz
        have HD := Lib.hid hd
        clear hz hd
        go_wp2_with fail
        refine HCM.out.mono ?_
        rintro e w1 ⟨rfl, b1⟩
        replace x1 := cell_below b1 x1
        have B1 := Lib.hid (below_step HB.out b1)
        clear b1
        go_wp2_with fail
        go_roundw
        case rel => exact ⟨k + 1, p, by go_num, rfl, by omega, hlt, HS, HA, B1⟩
        case measure => simp [intOf]; omega
      · have hz1 : ¬ z < 0 := by
          rw [← hz]
          unfold cmpZ
          rw [if_neg (by omega)]
          split <;> omega
        rw [if_neg hd] at HS
        have HZ := Lib.hid hz
        have HD := Lib.hid hd
        clear hz hd
        go_wp2_with fail
        refine HCM.out.mono ?_
        rintro e w1 ⟨rfl, b1⟩
        have B1 := Lib.hid (below_step HB.out b1)
        clear b1
        go_wp2_with fail
        go_roundw
        case rel => exact ⟨k + 1, q, by go_num, rfl, by omega, hlt, HS, HI, B1⟩
        case measure => simp [intOf]; omega
    · have hkl : k = L.length := by omega
      have HF : Hid (minL (dlI F t) L (L.length - 1) = x) := by show _ = _; rw [← hkl]; exact HX.out
      go_wp2_with fail
      go_ret
      exact ⟨ret_int HF.out.symm, HB.out⟩

def GiveOf (Y V lim : Nat) (A : Option Addr) (c : Nat) (F : List Fce) (t : Nat) (w : World) (e : Ending) (w' : World) : Prop := e = .returned (.int .i64 (gF F t)) ∧ Lo w' Y V lim A c F t (wA F (t + 1)) ∧ Tw Y V w w'
set_option maxHeartbeats 1600000 in
theorem give_any (Y V lim : Nat) (A : Option Addr) (c : Nat) (F : List Fce) (t : Nat) (w : World) (ho : okF F = true) (ht : t ≤ 1000) (H : Lo w Y V lim A c F t (wB F t)) :
    Calls Try.prog 41 #[.pointer (some ⟨Y, 0, none⟩)] w (GiveOf Y V lim A c F t w) := by
  have HT := Lib.hid H
  have hn := (okF_iff.1 ho).1
  have HV : Hid (∀ j, j < F.length → wB F t j ≤ 200) := fun j hj => by
    have h1 := wB_le F t j
    have h2 := okF_at ho hj
    omega
  have HW := Lib.hid (waiting_any Y V lim A c F t (wB F t) w hn HV.out HT.out)
  clear H
  obtain ⟨L, hL⟩ : ∃ L, wl (wB F t) F.length = L := ⟨_, rfl⟩
  have hl4 : L.length ≤ 4 := by have := wl_length (v := wB F t) (k := F.length); rw [hL] at this; omega
  have HR : Hid (∀ x ∈ L, ∃ j : Nat, x = j ∧ j < F.length) := fun x hx => by
    rw [← hL] at hx
    obtain ⟨j, h1, h2, _⟩ := wl_mem.1 hx
    exact ⟨j, h1, h2⟩
  rw [hL] at HW
  by_cases h0 : 0 < L.length
  · have hp := pick_min (F := F) (t := t) (f := dlI F t) (fun j _ => by unfold dlI; rw [Int.toNat_natCast]) (by rw [hL]; exact h0)
    have hm := minL_mem (f := dlI F t) (wl_rise (v := wB F t) (k := F.length)) (k := L.length - 1) (by rw [hL]; omega)
    rw [hL] at hp hm
    rw [hp, ← hL] at hm
    obtain ⟨j, hg, hj, hw⟩ := wl_mem.1 hm
    rw [hg] at hp
    have HP := Lib.hid hp
    have HG := Lib.hid hg
    have i1 : ¬ (L.length : Int) = 0 := by omega
    have i2 : (0 : Int) ≤ (j : Int) := by omega
    have i3 : (j : Int) < (F.length : Int) := by omega
    have hv := HV.out j hj
    obtain ⟨q, hq⟩ : ∃ q, wB F t j = q + 1 := ⟨wB F t j - 1, by omega⟩
    have HN : Hid (∀ i, i < F.length → wA F (t + 1) i = if i = j then q else wB F t i) := fun i _ => by
      rw [w_next, hg]
      by_cases e : i = j
      · subst e; rw [if_pos rfl, if_pos rfl, hq]; rfl
      · rw [if_neg (by omega), if_neg e]; rfl
    have e1 : IntKind.i64.wrap (q : Int) = (q : Int) := IntWalk.i64_in _ (by omega)
    have HQ := Lib.hid hq
    have HLE : Hid (wB F t j = q + 1) := hq
    clear hp hg hm hw hq
    have HL := Lib.hid hL
    clear hL
    go_enter Try.func41, Try.ntmps41
    go_wp2_with fail
    refine HW.out.mono ?_
    rintro e w1 ⟨B, cp, rfl, hr, b1⟩
    have HR1 := Lib.hid hr
    have HT1 := Lib.hid (HT.out.below b1)
    have B1 := Lib.hid b1
    have i9 : ((L.length : Int) == 0) = false := beq_eq_false_iff_ne.2 (by omega)
    clear hr b1
    go_wp2_with fail
    have hc := min_any Y V lim A c F t (wB F t) B cp L w1 ho ht hl4 h0 HR.out HR1.out HT1.out
    unfold cmpV at hc
    rw [HP.out] at hc
    refine hc.mono ?_
    rintro e w2 ⟨rfl, b2⟩
    clear hc
    have HT2 := Lib.hid (HT1.out.below b2)
    have B2 := Lib.hid (below_step B1.out b2)
    have y1 := HT2.out.y1
    have x1 := HT2.out.v0 j hj
    have z1 := HT2.out.zv j
    rw [HQ.out] at x1
    rw [show ((q + 1 : Nat) : Int) = (q : Int) + 1 from by push_cast; rfl] at x1
    have HF : Hid (GiveOf Y V lim A c F t w (.returned (.int .i64 (j : Int))) (w2.setCell ⟨V, j, none⟩ (.int .i64 (q : Int)))) :=
      ⟨by rw [HG.out], (HT2.out.want j q hj).same HN.out, (Tw.of B2.out).trans (tw_set Y V _ V j _ (.inr rfl))⟩
    clear b2
    go_wp2_with fail
    go_ret
    exact HF.out
  · have hl0 : L.length = 0 := by omega
    have HG : Hid (gF F t = -1) := pick_empty (by rw [hL]; exact hl0)
    have HN : Hid (∀ i, i < F.length → wA F (t + 1) i = wB F t i) := fun i _ => by
      rw [w_next, HG.out, if_neg (by omega)]
      rfl
    have hnil : L = [] := List.eq_nil_of_length_eq_zero hl0
    subst hnil
    have HL := Lib.hid hL
    clear hL
    clear h0 hl0 hl4
    go_enter Try.func41, Try.ntmps41
    go_wp2_with fail
    refine HW.out.mono ?_
    rintro e w1 ⟨B, cp, rfl, hr, b1⟩
    have HF : Hid (GiveOf Y V lim A c F t w (.returned (.int .i64 (-1))) w1) := ⟨by rw [HG.out], (HT.out.below b1).same HN.out, Tw.of b1⟩
    clear hr b1
    go_wp2_with fail
    go_ret
    exact HF.out

end Sy
end Go.Proofs.Ytpodahnmdakjjaa

/-
  Layer 12 (synth): Lay.
-/
namespace Go.Proofs.Ytpodahnmdakjjaa
open Go.RowKit Mm Sp
namespace Sy

theorem buildLay (A B : Option Addr) (n c m d : Nat) (w : World) : (Instr.build 74 #[(0, .slice A n c), (1, .slice B m d)]).run Try.prog w = .ok (.agg #[.slice A n c, .slice B m d, .int .i64 0]) w := by kernel_rfl
attribute [local go_sem ↓] buildLay

theorem Ti.tw {Y V : Nat} {w w' : World} {T n : Nat} {f : Nat → Int} (h : Ti w T n f) (b : Tw Y V w w') (h1 : T ≠ Y) (h2 : T ≠ V) : Ti w' T n f := h.keep (b.block T h.lt h1 h2) b.size

def LayOf (w : World) (F : List Fce) (e : Ending) (w' : World) : Prop := ∃ B cp, e = .returned (.tuple #[.slice B (layL F).length cp, .int .i64 (layE F : Nat)]) ∧ Rd w' B cp (layL F) ∧ Below w.heap.size w w'
theorem layOf_bad {w w' : World} {F : List Fce} {e : Nat} (h1 : layE F = e) (h2 : layL F = []) (b : Below w.heap.size w w') : LayOf w F (.returned (.tuple #[.slice none 0 0, .int .i64 (e : Int)])) w' :=
  ⟨none, 0, by rw [h1, h2]; rfl, by rw [h2]; exact rd_nil (fun _ => rfl) (Nat.zero_le _), b⟩
theorem layOf_fine {w w' : World} {F : List Fce} {T fr : Nat} (h : layE F = 0) (hf : frm F = fr) (hfr : fr ≤ 240) (ht : Ti w' T fr (gF F)) (b : Below w.heap.size w w') : LayOf w F (.returned (.tuple #[.slice (some ⟨T, 0, none⟩) fr fr, .int .i64 0])) w' := by
  have hl := (lay_fine h).2.2
  have hlen : (layL F).length = fr := by rw [hl, lay_length, hf]
  refine ⟨some ⟨T, 0, none⟩, fr, by rw [hlen, h]; rfl, ht.rd hlen (by omega) (fun j hj => by rw [hl]; exact lay_at (by omega)) (fun j _ => ?_), b⟩
  have h1 := gF_bounds F j
  have h2 := (okF_iff.1 (frmE_zero.1 (lay_fine h).1).1).1
  exact ⟨by omega, by omega⟩
/-- the first k ticks -/
def gK (F : List Fce) (k j : Nat) : Int := if j < k then gF F j else 0

def lay3 (w1 : World) (A : Option Addr) (n c : Nat) : World := (w1.alloc (.cells (madeCells #[.int .i64 0] n) 3)).alloc (.cells #[.slice A n c, .slice (some ⟨w1.heap.size, 0, none⟩) n n, .int .i64 0] 74)
theorem lo_new (w1 : World) (lim : Nat) (A : Option Addr) (c : Nat) (F : List Fce) (hl : lim ≤ w1.heap.size) (h : RdS w1 (fun b => b < lim) A c F) : Lo (lay3 w1 A F.length c) (w1.heap.size + 1) w1.heap.size lim A c F 0 (wA F 0) := by
  have hm := ti_new F.length w1 3
  have b2 := below_one (w1.alloc (.cells (madeCells #[.int .i64 0] F.length) 3)) (.cells #[.slice A F.length c, .slice (some ⟨w1.heap.size, 0, none⟩) F.length F.length, .int .i64 0] 74)
  have hm2 := hm.below b2
  have e : (w1.alloc (.cells (madeCells #[.int .i64 0] F.length) 3)).heap.size = w1.heap.size + 1 := by simp
  unfold lay3
  refine ⟨?_, ?_, ?_, ?_, fun j hj => hm2.c j hj, hm2.z, by omega, hm2.lt, by omega, hl, (h.below (below_one _ _)).below b2⟩
  all_goals rw [← e]
  all_goals simp

set_option maxRecDepth 20000 in
set_option maxHeartbeats 3200000 in
theorem lay_call (A : Option Addr) (c : Nat) (F : List Fce) (w : World) (H : CL w A c F) :
    Calls Try.prog 33 #[.slice A F.length c] w (LayOf w F) := by
  have hb := H.1
  have HT := Lib.hid H
  have HO := Lib.hid H.2.old
  clear H
  by_cases h0 : frmE F = 0
  · obtain ⟨ho, h1⟩ := frmE_zero.1 h0
    have h2 := (frm_fine ho h1).2
    obtain ⟨fr, hfr⟩ : ∃ fr, frm F = fr := ⟨_, rfl⟩
    have HR := Lib.hid hfr
    have HE := Lib.hid h0
    have HC := Lib.hid (frame_v A c F fr 0 (by rw [h2, hfr]) (by rw [h0]; rfl) F.length rfl)
    have hn := (okF_iff.1 ho).1
    have hfr2 : fr ≤ 240 := by omega
    have hfr1 : 1 ≤ fr := by rw [← hfr]; exact frm_pos ho
    clear h0 h2 hfr h1
    go_enter Try.func33, Try.ntmps33
    go_wp2_with fail
    refine (HC.out _ HT.out).mono ?_
    rintro e w1 ⟨rfl, b1⟩
    have HL := Lib.hid (lo_new w1 w.heap.size A c F b1.size (HO.out.below b1))
    have b2 : Below w1.heap.size w1 (lay3 w1 A F.length c) := below_two _ _ _
    have HB := Lib.hid (below_step b1 b2)
    have HT3 := Lib.hid (ti_new fr (lay3 w1 A F.length c) 3)
    have b3 := below_one (lay3 w1 A F.length c) (.cells (madeCells #[.int .i64 0] fr) 3)
    have HL3 := Lib.hid (HL.out.below b3)
    have HB3 := Lib.hid (below_step HB.out b3)
    have hs : (lay3 w1 A F.length c).heap.size = w1.heap.size + 1 + 1 := by unfold lay3; simp
    have hs1 := b1.size
    rw [hs] at HT3
    clear b1 b2 b3 HL HB hs HO HT
    unfold lay3 at *
    go_wp2_with (at_make; first | (refine list_ints rfl _ _ rfl F.length rfl rfl (by omega) ?_) | (refine list_ints rfl _ _ rfl fr rfl rfl (by omega) ?_))
    generalize ((w1.alloc (.cells (madeCells #[.int .i64 0] F.length) 3)).alloc (.cells #[.slice A F.length c, .slice (some ⟨w1.heap.size, 0, none⟩) F.length F.length, .int .i64 0] 74)).alloc (.cells (madeCells #[.int .i64 0] fr) 3) = w3 at *
    generalize w1.heap.size = V at *
    go_loopw [26] (fun i wr => ∃ (k : Nat) (s : Int), i = .int .i64 k ∧ k ≤ fr ∧ Hid (Lo wr (V + 1) V w.heap.size A c F s (wA F k)) ∧ Hid (Ti wr (V + 1 + 1) fr (gK F k)) ∧ Hid (∀ d, d < k → lateF F d = false) ∧ Hid (Below w.heap.size w wr)) (fun i _ => fr - (intOf i).toNat)
    case atStart => exact ⟨0, 0, rfl, Nat.zero_le _, HL3.out, HT3.out.same fun j _ => by unfold gK; rw [if_neg (by omega)], (fun d h => by omega), HB3.out⟩
    case round =>
      obtain ⟨k, s, rfl, hk, HL, HTI, HD, HBW⟩ := hrel
      by_cases hlt : k < fr
      · go_wp2_with fail
        refine (begin_any (V + 1) V w.heap.size A c F k s wr ho (by omega) HL.out).mono ?_
        rintro e w4 ⟨v, rfl, h4, h5, h6⟩
        have HB4 := Lib.hid (HBW.out.trans (h4.below HBW.out.size (by omega) (by omega)))
        cases v with
        | false =>
          have h7 := lay_seven HE.out (d := k) (by rw [HR.out]; omega) h5
          have HF := Lib.hid (layOf_bad h7.1 h7.2 HB4.out)
          clear h4 h5 h6 h7
          go_wp2_with fail
          go_ret2
          exact HF.out
        | true =>
          have HL4 := Lib.hid (h6 rfl)
          have HT4 := Lib.hid (Ti.tw HTI.out h4 (by omega) (by omega))
          have HD4 : Hid (∀ d, d < k + 1 → lateF F d = false) := fun d hd => by
            by_cases e : d = k
            · subst e; exact h5
            · exact HD.out d (by omega)
          clear h4 h5 h6
          go_wp2_with fail
          refine (give_any (V + 1) V w.heap.size A c F k w4 ho (by omega) HL4.out).mono ?_
          rintro e w5 ⟨rfl, h4, h5⟩
          have HL5 := Lib.hid h4
          have HT5 := Lib.hid (Ti.tw HT4.out h5 (by omega) (by omega))
          have HB5 := Lib.hid (HB4.out.trans (h5.below HB4.out.size (by omega) (by omega)))
          have x1 := HT5.out.c k hlt
          have x2 := HT5.out.z k
          have i1 : (0 : Int) ≤ (k : Int) := by omega
          have i2 : (k : Int) < (fr : Int) := by omega
          have HL6 := Lib.hid (HL5.out.keep_ (V + 1 + 1) k (.int .i64 (gF F k)) (by omega) (by omega))
          have HT6 : Hid (Ti (w5.setCell ⟨V + 1 + 1, k, none⟩ (.int .i64 (gF F k))) (V + 1 + 1) fr (gK F (k + 1))) := (HT5.out.put k (gF F k)).same fun j hj => by
            unfold gK
            by_cases e : j = k
            · subst e; rw [if_pos (by omega), if_pos rfl]
            · rw [if_neg e]
              by_cases e2 : j < k
              · rw [if_pos (by omega), if_pos e2]
              · rw [if_neg (by omega), if_neg e2]
          have HB6 := Lib.hid (HB5.out.setCell (p := ⟨V + 1 + 1, k, none⟩) (show w.heap.size ≤ V + 1 + 1 by omega) (.int .i64 (gF F k)))
          generalize gF F k = g at *
          clear h4 h5
          go_wp2_with fail
          go_roundw
          case rel => exact ⟨k + 1, k, by go_num, hlt, HL6, HT6, HD4, HB6⟩
          case measure => simp [intOf]; omega
      · have hkf : k = fr := by omega
        subst hkf
        go_wp2_with fail
        refine (begin_any (V + 1) V w.heap.size A c F k s wr ho (by omega) HL.out).mono ?_
        rintro e w4 ⟨v, rfl, h4, h5, h6⟩
        have HB4 := Lib.hid (HBW.out.trans (h4.below HBW.out.size (by omega) (by omega)))
        cases v with
        | false =>
          have h7 := lay_seven HE.out (d := k) (by rw [HR.out]; omega) h5
          have HF := Lib.hid (layOf_bad h7.1 h7.2 HB4.out)
          clear h4 h5 h6 h7
          go_wp2_with fail
          go_ret2
          exact HF.out
        | true =>
          have h7 := lay_none HE.out fun d hd => by
            rw [HR.out] at hd
            by_cases e : d = k
            · subst e; exact h5
            · exact HD.out d (by omega)
          have HT4 := Lib.hid (Ti.tw HTI.out h4 (by omega) (by omega))
          have HF := Lib.hid (layOf_fine h7 HR.out hfr2 (HT4.out.same fun j hj => by unfold gK; rw [if_pos hj]) HB4.out)
          clear h4 h5 h6 h7
          go_wp2_with fail
          go_ret2
          exact HF.out
  · have hl := lay_frame h0
    obtain ⟨e, he⟩ : ∃ e, frmE F = e := ⟨_, rfl⟩
    rw [he] at hl h0
    have HC := Lib.hid (frame_v A c F 0 e (by unfold frmZ; rw [if_neg (by rw [he]; exact h0)]; rfl) (by rw [he]) F.length rfl)
    have i1 : ¬ (e : Int) = 0 := by omega
    have HE := Lib.hid he
    have HL := Lib.hid hl
    clear he hl
    go_enter Try.func33, Try.ntmps33
    go_wp2_with fail
    refine (HC.out _ HT.out).mono ?_
    rintro e w1 ⟨rfl, b1⟩
    have B1 := Lib.hid b1
    clear b1
    go_wp2_with fail
    go_ret2
    exact layOf_bad HL.out.1 HL.out.2 B1.out
theorem lay_v (A : Option Addr) (c : Nat) (F : List Fce) (n : Nat) (hn : F.length = n) (w : World) (H : CL w A c F) :
    Calls Try.prog 33 #[.slice A n c] w (LayOf w F) := by
  subst hn
  exact lay_call A c F w H

end Sy
end Go.Proofs.Ytpodahnmdakjjaa

/-
  Layer 12 (synth): Lay under other names.
-/
namespace Go.Proofs.Ytpodahnmdakjjaa
open Go.RowKit Mm Sp
namespace Sy

/-- what a list and an error come to -/
def LayTo (w : World) (L : List Int) (m : Nat) (e : Int) (x : Ending) (w' : World) : Prop := ∃ B cp, x = .returned (.tuple #[.slice B m cp, .int .i64 e]) ∧ Rd w' B cp L ∧ Below w.heap.size w w'
theorem LayOf.to {w w' : World} {F : List Fce} {x : Ending} {L : List Int} {m : Nat} {e : Int} (h : LayOf w F x w') (hL : layL F = L) (hm : L.length = m) (he : ((layE F : Nat) : Int) = e) : LayTo w L m e x w' := by
  obtain ⟨B, cp, h1, h2, h3⟩ := h
  subst hL; subst hm; subst he
  exact ⟨B, cp, h1, h2, h3⟩
theorem lay_to (A : Option Addr) (c : Nat) (F : List Fce) (L : List Int) (m : Nat) (e : Int) (hL : layL F = L) (hm : L.length = m) (he : ((layE F : Nat) : Int) = e) (n : Nat) (hn : F.length = n) (w : World) (H : CL w A c F) :
    Calls Try.prog 33 #[.slice A n c] w (LayTo w L m e) :=
  (lay_v A c F n hn w H).mono fun _ _ h => h.to hL hm he

end Sy
end Go.Proofs.Ytpodahnmdakjjaa

