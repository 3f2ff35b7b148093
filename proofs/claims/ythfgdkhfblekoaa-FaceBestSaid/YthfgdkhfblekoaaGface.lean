/-
  Merged texts: FaceMath, FaceSuff, FaceFaces, FaceFirst, FaceLeast, FaceBest.
-/
import Derived.Test.YthfgdkhfblekoaaGverdict
import Derived.Deep.Draws
import Derived.Test.YthfgdkhfblekoaaGsupply
import Derived.Laws.MakeOwn
/-
  Layer 11 (face): plain mathematics: the least budget of a period; the best of the least interfaces; what one task alone asks for.
-/
namespace Go.Proofs.Ythfgdkhfblekoaa
namespace Fa
open Mm Tk Vd

/-- what is needed that budgets are tried at all -/
def okP (L : List Tsk) (p : Int) : Bool := allB L && decide (1 ≤ p ∧ p ≤ 200)
theorem okP_iff {L : List Tsk} {p : Int} : okP L p = true ↔ allB L = true ∧ 1 ≤ p ∧ p ≤ 200 := by unfold okP; rw [Bool.and_eq_true, decide_eq_true_iff]
/-- the cycle does not depend on the budget -/
theorem cycOk_any {L : List Tsk} {p b c : Int} (hb : 1 ≤ b ∧ b ≤ p) (hc : 1 ≤ c ∧ c ≤ p) : cycOk L p b = cycOk L p c := by
  unfold cycOk inB
  have : Sp.rightB p b = Sp.rightB p c := by
    unfold Sp.rightB
    congr 1
    rw [eq_iff_iff]
    omega
  rw [this]
theorem cycE_any {L : List Tsk} {p b c : Int} (hb : 1 ≤ b ∧ b ≤ p) (hc : 1 ≤ c ∧ c ≤ p) : cycE L p b = cycE L p c := by
  unfold cycE
  rw [cycOk_any hb hc]
  have : inB L p b = inB L p c := by
    unfold inB
    have : Sp.rightB p b = Sp.rightB p c := by
      unfold Sp.rightB
      congr 1
      rw [eq_iff_iff]
      omega
    rw [this]
  rw [this]
theorem in_one {L : List Tsk} {p : Int} : inB L p 1 = okP L p := by
  unfold inB okP Sp.rightB
  congr 2
  rw [eq_iff_iff]
  omega
/-- what fits, does so with more -/
theorem fits_up {L : List Tsk} {p b c : Int} (hb : 1 ≤ b) (hbc : b ≤ c) (hc : c ≤ p) (h : fitsB L p b = true) : fitsB L p c = true := by
  have hk : cycOk L p b = true := by
    unfold fitsB at h
    rw [Bool.and_eq_true] at h
    exact h.1
  have hk2 : cycOk L p c = true := by rw [cycOk_any (c := b) ⟨by omega, hc⟩ ⟨hb, by omega⟩]; exact hk
  exact (fits_true hk2).2 (fit_more (by omega) (by omega) (by omega) ((fits_true hk).1 h))
theorem fits_down {L : List Tsk} {p b c : Int} (hb : 1 ≤ b) (hbc : b ≤ c) (hc : c ≤ p) (h : fitsB L p c = false) : fitsB L p b = false := by
  cases e : fitsB L p b with
  | false => rfl
  | true => rw [fits_up hb hbc hc e] at h; cases h

/-- b is the least budget above 0 that is enough; or there is none up to p, and b is p + 1 -/
structure LeastOf (L : List Tsk) (p b : Nat) : Prop where
  pos : 1 ≤ b
  le : b ≤ p + 1
  yes : b ≤ p → fitsB L p b = true
  no : ∀ c : Nat, 1 ≤ c → c < b → fitsB L p c = false
theorem LeastOf.same {L : List Tsk} {p b c : Nat} (h : LeastOf L p b) (h' : LeastOf L p c) : b = c := by
  rcases Nat.lt_trichotomy b c with e | e | e
  · have h1 := h'.no b h.pos e
    have := h'.le
    rw [h.yes (by omega)] at h1
    cases h1
  · exact e
  · have h1 := h.no c h'.pos e
    have := h.le
    rw [h'.yes (by omega)] at h1
    cases h1
/-- found by trying from below -/
def leastFrom (L : List Tsk) (p : Nat) : Nat → Nat
  | 0 => p + 1
  | n + 1 => if fitsB L p (p - n : Nat) then p - n else leastFrom L p n
theorem leastFrom_of {L : List Tsk} {p : Nat} : ∀ {n : Nat}, n ≤ p → (∀ c : Nat, 1 ≤ c → c < p + 1 - n → fitsB L p c = false) → LeastOf L p (leastFrom L p n)
  | 0, _, h => ⟨by rw [leastFrom]; omega, by rw [leastFrom]; exact Nat.le_refl _, fun h' => by rw [leastFrom] at h'; omega, h⟩
  | n + 1, hn, h => by
    rw [leastFrom]
    by_cases e : fitsB L p (p - n : Nat) = true
    · rw [if_pos e]
      exact ⟨by omega, by omega, fun _ => e, fun c h1 h2 => h c h1 (by omega)⟩
    · rw [if_neg e]
      refine leastFrom_of (n := n) (by omega) fun c h1 h2 => ?_
      by_cases e' : c = p - n
      · subst e'; exact Bool.not_eq_true _ ▸ e
      · exact h c h1 (by omega)
def leastB (L : List Tsk) (p : Nat) : Nat := leastFrom L p p
theorem leastB_of (L : List Tsk) (p : Nat) : LeastOf L p (leastB L p) := leastFrom_of (Nat.le_refl _) fun c h1 h2 => by omega

/-- Least's answer: the budget, the error -/
def lstE (L : List Tsk) (p : Int) : Nat := if cycE L p 1 = 0 then (if leastB L p.toNat ≤ p.toNat then 0 else 7) else cycE L p 1
def lstB (L : List Tsk) (p : Int) : Nat := if lstE L p = 0 then leastB L p.toNat else 0
theorem lst_err {L : List Tsk} {p : Int} {e : Nat} (h : cycE L p 1 = e) (h0 : e ≠ 0) : lstE L p = e ∧ lstB L p = 0 := by
  have h1 : lstE L p = e := by unfold lstE; rw [h, if_neg h0]
  exact ⟨h1, by unfold lstB; rw [h1, if_neg h0]⟩
theorem lst_none {L : List Tsk} {p : Nat} (h : cycE L p 1 = 0) {b : Nat} (hb : LeastOf L p b) (hp : p < b) : lstE L p = 7 ∧ lstB L p = 0 := by
  have h1 : lstE L p = 7 := by
    unfold lstE
    rw [h, if_pos rfl, Int.toNat_natCast, ← hb.same (leastB_of L p), if_neg (by omega)]
  exact ⟨h1, by unfold lstB; rw [h1]; rfl⟩
theorem lst_some {L : List Tsk} {p : Nat} (h : cycE L p 1 = 0) {b : Nat} (hb : LeastOf L p b) (hp : b ≤ p) : lstE L p = 0 ∧ lstB L p = b := by
  have h1 : lstE L p = 0 := by
    unfold lstE
    rw [h, if_pos rfl, Int.toNat_natCast, ← hb.same (leastB_of L p), if_pos hp]
  exact ⟨h1, by unfold lstB; rw [h1, if_pos rfl, Int.toNat_natCast, ← hb.same (leastB_of L p)]⟩
/-- what is known where there is no error -/
theorem lst_zero {L : List Tsk} {p : Int} (h : lstE L p = 0) : ∃ q b : Nat, p = q ∧ lstB L p = b ∧ allB L = true ∧ 1 ≤ q ∧ q ≤ 200 ∧ cycOk L p 1 = true ∧ LeastOf L q b ∧ b ≤ q := by
  have hc : cycE L p 1 = 0 := by
    cases hh : cycE L p 1 with
    | zero => rfl
    | succ n => rw [(lst_err hh (by omega)).1] at h; cases h
  have hk := cycE_zero.1 hc
  obtain ⟨h1, h2, h3⟩ := okP_iff.1 (in_one.symm.trans (cycOk_iff.1 hk).1)
  obtain ⟨q, rfl⟩ : ∃ q : Nat, p = q := ⟨p.toNat, by omega⟩
  have hb : leastB L q ≤ q := by
    rcases Nat.lt_or_ge q (leastB L q) with e | e
    · rw [(lst_none hc (leastB_of L q) e).1] at h; cases h
    · exact e
  exact ⟨q, leastB L q, rfl, (lst_some hc (leastB_of L q) hb).2, h1, by omega, by omega, hk, leastB_of L q, hb⟩

/-! ### one task alone -/
theorem asks {x : Tsk} {p b : Nat} (h : fitsB [x] p b = true) : x.1 * p ≤ b * x.2.2.1 := by
  have hk : cycOk [x] p b = true := by
    unfold fitsB at h
    rw [Bool.and_eq_true] at h
    exact h.1
  obtain ⟨g1, _⟩ := cycOk_iff.1 hk
  obtain ⟨g2, g3⟩ := in_iff.1 g1
  have g4 := Sp.right_iff.1 g3
  have hE := cyc_end (L := [x]) (P := p) (B := b) g2 (by omega) (by omega)
  have hf := (fits_iff g2 (by omega) (by omega) hE).1 ((fits_true hk).1 h)
  have h1 := hf.1
  have hx := Dm.right_T (Dm.all_right g2 0 (by simp))
  have hc := hE.cyc 0 (by simp)
  have hp := hE.per
  have h0 := hE.pos
  generalize cyc p [x] = H at *
  have ha : asked [x] H = x.1 * ((H : Int) / x.2.2.1) := by
    unfold asked
    show askTo [x] H 1 = _
    rw [askTo, askTo]
    show 0 + askT x H = _
    unfold askT
    omega
  rw [ha] at h1
  unfold given at h1
  have hx' : (at_ [x] 0) = x := rfl
  rw [hx'] at hc hx
  obtain ⟨m, hm⟩ := Int.dvd_of_emod_eq_zero hc
  obtain ⟨n, hn⟩ := Nat.dvd_of_mod_eq_zero hp
  have e1 : (H : Int) / x.2.2.1 = m := by rw [hm]; exact Int.mul_ediv_cancel_left _ (by omega)
  have e2 : H / p = n := by rw [hn]; exact Nat.mul_div_cancel_left _ (by omega)
  rw [e1, e2] at h1
  have e3 : x.2.2.1 * m = (p : Int) * n := by rw [← hm, hn]; push_cast; rfl
  have hn0 : 0 < n := by
    rcases Nat.eq_zero_or_pos n with e | e
    · subst e; rw [Nat.mul_zero] at hn; omega
    · exact e
  have hm0 : 0 < m := by
    rcases Int.lt_or_le 0 m with e | e
    · exact e
    · have : x.2.2.1 * m ≤ 0 := Int.mul_nonpos_of_nonneg_of_nonpos (by omega) e
      rw [← hm] at this
      omega
  -- C * m ≤ b * n and T * m = p * n: times p: C * m * p ≤ b * n * p = b * T * m
  have h2 : (x.1 * p) * m ≤ ((b : Int) * x.2.2.1) * m := by
    have h3 : (x.1 * m) * p ≤ ((b : Int) * n) * p := Int.mul_le_mul_of_nonneg_right (by push_cast at h1; exact h1) (by omega)
    have e4 : (x.1 * m) * (p : Int) = (x.1 * p) * m := by rw [Int.mul_assoc, Int.mul_comm m, ← Int.mul_assoc]
    have e5 : ((b : Int) * n) * p = ((b : Int) * x.2.2.1) * m := by rw [Int.mul_assoc, Int.mul_comm (n : Int), ← e3, Int.mul_assoc]
    rw [e4, e5] at h3
    exact h3
  exact Int.le_of_mul_le_mul_right h2 hm0

/-! ### the best of all periods -/
/-- b in each p is better than c in each q -/
def Better (b p c q : Nat) : Prop := b * q < c * p ∨ (b * q = c * p ∧ q < p)
theorem Better.trans {b p c q d r : Nat} (hp : 0 < p) (hq : 0 < q) (hr : 0 < r) (h : Better b p c q) (h' : Better c q d r) : Better b p d r := by
  have e1 : (b * r) * q = (b * q) * r := by rw [Nat.mul_assoc, Nat.mul_comm r, ← Nat.mul_assoc]
  have e2 : (c * p) * r = (c * r) * p := by rw [Nat.mul_assoc, Nat.mul_comm p, ← Nat.mul_assoc]
  have e3 : (d * q) * p = (d * p) * q := by rw [Nat.mul_assoc, Nat.mul_comm q, ← Nat.mul_assoc]
  rcases h with h | ⟨h, g⟩
  · left
    have h1 : (b * q) * r < (c * p) * r := Nat.mul_lt_mul_of_pos_right h hr
    have h2 : (c * r) * p ≤ (d * q) * p := Nat.mul_le_mul_right p (by rcases h' with h' | ⟨h', _⟩ <;> omega)
    exact Nat.lt_of_mul_lt_mul_right (a := q) (by omega)
  · rcases h' with h' | ⟨h', g'⟩
    · left
      have h1 : (b * q) * r = (c * p) * r := by rw [h]
      have h2 : (c * r) * p < (d * q) * p := Nat.mul_lt_mul_of_pos_right h' hp
      exact Nat.lt_of_mul_lt_mul_right (a := q) (by omega)
    · right
      have h1 : (b * q) * r = (c * p) * r := by rw [h]
      have h2 : (c * r) * p = (d * q) * p := by rw [h']
      exact ⟨Nat.eq_of_mul_eq_mul_right hq (by omega), by omega⟩
theorem Better.irrefl {b p : Nat} : ¬ Better b p b p := by
  rintro (h | ⟨_, h⟩) <;> omega
theorem better_tri {b p c q : Nat} (h : p ≠ q) : Better b p c q ∨ Better c q b p := by
  unfold Better
  rcases Nat.lt_trichotomy (b * q) (c * p) with e | e | e
  · exact .inl (.inl e)
  · rcases Nat.lt_or_ge q p with g | g
    · exact .inl (.inr ⟨e, g⟩)
    · exact .inr (.inr ⟨e.symm, by omega⟩)
  · exact .inr (.inl e)
/-- of the periods in S the best is P, with B; or none of them has an interface, and P is 0 -/
def BestOf (L : List Tsk) (S : Nat → Prop) (P B : Nat) : Prop :=
  (P = 0 ∧ B = 0 ∧ ∀ p, S p → lstE L p ≠ 0) ∨
    (1 ≤ P ∧ S P ∧ lstE L P = 0 ∧ lstB L P = B ∧ ∀ p, S p → lstE L p = 0 → ¬ Better (lstB L p) p B P)
theorem lst_pos {L : List Tsk} {p : Nat} (h : lstE L p = 0) : 1 ≤ p ∧ p ≤ 200 ∧ 1 ≤ lstB L p ∧ lstB L p ≤ p := by
  obtain ⟨q, b, e1, e2, _, h1, h2, _, hb, h3⟩ := lst_zero h
  have : p = q := by omega
  subst this
  rw [e2]
  exact ⟨h1, h2, hb.pos, h3⟩
theorem BestOf.same {L : List Tsk} {S : Nat → Prop} {P B P' B' : Nat} (h : BestOf L S P B) (h' : BestOf L S P' B') : P = P' ∧ B = B' := by
  rcases h with ⟨rfl, rfl, h⟩ | ⟨h1, h2, h3, h4, h5⟩
  · rcases h' with ⟨rfl, rfl, _⟩ | ⟨_, g2, g3, _, _⟩
    · exact ⟨rfl, rfl⟩
    · exact absurd g3 (h _ g2)
  · rcases h' with ⟨rfl, rfl, g⟩ | ⟨g1, g2, g3, g4, g5⟩
    · exact absurd h3 (g _ h2)
    · by_cases e : P = P'
      · subst e; exact ⟨rfl, by rw [← h4, ← g4]⟩
      · subst h4
        subst g4
        rcases better_tri (b := lstB L P) (c := lstB L P') e with b | b
        · exact absurd b (g5 P h2 h3)
        · exact absurd b (h5 P' g2 g3)
theorem best_none (L : List Tsk) : BestOf L (fun _ => False) 0 0 := .inl ⟨rfl, rfl, fun _ h => h.elim⟩
/-- one period more -/
theorem best_skip {L : List Tsk} {S S' : Nat → Prop} {P B q : Nat} (h : BestOf L S P B) (hS : ∀ p, S' p ↔ S p ∨ p = q) (hq : lstE L q ≠ 0) : BestOf L S' P B := by
  rcases h with ⟨h1, h2, h3⟩ | ⟨h1, h2, h3, h4, h5⟩
  · refine .inl ⟨h1, h2, fun p hp => ?_⟩
    rcases (hS p).1 hp with h | rfl
    · exact h3 p h
    · exact hq
  · refine .inr ⟨h1, (hS P).2 (.inl h2), h3, h4, fun p hp hl => ?_⟩
    rcases (hS p).1 hp with h | rfl
    · exact h5 p h hl
    · exact absurd hl hq
theorem best_first {L : List Tsk} {S S' : Nat → Prop} {q : Nat} (h : BestOf L S 0 0) (hS : ∀ p, S' p ↔ S p ∨ p = q) (hq : lstE L q = 0) : BestOf L S' q (lstB L q) := by
  rcases h with ⟨_, _, h3⟩ | ⟨h1, _⟩
  · refine .inr ⟨(lst_pos hq).1, (hS q).2 (.inr rfl), hq, rfl, fun p hp hl => ?_⟩
    rcases (hS p).1 hp with h | rfl
    · exact absurd hl (h3 p h)
    · exact Better.irrefl
  · omega
theorem best_keep {L : List Tsk} {S S' : Nat → Prop} {P B q : Nat} (h : BestOf L S P B) (h0 : 1 ≤ P) (hS : ∀ p, S' p ↔ S p ∨ p = q) (hb : ¬ Better (lstB L q) q B P) : BestOf L S' P B := by
  rcases h with ⟨h1, _⟩ | ⟨h1, h2, h3, h4, h5⟩
  · omega
  · refine .inr ⟨h1, (hS P).2 (.inl h2), h3, h4, fun p hp hl => ?_⟩
    rcases (hS p).1 hp with h | rfl
    · exact h5 p h hl
    · exact hb
theorem best_take {L : List Tsk} {S S' : Nat → Prop} {P B q : Nat} (h : BestOf L S P B) (h0 : 1 ≤ P) (hS : ∀ p, S' p ↔ S p ∨ p = q) (hq : lstE L q = 0) (hb : Better (lstB L q) q B P) : BestOf L S' q (lstB L q) := by
  rcases h with ⟨h1, _⟩ | ⟨h1, h2, h3, h4, h5⟩
  · omega
  · refine .inr ⟨(lst_pos hq).1, (hS q).2 (.inr rfl), hq, rfl, fun p hp hl hbad => ?_⟩
    rcases (hS p).1 hp with h | rfl
    · exact h5 p h hl (hbad.trans (lst_pos hl).1 (lst_pos hq).1 (by omega) hb)
    · exact Better.irrefl hbad

end Fa
end Go.Proofs.Ythfgdkhfblekoaa

/-
  Layer 11 (face): the closure that asks whether an interface is sufficient, and notes the error; the one that asks it of an element; the library's search, walked with them.
-/
namespace Go.Proofs.Ythfgdkhfblekoaa
open Go.RowKit Mm Tk Vd
namespace Fa

/-- block X has the error -/
def Er (w : World) (X : Nat) (e : Nat) : Prop := w.cell? ⟨X, 0, none⟩ = some (.int .i64 e) ∧ w.frozen? ⟨X, 0, none⟩ = false
theorem Er.below {w w' : World} {X e : Nat} (h : Er w X e) (b : Below w.heap.size w w') : Er w' X e := ⟨cell_below b h.1, frozen_below b h.1 h.2⟩
theorem Er.lt {w : World} {X e : Nat} (h : Er w X e) : X < w.heap.size := lt_of_cell h.1
theorem gb_set (w : World) (X : Nat) (v : Value) : w.grownBy (w.setCell ⟨X, 0, none⟩ v) (some X) :=
  ⟨rfl, rfl, rfl, by simp [World.setCell], fun i _ hne => Below.heap_setCell _ _ _ _ (fun e => hne (by rw [e]))⟩
/-- what the closure does -/
def Noted (w : World) (X e : Nat) (v : Bool) (x : Ending) (w' : World) : Prop := x = .returned (.bool v) ∧ Er w' X e ∧ w.grownBy w' (some X)
theorem noted_put {w w1 : World} {X e0 e : Nat} {v : Bool} (h : Er w X e0) (b : Below w.heap.size w w1) : Noted w X e v (.returned (.bool v)) (w1.setCell ⟨X, 0, none⟩ (.int .i64 e)) :=
  ⟨rfl, ⟨World.cell?_setCell_same _ _ _ (cell_below b h.1), by rw [World.frozen?_setCell]; exact frozen_below b h.1 h.2⟩, gb_trans (gb_below b (Nat.le_refl _) _) (gb_set _ _ _)⟩

set_option maxHeartbeats 800000 in
theorem suff_any (X Y : Nat) (A : Option Addr) (c : Nat) (L : List Tsk) (P B : Int) (v : Bool) (e0 e : Nat) (hv : fitsB L P B = v) (he : cycE L P B = e) (w : World) (hX : Er w X e0) (hY : w.cell? ⟨Y, 0, none⟩ = some (.slice A L.length c)) (H : TL w A c L) :
    Calls Try.prog 17 #[.agg #[.int .i64 P, .int .i64 B], .pointer (some ⟨Y, 0, none⟩), .pointer (some ⟨X, 0, none⟩)] w (Noted w X e v) := by
  obtain ⟨t1, t2⟩ := Sp.fc_new w P B
  have b0 := below_one w (Obj.cells #[.int .i64 P, .int .i64 B] 26)
  have y1 := cell_below b0 hY
  have x1 := cell_below b0 hX.1
  have x2 := frozen_below b0 hX.1 hX.2
  have HT := Lib.hid (H.below b0)
  have HE := Lib.hid hX
  have HF := Lib.hid (fits_v A c L P B v e hv he L.length rfl)
  have B0 := Lib.hid b0
  clear b0
  clear hX hY H hv he
  go_enter Try.func17, Try.ntmps17
  go_wp2_with fail
  refine (HF.out _ HT.out).mono ?_
  rintro x w1 ⟨rfl, b1⟩
  replace x2 := frozen_below b1 x1 x2
  replace x1 := cell_below b1 x1
  have B1 := Lib.hid (below_step B0.out b1)
  clear b1
  go_wp2_with fail
  go_ret
  exact noted_put HE.out B1.out

/-- the boxes of first: what it asks, and of which elements -/
def suffV (Y X : Nat) : Value := .func (.func 17) #[] #[.pointer (some ⟨Y, 0, none⟩), .pointer (some ⟨X, 0, none⟩)]

set_option maxHeartbeats 800000 in
theorem ask_any (X Y H Q g p i : Nat) (A : Option Addr) (c : Nat) (L : List Tsk) (v : Bool) (e0 e : Nat) (hi : i < p) (hv : fitsB L p (i + 1 : Nat) = v) (he : cycE L p (i + 1 : Nat) = e) (w : World) (hX : Er w X e0) (hY : w.cell? ⟨Y, 0, none⟩ = some (.slice A L.length c)) (HL : TL w A c L)
    (hH : w.cell? ⟨H, 0, none⟩ = some (suffV Y X)) (hQ : w.cell? ⟨Q, 0, none⟩ = some (.slice (some ⟨g, 0, none⟩) p p)) (c1 : w.cell? ⟨g, i * 2, none⟩ = some (.int .i64 p)) (c2 : w.cell? ⟨g, i * 2 + 1, none⟩ = some (.int .i64 (i + 1 : Nat))) :
    Calls Try.prog 29 #[.int .i64 i, .pointer (some ⟨H, 0, none⟩), .pointer (some ⟨Q, 0, none⟩)] w (Noted w X e v) := by
  have HS := Lib.hid (suff_any X Y A c L p (i + 1 : Nat) v e0 e hv he w.drew (hX.below (Below.refl _ _).drew) hY (HL.below (Below.refl _ _).drew))
  have hi1 : (0 : Int) ≤ (i : Int) := by omega
  have hi2 : (i : Int) < (p : Int) := by omega
  unfold suffV at hH
  generalize (i + 1 : Nat) = b at *
  clear hX hY HL hv he
  go_enter Try.func29, Try.ntmps29
  go_wp2_with fail
  go_still_tail 5, (by kernel_rfl)
  go_wp2_with fail
  refine HS.out.mono ?_
  rintro x w1 ⟨rfl, h1, h2⟩
  have H1 := Lib.hid h1
  have H2 := Lib.hid (gb_trans (gb_below (Below.refl w.heap.size w).drew (Nat.le_refl _) (some X)) h2)
  clear h1 h2
  go_wp2_with fail
  go_ret
  exact ⟨rfl, H1.out, H2.out⟩

/-- what the search comes to -/
def Found (w : World) (n : Nat) (q : Nat → Bool) (X e : Nat) (x : Ending) (w' : World) : Prop :=
  ∃ k : Nat, x = .returned (.int .i64 k) ∧ k ≤ n ∧ (∀ t, t < k → q t = false) ∧ (∀ t, k ≤ t → t < n → q t = true) ∧ Er w' X e ∧ w.grownBy w' (some X)

set_option maxHeartbeats 4000000 in
set_option maxRecDepth 100000 in
theorem search_any (X H Q n : Nat) (q : Nat → Bool) (e0 e : Nat) (w : World) (hn : 1 ≤ n) (hbig : n ≤ 1000000)
    (hf : ∀ W i, i < n → w.grownBy W (some X) → (∃ u, Er W X u) → Calls Try.prog 29 #[.int .i64 i, .pointer (some ⟨H, 0, none⟩), .pointer (some ⟨Q, 0, none⟩)] W (Noted W X e (q i)))
    (hm : ∀ a b, a ≤ b → b < n → q a = true → q b = true) (h0 : Er w X e0) :
    Calls Try.prog 28 #[.int .i64 n, .func (.func 29) #[] #[.pointer (some ⟨H, 0, none⟩), .pointer (some ⟨Q, 0, none⟩)]] w (Found w n q X e) := by
  have HF := Lib.hid hf
  have HM := Lib.hid hm
  have H0 := Lib.hid h0
  clear hf hm h0
  go_enter Try.func28, Try.ntmps28
  go_wp2_with fail
  go_loopg [5, 6] n (fun gg s5 s6 wr => ∃ lo hi : Nat, s5 = .int .i64 lo ∧ s6 = .int .i64 hi ∧ lo ≤ hi ∧ hi ≤ n ∧ hi - lo ≤ gg ∧ Hid ((∀ t, t < lo → q t = false) ∧ (∀ t, hi ≤ t → t < n → q t = true)) ∧ Hid (w.grownBy wr (some X)) ∧ Hid ((lo = 0 ∧ hi = n ∧ Er wr X e0) ∨ Er wr X e))
  case atStart => exact ⟨0, n, rfl, rfl, Nat.zero_le _, Nat.le_refl _, by omega, ⟨fun t h => by omega, fun t h1 h2 => by omega⟩, gb_refl _ _, .inl ⟨rfl, rfl, H0.out⟩⟩
  case round =>
    obtain ⟨lo, hi, rfl, rfl, hlh, hin, hg, HI, HB, HE⟩ := hrel
    by_cases hlt : lo < hi
    · have hc := HF.out wr ((lo + hi) / 2) (by omega) HB.out (by
        rcases HE.out with ⟨_, _, h⟩ | h
        · exact ⟨_, h⟩
        · exact ⟨_, h⟩)
      rw [show (((lo + hi) / 2 : Nat) : Int) = ((lo : Int) + (hi : Int)) / 2 by omega] at hc
      have HC := Lib.hid hc
      clear hc
      cases hp : q ((lo + hi) / 2) with
      | false =>
        rw [hp] at HC
        have HP := Lib.hid hp
        clear hp
        go_wp2_with fail
        refine HC.out.mono ?_
        rintro x w1 ⟨rfl, h1, h2⟩
        have H1 := Lib.hid h1
        have H2 := Lib.hid (gb_trans HB.out h2)
        clear h1 h2
        go_wp2_with fail
        go_roundg (hi - ((lo + hi) / 2 + 1))
        case measure => omega
        case rel =>
          refine ⟨(lo + hi) / 2 + 1, hi, by rw [show ((lo : Int) + (hi : Int)) / 2 + 1 = (((lo + hi) / 2 + 1 : Nat) : Int) by omega], rfl, by omega, hin, Nat.le_refl _, ⟨fun t ht => ?_, HI.out.2⟩, H2, .inr H1.out⟩
          cases h : q t with
          | false => rfl
          | true =>
            have := HM.out t ((lo + hi) / 2) (by omega) (by omega) h
            rw [HP.out] at this
            cases this
      | true =>
        rw [hp] at HC
        have HP := Lib.hid hp
        clear hp
        go_wp2_with fail
        refine HC.out.mono ?_
        rintro x w1 ⟨rfl, h1, h2⟩
        have H1 := Lib.hid h1
        have H2 := Lib.hid (gb_trans HB.out h2)
        clear h1 h2
        go_wp2_with fail
        go_roundg ((lo + hi) / 2 - lo)
        case measure => omega
        case rel =>
          exact ⟨lo, (lo + hi) / 2, rfl, by rw [show ((lo : Int) + (hi : Int)) / 2 = (((lo + hi) / 2 : Nat) : Int) by omega], by omega, by omega, Nat.le_refl _, ⟨HI.out.1, fun t ht htn => HM.out ((lo + hi) / 2) t ht htn HP.out⟩, H2, .inr H1.out⟩
    · have e' : hi = lo := by omega
      subst e'
      have HF_ : Hid (Found w n q X e (.returned (.int .i64 hi)) wr) := ⟨hi, rfl, hin, HI.out.1, HI.out.2, by
        rcases HE.out with ⟨h1, h2, _⟩ | h
        · omega
        · exact h, HB.out⟩
      go_wp2_with fail
      go_ret
      exact HF_.out

end Fa
end Go.Proofs.Ythfgdkhfblekoaa

/-
  Layer 11 (face): the interfaces of one period, laid out.
-/
namespace Go.Proofs.Ythfgdkhfblekoaa
open Go.RowKit Mm
namespace Fa

theorem infoFace : (Try.prog.info? 26).map (fun i => (i.zero, i.size, i.bytes)) = some (some (.agg #[.int .i64 0, .int .i64 0]), 2, 16) := by kernel_rfl
/-- what 'make' of n interfaces lays down -/
theorem mk_faces (n : Nat) (hbig : n ≤ 1000000) (w : World) : (Instr.makeSlice 45 (.int .i64 (n : Int)) (.int .i64 (n : Int))).run Try.prog w = .ok (.slice (some ⟨w.heap.size, 0, none⟩) n n) (w.alloc (.cells (madeCells #[.int .i64 0, .int .i64 0] (n * 2)) 26)) := by
  have h0 := infoFace
  obtain ⟨i, hi, hh⟩ := Option.map_eq_some_iff.1 h0
  simp only [Prod.mk.injEq] at hh
  have hr := run_make (P := Try.prog) w 45 26 i (.agg #[.int .i64 0, .int .i64 0]) Try.underlying45 hi hh.1 .i64 .i64 n n (by omega) (Int.le_refl _) (by rw [hh.2.2]; omega) (by omega)
  simp only [Int.toNat_natCast, hh.2.1] at hr
  exact hr
theorem made_cell (n o : Nat) (h : o < n * 2) (w : World) (e : TypeId) : (w.alloc (.cells (madeCells #[.int .i64 0, .int .i64 0] (n * 2)) e)).cell? ⟨w.heap.size, o, none⟩ = some (.int .i64 0) := by
  rw [World.cell?_alloc_new]
  have : (madeCells #[Value.int .i64 0, .int .i64 0] (n * 2))[o]? = some (.int .i64 0) := by
    unfold madeCells
    rw [Array.getElem?_map, Array.getElem?_range, if_pos h]
    have : o % 2 = 0 ∨ o % 2 = 1 := by omega
    rcases this with e | e <;> simp [e]
  exact this

/-- block g holds these interfaces, and may be written -/
structure Fl (w : World) (g n : Nat) (f : Nat → Int × Int) : Prop where
  one : ∀ j, j < n → w.cell? ⟨g, j * 2, none⟩ = some (.int .i64 (f j).1)
  two : ∀ j, j < n → w.cell? ⟨g, j * 2 + 1, none⟩ = some (.int .i64 (f j).2)
  free : ∀ o, w.frozen? ⟨g, o, none⟩ = false
theorem Fl.put {w : World} {g n k : Nat} {f : Nat → Int × Int} (h : Fl w g n f) (hk : k < n) (a b : Int) : Fl ((w.setCell ⟨g, k * 2, none⟩ (.int .i64 a)).setCell ⟨g, k * 2 + 1, none⟩ (.int .i64 b)) g n (fun j => if j = k then (a, b) else f j) := by
  refine ⟨fun j hj => ?_, fun j hj => ?_, fun o => by rw [World.frozen?_setCell, World.frozen?_setCell]; exact h.free o⟩
  · have n1 : (⟨g, j * 2, none⟩ : Addr) ≠ ⟨g, k * 2 + 1, none⟩ := fun e => by injection e with _ e; omega
    rw [World.cell?_setCell_other _ _ _ _ n1.symm]
    by_cases e : j = k
    · subst e
      rw [if_pos rfl]
      exact World.cell?_setCell_same _ _ _ (h.one j hj)
    · have n2 : (⟨g, j * 2, none⟩ : Addr) ≠ ⟨g, k * 2, none⟩ := fun e => by injection e with _ e; omega
      rw [World.cell?_setCell_other _ _ _ _ n2.symm, if_neg e]
      exact h.one j hj
  · have n2 : (⟨g, j * 2 + 1, none⟩ : Addr) ≠ ⟨g, k * 2, none⟩ := fun e => by injection e with _ e; omega
    by_cases e : j = k
    · subst e
      rw [if_pos rfl]
      exact World.cell?_setCell_same _ _ _ ((World.cell?_setCell_other _ _ _ _ n2.symm).trans (h.two j hj))
    · have n1 : (⟨g, j * 2 + 1, none⟩ : Addr) ≠ ⟨g, k * 2 + 1, none⟩ := fun e => by injection e with _ e; omega
      rw [World.cell?_setCell_other _ _ _ _ n1.symm, World.cell?_setCell_other _ _ _ _ n2.symm, if_neg e]
      exact h.two j hj
theorem Fl.same {w : World} {g n : Nat} {f f' : Nat → Int × Int} (h : Fl w g n f) (e : ∀ j, j < n → f' j = f j) : Fl w g n f' :=
  ⟨fun j hj => by rw [e j hj]; exact h.one j hj, fun j hj => by rw [e j hj]; exact h.two j hj, h.free⟩
/-- the first k are filled -/
def fill (p k : Nat) (j : Nat) : Int × Int := if j < k then ((p : Int), ((j + 1 : Nat) : Int)) else (0, 0)
theorem Fl.next {w : World} {g p k : Nat} (h : Fl w g p (fill p k)) (hk : k < p) : Fl ((w.setCell ⟨g, k * 2, none⟩ (.int .i64 (p : Int))).setCell ⟨g, k * 2 + 1, none⟩ (.int .i64 ((k : Int) + 1))) g p (fill p (k + 1)) :=
  (h.put hk (p : Int) ((k : Int) + 1)).same fun j _ => by
    unfold fill
    by_cases e : j = k
    · subst e
      rw [if_pos rfl, if_pos (by omega)]
      rfl
    · rw [if_neg e]
      by_cases e2 : j < k
      · rw [if_pos e2, if_pos (by omega)]
      · rw [if_neg e2, if_neg (by omega)]
theorem fl_new (p : Nat) (w : World) : Fl (w.alloc (.cells (madeCells #[.int .i64 0, .int .i64 0] (p * 2)) 26)) w.heap.size p (fill p 0) :=
  ⟨fun j hj => made_cell p (j * 2) (by omega) w _, fun j hj => made_cell p (j * 2 + 1) (by omega) w _, fun o => by simp⟩

/-- the interfaces of period p, with 1 to p -/
def FacesOf (w : World) (p : Nat) (e : Ending) (w' : World) : Prop :=
  ∃ g, e = .returned (.slice (some ⟨g, 0, none⟩) p p) ∧ w.heap.size ≤ g ∧ g < w'.heap.size ∧ (∀ j, j < p → w'.cell? ⟨g, j * 2, none⟩ = some (.int .i64 p) ∧ w'.cell? ⟨g, j * 2 + 1, none⟩ = some (.int .i64 (j + 1 : Nat))) ∧ Below w.heap.size w w'
theorem faces_end {w w' : World} {g p : Nat} (hg : w.heap.size ≤ g) (hp : 1 ≤ p) (h : Fl w' g p (fill p p)) (b : Below w.heap.size w w') : FacesOf w p (.returned (.slice (some ⟨g, 0, none⟩) p p)) w' :=
  ⟨g, rfl, hg, lt_of_cell (h.one 0 hp), fun j hj => by
    have h1 := h.one j hj
    have h2 := h.two j hj
    unfold fill at h1 h2
    rw [if_pos hj] at h1 h2
    exact ⟨h1, h2⟩, b⟩

theorem wp_mk_run {P : Program} {w : World} {o : Oper} {a : Act} {K : Act → World → Prop} {Q : Exit → Act → World → Prop} (s x : Operand) (t : TypeId) (ho : o.op = .makeSlice t s x)
    (v1 v2 v' : Value) (w' : World) (h1 : a.eval s = v1) (h2 : a.eval x = v2) (hrun : (Instr.makeSlice t v1 v2).run P w = .ok v' w') (h : K (a.put o.dst v') w') : o.wp P a w K Q := by
  unfold Oper.wp
  simp only [ho, execOp, h1, h2, hrun, Result.andThen_ok, Sem.run_bind, Sem.run_pure]
  exact h
theorem list_faces {w : World} {ops : Array Oper} {rest : List Oper} {o : Oper} {a : Act} {Q : Exit → Act → World → Prop} (hg : o.guard = none) (s x : Operand) (ho : o.op = .makeSlice 45 s x)
    (n : Nat) (h1 : a.eval s = .int .i64 (n : Int)) (h2 : a.eval x = .int .i64 (n : Int)) (hbig : n ≤ 1000000)
    (hK : wpList Try.prog ops Q rest (a.put o.dst (.slice (some ⟨w.heap.size, 0, none⟩) n n)) (w.alloc (.cells (madeCells #[.int .i64 0, .int .i64 0] (n * 2)) 26))) :
    wpList Try.prog ops Q (o :: rest) a w :=
  wpList_plain hg fun _ hK' => wp_mk_run s x _ ho _ _ _ _ h1 h2 (mk_faces n hbig w) (hK' _ _ hK)

theorem buildFaceP (a b : Int) (w : World) : (Instr.build 26 #[(0, .int .i64 a), (1, .int .i64 b)]).run Try.prog w = .ok (.agg #[.int .i64 a, .int .i64 b]) w := by kernel_rfl
theorem buildFace0 (w : World) : (Instr.build 26 #[]).run Try.prog w = .ok (.agg #[.int .i64 0, .int .i64 0]) w := by kernel_rfl
attribute [local go_sem ↓] buildFaceP

set_option maxHeartbeats 1600000 in
theorem faces_any (p : Nat) (hp : 1 ≤ p) (hbig : p ≤ 1000) (w : World) :
    Calls Try.prog 19 #[.int .i64 p] w (FacesOf w p) := by
  have HB0 := Lib.hid (below_one w (.cells (madeCells #[.int .i64 0, .int .i64 0] (p * 2)) 26))
  have HN := Lib.hid (fl_new p w)
  go_enter Try.func19, Try.ntmps19
  go_wp2_with (at_make; refine list_faces rfl _ _ rfl p rfl rfl (by omega) ?_)
  generalize w.alloc (.cells (madeCells #[.int .i64 0, .int .i64 0] (p * 2)) 26) = w1 at *
  go_loopw [9] (fun i wr => ∃ k : Nat, i = .int .i64 k ∧ k ≤ p ∧ Hid (Fl wr w.heap.size p (fill p k)) ∧ Hid (Below w.heap.size w wr)) (fun i _ => p - (intOf i).toNat)
  case atStart => exact ⟨0, rfl, Nat.zero_le _, HN.out, HB0.out⟩
  case round =>
    obtain ⟨k, rfl, hk, HF, HB⟩ := hrel
    by_cases hlt : k < p
    · have c1 := HF.out.one k hlt
      have c2 := HF.out.two k hlt
      have f1 := HF.out.free (k * 2)
      have f2 := HF.out.free (k * 2 + 1)
      have h0 : (0 : Int) ≤ (k : Int) := by omega
      have h1 : (k : Int) < (p : Int) := by omega
      go_wp2_with fail
      go_roundw
      case rel => exact ⟨k + 1, by go_num, hlt, HF.out.next hlt, (HB.out.setCell (Nat.le_refl _) _).setCell (Nat.le_refl _) _⟩
      case measure => simp [intOf]; omega
    · have hkp : k = p := by omega
      subst hkp
      have HE := Lib.hid (faces_end (Nat.le_refl _) hp HF.out HB.out)
      go_wp2_with fail
      go_ret
      exact HE.out

end Fa
end Go.Proofs.Ythfgdkhfblekoaa

/-
  Layer 11 (face): first: the first interface of a period's that is sufficient.
-/
namespace Go.Proofs.Ythfgdkhfblekoaa
open Go.RowKit Mm Tk Vd
namespace Fa

theorem gb_new {w a : World} {row : Option Nat} (h : w.grownBy a row) {p : Addr} (hp : w.heap.size ≤ p.block) (v : Value) : w.grownBy (a.setCell p v) row :=
  ⟨h.os, h.tape, h.output, by rw [show (a.setCell p v).heap.size = a.heap.size from by simp [World.setCell]]; exact h.size, fun i hi hne => (Below.heap_setCell _ _ _ _ (by omega)).trans (h.block i hi hne)⟩
theorem gb_frozen {a b : World} {row : Option Nat} (h : a.grownBy b row) {p : Addr} {v : Value} (hc : a.cell? p = some v) (hne : some p.block ≠ row) (f : a.frozen? p = false) : b.frozen? p = false :=
  (World.frozen?_of_block (w := a) (h.block p.block (lt_of_cell hc) hne)).trans f
theorem Er.far {w : World} {X e : Nat} (h : Er w X e) {p : Addr} (hne : X ≠ p.block) (v : Value) : Er (w.setCell p v) X e :=
  ⟨(World.cell?_of_block (w := w) (Below.heap_setCell w p v X hne)).trans h.1, by rw [World.frozen?_setCell]; exact h.2⟩

theorem put2 {W : World} {X : Nat} {a b : Value} (h0 : W.cell? ⟨X, 0, none⟩ = some a) (h1 : W.cell? ⟨X, 1, none⟩ = some b) (u v : Value) :
    ((W.setCell ⟨X, 0, none⟩ u).setCell ⟨X, 1, none⟩ v).cell? ⟨X, 0, none⟩ = some u ∧ ((W.setCell ⟨X, 0, none⟩ u).setCell ⟨X, 1, none⟩ v).cell? ⟨X, 1, none⟩ = some v := by
  have n1 : (⟨X, 1, none⟩ : Addr) ≠ ⟨X, 0, none⟩ := fun e => by injection e with _ e; cases e
  refine ⟨?_, ?_⟩
  · rw [World.cell?_setCell_other _ _ _ _ n1]
    exact World.cell?_setCell_same _ _ _ h0
  · exact World.cell?_setCell_same _ _ _ ((World.cell?_setCell_other _ _ _ _ n1.symm).trans h1)

/-- tasks that lie in blocks below a number -/
def TO (w : World) (lim : Nat) (A : Option Addr) (c : Nat) (L : List Tsk) : Prop := L.length ≤ 1000000 ∧ (∀ j, j < L.length → (at_ L j).2.2.2.length ≤ 1000000) ∧ RdS w (fun b => b < lim) A c L
theorem TO.tl {w : World} {lim : Nat} {A : Option Addr} {c : Nat} {L : List Tsk} (h : TO w lim A c L) : TL w A c L := ⟨h.1, h.2.1, h.2.2.rd⟩
theorem TO.gb {w w' : World} {lim X : Nat} {A : Option Addr} {c : Nat} {L : List Tsk} (h : TO w lim A c L) (hg : w.grownBy w' (some X)) (hX : lim ≤ X) : TO w' lim A c L :=
  ⟨h.1, h.2.1, h.2.2.gb hg fun b hb e => by injection e with e; omega⟩
theorem TO.below {w w' : World} {lim : Nat} {A : Option Addr} {c : Nat} {L : List Tsk} (h : TO w lim A c L) (b : Below w.heap.size w w') : TO w' lim A c L := ⟨h.1, h.2.1, h.2.2.below b⟩
theorem to_of {w : World} {A : Option Addr} {c : Nat} {L : List Tsk} (h : TL w A c L) : TO w w.heap.size A c L := ⟨h.1, h.2.1, h.2.2.old⟩

/-- what first comes to -/
def FirstOf (w : World) (X e : Nat) (L : List Tsk) (p : Nat) (x : Ending) (w' : World) : Prop :=
  x = .returned (.tuple #[.agg #[.int .i64 (if leastB L p ≤ p then p else 0 : Nat), .int .i64 (if leastB L p ≤ p then leastB L p else 0 : Nat)], .bool (decide (leastB L p ≤ p))]) ∧ Er w' X e ∧ w.grownBy w' (some X)

theorem fits_mono {L : List Tsk} {p : Nat} (a b : Nat) (hab : a ≤ b) (hb : b < p) (h : fitsB L p (a + 1 : Nat) = true) : fitsB L p (b + 1 : Nat) = true :=
  fits_up (by omega) (by omega) (by omega) h
theorem found_least {L : List Tsk} {p k : Nat} (hk : k ≤ p) (h1 : ∀ t : Nat, t < k → fitsB L p (t + 1 : Nat) = false) (h2 : ∀ t : Nat, k ≤ t → t < p → fitsB L p (t + 1 : Nat) = true) : leastB L p = k + 1 :=
  (leastB_of L p).same ⟨by omega, by omega, fun h => h2 k (Nat.le_refl _) (by omega), fun c hc hck => by
    have := h1 (c - 1) (by omega)
    rwa [show c - 1 + 1 = c from by omega] at this⟩

theorem firstEnters : ∀ args w, (callFunc 29 args).run Try.prog w = .ok (.enter 29 args) w := enters_of Try.func29 (by kernel_rfl) rfl

/-- the boxes of first -/
def w3 (w : World) (Y X g p : Nat) : World := ((w.alloc (.cells #[.slice (some ⟨g, 0, none⟩) p p] 45)).alloc (.cells #[suffV Y X] 42)).alloc (.cells #[.int .i64 0, .int .i64 0] 26)
structure In3 (w0 w : World) (N Y X g p : Nat) : Prop where
  low : Below w0.heap.size w0 w
  l : w.cell? ⟨N, 0, none⟩ = some (.slice (some ⟨g, 0, none⟩) p p)
  h : w.cell? ⟨N + 1, 0, none⟩ = some (suffV Y X)
  r0 : w.cell? ⟨N + 1 + 1, 0, none⟩ = some (.int .i64 0)
  r1 : w.cell? ⟨N + 1 + 1, 1, none⟩ = some (.int .i64 0)
  z0 : w.frozen? ⟨N + 1 + 1, 0, none⟩ = false
  z1 : w.frozen? ⟨N + 1 + 1, 1, none⟩ = false
theorem in3 (w : World) (Y X g p : Nat) : In3 w (w3 w Y X g p) w.heap.size Y X g p := by
  unfold w3
  refine ⟨below_three _ _ _ _, ?_, ?_, ?_, ?_, ?_, ?_⟩ <;> go_simp

set_option maxRecDepth 20000 in
set_option maxHeartbeats 3200000 in
theorem first_any (X Y g p lim : Nat) (A : Option Addr) (c : Nat) (L : List Tsk) (e0 e : Nat) (w : World) (h1 : 1 ≤ p) (h2 : p ≤ 200) (he : ∀ b : Nat, b < p → cycE L p (b + 1 : Nat) = e) (hX : Er w X e0) (hY : w.cell? ⟨Y, 0, none⟩ = some (.slice A L.length c)) (hT : TO w lim A c L) (hlim : lim ≤ X)
    (hYX : Y ≠ X) (hgX : g ≠ X) (hc : ∀ j, j < p → w.cell? ⟨g, j * 2, none⟩ = some (.int .i64 p) ∧ w.cell? ⟨g, j * 2 + 1, none⟩ = some (.int .i64 (j + 1 : Nat))) :
    Calls Try.prog 18 #[.slice (some ⟨g, 0, none⟩) p p, suffV Y X] w (FirstOf w X e L p) := by
  have h3 := in3 w Y X g p
  have hXw := hX.lt
  have HE := Lib.hid (hX.below h3.low)
  have HT := Lib.hid (hT.below h3.low)
  have HY := Lib.hid (cell_below h3.low hY)
  have HC : Hid (∀ j, j < p → (w3 w Y X g p).cell? ⟨g, j * 2, none⟩ = some (.int .i64 p) ∧ (w3 w Y X g p).cell? ⟨g, j * 2 + 1, none⟩ = some (.int .i64 (j + 1 : Nat))) := fun j hj => ⟨cell_below h3.low (hc j hj).1, cell_below h3.low (hc j hj).2⟩
  have H3 := Lib.hid h3
  have HXW := Lib.hid hXw
  have HE_ := Lib.hid he
  clear he
  clear hX hY hT hc h3
  have q1 := H3.out.l
  have q2 := H3.out.h
  unfold suffV at q2
  go_enter Try.func18, Try.ntmps18
  unfold suffV
  go_wp2_with fail
  rw [← suffV, ← w3]
  generalize w3 w Y X g p = w0 at *
  refine (search_any X (w.heap.size + 1) w.heap.size p (fun i => fitsB L p (i + 1 : Nat)) e0 e w0 h1 (by omega) (fun W i hi hg hu => by
    obtain ⟨u, hu⟩ := hu
    obtain ⟨c1, c2⟩ := HC.out i hi
    exact ask_any X Y (w.heap.size + 1) w.heap.size g p i A c L _ u e hi rfl (HE_.out i hi) W hu (gb_cell hg HY.out (by simpa using hYX)) (HT.out.gb hg hlim).tl
      (gb_cell hg H3.out.h (by simp; omega)) (gb_cell hg H3.out.l (by simp; omega)) (gb_cell hg c1 (by simpa using hgX)) (gb_cell hg c2 (by simpa using hgX))) (fun a b => fits_mono a b) HE.out).mono ?_
  rintro x w1 ⟨k, rfl, hk, k1, k2, hE1, hg1⟩
  have HBK := Lib.hid (found_least hk k1 k2)
  have HE1 := Lib.hid hE1
  have HG1 := Lib.hid (gb_trans (gb_below H3.out.low (Nat.le_refl _) (some X)) hg1)
  have n0 : some (⟨w.heap.size, 0, none⟩ : Addr).block ≠ some X := fun e => by injection e with e; have := HXW.out; simp only at e; omega
  have n1 : some (⟨w.heap.size + 1 + 1, 0, none⟩ : Addr).block ≠ some X := fun e => by injection e with e; have := HXW.out; simp only at e; omega
  replace q1 := gb_cell hg1 q1 n0
  have r0 := gb_cell hg1 H3.out.r0 n1
  have r1 := gb_cell hg1 H3.out.r1 n1
  have z0 := gb_frozen hg1 H3.out.r0 n1 H3.out.z0
  have z1 := gb_frozen hg1 H3.out.r1 n1 H3.out.z1
  have HCC : Hid (∀ j, j < p → w1.cell? ⟨g, j * 2, none⟩ = some (.int .i64 p) ∧ w1.cell? ⟨g, j * 2 + 1, none⟩ = some (.int .i64 (j + 1 : Nat))) := fun j hj => ⟨gb_cell hg1 (HC.out j hj).1 (by simpa using hgX), gb_cell hg1 (HC.out j hj).2 (by simpa using hgX)⟩
  clear q2 k1 k2 hE1 hg1 n0 n1 hgX hYX HC HT HY HE HE_
  by_cases hkp : k = p
  · subst hkp
    have HV : Hid (¬ leastB L k ≤ k) := by show ¬ _; rw [HBK.out]; omega
    have bz := below_one w1 (Obj.cells #[.int .i64 0, .int .i64 0] 26)
    have y0 := cell_below bz r0
    have y1 := cell_below bz r1
    have v0 := frozen_below bz r0 z0
    have v1 := frozen_below bz r1 z1
    have u0 : (w1.alloc (Obj.cells #[.int .i64 0, .int .i64 0] 26)).cell? ⟨w1.heap.size, 0, none⟩ = some (.int .i64 0) := by simp
    have u1 : (w1.alloc (Obj.cells #[.int .i64 0, .int .i64 0] 26)).cell? ⟨w1.heap.size, 1, none⟩ = some (.int .i64 0) := by simp
    have BZ := Lib.hid bz
    clear bz
    clear HCC r0 r1 z0 z1
    go_wp2_with fail
    obtain ⟨k0, k1⟩ := put2 y0 y1 (.int .i64 0) (.int .i64 0)
    refine bodyPost_ret (v := .tuple #[.agg #[.int .i64 0, .int .i64 0], .bool false]) (by simp [results, Try.results18, go_sem, k0, k1]) rfl ⟨?_, ?_, ?_⟩
    · rw [if_neg HV.out, if_neg HV.out, decide_eq_false HV.out]; rfl
    · exact ((HE1.out.below BZ.out).far (by show X ≠ w.heap.size + 1 + 1; omega) _).far (by show X ≠ w.heap.size + 1 + 1; omega) _
    · exact gb_new (gb_new (gb_trans HG1.out (gb_below BZ.out (Nat.le_refl _) _)) (by show w.heap.size ≤ w.heap.size + 1 + 1; omega) _) (by show w.heap.size ≤ w.heap.size + 1 + 1; omega) _
  · have hlt : k < p := by omega
    have hlt0 : (0 : Int) ≤ (k : Int) := by omega
    have hlt1 : (k : Int) < (p : Int) := by omega
    have hlt2 : ¬ (k : Int) = (p : Int) := by omega
    have HV : Hid (leastB L p ≤ p) := by show _ ≤ _; rw [HBK.out]; omega
    obtain ⟨c1, c2⟩ := HCC.out k hlt
    clear HCC
    generalize k + 1 = b at c2 HBK
    go_wp2_with fail
    obtain ⟨k0, k1⟩ := put2 r0 r1 (.int .i64 (p : Int)) (.int .i64 (b : Int))
    refine bodyPost_ret (v := .tuple #[.agg #[.int .i64 (p : Int), .int .i64 (b : Int)], .bool true]) (by simp [results, Try.results18, go_sem, k0, k1]) rfl ⟨?_, ?_, ?_⟩
    · rw [if_pos HV.out, if_pos HV.out, decide_eq_true HV.out, HBK.out]
    · exact (HE1.out.far (by show X ≠ w.heap.size + 1 + 1; omega) _).far (by show X ≠ w.heap.size + 1 + 1; omega) _
    · exact gb_new (gb_new HG1.out (by show w.heap.size ≤ w.heap.size + 1 + 1; omega) _) (by show w.heap.size ≤ w.heap.size + 1 + 1; omega) _

end Fa
end Go.Proofs.Ythfgdkhfblekoaa

/-
  Layer 11 (face): Least.
-/
namespace Go.Proofs.Ythfgdkhfblekoaa
open Go.RowKit Mm Tk Vd
namespace Fa

/-- an answer of Least -/
def lstP (L : List Tsk) (p : Int) : Int := if lstE L p = 0 then p else 0
def lstV (L : List Tsk) (p : Int) : Value := .tuple #[.agg #[.int .i64 (lstP L p), .int .i64 (lstB L p : Nat)], .int .i64 (lstE L p : Nat)]
theorem lstV_err {L : List Tsk} {p : Int} {e : Nat} (h : lstE L p = e) (h0 : e ≠ 0) : lstV L p = .tuple #[.agg #[.int .i64 0, .int .i64 0], .int .i64 e] := by
  unfold lstV lstP lstB
  rw [h, if_neg h0, if_neg h0]
  rfl
theorem lstV_some {L : List Tsk} {p b : Nat} (h : lstE L p = 0) (hb : lstB L p = b) : lstV L p = .tuple #[.agg #[.int .i64 p, .int .i64 b], .int .i64 0] := by
  unfold lstV lstP
  rw [h, if_pos rfl, hb]
  rfl
theorem lst_arg {L : List Tsk} {p : Int} (h : okP L p = false) : lstE L p = 1 := by
  have : cycE L p 1 = 1 := (cyc_none (by rw [in_one]; exact h)).2.2
  exact (lst_err this (by omega)).1

theorem all_v (A : Option Addr) (c : Nat) (L : List Tsk) (v : Bool) (hv : allB L = v) (n : Nat) (hn : L.length = n) (w : World) (H : TL w A c L) :
    Calls Try.prog 16 #[.slice A n c] w fun e w' => e = .returned (.bool v) ∧ Below w.heap.size w w' := by
  subst hv; subst hn
  exact all_any A c L w H.1 H.2.1 H.2.2

/-- what first needs: whichever budget is asked for, the error is one -/
theorem one_error {L : List Tsk} {p : Nat} (b : Nat) (hb : b < p) : cycE L p (b + 1 : Nat) = cycE L p 1 := cycE_any (by omega) (by omega)

/-- the boxes of Least, at its beginning -/
def w2 (w : World) (A : Option Addr) (n c : Nat) : World := (w.alloc (.cells #[.slice A n c] 22)).alloc (.cells #[.int .i64 0, .int .i64 0] 26)
structure In2 (w0 w : World) (N : Nat) (A : Option Addr) (n c : Nat) : Prop where
  low : Below w0.heap.size w0 w
  l : w.cell? ⟨N, 0, none⟩ = some (.slice A n c)
  r0 : w.cell? ⟨N + 1, 0, none⟩ = some (.int .i64 0)
  r1 : w.cell? ⟨N + 1, 1, none⟩ = some (.int .i64 0)
  z0 : w.frozen? ⟨N + 1, 0, none⟩ = false
  z1 : w.frozen? ⟨N + 1, 1, none⟩ = false
theorem in2 (w : World) (A : Option Addr) (n c : Nat) : In2 w (w2 w A n c) w.heap.size A n c := by
  unfold w2
  refine ⟨below_two _ _ _, ?_, ?_, ?_, ?_, ?_⟩ <;> go_simp
theorem In2.below {w0 w w' : World} {N : Nat} {A : Option Addr} {n c : Nat} (h : In2 w0 w N A n c) (b : Below w.heap.size w w') : In2 w0 w' N A n c :=
  ⟨below_step h.low b, cell_below b h.l, cell_below b h.r0, cell_below b h.r1, frozen_below b h.r0 h.z0, frozen_below b h.r1 h.z1⟩
theorem In2.gb {w0 w w' : World} {N X : Nat} {A : Option Addr} {n c : Nat} (h : In2 w0 w N A n c) (g : w.grownBy w' (some X)) (h0 : w0.heap.size ≤ X) (h1 : N ≠ X) (h2 : N + 1 ≠ X) : In2 w0 w' N A n c :=
  ⟨below_of_gb h.low g h.low.size (fun k e => by injection e with e; omega), gb_cell g h.l (by simpa using h1), gb_cell g h.r0 (by simpa using h2), gb_cell g h.r1 (by simpa using h2),
    gb_frozen g h.r0 (by simpa using h2) h.z0, gb_frozen g h.r1 (by simpa using h2) h.z1⟩
theorem In2.end_ {w0 w : World} {N : Nat} {A : Option Addr} {n c : Nat} (h : In2 w0 w N A n c) (hN : w0.heap.size ≤ N) (u v : Value) : Below w0.heap.size w0 ((w.setCell ⟨N + 1, 0, none⟩ u).setCell ⟨N + 1, 1, none⟩ v) :=
  (h.low.setCell (p := ⟨N + 1, 0, none⟩) (by show w0.heap.size ≤ N + 1; omega) _).setCell (p := ⟨N + 1, 1, none⟩) (by show w0.heap.size ≤ N + 1; omega) _

attribute [local go_sem ↓] buildFace0

set_option maxRecDepth 20000 in
set_option maxHeartbeats 4000000 in
theorem least_any (P : Int) (A : Option Addr) (c : Nat) (L : List Tsk) (w : World) (H : TL w A c L) :
    Calls Try.prog 9 #[.slice A L.length c, .int .i64 P] w fun e w' => e = .returned (lstV L P) ∧ Below w.heap.size w w' := by
  have h2 := in2 w A L.length c
  have q1 := h2.l
  have HT := Lib.hid (H.below h2.low)
  have HO := Lib.hid ((to_of H).below h2.low)
  have H2 := Lib.hid h2
  clear H h2
  cases ha : allB L with
  | false =>
    have HV := Lib.hid (lstV_err (L := L) (p := P) (lst_arg (by unfold okP; rw [ha]; rfl)) (by omega))
    have HA := Lib.hid ha
    clear ha
    clear HO
    go_enter Try.func9, Try.ntmps9
    go_wp2_with fail
    rw [← w2]
    generalize w2 w A L.length c = w0 at *
    refine (all_v A c L _ HA.out L.length rfl _ HT.out).mono ?_
    rintro e w1 ⟨rfl, b1⟩
    have H3 := Lib.hid (H2.out.below b1)
    replace HT := Lib.hid (HT.out.below b1)
    have HB1 := Lib.hid b1
    clear b1 H2
    have s0 := H3.out.r0
    have s1 := H3.out.r1
    have v0 := H3.out.z0
    have v1 := H3.out.z1
    go_wp2_with fail
    obtain ⟨k0, k1⟩ := put2 s0 s1 (.int .i64 0) (.int .i64 0)
    refine bodyPost_ret (v := .tuple #[.agg #[.int .i64 0, .int .i64 0], .int .i64 1]) (by simp [results, Try.results9, go_sem, k0, k1]) rfl ⟨?_, ?_⟩
    · rw [HV.out]; rfl
    · exact H3.out.end_ (Nat.le_refl _) _ _
  | true =>
    by_cases h1 : P < 1
    · have HV := Lib.hid (lstV_err (L := L) (p := P) (lst_arg (by unfold okP; rw [ha, Bool.true_and]; exact decide_eq_false (by omega))) (by omega))
      have HA := Lib.hid ha
      clear ha
      clear HO
      go_enter Try.func9, Try.ntmps9
      go_wp2_with fail
      rw [← w2]
      generalize w2 w A L.length c = w0 at *
      refine (all_v A c L _ HA.out L.length rfl _ HT.out).mono ?_
      rintro e w1 ⟨rfl, b1⟩
      have H3 := Lib.hid (H2.out.below b1)
      replace HT := Lib.hid (HT.out.below b1)
      have HB1 := Lib.hid b1
      clear b1 H2
      have s0 := H3.out.r0
      have s1 := H3.out.r1
      have v0 := H3.out.z0
      have v1 := H3.out.z1
      go_wp2_with fail
      obtain ⟨k0, k1⟩ := put2 s0 s1 (.int .i64 0) (.int .i64 0)
      refine bodyPost_ret (v := .tuple #[.agg #[.int .i64 0, .int .i64 0], .int .i64 1]) (by simp [results, Try.results9, go_sem, k0, k1]) rfl ⟨?_, ?_⟩
      · rw [HV.out]; rfl
      · exact H3.out.end_ (Nat.le_refl _) _ _
    · by_cases h3 : 200 < P
      · have HV := Lib.hid (lstV_err (L := L) (p := P) (lst_arg (by unfold okP; rw [ha, Bool.true_and]; exact decide_eq_false (by omega))) (by omega))
        have HA := Lib.hid ha
        clear ha
        clear HO
        go_enter Try.func9, Try.ntmps9
        go_wp2_with fail
        rw [← w2]
        generalize w2 w A L.length c = w0 at *
        refine (all_v A c L _ HA.out L.length rfl _ HT.out).mono ?_
        rintro e w1 ⟨rfl, b1⟩
        have H3 := Lib.hid (H2.out.below b1)
        replace HT := Lib.hid (HT.out.below b1)
        have HB1 := Lib.hid b1
        clear b1 H2
        have s0 := H3.out.r0
        have s1 := H3.out.r1
        have v0 := H3.out.z0
        have v1 := H3.out.z1
        go_wp2_with fail
        obtain ⟨k0, k1⟩ := put2 s0 s1 (.int .i64 0) (.int .i64 0)
        refine bodyPost_ret (v := .tuple #[.agg #[.int .i64 0, .int .i64 0], .int .i64 1]) (by simp [results, Try.results9, go_sem, k0, k1]) rfl ⟨?_, ?_⟩
        · rw [HV.out]; rfl
        · exact H3.out.end_ (Nat.le_refl _) _ _
      · obtain ⟨p, rfl⟩ : ∃ p : Nat, P = p := ⟨P.toNat, by omega⟩
        have hcy : cycE L p 1 = 0 ∨ cycE L p 1 = 5 := by
          rcases cycE_cases L p 1 with h | h | h
          · exact .inl h
          · exact absurd h (by
              unfold cycE
              rw [in_one, okP_iff.2 ⟨ha, by omega, by omega⟩, if_pos rfl]
              split <;> omega)
          · exact .inr h
        have HA := Lib.hid ha
        clear ha
        rcases hcy with he | he
        · have HE_ : Hid (∀ b : Nat, b < p → cycE L p (b + 1 : Nat) = 0) := fun b hb => (one_error b hb).trans he
          by_cases hl : leastB L p ≤ p
          · obtain ⟨l1, l2⟩ := lst_some he (leastB_of L p) hl
            have HV := Lib.hid (lstV_some l1 l2)
            have HL := Lib.hid hl
            obtain ⟨e, hee⟩ : ∃ e, e = 0 := ⟨_, rfl⟩
            rw [← hee] at HE_
            clear l1 l2 he hl
            go_enter Try.func9, Try.ntmps9
            go_wp2_with fail
            rw [← w2]
            generalize w2 w A L.length c = w0 at *
            refine (all_v A c L _ HA.out L.length rfl _ HT.out).mono ?_
            rintro e w1 ⟨rfl, b1⟩
            have H3 := Lib.hid (H2.out.below b1)
            replace HT := Lib.hid (HT.out.below b1)
            have HB1 := Lib.hid b1
            clear b1 H2
            have s0 := H3.out.r0
            have s1 := H3.out.r1
            have v0 := H3.out.z0
            have v1 := H3.out.z1
            have bE := below_one w1 (Obj.cells #[.int .i64 0] 27)
            have hE : Er (w1.alloc (Obj.cells #[.int .i64 0] 27)) w1.heap.size 0 := ⟨by simp, by simp⟩
            have HO4 := Lib.hid ((HO.out.below HB1.out).below bE)
            have H4 := Lib.hid (H3.out.below bE)
            have hN : w.heap.size + 1 < w1.heap.size := lt_of_cell s0
            clear s0 s1 v0 v1 bE HT HO HB1 H3
            go_wp2_with fail
            generalize w1.alloc (Obj.cells #[.int .i64 0] 27) = w3 at *
            refine (faces_any p (by omega) (by omega) _).mono ?_
            rintro x w4 ⟨g, rfl, hg1, hg2, hcc, b4⟩
            have hgX : g ≠ w1.heap.size := by have := hE.lt; omega
            have HE4 := Lib.hid (hE.below b4)
            replace HO4 := Lib.hid (HO4.out.below b4)
            replace H4 := Lib.hid (H4.out.below b4)
            have HCC := Lib.hid hcc
            clear b4 hcc hE hg1 hg2 q1
            go_wp2_with fail
            refine (first_any w1.heap.size w.heap.size g p w.heap.size A c L 0 e w4 (by omega) (by omega) HE_.out HE4.out H4.out.l HO4.out (by omega) (by omega) hgX HCC.out).mono ?_
            rintro x w5 ⟨rfl, hE5, hg5⟩
            rw [if_pos HL.out, if_pos HL.out, decide_eq_true HL.out]
            subst hee
            generalize leastB L p = b at *
            have bz := below_one w5 (Obj.cells #[.int .i64 (p : Int), .int .i64 (b : Int)] 26)
            have h6 := (H4.out.gb hg5 (by omega) (by omega) (by omega)).below bz
            have x0 : (w5.alloc (Obj.cells #[.int .i64 (p : Int), .int .i64 (b : Int)] 26)).cell? ⟨w1.heap.size, 0, none⟩ = some (.int .i64 (0 : Int)) := (hE5.below bz).1
            have s0 := h6.r0
            have s1 := h6.r1
            have v0 := h6.z0
            have v1 := h6.z1
            have u0 : (w5.alloc (Obj.cells #[.int .i64 (p : Int), .int .i64 (b : Int)] 26)).cell? ⟨w5.heap.size, 0, none⟩ = some (.int .i64 (p : Int)) := by simp
            have u1 : (w5.alloc (Obj.cells #[.int .i64 (p : Int), .int .i64 (b : Int)] 26)).cell? ⟨w5.heap.size, 1, none⟩ = some (.int .i64 (b : Int)) := by simp
            have H6 := Lib.hid h6
            clear h6 bz hE5 hg5 H4 HE4 HO4 HCC hgX
            clear hN
            go_wp2_with fail
            obtain ⟨k0, k1⟩ := put2 s0 s1 (.int .i64 p) (.int .i64 b)
            refine bodyPost_ret (v := .tuple #[.agg #[.int .i64 p, .int .i64 b], .int .i64 0]) (by simp [results, Try.results9, go_sem, k0, k1]) rfl ⟨?_, ?_⟩
            · exact congrArg Ending.returned HV.out.symm
            · first | (exact H6.out.end_ (Nat.le_refl _) _ _) | (exact (H6.out.end_ (Nat.le_refl _) _ _).drew)
          · have HV := Lib.hid (lstV_err (L := L) (p := p) (lst_none he (leastB_of L p) (by omega)).1 (by omega))
            have HL := Lib.hid hl
            obtain ⟨e, hee⟩ : ∃ e, e = 0 := ⟨_, rfl⟩
            rw [← hee] at HE_
            clear he hl
            go_enter Try.func9, Try.ntmps9
            go_wp2_with fail
            rw [← w2]
            generalize w2 w A L.length c = w0 at *
            refine (all_v A c L _ HA.out L.length rfl _ HT.out).mono ?_
            rintro e w1 ⟨rfl, b1⟩
            have H3 := Lib.hid (H2.out.below b1)
            replace HT := Lib.hid (HT.out.below b1)
            have HB1 := Lib.hid b1
            clear b1 H2
            have s0 := H3.out.r0
            have s1 := H3.out.r1
            have v0 := H3.out.z0
            have v1 := H3.out.z1
            have bE := below_one w1 (Obj.cells #[.int .i64 0] 27)
            have hE : Er (w1.alloc (Obj.cells #[.int .i64 0] 27)) w1.heap.size 0 := ⟨by simp, by simp⟩
            have HO4 := Lib.hid ((HO.out.below HB1.out).below bE)
            have H4 := Lib.hid (H3.out.below bE)
            have hN : w.heap.size + 1 < w1.heap.size := lt_of_cell s0
            clear s0 s1 v0 v1 bE HT HO HB1 H3
            go_wp2_with fail
            generalize w1.alloc (Obj.cells #[.int .i64 0] 27) = w3 at *
            refine (faces_any p (by omega) (by omega) _).mono ?_
            rintro x w4 ⟨g, rfl, hg1, hg2, hcc, b4⟩
            have hgX : g ≠ w1.heap.size := by have := hE.lt; omega
            have HE4 := Lib.hid (hE.below b4)
            replace HO4 := Lib.hid (HO4.out.below b4)
            replace H4 := Lib.hid (H4.out.below b4)
            have HCC := Lib.hid hcc
            clear b4 hcc hE hg1 hg2 q1
            go_wp2_with fail
            refine (first_any w1.heap.size w.heap.size g p w.heap.size A c L 0 e w4 (by omega) (by omega) HE_.out HE4.out H4.out.l HO4.out (by omega) (by omega) hgX HCC.out).mono ?_
            rintro x w5 ⟨rfl, hE5, hg5⟩
            rw [if_neg HL.out, if_neg HL.out, decide_eq_false HL.out]
            subst hee
            rw [show ((0 : Nat) : Int) = 0 from rfl]
            have bz := below_one w5 (Obj.cells #[.int .i64 (0 : Int), .int .i64 (0 : Int)] 26)
            have h6 := (H4.out.gb hg5 (by omega) (by omega) (by omega)).below bz
            have x0 : (w5.alloc (Obj.cells #[.int .i64 (0 : Int), .int .i64 (0 : Int)] 26)).cell? ⟨w1.heap.size, 0, none⟩ = some (.int .i64 (0 : Int)) := (hE5.below bz).1
            have s0 := h6.r0
            have s1 := h6.r1
            have v0 := h6.z0
            have v1 := h6.z1
            have u0 : (w5.alloc (Obj.cells #[.int .i64 (0 : Int), .int .i64 (0 : Int)] 26)).cell? ⟨w5.heap.size, 0, none⟩ = some (.int .i64 (0 : Int)) := by simp
            have u1 : (w5.alloc (Obj.cells #[.int .i64 (0 : Int), .int .i64 (0 : Int)] 26)).cell? ⟨w5.heap.size, 1, none⟩ = some (.int .i64 (0 : Int)) := by simp
            have H6 := Lib.hid h6
            clear h6 bz hE5 hg5 H4 HE4 HO4 HCC hgX
            clear hN
            go_wp2_with fail
            obtain ⟨k0, k1⟩ := put2 s0 s1 (.int .i64 0) (.int .i64 0)
            refine bodyPost_ret (v := .tuple #[.agg #[.int .i64 0, .int .i64 0], .int .i64 7]) (by simp [results, Try.results9, go_sem, k0, k1]) rfl ⟨?_, ?_⟩
            · exact congrArg Ending.returned HV.out.symm
            · first | (exact H6.out.end_ (Nat.le_refl _) _ _) | (exact (H6.out.end_ (Nat.le_refl _) _ _).drew)
        · have HE_ : Hid (∀ b : Nat, b < p → cycE L p (b + 1 : Nat) = 5) := fun b hb => (one_error b hb).trans he
          have HV := Lib.hid (lstV_err (L := L) (p := p) (lst_err he (by omega)).1 (by omega))
          obtain ⟨e, hee⟩ : ∃ e, e = 5 := ⟨_, rfl⟩
          rw [← hee] at HE_
          clear he
          go_enter Try.func9, Try.ntmps9
          go_wp2_with fail
          rw [← w2]
          generalize w2 w A L.length c = w0 at *
          refine (all_v A c L _ HA.out L.length rfl _ HT.out).mono ?_
          rintro e w1 ⟨rfl, b1⟩
          have H3 := Lib.hid (H2.out.below b1)
          replace HT := Lib.hid (HT.out.below b1)
          have HB1 := Lib.hid b1
          clear b1 H2
          have s0 := H3.out.r0
          have s1 := H3.out.r1
          have v0 := H3.out.z0
          have v1 := H3.out.z1
          have bE := below_one w1 (Obj.cells #[.int .i64 0] 27)
          have hE : Er (w1.alloc (Obj.cells #[.int .i64 0] 27)) w1.heap.size 0 := ⟨by simp, by simp⟩
          have HO4 := Lib.hid ((HO.out.below HB1.out).below bE)
          have H4 := Lib.hid (H3.out.below bE)
          have hN : w.heap.size + 1 < w1.heap.size := lt_of_cell s0
          clear s0 s1 v0 v1 bE HT HO HB1 H3
          go_wp2_with fail
          generalize w1.alloc (Obj.cells #[.int .i64 0] 27) = w3 at *
          refine (faces_any p (by omega) (by omega) _).mono ?_
          rintro x w4 ⟨g, rfl, hg1, hg2, hcc, b4⟩
          have hgX : g ≠ w1.heap.size := by have := hE.lt; omega
          have HE4 := Lib.hid (hE.below b4)
          replace HO4 := Lib.hid (HO4.out.below b4)
          replace H4 := Lib.hid (H4.out.below b4)
          have HCC := Lib.hid hcc
          clear b4 hcc hE hg1 hg2 q1
          go_wp2_with fail
          refine (first_any w1.heap.size w.heap.size g p w.heap.size A c L 0 e w4 (by omega) (by omega) HE_.out HE4.out H4.out.l HO4.out (by omega) (by omega) hgX HCC.out).mono ?_
          rintro x w5 ⟨rfl, hE5, hg5⟩
          subst hee
          generalize (if leastB L p ≤ p then p else 0) = a1 at *
          generalize (if leastB L p ≤ p then leastB L p else 0) = a2 at *
          generalize decide (leastB L p ≤ p) = a3 at *
          have bz := below_one w5 (Obj.cells #[.int .i64 (a1 : Int), .int .i64 (a2 : Int)] 26)
          have h6 := (H4.out.gb hg5 (by omega) (by omega) (by omega)).below bz
          have x0 : (w5.alloc (Obj.cells #[.int .i64 (a1 : Int), .int .i64 (a2 : Int)] 26)).cell? ⟨w1.heap.size, 0, none⟩ = some (.int .i64 (5 : Int)) := (hE5.below bz).1
          have s0 := h6.r0
          have s1 := h6.r1
          have v0 := h6.z0
          have v1 := h6.z1
          have u0 : (w5.alloc (Obj.cells #[.int .i64 (a1 : Int), .int .i64 (a2 : Int)] 26)).cell? ⟨w5.heap.size, 0, none⟩ = some (.int .i64 (a1 : Int)) := by simp
          have u1 : (w5.alloc (Obj.cells #[.int .i64 (a1 : Int), .int .i64 (a2 : Int)] 26)).cell? ⟨w5.heap.size, 1, none⟩ = some (.int .i64 (a2 : Int)) := by simp
          have H6 := Lib.hid h6
          clear h6 bz hE5 hg5 H4 HE4 HO4 HCC hgX
          have x9 : ((w5.alloc (Obj.cells #[.int .i64 (a1 : Int), .int .i64 (a2 : Int)] 26)).setCell ⟨w.heap.size + 1, 0, none⟩ (.int .i64 0)).cell? ⟨w1.heap.size, 0, none⟩ = some (.int .i64 5) :=
            (World.cell?_of_block (Below.heap_setCell _ _ _ _ (by show w1.heap.size ≠ w.heap.size + 1; omega))).trans x0
          clear hN
          go_wp2_with fail
          go_region
          go_wp2_with fail
          obtain ⟨k0, k1⟩ := put2 s0 s1 (.int .i64 0) (.int .i64 0)
          refine bodyPost_ret (v := .tuple #[.agg #[.int .i64 0, .int .i64 0], .int .i64 5]) (by simp [results, Try.results9, go_sem, k0, k1]) rfl ⟨?_, ?_⟩
          · exact congrArg Ending.returned HV.out.symm
          · first | (exact H6.out.end_ (Nat.le_refl _) _ _) | (exact (H6.out.end_ (Nat.le_refl _) _ _).drew)

end Fa
end Go.Proofs.Ythfgdkhfblekoaa

/-
  Layer 11 (face): smaller, Best.
-/
namespace Go.Proofs.Ythfgdkhfblekoaa
open Go.RowKit Mm Tk Vd
namespace Fa

theorem least_n (A : Option Addr) (c : Nat) (L : List Tsk) (P x y z : Int) (hx : lstP L P = x) (hy : ((lstB L P : Nat) : Int) = y) (hz : ((lstE L P : Nat) : Int) = z) (n : Nat) (hn : L.length = n) (w : World) (H : TL w A c L) :
    Calls Try.prog 9 #[.slice A n c, .int .i64 P] w fun e w' => e = .returned (.tuple #[.agg #[.int .i64 x, .int .i64 y], .int .i64 z]) ∧ Below w.heap.size w w' := by
  subst hx; subst hy; subst hz; subst hn
  exact least_any P A c L w H

theorem small_mul {a b : Nat} (ha : a ≤ 200) (hb : b ≤ 200) : IntKind.i64.wrap ((a : Int) * (b : Int)) = ((a * b : Nat) : Int) := by
  have : a * b ≤ 200 * 200 := Nat.mul_le_mul ha hb
  rw [show (a : Int) * (b : Int) = ((a * b : Nat) : Int) from by push_cast; rfl]
  exact IntWalk.i64_in _ (by omega)

set_option maxHeartbeats 800000 in
theorem smaller_any (p b q c : Nat) (v : Bool) (hv : decide (b * q < c * p) = v) (hp : p ≤ 200) (hb : b ≤ 200) (hq : q ≤ 200) (hc : c ≤ 200) (w : World) :
    Calls Try.prog 22 #[.agg #[.int .i64 p, .int .i64 b], .agg #[.int .i64 q, .int .i64 c]] w fun e w' => e = .returned (.bool v) ∧ Below w.heap.size w w' := by
  subst hv
  have t0 : ((w.alloc (.cells #[.int .i64 (p : Int), .int .i64 (b : Int)] 26)).alloc (.cells #[.int .i64 (q : Int), .int .i64 (c : Int)] 26)).cell? ⟨w.heap.size, 0, none⟩ = some (.int .i64 (p : Int)) := by go_simp
  have t1 : ((w.alloc (.cells #[.int .i64 (p : Int), .int .i64 (b : Int)] 26)).alloc (.cells #[.int .i64 (q : Int), .int .i64 (c : Int)] 26)).cell? ⟨w.heap.size, 1, none⟩ = some (.int .i64 (b : Int)) := by go_simp
  have t2 : ((w.alloc (.cells #[.int .i64 (p : Int), .int .i64 (b : Int)] 26)).alloc (.cells #[.int .i64 (q : Int), .int .i64 (c : Int)] 26)).cell? ⟨w.heap.size + 1, 0, none⟩ = some (.int .i64 (q : Int)) := by go_simp
  have t3 : ((w.alloc (.cells #[.int .i64 (p : Int), .int .i64 (b : Int)] 26)).alloc (.cells #[.int .i64 (q : Int), .int .i64 (c : Int)] 26)).cell? ⟨w.heap.size + 1, 1, none⟩ = some (.int .i64 (c : Int)) := by go_simp
  have B0 := Lib.hid (below_two w (.cells #[.int .i64 (p : Int), .int .i64 (b : Int)] 26) (.cells #[.int .i64 (q : Int), .int .i64 (c : Int)] 26))
  have e1 := small_mul hb hq
  have e2 := small_mul hc hp
  clear hp hb hq hc
  go_enter Try.func22, Try.ntmps22
  go_wp2_with fail
  go_ret
  exact ⟨ret_bool (by rw [decide_eq_decide]; exact Int.ofNat_lt), B0.out⟩

/-- the result's block and the best one's -/
structure Two2 (w0 w : World) (N M : Nat) (P B : Int) : Prop where
  low : Below w0.heap.size w0 w
  r0 : w.cell? ⟨N, 0, none⟩ = some (.int .i64 0)
  r1 : w.cell? ⟨N, 1, none⟩ = some (.int .i64 0)
  z0 : w.frozen? ⟨N, 0, none⟩ = false
  z1 : w.frozen? ⟨N, 1, none⟩ = false
  m0 : w.cell? ⟨M, 0, none⟩ = some (.int .i64 P)
  m1 : w.cell? ⟨M, 1, none⟩ = some (.int .i64 B)
  y0 : w.frozen? ⟨M, 0, none⟩ = false
  y1 : w.frozen? ⟨M, 1, none⟩ = false
theorem Two2.below {w0 w w' : World} {N M : Nat} {P B : Int} (h : Two2 w0 w N M P B) (b : Below w.heap.size w w') : Two2 w0 w' N M P B :=
  ⟨below_step h.low b, cell_below b h.r0, cell_below b h.r1, frozen_below b h.r0 h.z0, frozen_below b h.r1 h.z1, cell_below b h.m0, cell_below b h.m1, frozen_below b h.m0 h.y0, frozen_below b h.m1 h.y1⟩
theorem Two2.put {w0 w : World} {N M : Nat} {P B : Int} (h : Two2 w0 w N M P B) (hM : w0.heap.size ≤ M) (hNM : N ≠ M) (p b : Int) : Two2 w0 ((w.setCell ⟨M, 0, none⟩ (.int .i64 p)).setCell ⟨M, 1, none⟩ (.int .i64 b)) N M p b := by
  obtain ⟨k0, k1⟩ := put2 h.m0 h.m1 (.int .i64 p) (.int .i64 b)
  have far : ∀ {j : Nat} {v : Value}, w.cell? ⟨N, j, none⟩ = some v → ((w.setCell ⟨M, 0, none⟩ (.int .i64 p)).setCell ⟨M, 1, none⟩ (.int .i64 b)).cell? ⟨N, j, none⟩ = some v := fun {j v} hc =>
    (World.cell?_of_block (w := w) ((Below.heap_setCell _ _ _ _ hNM).trans (Below.heap_setCell _ _ _ _ hNM))).trans hc
  exact ⟨(h.low.setCell hM _).setCell hM _, far h.r0, far h.r1, by rw [World.frozen?_setCell, World.frozen?_setCell]; exact h.z0, by rw [World.frozen?_setCell, World.frozen?_setCell]; exact h.z1, k0, k1,
    by rw [World.frozen?_setCell, World.frozen?_setCell]; exact h.y0, by rw [World.frozen?_setCell, World.frozen?_setCell]; exact h.y1⟩
theorem Two2.end_ {w0 w : World} {N M : Nat} {P B : Int} (h : Two2 w0 w N M P B) (hN : w0.heap.size ≤ N) (u v : Value) : Below w0.heap.size w0 ((w.setCell ⟨N, 0, none⟩ u).setCell ⟨N, 1, none⟩ v) := (h.low.setCell hN _).setCell hN _

/-- what Best comes to -/
def BestV (L : List Tsk) (n : Nat) (w : World) (e : Ending) (w' : World) : Prop :=
  ∃ P B : Nat, e = .returned (.tuple #[.agg #[.int .i64 P, .int .i64 B], .int .i64 (if P = 0 then 7 else 0)]) ∧ BestOf L (fun x => 1 ≤ x ∧ x < n + 1) P B ∧ Below w.heap.size w w'

theorem rng_succ (q : Nat) (h : 1 ≤ q) : ∀ p : Nat, (1 ≤ p ∧ p < q + 1) ↔ (1 ≤ p ∧ p < q) ∨ p = q := fun p => by omega

attribute [local go_sem ↓] buildFace0

set_option maxHeartbeats 1600000 in
theorem best_bad (n : Int) (A : Option Addr) (c : Nat) (L : List Tsk) (hn : ¬ (allB L = true ∧ 1 ≤ n ∧ n ≤ 24)) (w : World) (H : TL w A c L) :
    Calls Try.prog 13 #[.slice A L.length c, .int .i64 n] w fun e w' => e = .returned (.tuple #[.agg #[.int .i64 0, .int .i64 0], .int .i64 1]) ∧ Below w.heap.size w w' := by
  have b0 := below_one w (Obj.cells #[.int .i64 0, .int .i64 0] 26)
  have s0 : (w.alloc (Obj.cells #[.int .i64 0, .int .i64 0] 26)).cell? ⟨w.heap.size, 0, none⟩ = some (.int .i64 0) := by simp
  have s1 : (w.alloc (Obj.cells #[.int .i64 0, .int .i64 0] 26)).cell? ⟨w.heap.size, 1, none⟩ = some (.int .i64 0) := by simp
  have v0 : (w.alloc (Obj.cells #[.int .i64 0, .int .i64 0] 26)).frozen? ⟨w.heap.size, 0, none⟩ = false := by simp
  have v1 : (w.alloc (Obj.cells #[.int .i64 0, .int .i64 0] 26)).frozen? ⟨w.heap.size, 1, none⟩ = false := by simp
  have HT := Lib.hid (H.below b0)
  have B0 := Lib.hid b0
  clear H b0
  cases ha : allB L with
  | false =>
    have HA := Lib.hid ha
    clear ha
    clear hn
    go_enter Try.func13, Try.ntmps13
    go_wp2_with fail
    generalize w.alloc (Obj.cells #[.int .i64 0, .int .i64 0] 26) = w0 at *
    refine (all_v A c L _ HA.out L.length rfl _ HT.out).mono ?_
    rintro e w1 ⟨rfl, b1⟩
    replace v1 := frozen_below b1 s1 v1
    replace v0 := frozen_below b1 s0 v0
    replace s0 := (cell_below b1) s0
    replace s1 := (cell_below b1) s1
    have B1 := Lib.hid (below_step B0.out b1)
    clear b1
    go_wp2_with fail
    obtain ⟨k0, k1⟩ := put2 s0 s1 (.int .i64 0) (.int .i64 0)
    refine bodyPost_ret (v := .tuple #[.agg #[.int .i64 0, .int .i64 0], .int .i64 1]) (by simp [results, Try.results13, go_sem, k0, k1]) rfl ⟨rfl, ?_⟩
    exact (B1.out.setCell (Nat.le_refl _) _).setCell (Nat.le_refl _) _
  | true =>
    by_cases h1 : n < 1
    · skip
      have HA := Lib.hid ha
      clear ha
      clear hn
      go_enter Try.func13, Try.ntmps13
      go_wp2_with fail
      generalize w.alloc (Obj.cells #[.int .i64 0, .int .i64 0] 26) = w0 at *
      refine (all_v A c L _ HA.out L.length rfl _ HT.out).mono ?_
      rintro e w1 ⟨rfl, b1⟩
      replace v1 := frozen_below b1 s1 v1
      replace v0 := frozen_below b1 s0 v0
      replace s0 := (cell_below b1) s0
      replace s1 := (cell_below b1) s1
      have B1 := Lib.hid (below_step B0.out b1)
      clear b1
      go_wp2_with fail
      obtain ⟨k0, k1⟩ := put2 s0 s1 (.int .i64 0) (.int .i64 0)
      refine bodyPost_ret (v := .tuple #[.agg #[.int .i64 0, .int .i64 0], .int .i64 1]) (by simp [results, Try.results13, go_sem, k0, k1]) rfl ⟨rfl, ?_⟩
      exact (B1.out.setCell (Nat.le_refl _) _).setCell (Nat.le_refl _) _
    · have h2 : 24 < n := by
        rcases Int.lt_or_le 24 n with h | h
        · exact h
        · exact absurd ⟨ha, by omega, h⟩ hn
      have HA := Lib.hid ha
      clear ha
      clear hn
      go_enter Try.func13, Try.ntmps13
      go_wp2_with fail
      generalize w.alloc (Obj.cells #[.int .i64 0, .int .i64 0] 26) = w0 at *
      refine (all_v A c L _ HA.out L.length rfl _ HT.out).mono ?_
      rintro e w1 ⟨rfl, b1⟩
      replace v1 := frozen_below b1 s1 v1
      replace v0 := frozen_below b1 s0 v0
      replace s0 := (cell_below b1) s0
      replace s1 := (cell_below b1) s1
      have B1 := Lib.hid (below_step B0.out b1)
      clear b1
      go_wp2_with fail
      obtain ⟨k0, k1⟩ := put2 s0 s1 (.int .i64 0) (.int .i64 0)
      refine bodyPost_ret (v := .tuple #[.agg #[.int .i64 0, .int .i64 0], .int .i64 1]) (by simp [results, Try.results13, go_sem, k0, k1]) rfl ⟨rfl, ?_⟩
      exact (B1.out.setCell (Nat.le_refl _) _).setCell (Nat.le_refl _) _

set_option maxRecDepth 20000 in
set_option maxHeartbeats 4000000 in
theorem best_ok (n : Nat) (A : Option Addr) (c : Nat) (L : List Tsk) (ha : allB L = true) (hn : 1 ≤ n) (hn2 : n ≤ 24) (w : World) (H : TL w A c L) :
    Calls Try.prog 13 #[.slice A L.length c, .int .i64 n] w (BestV L n w) := by
  have b0 := below_one w (Obj.cells #[.int .i64 0, .int .i64 0] 26)
  have s0 : (w.alloc (Obj.cells #[.int .i64 0, .int .i64 0] 26)).cell? ⟨w.heap.size, 0, none⟩ = some (.int .i64 0) := by simp
  have s1 : (w.alloc (Obj.cells #[.int .i64 0, .int .i64 0] 26)).cell? ⟨w.heap.size, 1, none⟩ = some (.int .i64 0) := by simp
  have v0 : (w.alloc (Obj.cells #[.int .i64 0, .int .i64 0] 26)).frozen? ⟨w.heap.size, 0, none⟩ = false := by simp
  have v1 : (w.alloc (Obj.cells #[.int .i64 0, .int .i64 0] 26)).frozen? ⟨w.heap.size, 1, none⟩ = false := by simp
  have H0 := Lib.hid H
  have HT := Lib.hid (H.below b0)
  have B0 := Lib.hid b0
  clear H b0
  have HA := Lib.hid ha
  clear ha
  go_enter Try.func13, Try.ntmps13
  go_wp2_with fail
  generalize w.alloc (Obj.cells #[.int .i64 0, .int .i64 0] 26) = w0 at *
  refine (all_v A c L _ HA.out L.length rfl _ HT.out).mono ?_
  rintro e w1 ⟨rfl, b1⟩
  replace v1 := frozen_below b1 s1 v1
  replace v0 := frozen_below b1 s0 v0
  replace s0 := (cell_below b1) s0
  replace s1 := (cell_below b1) s1
  have B1 := Lib.hid (below_step B0.out b1)
  have hNM : w.heap.size ≠ w1.heap.size := by have := lt_of_cell s0; simp only at this; omega
  have hM := B1.out.size
  clear b1 HT
  have hz : Two2 w (w1.alloc (Obj.cells #[.int .i64 0, .int .i64 0] 26)) w.heap.size w1.heap.size ((0 : Nat) : Int) ((0 : Nat) : Int) := by
    have bz := below_one w1 (Obj.cells #[.int .i64 0, .int .i64 0] 26)
    exact ⟨below_step B1.out bz, cell_below bz s0, cell_below bz s1, frozen_below bz s0 v0, frozen_below bz s1 v1, by simp, by simp, by simp, by simp⟩
  have HZ := Lib.hid hz
  clear hz s0 s1 v0 v1
  go_wp2_with fail
  generalize w1.alloc (Obj.cells #[.int .i64 0, .int .i64 0] 26) = v at *
  go_loopw [7, 8] (fun ev pv wr => ∃ q P B : Nat, pv = .int .i64 q ∧ ev = .int .i64 (if P = 0 then 7 else 0) ∧ 1 ≤ q ∧ q ≤ n + 1 ∧ P ≤ 200 ∧ B ≤ 200 ∧ Hid (BestOf L (fun x => 1 ≤ x ∧ x < q) P B) ∧ Hid (Two2 w wr w.heap.size w1.heap.size P B)) (fun _ pv _ => n + 1 - (intOf pv).toNat)
  case atStart => exact ⟨1, 0, 0, rfl, rfl, Nat.le_refl _, by omega, by omega, by omega, .inl ⟨rfl, rfl, fun p hp => by omega⟩, HZ.out⟩
  case round =>
    obtain ⟨q, P, B, rfl, rfl, hq1, hq2, hP, hB, HBO, H2⟩ := hrel
    by_cases hlt : (q : Int) ≤ (n : Int)
    · have HT := Lib.hid (H0.out.below H2.out.low)
      obtain ⟨e, he⟩ : ∃ e, lstE L q = e := ⟨_, rfl⟩
      by_cases h0 : e = 0
      · subst h0
        obtain ⟨b, hb⟩ : ∃ b, lstB L q = b := ⟨_, rfl⟩
        obtain ⟨p1, p2, p3, p4⟩ := lst_pos he
        rw [hb] at p3 p4
        have HC := Lib.hid (least_n A c L q q b 0 (by unfold lstP; rw [he, if_pos rfl]) (by rw [hb]) (by rw [he]; rfl) L.length rfl)
        by_cases hP0 : P = 0
        · have hB0 : B = 0 := by
            rcases HBO.out with ⟨_, h, _⟩ | ⟨h, _⟩
            · exact h
            · omega
          subst hP0; subst hB0
          have hn := best_first HBO.out (rng_succ q hq1) he
          rw [hb] at hn
          have HN := Lib.hid hn
          rw [if_pos rfl]
          clear hn he hb p1 HBO
          go_wp2_with fail
          refine (HC.out _ HT.out).mono ?_
          rintro x w2 ⟨rfl, b2⟩
          have bz := below_one w2 (Obj.cells #[.int .i64 (q : Int), .int .i64 (b : Int)] 26)
          have h3 := (H2.out.below b2).below bz
          have u0 : (w2.alloc (Obj.cells #[.int .i64 (q : Int), .int .i64 (b : Int)] 26)).cell? ⟨w2.heap.size, 0, none⟩ = some (.int .i64 (q : Int)) := by simp
          have u1 : (w2.alloc (Obj.cells #[.int .i64 (q : Int), .int .i64 (b : Int)] 26)).cell? ⟨w2.heap.size, 1, none⟩ = some (.int .i64 (b : Int)) := by simp
          have m0 := h3.m0
          have m1 := h3.m1
          have y0 := h3.y0
          have y1 := h3.y1
          have H3 := Lib.hid h3
          clear b2 bz h3 H2 HT HC
          go_wp2_with fail
          go_roundw
          case rel => exact ⟨q + 1, q, b, by go_num, by rw [if_neg (by omega)], by omega, by omega, by omega, by omega, HN.out, H3.out.put hM hNM _ _⟩
          case measure => simp [intOf]; omega
        · rw [if_neg hP0]
          by_cases hsm : B * q < b * P
          · have HN := Lib.hid (best_keep HBO.out (by omega) (rng_succ q hq1) (show ¬ Better (lstB L q) q B P by rw [hb]; rintro (h | ⟨h, _⟩) <;> omega))
            have HS := Lib.hid (smaller_any P B q b true (decide_eq_true hsm) hP hB p2 (by omega))
            clear he hb p1 HBO hsm
            go_wp2_with fail
            refine (HC.out _ HT.out).mono ?_
            rintro x w2 ⟨rfl, b2⟩
            have bz := below_one w2 (Obj.cells #[.int .i64 (q : Int), .int .i64 (b : Int)] 26)
            have h3 := (H2.out.below b2).below bz
            have u0 : (w2.alloc (Obj.cells #[.int .i64 (q : Int), .int .i64 (b : Int)] 26)).cell? ⟨w2.heap.size, 0, none⟩ = some (.int .i64 (q : Int)) := by simp
            have u1 : (w2.alloc (Obj.cells #[.int .i64 (q : Int), .int .i64 (b : Int)] 26)).cell? ⟨w2.heap.size, 1, none⟩ = some (.int .i64 (b : Int)) := by simp
            have m0 := h3.m0
            have m1 := h3.m1
            have y0 := h3.y0
            have y1 := h3.y1
            have H3 := Lib.hid h3
            clear b2 bz h3 H2 HT HC
            go_wp2_with fail
            refine (HS.out _).mono ?_
            rintro x w3 ⟨rfl, b3⟩
            have H4 := Lib.hid (H3.out.below b3)
            clear b3 m0 m1 y0 y1 u0 u1 H3
            go_wp2_with fail
            go_roundw
            case rel => exact ⟨q + 1, P, B, by go_num, by rw [if_neg hP0], by omega, by omega, hP, hB, HN.out, H4.out⟩
            case measure => simp [intOf]; omega
          · have hPq : P < q := by
              rcases HBO.out with ⟨h, _⟩ | ⟨_, h, _⟩
              · exact absurd h hP0
              · exact h.2
            have hn := best_take HBO.out (by omega) (rng_succ q hq1) he (show Better (lstB L q) q B P by
              rw [hb]
              unfold Better
              rcases Nat.lt_or_ge (b * P) (B * q) with h | h
              · exact .inl h
              · exact .inr ⟨by omega, hPq⟩)
            rw [hb] at hn
            have HN := Lib.hid hn
            have HS := Lib.hid (smaller_any P B q b false (decide_eq_false hsm) hP hB p2 (by omega))
            clear hn he hb p1 HBO hsm hPq
            go_wp2_with fail
            refine (HC.out _ HT.out).mono ?_
            rintro x w2 ⟨rfl, b2⟩
            have bz := below_one w2 (Obj.cells #[.int .i64 (q : Int), .int .i64 (b : Int)] 26)
            have h3 := (H2.out.below b2).below bz
            have u0 : (w2.alloc (Obj.cells #[.int .i64 (q : Int), .int .i64 (b : Int)] 26)).cell? ⟨w2.heap.size, 0, none⟩ = some (.int .i64 (q : Int)) := by simp
            have u1 : (w2.alloc (Obj.cells #[.int .i64 (q : Int), .int .i64 (b : Int)] 26)).cell? ⟨w2.heap.size, 1, none⟩ = some (.int .i64 (b : Int)) := by simp
            have m0 := h3.m0
            have m1 := h3.m1
            have y0 := h3.y0
            have y1 := h3.y1
            have H3 := Lib.hid h3
            clear b2 bz h3 H2 HT HC
            go_wp2_with fail
            refine (HS.out _).mono ?_
            rintro x w3 ⟨rfl, b3⟩
            have h4 := H3.out.below b3
            replace m0 := h4.m0
            replace m1 := h4.m1
            replace y0 := h4.y0
            replace y1 := h4.y1
            replace u0 := (cell_below b3) u0
            replace u1 := (cell_below b3) u1
            have H4 := Lib.hid h4
            clear b3 h4 H3
            go_wp2_with fail
            go_roundw
            case rel => exact ⟨q + 1, q, b, by go_num, by rw [if_neg (by omega)], by omega, by omega, by omega, by omega, HN.out, H4.out.put hM hNM _ _⟩
            case measure => simp [intOf]; omega
      · have HN := Lib.hid (best_skip HBO.out (rng_succ q hq1) (show lstE L q ≠ 0 by rw [he]; exact h0))
        have h0' : ¬ (e : Int) = 0 := by omega
        have HC := Lib.hid (least_n A c L q (lstP L q) (lstB L q) e rfl rfl (by rw [he]) L.length rfl)
        generalize lstP L q = x1 at *
        generalize lstB L q = b at *
        generalize hev : (if P = 0 then (7 : Int) else 0) = ev
        have HEV := Lib.hid hev
        clear hev
        clear he HBO
        go_wp2_with fail
        refine (HC.out _ HT.out).mono ?_
        rintro x w2 ⟨rfl, b2⟩
        have H3 := Lib.hid ((H2.out.below b2).below (below_one w2 (Obj.cells #[.int .i64 x1, .int .i64 (b : Int)] 26)))
        clear b2
        go_wp2_with fail
        go_roundw
        case rel => exact ⟨q + 1, P, B, by go_num, by rw [HEV.out], by omega, by omega, hP, hB, HN.out, H3.out⟩
        case measure => simp [intOf]; omega
    · have hqn : q = n + 1 := by omega
      subst hqn
      have s0 := H2.out.r0
      have s1 := H2.out.r1
      have v0 := H2.out.z0
      have v1 := H2.out.z1
      have m0 := H2.out.m0
      have m1 := H2.out.m1
      have HEE : Hid (BestV L n w (.returned (.tuple #[.agg #[.int .i64 P, .int .i64 B], .int .i64 (if P = 0 then 7 else 0)])) ((wr.setCell ⟨w.heap.size, 0, none⟩ (.int .i64 P)).setCell ⟨w.heap.size, 1, none⟩ (.int .i64 B))) :=
        ⟨P, B, rfl, HBO.out, H2.out.end_ (Nat.le_refl _) _ _⟩
      generalize (if P = 0 then (7 : Int) else 0) = ev at *
      go_wp2_with fail
      obtain ⟨k0, k1⟩ := put2 s0 s1 (.int .i64 (P : Int)) (.int .i64 (B : Int))
      refine bodyPost_ret (v := .tuple #[.agg #[.int .i64 P, .int .i64 B], .int .i64 ev]) (by simp [results, Try.results13, go_sem, k0, k1]) rfl ?_
      exact HEE.out

end Fa
end Go.Proofs.Ythfgdkhfblekoaa

