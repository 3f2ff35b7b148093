/-
  Merged texts: PoliceMath, PoliceRight.
-/
import Derived.Test.YtdjjdebnbaaihaaGdemand
import Derived.Test.YtdjjdebnbaaihaaGtask
import Derived.Test.YtdjjdebnbaaihaaGmem
/-
  Layer 16 (police): plain mathematics: last releases; what may be; asks, and what is permitted of them.
-/
namespace Go.Proofs.Ytdjjdebnbaaihaa
namespace Pc
open Mm Tk Dm

/-- an ask: of which task, at which tick -/
abbrev Ask := Int × Int
def lastB (x : Int) : Bool := decide (-1 ≤ x ∧ x ≤ 4611686018427387903)
/-- are last releases valid -/
def lastsB (L : List Tsk) (s : List Int) : Bool := allB L && (decide (s.length = L.length) && s.all lastB)
theorem lastB_iff {x : Int} : lastB x = true ↔ -1 ≤ x ∧ x ≤ 4611686018427387903 := by unfold lastB; exact decide_eq_true_iff
theorem lastsB_iff {L : List Tsk} {s : List Int} : lastsB L s = true ↔ allB L = true ∧ s.length = L.length ∧ ∀ i, i < s.length → -1 ≤ at_ s i ∧ at_ s i ≤ 4611686018427387903 := by
  unfold lastsB
  rw [Bool.and_eq_true, Bool.and_eq_true, decide_eq_true_iff, List.all_eq_true]
  constructor
  · rintro ⟨h1, h2, h3⟩
    exact ⟨h1, h2, fun i hi => lastB_iff.1 (h3 _ (at_mem hi))⟩
  · rintro ⟨h1, h2, h3⟩
    refine ⟨h1, h2, fun x hx => ?_⟩
    obtain ⟨i, hi, rfl⟩ := mem_at hx
    exact lastB_iff.2 (h3 i hi)

/-- the arguments are such that the question makes sense -/
def argB (L : List Tsk) (s : List Int) (i t : Int) : Bool := lastsB L s && decide (0 ≤ i ∧ i < L.length ∧ 0 ≤ t ∧ t ≤ 4611686018427387703)
theorem argB_iff {L : List Tsk} {s : List Int} {i t : Int} : argB L s i t = true ↔ lastsB L s = true ∧ 0 ≤ i ∧ i < L.length ∧ 0 ≤ t ∧ t ≤ 4611686018427387703 := by
  unfold argB
  rw [Bool.and_eq_true, decide_eq_true_iff]
/-- is it too early -/
def earlyB (L : List Tsk) (s : List Int) (i t : Int) : Bool := decide (0 ≤ at_ s i.toNat ∧ t - at_ s i.toNat < (at_ L i.toNat).2.2.1)
/-- what May answers: 0, 1 or 6 -/
def mayE (L : List Tsk) (s : List Int) (i t : Int) : Int := if argB L s i t then (if earlyB L s i t then 6 else 0) else 1
def mayB (L : List Tsk) (s : List Int) (i t : Int) : Bool := argB L s i t && !earlyB L s i t
theorem may_zero {L : List Tsk} {s : List Int} {i t : Int} : mayE L s i t = 0 ↔ mayB L s i t = true := by
  unfold mayE mayB
  cases argB L s i t <;> cases earlyB L s i t <;> simp
def noteL (L : List Tsk) (s : List Int) (i t : Int) : List Int := if mayB L s i t then s.set i.toNat t else s
theorem noteL_length (L : List Tsk) (s : List Int) (i t : Int) : (noteL L s i t).length = s.length := by
  unfold noteL
  split
  · rw [List.length_set]
  · rfl
theorem noteL_valid {L : List Tsk} {s : List Int} (h : lastsB L s = true) (i t : Int) : lastsB L (noteL L s i t) = true := by
  unfold noteL
  split
  · rename_i hm
    have ha := argB_iff.1 (Bool.and_eq_true _ _ ▸ hm).1
    obtain ⟨h1, h2, h3⟩ := lastsB_iff.1 h
    refine lastsB_iff.2 ⟨h1, by rw [List.length_set, h2], fun k hk => ?_⟩
    rw [List.length_set] at hk
    by_cases e : k = i.toNat
    · subst e
      rw [at_set_same _ hk]
      omega
    · rw [at_set_other _ e]
      exact h3 k hk
  · exact h
/-- P16.4: what may be may be later -/
theorem may_later {L : List Tsk} {s : List Int} {i t u : Int} (h : mayB L s i t = true) (h1 : t ≤ u) (h2 : u ≤ 4611686018427387703) : mayB L s i u = true := by
  unfold mayB at h ⊢
  rw [Bool.and_eq_true] at h ⊢
  obtain ⟨g1, g2, g3, g4, g5⟩ := argB_iff.1 h.1
  refine ⟨argB_iff.2 ⟨g1, g2, g3, by omega, h2⟩, ?_⟩
  have he := h.2
  unfold earlyB at he ⊢
  rw [Bool.not_eq_true', decide_eq_false_iff_not] at he ⊢
  omega
theorem none_valid {L : List Tsk} (h : allB L = true) : lastsB L (List.replicate L.length (-1)) = true := by
  refine lastsB_iff.2 ⟨h, by simp, fun i hi => ?_⟩
  rw [at_get hi]
  simp
/-- a task that never released a job may -/
theorem may_first {L : List Tsk} (h : allB L = true) {i t : Int} (h0 : 0 ≤ i) (h1 : i < L.length) (h2 : 0 ≤ t) (h3 : t ≤ 4611686018427387703) : mayB L (List.replicate L.length (-1)) i t = true := by
  unfold mayB
  rw [Bool.and_eq_true]
  refine ⟨argB_iff.2 ⟨none_valid h, h0, h1, h2, h3⟩, ?_⟩
  unfold earlyB
  rw [Bool.not_eq_true', decide_eq_false_iff_not, at_get (by simp; omega)]
  simp

/-! ### asks, one by one -/
/-- last releases behind the first k asks -/
def runS (L : List Tsk) (q : List Ask) : Nat → List Int
  | 0 => List.replicate L.length (-1)
  | k + 1 => noteL L (runS L q k) (at_ q k).1 (at_ q k).2
/-- what is told of the first k asks -/
def runF (L : List Tsk) (q : List Ask) : Nat → List Bool
  | 0 => []
  | k + 1 => runF L q k ++ [mayB L (runS L q k) (at_ q k).1 (at_ q k).2]
theorem runF_length (L : List Tsk) (q : List Ask) : ∀ k, (runF L q k).length = k
  | 0 => rfl
  | k + 1 => by rw [runF, List.length_append, runF_length L q k]; rfl
theorem runS_valid {L : List Tsk} (h : allB L = true) (q : List Ask) : ∀ k, lastsB L (runS L q k) = true
  | 0 => none_valid h
  | k + 1 => noteL_valid (runS_valid h q k) _ _
theorem runF_at (L : List Tsk) (q : List Ask) : ∀ {k j : Nat}, j < k → at_ (runF L q k) j = mayB L (runS L q j) (at_ q j).1 (at_ q j).2
  | 0, j, h => by omega
  | k + 1, j, h => by
    rw [runF]
    by_cases e : j < k
    · rw [at_left (by rw [runF_length]; exact e), runF_at L q e]
    · have : j = k := by omega
      subst this
      rw [at_right (by rw [runF_length]; exact Nat.le_refl _), runF_length, Nat.sub_self]
      rfl
/-- what Filter answers -/
def filterP (L : List Tsk) (q : List Ask) : List Bool := if allB L then runF L q q.length else []

/-- the last permitted ask of task i, among the first k -/
def lastTo (F : List Bool) (q : List Ask) (i : Int) : Nat → Int
  | 0 => -1
  | k + 1 => if at_ F k = true ∧ (at_ q k).1 = i then (at_ q k).2 else lastTo F q i k
/-- last releases are the last permitted asks -/
theorem runS_last {L : List Tsk} (h : allB L = true) (q : List Ask) {F : List Bool} {n : Nat} (hF : ∀ j, j < n → at_ F j = mayB L (runS L q j) (at_ q j).1 (at_ q j).2) : ∀ k, k ≤ n → ∀ i, i < L.length → at_ (runS L q k) i = lastTo F q i k
  | 0, _, i, hi => by
    rw [runS, at_get (by simpa using hi)]
    simp [lastTo]
  | k + 1, hk, i, hi => by
    have ih := runS_last h q hF k (by omega) i hi
    have hl := (lastsB_iff.1 (runS_valid h q k)).2.1
    rw [runS, lastTo, hF k (by omega)]
    unfold noteL
    by_cases hm : mayB L (runS L q k) (at_ q k).1 (at_ q k).2 = true
    · rw [if_pos hm]
      have ha := argB_iff.1 (Bool.and_eq_true _ _ ▸ hm).1
      by_cases e : (at_ q k).1 = i
      · rw [if_pos ⟨hm, e⟩, e, Int.toNat_natCast, at_set_same _ (by rw [hl]; exact hi)]
      · rw [if_neg (fun x => e x.2), at_set_other _ (by omega), ih]
    · rw [if_neg hm, if_neg (fun x => hm x.1), ih]
/-- what the document's answer says of an ask: the last one of its task is told by the list so far -/
def refB (L : List Tsk) (q : List Ask) (F : List Bool) (n : Nat) : Bool :=
  decide (0 ≤ (at_ q n).1 ∧ (at_ q n).1 < L.length ∧ 0 ≤ (at_ q n).2 ∧ (at_ q n).2 ≤ 4611686018427387703) && !decide (0 ≤ lastTo F q (at_ q n).1 n ∧ (at_ q n).2 - lastTo F q (at_ q n).1 n < (at_ L (at_ q n).1.toNat).2.2.1)
theorem refB_may {L : List Tsk} (h : allB L = true) (q : List Ask) {F : List Bool} {n : Nat} (hF : ∀ j, j < n → at_ F j = mayB L (runS L q j) (at_ q j).1 (at_ q j).2) : refB L q F n = mayB L (runS L q n) (at_ q n).1 (at_ q n).2 := by
  unfold refB mayB argB
  rw [runS_valid h q n, Bool.true_and]
  by_cases hr : 0 ≤ (at_ q n).1 ∧ (at_ q n).1 < L.length ∧ 0 ≤ (at_ q n).2 ∧ (at_ q n).2 ≤ 4611686018427387703
  · have hs := runS_last h q hF n (Nat.le_refl _) (at_ q n).1.toNat (by omega)
    rw [show (((at_ q n).1.toNat : Nat) : Int) = (at_ q n).1 by omega] at hs
    unfold earlyB
    rw [hs]
  · rw [decide_eq_false hr, Bool.false_and, Bool.false_and]
/-- the document's answer, the first n -/
def refF (L : List Tsk) (q : List Ask) : Nat → List Bool
  | 0 => []
  | n + 1 => refF L q n ++ [refB L q (refF L q n) n]
theorem refF_run {L : List Tsk} (h : allB L = true) (q : List Ask) : ∀ n, refF L q n = runF L q n
  | 0 => rfl
  | n + 1 => by
    rw [refF, runF, refF_run h q n, refB_may h q fun j hj => runF_at L q hj]

/-! ### what is permitted is a release pattern -/
/-- the permitted ticks of task i, among the first k asks -/
def rowTo (F : List Bool) (q : List Ask) (i : Nat) : Nat → List Int
  | 0 => []
  | k + 1 => rowTo F q i k ++ (if at_ F k = true ∧ (at_ q k).1 = i then [(at_ q k).2] else [])
theorem rowTo_last {F : List Bool} {q : List Ask} {i : Nat} : ∀ k, lastTo F q i k = if rowTo F q i k = [] then -1 else at_ (rowTo F q i k) ((rowTo F q i k).length - 1)
  | 0 => by simp [lastTo, rowTo]
  | k + 1 => by
    rw [lastTo, rowTo]
    by_cases hc : at_ F k = true ∧ (at_ q k).1 = i
    · rw [if_pos hc, if_pos hc, if_neg (by simp), List.length_append, List.length_singleton, Nat.add_sub_cancel, at_right (Nat.le_refl _), Nat.sub_self]
      rfl
    · rw [if_neg hc, if_neg hc, List.append_nil, rowTo_last k]

theorem rowTo_length (F : List Bool) (q : List Ask) (i : Nat) : ∀ k, (rowTo F q i k).length ≤ k
  | 0 => Nat.le_refl _
  | k + 1 => by
    rw [rowTo, List.length_append]
    have := rowTo_length F q i k
    split <;> simp <;> omega
/-- ticks in their bounds, each at least T behind the one ahead of it -/
def Gap (T : Int) (r : List Int) : Prop := (∀ j, j < r.length → 0 ≤ at_ r j ∧ at_ r j ≤ 4611686018427387703) ∧ ∀ j, 0 < j → j < r.length → at_ r (j - 1) + T ≤ at_ r j
theorem Gap.snoc {T : Int} {r : List Int} {x : Int} (h : Gap T r) (h0 : 0 ≤ x) (h1 : x ≤ 4611686018427387703) (h2 : r ≠ [] → at_ r (r.length - 1) + T ≤ x) : Gap T (r ++ [x]) := by
  refine ⟨fun j hj => ?_, fun j hj0 hj => ?_⟩
  · rw [List.length_append, List.length_singleton] at hj
    by_cases e : j < r.length
    · rw [at_left e]; exact h.1 j e
    · have : j = r.length := by omega
      subst this
      rw [at_right (Nat.le_refl _), Nat.sub_self]
      exact ⟨h0, h1⟩
  · rw [List.length_append, List.length_singleton] at hj
    by_cases e : j < r.length
    · rw [at_left e, at_left (by omega)]; exact h.2 j hj0 e
    · have : j = r.length := by omega
      subst this
      rw [at_right (Nat.le_refl _), Nat.sub_self, at_left (by omega)]
      exact h2 fun e => by rw [e] at hj0; simp at hj0
theorem rows_gap {L : List Tsk} (h : allB L = true) (q : List Ask) {F : List Bool} {n : Nat} (hF : ∀ j, j < n → at_ F j = mayB L (runS L q j) (at_ q j).1 (at_ q j).2) {i : Nat} (hi : i < L.length) : ∀ k, k ≤ n → Gap (at_ L i).2.2.1 (rowTo F q i k)
  | 0, _ => ⟨fun j hj => by simp [rowTo] at hj, fun j _ hj => by simp [rowTo] at hj⟩
  | k + 1, hk => by
    have ih := rows_gap h q hF hi k (by omega)
    rw [rowTo]
    by_cases hc : at_ F k = true ∧ (at_ q k).1 = i
    · rw [if_pos hc]
      have hm : mayB L (runS L q k) (at_ q k).1 (at_ q k).2 = true := by rw [← hF k (by omega)]; exact hc.1
      unfold mayB at hm
      rw [Bool.and_eq_true] at hm
      have ha := argB_iff.1 hm.1
      have he := hm.2
      unfold earlyB at he
      rw [Bool.not_eq_true', decide_eq_false_iff_not, hc.2, Int.toNat_natCast, runS_last h q hF k (by omega) i hi, rowTo_last] at he
      refine ih.snoc ha.2.2.2.1 ha.2.2.2.2 fun hne => ?_
      rw [if_neg hne] at he
      have hl : 0 < (rowTo F q i k).length := by
        cases hr : rowTo F q i k with
        | nil => exact absurd hr hne
        | cons a r => simp
      have := (ih.1 ((rowTo F q i k).length - 1) (by omega)).1
      omega
    · rw [if_neg hc, List.append_nil]
      exact ih
/-- P16.3 -/
theorem rows_legal {L : List Tsk} (h : allB L = true) (q : List Ask) (hq : q.length ≤ 1000) {R : List (List Int)} (hR : R.length = L.length) (hr : ∀ i, i < R.length → at_ R i = rowTo (runF L q q.length) q i q.length) : legalB L R = true := by
  refine legal_iff.2 ⟨h, hR, fun i hi => ?_⟩
  have hg := rows_gap h q (F := runF L q q.length) (n := q.length) (fun j hj => runF_at L q hj) (i := i) (by omega) q.length (Nat.le_refl _)
  rw [hr i hi]
  refine rowB_iff.2 ⟨Nat.le_trans (rowTo_length _ _ _ _) hq, fun k hk => ?_, hg.2⟩
  have := hg.1 k hk
  omega
/-- a permitted ask is of a task that there is -/
theorem may_task {L : List Tsk} {s : List Int} {i t : Int} (h : mayB L s i t = true) : 0 ≤ i ∧ i < L.length := by
  unfold mayB at h
  rw [Bool.and_eq_true] at h
  have := argB_iff.1 h.1
  exact ⟨this.2.1, this.2.2.1⟩

end Pc
end Go.Proofs.Ytdjjdebnbaaihaa

/-
  Layer 16 (police): the library's IndexFunc, ContainsFunc at ints; Right.
-/
namespace Go.Proofs.Ytdjjdebnbaaihaa
open Go.RowKit Mm Tk Dm Go.Shelf
namespace Pc

/-- what is asked of a closure over ints -/
def PredNum (g : Nat) (lb : Array Value) (pb : Int → Bool) (w : World) : Prop := ∀ (W : World) (x : Int), Below w.heap.size w W →
  Calls Try.prog g (#[.int .i64 x] ++ lb) W fun e w' => e = .returned (.bool (pb x)) ∧ Below W.heap.size W w'

set_option maxHeartbeats 800000 in
theorem indexNum (g : Nat) (lb : Array Value) (pb : Int → Bool) (eg : ∀ args w, (callFunc g args).run Try.prog w = .ok (.enter g args) w) (A : Option Addr) (c : Nat) (l : List Int) (w : World) (hbig : l.length ≤ 1000000) (hp : PredNum g lb pb w) (hr : Rd w A c l) :
    Calls Try.prog 56 #[.slice A l.length c, .func (.func g) #[] lb] w (IdxOf w (l.any pb)) := by
  have HR := Lib.hid hr
  have HP := Lib.hid hp
  clear hr hp
  go_enter Try.func56, Try.ntmps56
  go_wp2_with fail
  go_loopw [8] (fun i wr => ∃ k : Nat, i = .int .i64 k ∧ k ≤ l.length ∧ Hid (∀ j, j < k → pb (at_ l j) = false) ∧ Hid (Below w.heap.size w wr)) (fun i _ => l.length - (intOf i).toNat)
  case atStart => exact ⟨0, rfl, Nat.zero_le _, (fun j h => by omega), Below.refl _ _⟩
  case round =>
    obtain ⟨k, rfl, hk, HH, HB⟩ := hrel
    by_cases hlt : k < l.length
    · obtain ⟨b, off, rfl, hc⟩ := (HR.out.below HB.out).int (by omega)
      have x0 := (hc k hlt).1
      have hcall := HP.out wr (at_ l k) HB.out
      clear hc
      cases hb : pb (at_ l k) with
      | true =>
        rw [hb] at hcall
        have HY := Lib.hid (any_take_yes hlt hb)
        clear hb
        generalize at_ l k = x at *
        go_wp2_with (go_at_fn g; refine hcall.mono ?_; rintro e w1 ⟨rfl, b2⟩; have HB2 := Lib.hid (below_step HB.out b2); clear b2 hcall)
        go_ret
        exact ⟨k, rfl, (fun _ => by omega), (fun h => by rw [HY.out] at h; cases h), HB2.out⟩
      | false =>
        rw [hb] at hcall
        have HN := Lib.hid hb
        clear hb
        generalize hx : at_ l k = x at *
        have HX := Lib.hid hx
        clear hx
        go_wp2_with (go_at_fn g; refine hcall.mono ?_; rintro e w1 ⟨rfl, b2⟩; have HB2 := Lib.hid (below_step HB.out b2); clear b2 hcall)
        go_roundw
        case rel =>
          refine ⟨k + 1, by go_num, hlt, fun j hj => ?_, HB2⟩
          by_cases e : j = k
          · subst e; rw [HX.out]; exact HN.out
          · exact HH.out j (by omega)
        case measure => simp [intOf]; omega
    · go_wp2_with fail
      go_ret
      have hn := any_take_no (p := pb) (l := l) fun j hj => HH.out j (by omega)
      exact ⟨-1, rfl, (fun h => by rw [hn] at h; cases h), (fun _ => rfl), HB.out⟩

theorem hasNum (g : Nat) (lb : Array Value) (pb : Int → Bool) (eg : ∀ args w, (callFunc g args).run Try.prog w = .ok (.enter g args) w) (A : Option Addr) (c : Nat) (l : List Int) (w : World) (hbig : l.length ≤ 1000000) (hp : PredNum g lb pb w) (hr : Rd w A c l) :
    Calls Try.prog 37 #[.slice A l.length c, .func (.func g) #[] lb] w fun e w' => e = .returned (.bool (l.any pb)) ∧ Below w.heap.size w w' := by
  have HR := Lib.hid hr
  have HP := Lib.hid hp
  clear hr hp
  go_enter Try.func37, Try.ntmps37
  go_wp2_with fail
  refine (indexNum g lb pb eg A c l _ hbig HP.out HR.out).mono ?_
  rintro e w1 ⟨n, rfl, h1, h2, b1⟩
  have B1 := Lib.hid b1
  have H1 := Lib.hid h1
  have H2 := Lib.hid h2
  clear b1 h1 h2
  cases ha : l.any pb with
  | true =>
    have h := H1.out ha
    have HA := Lib.hid ha
    clear ha
    go_wp2_with fail
    go_ret
    exact ⟨ret_bool (by rw [HA.out]), B1.out⟩
  | false =>
    have h := H2.out ha
    subst h
    have HA := Lib.hid ha
    clear ha
    go_wp2_with fail
    go_ret
    exact ⟨ret_bool (by rw [HA.out]), B1.out⟩

theorem last_closure (w : World) : PredNum 38 #[] (fun x => !lastB x) w := fun W x _ => by
  show Calls Try.prog 38 #[.int .i64 x] W _
  by_cases h1 : x < -1
  · have HQ : Hid (lastB x = false) := decide_eq_false (by omega)
    go_enter Try.func38, Try.ntmps38
    go_wp2_with fail
    go_ret
    exact ⟨ret_bool (by rw [HQ.out]; rfl), Below.refl _ _⟩
  · by_cases h2 : 4611686018427387903 < x
    · have HQ : Hid (lastB x = false) := decide_eq_false (by omega)
      go_enter Try.func38, Try.ntmps38
      go_wp2_with fail
      go_ret
      exact ⟨ret_bool (by rw [HQ.out]; rfl), Below.refl _ _⟩
    · have HQ : Hid (lastB x = true) := decide_eq_true (by omega)
      go_enter Try.func38, Try.ntmps38
      go_wp2_with fail
      go_ret
      exact ⟨ret_bool (by rw [HQ.out]; rfl), Below.refl _ _⟩
theorem lastEnters : ∀ args w, (callFunc 38 args).run Try.prog w = .ok (.enter 38 args) w := enters_of Try.func38 (by kernel_rfl) rfl
theorem any_last (s : List Int) : s.any (fun x => !lastB x) = !s.all lastB := by
  induction s with
  | nil => rfl
  | cons x l ih => simp [ih]

set_option maxHeartbeats 800000 in
theorem right_any (A : Option Addr) (c : Nat) (L : List Tsk) (A2 : Option Addr) (c2 : Nat) (s : List Int) (w : World) (H : TL w A c L) (H2 : IL w A2 c2 s) :
    Calls Try.prog 15 #[.slice A L.length c, .slice A2 s.length c2] w fun e w' => e = .returned (.bool (lastsB L s)) ∧ Below w.heap.size w w' := by
  have hb1 := H.1
  have hb2 := H2.1
  have HT := Lib.hid H
  have HL := Lib.hid H2
  clear H H2
  cases ha : allB L with
  | false =>
    have HF : Hid (lastsB L s = false) := by show _ = _; simp [lastsB, ha]
    go_enter Try.func15, Try.ntmps15
    go_wp2_with fail
    refine (all_any A c L _ hb1 HT.out.2.1 HT.out.2.2).mono ?_
    rintro e w1 ⟨rfl, b1⟩
    rw [ha]
    go_wp2_with fail
    go_ret
    exact ⟨ret_bool HF.out.symm, b1⟩
  | true =>
    by_cases hn : s.length = L.length
    · have HF : Hid (lastsB L s = !(s.any fun x => !lastB x)) := by show _ = _; rw [any_last]; simp [lastsB, ha, hn]
      have hn1 : ((s.length : Int) == (L.length : Int)) = true := by simp [hn]
      have hn2 : ((s.length : Int) != (L.length : Int)) = false := by simp [hn]
      have HN := Lib.hid hn
      clear hn
      go_enter Try.func15, Try.ntmps15
      go_wp2_with fail
      refine (all_any A c L _ hb1 HT.out.2.1 HT.out.2.2).mono ?_
      rintro e w1 ⟨rfl, b1⟩
      rw [ha]
      replace HL := Lib.hid (HL.out.below b1)
      have B1 := Lib.hid b1
      clear b1
      clear ha
      go_wp2_with fail
      refine (hasNum _ _ _ lastEnters A2 c2 s _ hb2 (last_closure _) HL.out.2).mono ?_
      rintro e w2 ⟨rfl, b2⟩
      have B2 := Lib.hid (below_step B1.out b2)
      clear b2
      go_wp2_with fail
      go_ret
      exact ⟨ret_bool HF.out.symm, B2.out⟩
    · have HF : Hid (lastsB L s = false) := by show _ = _; simp [lastsB, hn]
      have hn1 : ((s.length : Int) == (L.length : Int)) = false := by simp; omega
      have hn2 : ((s.length : Int) != (L.length : Int)) = true := by simp; omega
      have HN := Lib.hid hn
      clear hn
      go_enter Try.func15, Try.ntmps15
      go_wp2_with fail
      refine (all_any A c L _ hb1 HT.out.2.1 HT.out.2.2).mono ?_
      rintro e w1 ⟨rfl, b1⟩
      rw [ha]
      go_wp2_with fail
      go_ret
      exact ⟨ret_bool HF.out.symm, b1⟩

end Pc
end Go.Proofs.Ytdjjdebnbaaihaa

