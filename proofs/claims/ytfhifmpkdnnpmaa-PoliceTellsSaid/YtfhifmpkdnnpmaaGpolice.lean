/-
  Merged texts: PoliceMath, PoliceRight, PoliceMem, PoliceNote, PolicePermit, PoliceFilter.
-/
import Derived.Test.YtfhifmpkdnnpmaaGdemand
import Derived.Test.YtfhifmpkdnnpmaaGtask
import Derived.Test.YtfhifmpkdnnpmaaGmem
/-
  Layer 16 (police): plain mathematics: last releases; what may be; asks, and what is permitted of them.
-/
namespace Go.Proofs.Ytfhifmpkdnnpmaa
namespace Pc
open Mm Tk Dm

/-- an ask: of which task, at which tick -/
abbrev Ask := Int × Int
def lastB (x : Int) : Bool := decide (-1 ≤ x ∧ x ≤ 4611686018427387903)
/-- are last releases valid -/
def lastsB (L : List Tsk) (s : List Int) : Bool := allB L && (decide (s.length = L.length) && s.all lastB)
theorem lastB_iff {x : Int} : lastB x = true ↔ -1 ≤ x ∧ x ≤ 4611686018427387903 := by unfold lastB; exact decide_eq_true_iff
theorem lastsB_iff {L : List Tsk} {s : List Int} : lastsB L s = true ↔ allB L = true ∧ s.length = L.length ∧ ∀ i, i < s.length → -1 ≤ at_ s i ∧ at_ s i ≤ 4611686018427387903 := by
  unfold lastsB
  rw [Bool.and_eq_true, Bool.and_eq_true, decide_eq_true_iff, List.all_eq_true]
  constructor
  · rintro ⟨h1, h2, h3⟩
    exact ⟨h1, h2, fun i hi => lastB_iff.1 (h3 _ (at_mem hi))⟩
  · rintro ⟨h1, h2, h3⟩
    refine ⟨h1, h2, fun x hx => ?_⟩
    obtain ⟨i, hi, rfl⟩ := mem_at hx
    exact lastB_iff.2 (h3 i hi)

/-- the arguments are such that the question makes sense -/
def argB (L : List Tsk) (s : List Int) (i t : Int) : Bool := lastsB L s && decide (0 ≤ i ∧ i < L.length ∧ 0 ≤ t ∧ t ≤ 4611686018427387703)
theorem argB_iff {L : List Tsk} {s : List Int} {i t : Int} : argB L s i t = true ↔ lastsB L s = true ∧ 0 ≤ i ∧ i < L.length ∧ 0 ≤ t ∧ t ≤ 4611686018427387703 := by
  unfold argB
  rw [Bool.and_eq_true, decide_eq_true_iff]
/-- is it too early -/
def earlyB (L : List Tsk) (s : List Int) (i t : Int) : Bool := decide (0 ≤ at_ s i.toNat ∧ t - at_ s i.toNat < (at_ L i.toNat).2.2.1)
/-- what May answers: 0, 1 or 6 -/
def mayE (L : List Tsk) (s : List Int) (i t : Int) : Int := if argB L s i t then (if earlyB L s i t then 6 else 0) else 1
def mayB (L : List Tsk) (s : List Int) (i t : Int) : Bool := argB L s i t && !earlyB L s i t
theorem may_zero {L : List Tsk} {s : List Int} {i t : Int} : mayE L s i t = 0 ↔ mayB L s i t = true := by
  unfold mayE mayB
  cases argB L s i t <;> cases earlyB L s i t <;> simp
def noteL (L : List Tsk) (s : List Int) (i t : Int) : List Int := if mayB L s i t then s.set i.toNat t else s
theorem noteL_length (L : List Tsk) (s : List Int) (i t : Int) : (noteL L s i t).length = s.length := by
  unfold noteL
  split
  · rw [List.length_set]
  · rfl
theorem noteL_valid {L : List Tsk} {s : List Int} (h : lastsB L s = true) (i t : Int) : lastsB L (noteL L s i t) = true := by
  unfold noteL
  split
  · rename_i hm
    have ha := argB_iff.1 (Bool.and_eq_true _ _ ▸ hm).1
    obtain ⟨h1, h2, h3⟩ := lastsB_iff.1 h
    refine lastsB_iff.2 ⟨h1, by rw [List.length_set, h2], fun k hk => ?_⟩
    rw [List.length_set] at hk
    by_cases e : k = i.toNat
    · subst e
      rw [at_set_same _ hk]
      omega
    · rw [at_set_other _ e]
      exact h3 k hk
  · exact h
/-- P16.4: what may be may be later -/
theorem may_later {L : List Tsk} {s : List Int} {i t u : Int} (h : mayB L s i t = true) (h1 : t ≤ u) (h2 : u ≤ 4611686018427387703) : mayB L s i u = true := by
  unfold mayB at h ⊢
  rw [Bool.and_eq_true] at h ⊢
  obtain ⟨g1, g2, g3, g4, g5⟩ := argB_iff.1 h.1
  refine ⟨argB_iff.2 ⟨g1, g2, g3, by omega, h2⟩, ?_⟩
  have he := h.2
  unfold earlyB at he ⊢
  rw [Bool.not_eq_true', decide_eq_false_iff_not] at he ⊢
  omega
theorem none_valid {L : List Tsk} (h : allB L = true) : lastsB L (List.replicate L.length (-1)) = true := by
  refine lastsB_iff.2 ⟨h, by simp, fun i hi => ?_⟩
  rw [at_get hi]
  simp
/-- a task that never released a job may -/
theorem may_first {L : List Tsk} (h : allB L = true) {i t : Int} (h0 : 0 ≤ i) (h1 : i < L.length) (h2 : 0 ≤ t) (h3 : t ≤ 4611686018427387703) : mayB L (List.replicate L.length (-1)) i t = true := by
  unfold mayB
  rw [Bool.and_eq_true]
  refine ⟨argB_iff.2 ⟨none_valid h, h0, h1, h2, h3⟩, ?_⟩
  unfold earlyB
  rw [Bool.not_eq_true', decide_eq_false_iff_not, at_get (by simp; omega)]
  simp

/-! ### asks, one by one -/
/-- last releases behind the first k asks -/
def runS (L : List Tsk) (q : List Ask) : Nat → List Int
  | 0 => List.replicate L.length (-1)
  | k + 1 => noteL L (runS L q k) (at_ q k).1 (at_ q k).2
/-- what is told of the first k asks -/
def runF (L : List Tsk) (q : List Ask) : Nat → List Bool
  | 0 => []
  | k + 1 => runF L q k ++ [mayB L (runS L q k) (at_ q k).1 (at_ q k).2]
theorem runF_length (L : List Tsk) (q : List Ask) : ∀ k, (runF L q k).length = k
  | 0 => rfl
  | k + 1 => by rw [runF, List.length_append, runF_length L q k]; rfl
theorem runS_valid {L : List Tsk} (h : allB L = true) (q : List Ask) : ∀ k, lastsB L (runS L q k) = true
  | 0 => none_valid h
  | k + 1 => noteL_valid (runS_valid h q k) _ _
theorem runF_at (L : List Tsk) (q : List Ask) : ∀ {k j : Nat}, j < k → at_ (runF L q k) j = mayB L (runS L q j) (at_ q j).1 (at_ q j).2
  | 0, j, h => by omega
  | k + 1, j, h => by
    rw [runF]
    by_cases e : j < k
    · rw [at_left (by rw [runF_length]; exact e), runF_at L q e]
    · have : j = k := by omega
      subst this
      rw [at_right (by rw [runF_length]; exact Nat.le_refl _), runF_length, Nat.sub_self]
      rfl
/-- what Filter answers -/
def filterP (L : List Tsk) (q : List Ask) : List Bool := if allB L then runF L q q.length else []

/-- the last permitted ask of task i, among the first k -/
def lastTo (F : List Bool) (q : List Ask) (i : Int) : Nat → Int
  | 0 => -1
  | k + 1 => if at_ F k = true ∧ (at_ q k).1 = i then (at_ q k).2 else lastTo F q i k
/-- last releases are the last permitted asks -/
theorem runS_last {L : List Tsk} (h : allB L = true) (q : List Ask) {F : List Bool} {n : Nat} (hF : ∀ j, j < n → at_ F j = mayB L (runS L q j) (at_ q j).1 (at_ q j).2) : ∀ k, k ≤ n → ∀ i, i < L.length → at_ (runS L q k) i = lastTo F q i k
  | 0, _, i, hi => by
    rw [runS, at_get (by simpa using hi)]
    simp [lastTo]
  | k + 1, hk, i, hi => by
    have ih := runS_last h q hF k (by omega) i hi
    have hl := (lastsB_iff.1 (runS_valid h q k)).2.1
    rw [runS, lastTo, hF k (by omega)]
    unfold noteL
    by_cases hm : mayB L (runS L q k) (at_ q k).1 (at_ q k).2 = true
    · rw [if_pos hm]
      have ha := argB_iff.1 (Bool.and_eq_true _ _ ▸ hm).1
      by_cases e : (at_ q k).1 = i
      · rw [if_pos ⟨hm, e⟩, e, Int.toNat_natCast, at_set_same _ (by rw [hl]; exact hi)]
      · rw [if_neg (fun x => e x.2), at_set_other _ (by omega), ih]
    · rw [if_neg hm, if_neg (fun x => hm x.1), ih]
/-- what the document's answer says of an ask: the last one of its task is told by the list so far -/
def refB (L : List Tsk) (q : List Ask) (F : List Bool) (n : Nat) : Bool :=
  decide (0 ≤ (at_ q n).1 ∧ (at_ q n).1 < L.length ∧ 0 ≤ (at_ q n).2 ∧ (at_ q n).2 ≤ 4611686018427387703) && !decide (0 ≤ lastTo F q (at_ q n).1 n ∧ (at_ q n).2 - lastTo F q (at_ q n).1 n < (at_ L (at_ q n).1.toNat).2.2.1)
theorem refB_may {L : List Tsk} (h : allB L = true) (q : List Ask) {F : List Bool} {n : Nat} (hF : ∀ j, j < n → at_ F j = mayB L (runS L q j) (at_ q j).1 (at_ q j).2) : refB L q F n = mayB L (runS L q n) (at_ q n).1 (at_ q n).2 := by
  unfold refB mayB argB
  rw [runS_valid h q n, Bool.true_and]
  by_cases hr : 0 ≤ (at_ q n).1 ∧ (at_ q n).1 < L.length ∧ 0 ≤ (at_ q n).2 ∧ (at_ q n).2 ≤ 4611686018427387703
  · have hs := runS_last h q hF n (Nat.le_refl _) (at_ q n).1.toNat (by omega)
    rw [show (((at_ q n).1.toNat : Nat) : Int) = (at_ q n).1 by omega] at hs
    unfold earlyB
    rw [hs]
  · rw [decide_eq_false hr, Bool.false_and, Bool.false_and]
/-- the document's answer, the first n -/
def refF (L : List Tsk) (q : List Ask) : Nat → List Bool
  | 0 => []
  | n + 1 => refF L q n ++ [refB L q (refF L q n) n]
theorem refF_run {L : List Tsk} (h : allB L = true) (q : List Ask) : ∀ n, refF L q n = runF L q n
  | 0 => rfl
  | n + 1 => by
    rw [refF, runF, refF_run h q n, refB_may h q fun j hj => runF_at L q hj]

/-! ### what is permitted is a release pattern -/
/-- the permitted ticks of task i, among the first k asks -/
def rowTo (F : List Bool) (q : List Ask) (i : Nat) : Nat → List Int
  | 0 => []
  | k + 1 => rowTo F q i k ++ (if at_ F k = true ∧ (at_ q k).1 = i then [(at_ q k).2] else [])
theorem rowTo_last {F : List Bool} {q : List Ask} {i : Nat} : ∀ k, lastTo F q i k = if rowTo F q i k = [] then -1 else at_ (rowTo F q i k) ((rowTo F q i k).length - 1)
  | 0 => by simp [lastTo, rowTo]
  | k + 1 => by
    rw [lastTo, rowTo]
    by_cases hc : at_ F k = true ∧ (at_ q k).1 = i
    · rw [if_pos hc, if_pos hc, if_neg (by simp), List.length_append, List.length_singleton, Nat.add_sub_cancel, at_right (Nat.le_refl _), Nat.sub_self]
      rfl
    · rw [if_neg hc, if_neg hc, List.append_nil, rowTo_last k]

theorem rowTo_length (F : List Bool) (q : List Ask) (i : Nat) : ∀ k, (rowTo F q i k).length ≤ k
  | 0 => Nat.le_refl _
  | k + 1 => by
    rw [rowTo, List.length_append]
    have := rowTo_length F q i k
    split <;> simp <;> omega
/-- ticks in their bounds, each at least T behind the one ahead of it -/
def Gap (T : Int) (r : List Int) : Prop := (∀ j, j < r.length → 0 ≤ at_ r j ∧ at_ r j ≤ 4611686018427387703) ∧ ∀ j, 0 < j → j < r.length → at_ r (j - 1) + T ≤ at_ r j
theorem Gap.snoc {T : Int} {r : List Int} {x : Int} (h : Gap T r) (h0 : 0 ≤ x) (h1 : x ≤ 4611686018427387703) (h2 : r ≠ [] → at_ r (r.length - 1) + T ≤ x) : Gap T (r ++ [x]) := by
  refine ⟨fun j hj => ?_, fun j hj0 hj => ?_⟩
  · rw [List.length_append, List.length_singleton] at hj
    by_cases e : j < r.length
    · rw [at_left e]; exact h.1 j e
    · have : j = r.length := by omega
      subst this
      rw [at_right (Nat.le_refl _), Nat.sub_self]
      exact ⟨h0, h1⟩
  · rw [List.length_append, List.length_singleton] at hj
    by_cases e : j < r.length
    · rw [at_left e, at_left (by omega)]; exact h.2 j hj0 e
    · have : j = r.length := by omega
      subst this
      rw [at_right (Nat.le_refl _), Nat.sub_self, at_left (by omega)]
      exact h2 fun e => by rw [e] at hj0; simp at hj0
theorem rows_gap {L : List Tsk} (h : allB L = true) (q : List Ask) {F : List Bool} {n : Nat} (hF : ∀ j, j < n → at_ F j = mayB L (runS L q j) (at_ q j).1 (at_ q j).2) {i : Nat} (hi : i < L.length) : ∀ k, k ≤ n → Gap (at_ L i).2.2.1 (rowTo F q i k)
  | 0, _ => ⟨fun j hj => by simp [rowTo] at hj, fun j _ hj => by simp [rowTo] at hj⟩
  | k + 1, hk => by
    have ih := rows_gap h q hF hi k (by omega)
    rw [rowTo]
    by_cases hc : at_ F k = true ∧ (at_ q k).1 = i
    · rw [if_pos hc]
      have hm : mayB L (runS L q k) (at_ q k).1 (at_ q k).2 = true := by rw [← hF k (by omega)]; exact hc.1
      unfold mayB at hm
      rw [Bool.and_eq_true] at hm
      have ha := argB_iff.1 hm.1
      have he := hm.2
      unfold earlyB at he
      rw [Bool.not_eq_true', decide_eq_false_iff_not, hc.2, Int.toNat_natCast, runS_last h q hF k (by omega) i hi, rowTo_last] at he
      refine ih.snoc ha.2.2.2.1 ha.2.2.2.2 fun hne => ?_
      rw [if_neg hne] at he
      have hl : 0 < (rowTo F q i k).length := by
        cases hr : rowTo F q i k with
        | nil => exact absurd hr hne
        | cons a r => simp
      have := (ih.1 ((rowTo F q i k).length - 1) (by omega)).1
      omega
    · rw [if_neg hc, List.append_nil]
      exact ih
/-- P16.3 -/
theorem rows_legal {L : List Tsk} (h : allB L = true) (q : List Ask) (hq : q.length ≤ 1000) {R : List (List Int)} (hR : R.length = L.length) (hr : ∀ i, i < R.length → at_ R i = rowTo (runF L q q.length) q i q.length) : legalB L R = true := by
  refine legal_iff.2 ⟨h, hR, fun i hi => ?_⟩
  have hg := rows_gap h q (F := runF L q q.length) (n := q.length) (fun j hj => runF_at L q hj) (i := i) (by omega) q.length (Nat.le_refl _)
  rw [hr i hi]
  refine rowB_iff.2 ⟨Nat.le_trans (rowTo_length _ _ _ _) hq, fun k hk => ?_, hg.2⟩
  have := hg.1 k hk
  omega
/-- a permitted ask is of a task that there is -/
theorem may_task {L : List Tsk} {s : List Int} {i t : Int} (h : mayB L s i t = true) : 0 ≤ i ∧ i < L.length := by
  unfold mayB at h
  rw [Bool.and_eq_true] at h
  have := argB_iff.1 h.1
  exact ⟨this.2.1, this.2.2.1⟩

end Pc
end Go.Proofs.Ytfhifmpkdnnpmaa

/-
  Layer 16 (police): the library's IndexFunc, ContainsFunc at ints; Right, early, May.
-/
namespace Go.Proofs.Ytfhifmpkdnnpmaa
open Go.RowKit Mm Tk Dm Go.Shelf
namespace Pc

/-- what is asked of a closure over ints -/
def PredNum (g : Nat) (lb : Array Value) (pb : Int → Bool) (w : World) : Prop := ∀ (W : World) (x : Int), Below w.heap.size w W →
  Calls Try.prog g (#[.int .i64 x] ++ lb) W fun e w' => e = .returned (.bool (pb x)) ∧ Below W.heap.size W w'

set_option maxHeartbeats 800000 in
theorem indexNum (g : Nat) (lb : Array Value) (pb : Int → Bool) (eg : ∀ args w, (callFunc g args).run Try.prog w = .ok (.enter g args) w) (A : Option Addr) (c : Nat) (l : List Int) (w : World) (hbig : l.length ≤ 1000000) (hp : PredNum g lb pb w) (hr : Rd w A c l) :
    Calls Try.prog 31 #[.slice A l.length c, .func (.func g) #[] lb] w (IdxOf w (l.any pb)) := by
  have HR := Lib.hid hr
  have HP := Lib.hid hp
  clear hr hp
  go_enter Try.func31, Try.ntmps31
  go_wp2_with fail
  go_loopw [8] (fun i wr => ∃ k : Nat, i = .int .i64 k ∧ k ≤ l.length ∧ Hid (∀ j, j < k → pb (at_ l j) = false) ∧ Hid (Below w.heap.size w wr)) (fun i _ => l.length - (intOf i).toNat)
  case atStart => exact ⟨0, rfl, Nat.zero_le _, (fun j h => by omega), Below.refl _ _⟩
  case round =>
    obtain ⟨k, rfl, hk, HH, HB⟩ := hrel
    by_cases hlt : k < l.length
    · obtain ⟨b, off, rfl, hc⟩ := (HR.out.below HB.out).int (by omega)
      have x0 := (hc k hlt).1
      have hcall := HP.out wr (at_ l k) HB.out
      clear hc
      cases hb : pb (at_ l k) with
      | true =>
        rw [hb] at hcall
        have HY := Lib.hid (any_take_yes hlt hb)
        clear hb
        generalize at_ l k = x at *
        go_wp2_with (go_at_fn g; refine hcall.mono ?_; rintro e w1 ⟨rfl, b2⟩; have HB2 := Lib.hid (below_step HB.out b2); clear b2 hcall)
        go_ret
        exact ⟨k, rfl, (fun _ => by omega), (fun h => by rw [HY.out] at h; cases h), HB2.out⟩
      | false =>
        rw [hb] at hcall
        have HN := Lib.hid hb
        clear hb
        generalize hx : at_ l k = x at *
        have HX := Lib.hid hx
        clear hx
        go_wp2_with (go_at_fn g; refine hcall.mono ?_; rintro e w1 ⟨rfl, b2⟩; have HB2 := Lib.hid (below_step HB.out b2); clear b2 hcall)
        go_roundw
        case rel =>
          refine ⟨k + 1, by go_num, hlt, fun j hj => ?_, HB2⟩
          by_cases e : j = k
          · subst e; rw [HX.out]; exact HN.out
          · exact HH.out j (by omega)
        case measure => simp [intOf]; omega
    · go_wp2_with fail
      go_ret
      have hn := any_take_no (p := pb) (l := l) fun j hj => HH.out j (by omega)
      exact ⟨-1, rfl, (fun h => by rw [hn] at h; cases h), (fun _ => rfl), HB.out⟩

theorem hasNum (g : Nat) (lb : Array Value) (pb : Int → Bool) (eg : ∀ args w, (callFunc g args).run Try.prog w = .ok (.enter g args) w) (A : Option Addr) (c : Nat) (l : List Int) (w : World) (hbig : l.length ≤ 1000000) (hp : PredNum g lb pb w) (hr : Rd w A c l) :
    Calls Try.prog 20 #[.slice A l.length c, .func (.func g) #[] lb] w fun e w' => e = .returned (.bool (l.any pb)) ∧ Below w.heap.size w w' := by
  have HR := Lib.hid hr
  have HP := Lib.hid hp
  clear hr hp
  go_enter Try.func20, Try.ntmps20
  go_wp2_with fail
  refine (indexNum g lb pb eg A c l _ hbig HP.out HR.out).mono ?_
  rintro e w1 ⟨n, rfl, h1, h2, b1⟩
  have B1 := Lib.hid b1
  have H1 := Lib.hid h1
  have H2 := Lib.hid h2
  clear b1 h1 h2
  cases ha : l.any pb with
  | true =>
    have h := H1.out ha
    have HA := Lib.hid ha
    clear ha
    go_wp2_with fail
    go_ret
    exact ⟨ret_bool (by rw [HA.out]), B1.out⟩
  | false =>
    have h := H2.out ha
    subst h
    have HA := Lib.hid ha
    clear ha
    go_wp2_with fail
    go_ret
    exact ⟨ret_bool (by rw [HA.out]), B1.out⟩

theorem last_closure (w : World) : PredNum 21 #[] (fun x => !lastB x) w := fun W x _ => by
  show Calls Try.prog 21 #[.int .i64 x] W _
  by_cases h1 : x < -1
  · have HQ : Hid (lastB x = false) := decide_eq_false (by omega)
    go_enter Try.func21, Try.ntmps21
    go_wp2_with fail
    go_ret
    exact ⟨ret_bool (by rw [HQ.out]; rfl), Below.refl _ _⟩
  · by_cases h2 : 4611686018427387903 < x
    · have HQ : Hid (lastB x = false) := decide_eq_false (by omega)
      go_enter Try.func21, Try.ntmps21
      go_wp2_with fail
      go_ret
      exact ⟨ret_bool (by rw [HQ.out]; rfl), Below.refl _ _⟩
    · have HQ : Hid (lastB x = true) := decide_eq_true (by omega)
      go_enter Try.func21, Try.ntmps21
      go_wp2_with fail
      go_ret
      exact ⟨ret_bool (by rw [HQ.out]; rfl), Below.refl _ _⟩
theorem lastEnters : ∀ args w, (callFunc 21 args).run Try.prog w = .ok (.enter 21 args) w := enters_of Try.func21 (by kernel_rfl) rfl
theorem any_last (s : List Int) : s.any (fun x => !lastB x) = !s.all lastB := by
  induction s with
  | nil => rfl
  | cons x l ih => simp [ih]

set_option maxHeartbeats 800000 in
theorem right_any (A : Option Addr) (c : Nat) (L : List Tsk) (A2 : Option Addr) (c2 : Nat) (s : List Int) (w : World) (H : TL w A c L) (H2 : IL w A2 c2 s) :
    Calls Try.prog 11 #[.slice A L.length c, .slice A2 s.length c2] w fun e w' => e = .returned (.bool (lastsB L s)) ∧ Below w.heap.size w w' := by
  have hb1 := H.1
  have hb2 := H2.1
  have HT := Lib.hid H
  have HL := Lib.hid H2
  clear H H2
  cases ha : allB L with
  | false =>
    have HF : Hid (lastsB L s = false) := by show _ = _; simp [lastsB, ha]
    go_enter Try.func11, Try.ntmps11
    go_wp2_with fail
    refine (all_any A c L _ hb1 HT.out.2.1 HT.out.2.2).mono ?_
    rintro e w1 ⟨rfl, b1⟩
    rw [ha]
    go_wp2_with fail
    go_ret
    exact ⟨ret_bool HF.out.symm, b1⟩
  | true =>
    by_cases hn : s.length = L.length
    · have HF : Hid (lastsB L s = !(s.any fun x => !lastB x)) := by show _ = _; rw [any_last]; simp [lastsB, ha, hn]
      have hn1 : ((s.length : Int) == (L.length : Int)) = true := by simp [hn]
      have hn2 : ((s.length : Int) != (L.length : Int)) = false := by simp [hn]
      have HN := Lib.hid hn
      clear hn
      go_enter Try.func11, Try.ntmps11
      go_wp2_with fail
      refine (all_any A c L _ hb1 HT.out.2.1 HT.out.2.2).mono ?_
      rintro e w1 ⟨rfl, b1⟩
      rw [ha]
      replace HL := Lib.hid (HL.out.below b1)
      have B1 := Lib.hid b1
      clear b1
      clear ha
      go_wp2_with fail
      refine (hasNum _ _ _ lastEnters A2 c2 s _ hb2 (last_closure _) HL.out.2).mono ?_
      rintro e w2 ⟨rfl, b2⟩
      have B2 := Lib.hid (below_step B1.out b2)
      clear b2
      go_wp2_with fail
      go_ret
      exact ⟨ret_bool HF.out.symm, B2.out⟩
    · have HF : Hid (lastsB L s = false) := by show _ = _; simp [lastsB, hn]
      have hn1 : ((s.length : Int) == (L.length : Int)) = false := by simp; omega
      have hn2 : ((s.length : Int) != (L.length : Int)) = true := by simp; omega
      have HN := Lib.hid hn
      clear hn
      go_enter Try.func11, Try.ntmps11
      go_wp2_with fail
      refine (all_any A c L _ hb1 HT.out.2.1 HT.out.2.2).mono ?_
      rintro e w1 ⟨rfl, b1⟩
      rw [ha]
      go_wp2_with fail
      go_ret
      exact ⟨ret_bool HF.out.symm, b1⟩

theorem early_any (x T t : Int) (v : Bool) (hv : decide (0 ≤ x ∧ t - x < T) = v) (w : World) (h1 : -1 ≤ x ∧ x ≤ 4611686018427387903) (h2 : 1 ≤ T ∧ T ≤ 200) (_h3 : 0 ≤ t ∧ t ≤ 4611686018427387703) :
    Calls Try.prog 22 #[.int .i64 x, .int .i64 T, .int .i64 t] w fun e w' => e = .returned (.bool v) ∧ Below w.heap.size w w' := by
  by_cases hx : x = -1
  · subst hx
    have HV : Hid (v = false) := by show _ = _; rw [← hv]; exact decide_eq_false (by omega)
    clear hv
    go_enter Try.func22, Try.ntmps22
    go_wp2_with fail
    go_ret
    exact ⟨ret_bool HV.out.symm, Below.refl _ _⟩
  · have e1 : IntKind.i64.wrap (x + T) = x + T := IntWalk.i64_in _ (by omega)
    by_cases hg : t < x + T
    · have HV : Hid (v = true) := by show _ = _; rw [← hv]; exact decide_eq_true (by omega)
      clear hv
      go_enter Try.func22, Try.ntmps22
      go_wp2_with fail
      go_ret
      exact ⟨ret_bool (by rw [HV.out]; simp [hx]), Below.refl _ _⟩
    · have HV : Hid (v = false) := by show _ = _; rw [← hv]; exact decide_eq_false (by omega)
      clear hv
      go_enter Try.func22, Try.ntmps22
      go_wp2_with fail
      go_ret
      exact ⟨ret_bool HV.out.symm, Below.refl _ _⟩

theorem may_arg {L : List Tsk} {s : List Int} {i t : Int} (h : lastsB L s = false ∨ i < 0 ∨ (L.length : Int) ≤ i ∨ t < 0 ∨ 4611686018427387703 < t) : mayE L s i t = 1 := by
  unfold mayE
  rw [if_neg]
  rw [argB_iff]
  rintro ⟨h1, h2⟩
  rcases h with h | h
  · rw [h1] at h; cases h
  · omega
theorem may_in {L : List Tsk} {s : List Int} {i t : Int} (h1 : lastsB L s = true) (h2 : 0 ≤ i ∧ i < L.length ∧ 0 ≤ t ∧ t ≤ 4611686018427387703) : mayE L s i t = if decide (0 ≤ at_ s i.toNat ∧ t - at_ s i.toNat < (at_ L i.toNat).2.2.1) then 6 else 0 := by
  unfold mayE
  rw [if_pos (argB_iff.2 ⟨h1, h2⟩)]
  rfl

set_option maxRecDepth 20000 in
set_option maxHeartbeats 1600000 in
theorem may_any (A : Option Addr) (c : Nat) (L : List Tsk) (A2 : Option Addr) (c2 : Nat) (s : List Int) (i t : Int) (w : World) (H : TL w A c L) (H2 : IL w A2 c2 s) :
    Calls Try.prog 13 #[.slice A L.length c, .slice A2 s.length c2, .int .i64 i, .int .i64 t] w fun e w' => e = .returned (.int .i64 (mayE L s i t)) ∧ Below w.heap.size w w' := by
  have HT := Lib.hid H
  have HL := Lib.hid H2
  clear H H2
  cases hs : lastsB L s with
  | false =>
    have HF := Lib.hid (may_arg (L := L) (s := s) (i := i) (t := t) (.inl hs))
    go_enter Try.func13, Try.ntmps13
    go_wp2_with fail
    refine (right_any A c L A2 c2 s _ HT.out HL.out).mono ?_
    rintro e w1 ⟨rfl, b1⟩
    rw [hs]
    go_wp2_with fail
    go_ret
    exact ⟨ret_int HF.out.symm, b1⟩
  | true =>
    by_cases h1 : i < 0
    · skip
      have HF := Lib.hid (may_arg (L := L) (s := s) (i := i) (t := t) (.inr (.inl h1)))
      go_enter Try.func13, Try.ntmps13
      go_wp2_with fail
      refine (right_any A c L A2 c2 s _ HT.out HL.out).mono ?_
      rintro e w1 ⟨rfl, b1⟩
      rw [hs]
      go_wp2_with fail
      go_ret
      exact ⟨ret_int HF.out.symm, b1⟩
    · by_cases h2 : i < L.length
      · by_cases h3 : t < 0
        · skip
          have HF := Lib.hid (may_arg (L := L) (s := s) (i := i) (t := t) (.inr (.inr (.inr (.inl h3)))))
          go_enter Try.func13, Try.ntmps13
          go_wp2_with fail
          refine (right_any A c L A2 c2 s _ HT.out HL.out).mono ?_
          rintro e w1 ⟨rfl, b1⟩
          rw [hs]
          go_wp2_with fail
          go_ret
          exact ⟨ret_int HF.out.symm, b1⟩
        · by_cases h4 : t ≤ 4611686018427387703
          · have HF := Lib.hid (may_in (t := t) hs (i := i) (by omega))
            obtain ⟨ha, hn, hx⟩ := lastsB_iff.1 hs
            obtain ⟨k, rfl⟩ : ∃ k : Nat, i = k := ⟨i.toNat, by omega⟩
            rw [Int.toNat_natCast] at HF
            have hkL : k < L.length := by omega
            have hks : k < s.length := by omega
            have hx := hx k hks
            have hT := task_times ha hkL
            have i1 : (0 : Int) ≤ (k : Int) := by omega
            have i2 : (k : Int) < (s.length : Int) := by omega
            have i4 : ¬ (k : Int) < 0 := by omega
            have HQ := fun v hv W => early_any (at_ s k) (at_ L k).2.2.1 t v hv W hx ⟨by omega, by omega⟩ (by omega)
            have HHT : Hid _ := Lib.hid HT.out.2.2
            have HA := Lib.hid ha
            have HN := Lib.hid hn
            clear ha hn
            go_enter Try.func13, Try.ntmps13
            go_wp2_with fail
            refine (right_any A c L A2 c2 s _ HT.out HL.out).mono ?_
            rintro e w1 ⟨rfl, b1⟩
            rw [hs]
            obtain ⟨b, off, rfl, hc⟩ := task_at (HHT.out.below b1) (by omega)
            obtain ⟨B, d, x1, x2, x3, x4, _, _, _, _⟩ := hc k hkL
            obtain ⟨b3, off3, rfl, hc3⟩ := (HL.out.below b1).2.int (by omega)
            obtain ⟨y1, _⟩ := hc3 k hks
            have B1 := Lib.hid b1
            have HS := Lib.hid hs
            have HT := Lib.hid hT
            have HX := Lib.hid hx
            clear b1 hs hT hx
            clear hc hc3 x1 x2 x4
            generalize at_ L k = x at *
            generalize at_ s k = y at *
            cases he : decide (0 ≤ y ∧ t - y < x.2.2.1) with
            | true =>
              have HC : Hid (mayE L s k t = 6) := by show _ = _; rw [HF.out, he]; rfl
              have HE := HQ _ he
              clear he HQ HF
              go_wp2_with fail
              replace x3 := cell_bw x3
              replace y1 := cell_bw y1
              refine wp_region_bw (by kernel_rfl) (by kernel_rfl) ?_
              repeat
                (with_reducible refine wpQuiet_step (fun K hK => ?_)
                 go_simp
                 first
                   | (with_reducible refine hK _ ?_
                      clear hK K)
                   | (rw [if_neg]
                      rotate_left
                      focus (intro h; cases h; done)
                      with_reducible refine hK _ ?_
                      clear hK K)
                   | (apply Exists.intro
                      refine ⟨fun _ => ?_, hK _ ?_⟩
                      (exact Calls.bw (HE _))
                      clear hK K))
              with_reducible refine wpQuiet_nil ?_
              intro wb hw'
              obtain ⟨⟨wb', lb⟩, hw''⟩ := hw'
              subst hw''
              have B3 := Lib.hid (below_step B1.out lb)
              clear lb
              go_wp2_with fail
              go_ret
              exact ⟨ret_int HC.out.symm, B3.out⟩
            | false =>
              have HC : Hid (mayE L s k t = 0) := by show _ = _; rw [HF.out, he]; rfl
              have HE := HQ _ he
              clear he HQ HF
              go_wp2_with fail
              replace x3 := cell_bw x3
              replace y1 := cell_bw y1
              refine wp_region_bw (by kernel_rfl) (by kernel_rfl) ?_
              repeat
                (with_reducible refine wpQuiet_step (fun K hK => ?_)
                 go_simp
                 first
                   | (with_reducible refine hK _ ?_
                      clear hK K)
                   | (rw [if_neg]
                      rotate_left
                      focus (intro h; cases h; done)
                      with_reducible refine hK _ ?_
                      clear hK K)
                   | (apply Exists.intro
                      refine ⟨fun _ => ?_, hK _ ?_⟩
                      (exact Calls.bw (HE _))
                      clear hK K))
              with_reducible refine wpQuiet_nil ?_
              intro wb hw'
              obtain ⟨⟨wb', lb⟩, hw''⟩ := hw'
              subst hw''
              have B3 := Lib.hid (below_step B1.out lb)
              clear lb
              go_wp2_with fail
              go_ret
              exact ⟨ret_int HC.out.symm, B3.out⟩
          · skip
            have HF := Lib.hid (may_arg (L := L) (s := s) (i := i) (t := t) (.inr (.inr (.inr (.inr (by omega))))))
            go_enter Try.func13, Try.ntmps13
            go_wp2_with fail
            refine (right_any A c L A2 c2 s _ HT.out HL.out).mono ?_
            rintro e w1 ⟨rfl, b1⟩
            rw [hs]
            go_wp2_with fail
            go_ret
            exact ⟨ret_int HF.out.symm, b1⟩
      · skip
        have HF := Lib.hid (may_arg (L := L) (s := s) (i := i) (t := t) (.inr (.inr (.inl (by omega)))))
        go_enter Try.func13, Try.ntmps13
        go_wp2_with fail
        refine (right_any A c L A2 c2 s _ HT.out HL.out).mono ?_
        rintro e w1 ⟨rfl, b1⟩
        rw [hs]
        go_wp2_with fail
        go_ret
        exact ⟨ret_int HF.out.symm, b1⟩

end Pc
end Go.Proofs.Ytfhifmpkdnnpmaa

/-
  Layer 16 (police): asks in memory; ints of the call's own that may be written; bools that 'make' lays down; tasks as an argument, within the blocks below a bound.
-/
namespace Go.Proofs.Ytfhifmpkdnnpmaa
open Go.RowKit Mm Tk
namespace Pc

theorem rd_ask {w : World} {S : Nat → Prop} {vs : List Value} {x : Ask} : Dat.rd w S vs x ↔ vs = [.int .i64 x.1, .int .i64 x.2] ∧ Fit x.1 ∧ Fit x.2 := by
  constructor
  · rintro ⟨v, r, rfl, ⟨rfl, h1⟩, ⟨rfl, h2⟩⟩
    exact ⟨rfl, h1, h2⟩
  · rintro ⟨rfl, h1, h2⟩
    exact ⟨[.int .i64 x.1], [.int .i64 x.2], rfl, ⟨rfl, h1⟩, ⟨rfl, h2⟩⟩
theorem ask_at {w : World} {S : Nat → Prop} {A : Option Addr} {c : Nat} {q : List Ask} (h : RdS w S A c q) (h0 : 0 < q.length) : ∃ b off, A = some ⟨b, off, none⟩ ∧ ∀ j, j < q.length →
    w.cell? ⟨b, off + j * 2, none⟩ = some (.int .i64 (at_ q j).1) ∧ w.cell? ⟨b, off + j * 2 + 1, none⟩ = some (.int .i64 (at_ q j).2) ∧ Fit (at_ q j).1 ∧ Fit (at_ q j).2 := by
  obtain ⟨b, off, e, hc⟩ := h.cells h0
  refine ⟨b, off, e, fun j hj => ?_⟩
  obtain ⟨vs, h1, h2⟩ := hc j hj
  obtain ⟨rfl, f1, f2⟩ := rd_ask.1 h1
  exact ⟨h2 0 _ rfl, h2 1 _ rfl, f1, f2⟩
/-- a list of asks, as an argument -/
def QL (w : World) (A : Option Addr) (c : Nat) (q : List Ask) : Prop := q.length ≤ 1000000 ∧ Rd w A c q
theorem QL.below {w w' : World} {A : Option Addr} {c : Nat} {q : List Ask} (H : QL w A c q) (b : Below w.heap.size w w') : QL w' A c q := ⟨H.1, H.2.below b⟩
theorem QL.bw {w : World} {A : Option Addr} {c : Nat} {q : List Ask} (H : QL w A c q) (p : BW w) : QL p.to A c q := H.below p.low
theorem rows_ask {w : World} {S : Nat → Prop} {r : List Value} {q : List Ask} (x y : Int) (h1 : Fit x) (h2 : Fit y) (h : Mm.Rows w S r q) : Mm.Rows w S (.int .i64 x :: .int .i64 y :: r) ((x, y) :: q) :=
  ⟨[.int .i64 x, .int .i64 y], r, rfl, rd_ask.2 ⟨rfl, h1, h2⟩, h⟩
theorem ask_new (w : World) (x y : Int) (t : TypeId) : (w.alloc (.cells #[.int .i64 x, .int .i64 y] t)).cell? ⟨w.heap.size, 0, none⟩ = some (.int .i64 x) ∧ (w.alloc (.cells #[.int .i64 x, .int .i64 y] t)).cell? ⟨w.heap.size, 1, none⟩ = some (.int .i64 y) := by
  constructor <;> simp

section
variable {w w' : World} {base g c : Nat} {e : TypeId}
/-- ints of the call's own: no cell is frozen; a cell; a cell written -/
theorem own_free {α : Type} [Inhabited α] [Dat α] {l : List α} (h : Ow w base e (some ⟨g, 0, none⟩) c l) (o : Nat) : w.frozen? ⟨g, o, none⟩ = false := by
  obtain ⟨cs, h1, _⟩ := h
  exact World.ownsRow.frozenAt h1 o
theorem own_int {l : List Int} (h : Ow w base e (some ⟨g, 0, none⟩) c l) {j : Nat} (hj : j < l.length) : w.cell? ⟨g, j, none⟩ = some (.int .i64 (at_ l j)) := by
  obtain ⟨b, off, e, hc⟩ := (Ow.rd h).int (by omega)
  injection e with e
  injection e with e1 e2
  subst e1
  subst e2
  have := (hc j hj).1
  rwa [Nat.zero_add] at this
theorem own_put {l : List Int} (h : Ow w base e (some ⟨g, 0, none⟩) c l) {j : Nat} (hj : j < l.length) {x : Int} (hx : Fit x) : Ow (w.setCell ⟨g, j, none⟩ (.int .i64 x)) base e (some ⟨g, 0, none⟩) c (l.set j x) ∧ w.grownBy (w.setCell ⟨g, j, none⟩ (.int .i64 x)) (some g) := by
  have := OwS.put h (fun h => h) j 0 (.int .i64 x) x hj (by decide) (fun vs hv => by
    obtain ⟨rfl, _⟩ := hv
    exact ⟨rfl, hx⟩)
  rwa [show j * Dat.k Int + 0 = j from Nat.mul_one j] at this
end

theorem infoFlag : (Try.prog.info? 4).map (fun i => (i.zero, i.size, i.bytes)) = some (some (.bool false), 1, 1) := by kernel_rfl
/-- what 'make' of n bools lays down -/
theorem mk_flags (n : Nat) (hbig : n ≤ 1000000) (w : World) : (Instr.makeSlice 34 (.int .i64 (n : Int)) (.int .i64 (n : Int))).run Try.prog w = .ok (.slice (some ⟨w.heap.size, 0, none⟩) n n) (w.alloc (.cells (madeCells #[.bool false] n) 4)) := by
  have h0 := infoFlag
  obtain ⟨i, hi, hh⟩ := Option.map_eq_some_iff.1 h0
  simp only [Prod.mk.injEq] at hh
  have hr := run_make (P := Try.prog) w 34 4 i (.bool false) Try.underlying34 hi hh.1 .i64 .i64 n n (by omega) (Int.le_refl _) (by rw [hh.2.2]; omega) (by omega)
  simp only [Int.toNat_natCast, hh.2.1, Nat.mul_one] at hr
  exact hr
theorem list_flags {w : World} {ops : Array Oper} {rest : List Oper} {o : Oper} {a : Act} {Q : Exit → Act → World → Prop} (hg : o.guard = none) (s x : Operand) (ho : o.op = .makeSlice 34 s x)
    (n : Nat) (h1 : a.eval s = .int .i64 (n : Int)) (h2 : a.eval x = .int .i64 (n : Int)) (hbig : n ≤ 1000000)
    (hK : wpList Try.prog ops Q rest (a.put o.dst (.slice (some ⟨w.heap.size, 0, none⟩) n n)) (w.alloc (.cells (madeCells #[.bool false] n) 4))) :
    wpList Try.prog ops Q (o :: rest) a w :=
  wpList_plain hg fun _ hK' => wp_mk_run s x _ ho _ _ _ _ h1 h2 (mk_flags n hbig w) (hK' _ _ hK)
/-- block T holds n bools, and may be written -/
structure Tf (w : World) (T n : Nat) (f : Nat → Bool) : Prop where
  c : ∀ j, j < n → w.cell? ⟨T, j, none⟩ = some (.bool (f j))
  z : ∀ j, w.frozen? ⟨T, j, none⟩ = false
  lt : T < w.heap.size
theorem tf_new (n : Nat) (w : World) (e : TypeId) : Tf (w.alloc (.cells (madeCells #[.bool false] n) e)) w.heap.size n (fun _ => false) :=
  ⟨fun j hj => by
    rw [World.cell?_alloc_new]
    have : (madeCells #[Value.bool false] n)[j]? = some (.bool false) := by
      unfold madeCells
      rw [Array.getElem?_map, Array.getElem?_range, if_pos hj]
      simp [Nat.mod_one]
    exact this, fun j => by simp, by simp⟩
theorem Tf.keep {w w' : World} {T n : Nat} {f : Nat → Bool} (h : Tf w T n f) (e : w'.heap[T]? = w.heap[T]?) (hs : w.heap.size ≤ w'.heap.size) : Tf w' T n f :=
  ⟨fun j hj => (World.cell?_of_block (w := w) e).trans (h.c j hj), fun j => (by rw [World.frozen?_of_block (w := w) e]; exact h.z j), Nat.lt_of_lt_of_le h.lt hs⟩
theorem Tf.below {w w' : World} {T n : Nat} {f : Nat → Bool} (h : Tf w T n f) (b : Below w.heap.size w w') : Tf w' T n f := h.keep (b.block T h.lt) b.size
theorem Tf.gb {w w' : World} {T n : Nat} {f : Nat → Bool} {row : Option Nat} (h : Tf w T n f) (hg : w.grownBy w' row) (hne : some T ≠ row) : Tf w' T n f := h.keep (hg.block T h.lt hne) hg.size
theorem Tf.put {w : World} {T n : Nat} {f : Nat → Bool} (h : Tf w T n f) (k : Nat) (x : Bool) : Tf (w.setCell ⟨T, k, none⟩ (.bool x)) T n (fun j => if j = k then x else f j) :=
  ⟨fun j hj => by
    by_cases e : j = k
    · subst e
      rw [if_pos rfl]
      exact World.cell?_setCell_same _ _ _ (h.c j hj)
    · rw [if_neg e]
      exact (World.cell?_setCell_other _ _ _ _ (fun e' => e (by injection e' with _ e'; exact e'.symm))).trans (h.c j hj),
   fun j => by rw [World.frozen?_setCell]; exact h.z j, by simp [World.setCell]; exact h.lt⟩
theorem Tf.same {w : World} {T n : Nat} {f f' : Nat → Bool} (h : Tf w T n f) (e : ∀ j, j < n → f' j = f j) : Tf w T n f' := ⟨fun j hj => by rw [e j hj]; exact h.c j hj, h.z, h.lt⟩
theorem Tf.rd {w : World} {T n : Nat} {f : Nat → Bool} {l : List Bool} (h : Tf w T n f) (hl : l.length = n) (hn : n ≤ 1000000) (he : ∀ j, j < n → at_ l j = f j) : Rd w (some ⟨T, 0, none⟩) n l :=
  ⟨fun e => (by cases e), ⟨by omega, by unfold maxLen; omega⟩, fun _ => ⟨T, 0, rfl, trivial, fun j hj => ⟨[.bool (at_ l j)], rfl, fun i v hv => by
    match i, hv with
    | 0, hv =>
      simp at hv
      subst hv
      rw [he j (by omega)]
      have := h.c j (by omega)
      simpa [Dat.k] using this
    | i + 1, hv => simp at hv⟩⟩⟩
theorem Ti.gb {w w' : World} {T n : Nat} {f : Nat → Int} {row : Option Nat} (h : Ti w T n f) (hg : w.grownBy w' row) (hne : some T ≠ row) : Ti w' T n f := h.keep (hg.block T h.lt hne) hg.size

end Pc
end Go.Proofs.Ytfhifmpkdnnpmaa

/-
  Layer 16 (police): Note.
-/
namespace Go.Proofs.Ytfhifmpkdnnpmaa
open Go.RowKit Mm Tk
namespace Pc

/-- the answer of Note -/
def NoteOf (L : List Tsk) (s : List Int) (i t : Int) (w : World) (e : Ending) (w' : World) : Prop :=
  ∃ A' c', e = .returned (.tuple #[.slice A' s.length c', .int .i64 (mayE L s i t)]) ∧ Rd w' A' c' (noteL L s i t) ∧ Below w.heap.size w w'
theorem may_v (A : Option Addr) (c : Nat) (L : List Tsk) (A2 : Option Addr) (c2 : Nat) (s : List Int) (i t : Int) (m n : Nat) (hm : L.length = m) (hn : s.length = n) (v : Int) (hv : mayE L s i t = v) (w : World) (H : TL w A c L) (H2 : IL w A2 c2 s) :
    Calls Try.prog 13 #[.slice A m c, .slice A2 n c2, .int .i64 i, .int .i64 t] w fun e w' => e = .returned (.int .i64 v) ∧ Below w.heap.size w w' := by
  subst hm
  subst hn
  subst hv
  exact may_any A c L A2 c2 s i t w H H2
theorem may_not {L : List Tsk} {s : List Int} {i t : Int} (h : mayB L s i t = false) : mayE L s i t = 1 ∨ mayE L s i t = 6 := by
  unfold mayE
  unfold mayB at h
  cases ha : argB L s i t with
  | false => left; rfl
  | true =>
    rw [ha] at h
    cases he : earlyB L s i t with
    | false => rw [he] at h; cases h
    | true => right; rfl

set_option maxHeartbeats 1600000 in
theorem note_any (A : Option Addr) (c : Nat) (L : List Tsk) (A2 : Option Addr) (c2 : Nat) (s : List Int) (i t : Int) (w : World) (H : TL w A c L) (H2 : IL w A2 c2 s) :
    Calls Try.prog 10 #[.slice A L.length c, .slice A2 s.length c2, .int .i64 i, .int .i64 t] w (NoteOf L s i t w) := by
  have hb2 := H2.1
  have HT := Lib.hid H
  have HL := Lib.hid H2
  clear H H2
  obtain ⟨n, hn⟩ : ∃ n, s.length = n := ⟨_, rfl⟩
  obtain ⟨m, hm⟩ : ∃ m, L.length = m := ⟨_, rfl⟩
  have HC := Lib.hid (fun v hv W => may_v A c L A2 c2 s i t m n hm hn v hv W)
  have HX : Hid (∀ A' c' w', Rd w' A' c' (noteL L s i t) → Below w.heap.size w w' → NoteOf L s i t w (.returned (.tuple #[.slice A' n c', .int .i64 (mayE L s i t)])) w') := fun A' c' w' h1 h2 => ⟨A', c', by rw [hn], h1, h2⟩
  have HN := Lib.hid hn
  have HR := Lib.hid (HL.out.2)
  rw [hn] at hb2
  rw [hn, hm]
  clear hn
  go_enter Try.func10, Try.ntmps10
  go_wp2_with (at_builtin
               refine list_app_n slI rfl _ _ rfl (base := w.heap.size) (l := ([] : List Int)) (r := s) (n := 0) (m := n) rfl HN.out rfl rfl (ow_none _ _ _) HR.out (by omega) (Nat.le_refl _) ?_
               intro A1 c1 w1 k1 k2 k3
               have O1 := Lib.hid k1
               have B1 := Lib.hid k2
               clear k1 k2 k3)
  rw [List.nil_append] at O1
  have HT1 := Lib.hid (HT.out.below B1.out)
  have HL1 := Lib.hid (HL.out.below B1.out)
  cases hb : mayB L s i t with
  | false =>
    have HQ : Hid (noteL L s i t = s) := by show _ = _; unfold noteL; rw [hb]; rfl
    have h16 := may_not hb
    clear hb
    generalize hv : mayE L s i t = v at *
    have hcall := HC.out v rfl w1 HT1.out HL1.out
    refine hcall.mono ?_
    rintro e w2 ⟨rfl, b2⟩
    have HF := Lib.hid (HX.out A1 c1 w2 (by rw [HQ.out]; exact Rd.below O1.out.rd b2) (below_step B1.out b2))
    clear b2 hcall
    rcases h16 with rfl | rfl
    all_goals
      go_wp2_with fail
      go_ret2
      exact HF.out
  | true =>
    have h0 := may_zero.2 hb
    obtain ⟨h1, h2, h3, h4, h5⟩ := argB_iff.1 (Bool.and_eq_true _ _ ▸ hb).1
    obtain ⟨_, h6, _⟩ := lastsB_iff.1 h1
    have HQ : Hid (noteL L s i t = s.set i.toNat t) := by show _ = _; unfold noteL; rw [hb]; rfl
    have hcall := HC.out 0 h0 w1 HT1.out HL1.out
    rw [h0] at HX
    refine hcall.mono ?_
    rintro e w2 ⟨rfl, b2⟩
    obtain ⟨k, rfl⟩ : ∃ k : Nat, i = k := ⟨i.toNat, by omega⟩
    rw [Int.toNat_natCast] at HQ
    have hk : k < n := by have := HN.out; omega
    have O2 := Lib.hid (Ow.below O1.out b2 (Nat.le_refl _))
    obtain ⟨g, rfl, hg1, hg2, _⟩ := O2.out.form (by rw [HN.out]; omega)
    have x0 := own_int O2.out (j := k) (by rw [HN.out]; exact hk)
    have x1 := own_free O2.out k
    obtain ⟨p1, p2⟩ := own_put O2.out (j := k) (by rw [HN.out]; exact hk) (x := t) ⟨by omega, by omega⟩
    have HF := Lib.hid (HX.out _ c1 _ (by rw [HQ.out]; exact p1.rd) (below_of_gb (below_step B1.out b2) p2 (by have := (below_step B1.out b2).size; exact this) (fun k hk => by injection hk with hk; omega)))
    have i1 : (0 : Int) ≤ (k : Int) := by omega
    have i2 : (k : Int) < (n : Int) := by omega
    clear p1 p2 hcall b2 h0 h1 hb
    generalize at_ s k = y at *
    go_wp2_with fail
    go_ret2
    exact HF.out

end Pc
end Go.Proofs.Ytfhifmpkdnnpmaa

/-
  Layer 16 (police): the method permit of a record.
-/
namespace Go.Proofs.Ytfhifmpkdnnpmaa
open Go.RowKit Mm Tk
namespace Pc

/-- block R holds a record: tasks, and last releases, that lie in block T -/
structure Rec (w : World) (R T : Nat) (A : Option Addr) (c n : Nat) (s : List Int) : Prop where
  c0 : w.cell? ⟨R, 0, none⟩ = some (.slice A n c)
  c1 : w.cell? ⟨R, 1, none⟩ = some (.slice (some ⟨T, 0, none⟩) n n)
  t : Ti w T n (at_ s)
theorem Rec.below {w w' : World} {R T : Nat} {A : Option Addr} {c n : Nat} {s : List Int} (h : Rec w R T A c n s) (b : Below w.heap.size w w') : Rec w' R T A c n s := ⟨cell_below b h.c0, cell_below b h.c1, h.t.below b⟩
theorem Rec.gb {w w' : World} {R T : Nat} {A : Option Addr} {c n : Nat} {s : List Int} {row : Option Nat} (h : Rec w R T A c n s) (hg : w.grownBy w' row) (h1 : some R ≠ row) (h2 : some T ≠ row) : Rec w' R T A c n s := ⟨gb_cell hg h.c0 h1, gb_cell hg h.c1 h1, Ti.gb h.t hg h2⟩
theorem Rec.il {w : World} {R T : Nat} {A : Option Addr} {c n : Nat} {L : List Tsk} {s : List Int} (h : Rec w R T A c n s) (hn : s.length = n) (hs : lastsB L s = true) (hb : n ≤ 1000000) : IL w (some ⟨T, 0, none⟩) n s :=
  ⟨by omega, h.t.rd hn hb (fun _ _ => rfl) fun j hj => by
    have := (lastsB_iff.1 hs).2.2 j (by omega)
    exact ⟨by omega, by omega⟩⟩
theorem Rec.put {w : World} {R T : Nat} {A : Option Addr} {c n : Nat} {s : List Int} (h : Rec w R T A c n s) (hne : R ≠ T) (hn : s.length = n) {k : Nat} (hk : k < n) (x : Int) : Rec (w.setCell ⟨T, k, none⟩ (.int .i64 x)) R T A c n (s.set k x) :=
  ⟨(World.cell?_of_block (w := w) (Below.heap_setCell w ⟨T, k, none⟩ _ R hne)).trans h.c0, (World.cell?_of_block (w := w) (Below.heap_setCell w ⟨T, k, none⟩ _ R hne)).trans h.c1, (h.t.put k x).same fun j hj => by
    by_cases e : j = k
    · subst e; rw [if_pos rfl, at_set_same _ (by omega)]
    · rw [if_neg e, at_set_other _ e]⟩
theorem gb_put (w : World) (T k : Nat) (v : Value) : w.grownBy (w.setCell ⟨T, k, none⟩ v) (some T) :=
  ⟨rfl, rfl, rfl, by simp [World.setCell], fun b _ hb => Below.heap_setCell w ⟨T, k, none⟩ v b (fun e => hb (by rw [e]))⟩

/-- what permit leaves -/
def PermitOf (L : List Tsk) (s : List Int) (a t : Int) (R T : Nat) (A : Option Addr) (c n : Nat) (w : World) (e : Ending) (w' : World) : Prop :=
  e = .returned (.bool (mayB L s a t)) ∧ Rec w' R T A c n (noteL L s a t) ∧ w.grownBy w' (some T)

set_option maxRecDepth 20000 in
set_option maxHeartbeats 1600000 in
theorem permit_any (A : Option Addr) (c : Nat) (L : List Tsk) (n : Nat) (hn : L.length = n) (s : List Int) (hs : lastsB L s = true) (R T : Nat) (hne : R ≠ T) (a t : Int) (w : World) (hbig : n ≤ 1000000) (H : TL w A c L) (HR : Rec w R T A c n s) :
    Calls Try.prog 25 #[.pointer (some ⟨R, 0, none⟩), .agg #[.int .i64 a, .int .i64 t]] w (PermitOf L s a t R T A c n w) := by
  have hsl : s.length = n := by rw [(lastsB_iff.1 hs).2.1]; exact hn
  obtain ⟨z0, z1⟩ := ask_new w a t 42
  have B0 := Lib.hid (below_one w (Obj.cells #[.int .i64 a, .int .i64 t] 42))
  have HR0 := Lib.hid (HR.below B0.out)
  have HT0 := Lib.hid (H.below B0.out)
  have HRW := Lib.hid HR
  have HSZ : Hid (w.heap.size ≠ R ∧ w.heap.size ≠ T) := ⟨fun e => by have := lt_of_cell HR.c0; simp only at this; omega, fun e => by have := HR.t.lt; omega⟩
  clear H HR
  obtain ⟨X, hX⟩ : ∃ X, w.heap.size = X := ⟨_, rfl⟩
  have HX := Lib.hid hX
  rw [hX] at HSZ
  have HM := Lib.hid (fun v hv W h1 h2 => may_v A c L (some ⟨T, 0, none⟩) n s a t n n hn hsl v hv W h1 h2)
  go_enter Try.func25, Try.ntmps25
  go_wp2_with fail
  rw [hX] at z0 z1
  try rw [hX]
  clear hX
  generalize w.alloc (Obj.cells #[.int .i64 a, .int .i64 t] 42) = w0 at *
  have x0 := HR0.out.c0
  have x1 := HR0.out.c1
  have HI0 := Lib.hid (HR0.out.il hsl hs hbig)
  cases hb : mayB L s a t with
  | false =>
    have HQ : Hid (noteL L s a t = s) := by show _ = _; unfold noteL; rw [hb]; rfl
    have h16 := may_not hb
    have HB := Lib.hid hb
    clear hb
    generalize hv : mayE L s a t = v at *
    have HE := fun W h1 h2 => HM.out v rfl W h1 h2
    replace x0 := cell_bw x0
    replace x1 := cell_bw x1
    replace z0 := cell_bw z0
    replace z1 := cell_bw z1
    rcases h16 with rfl | rfl
    all_goals
      refine wp_region_bw (by kernel_rfl) (by kernel_rfl) ?_
      repeat
        (with_reducible refine wpQuiet_step (fun K hK => ?_)
         go_simp
         first
           | (with_reducible refine hK _ ?_
              clear hK K)
           | (rw [if_neg]
              rotate_left
              focus (intro h; cases h; done)
              with_reducible refine hK _ ?_
              clear hK K)
           | (apply Exists.intro
              refine ⟨fun _ => ?_, hK _ ?_⟩
              (exact Calls.bw (HE _ (HT0.out.bw _) (HI0.out.bw _)))
              clear hK K))
      with_reducible refine wpQuiet_nil ?_
      intro wb hw'
      obtain ⟨⟨wb', lb⟩, hw''⟩ := hw'
      subst hw''
      have B1 := Lib.hid (below_step B0.out lb)
      have HR1 := Lib.hid (HR0.out.below lb)
      clear lb
      go_wp2_with fail
      go_ret
      exact ⟨ret_bool HB.out.symm, by rw [HQ.out]; exact HR1.out, gb_below B1.out (Nat.le_refl _) _⟩
  | true =>
    have h0 := may_zero.2 hb
    obtain ⟨h1, h2, h3, h4, h5⟩ := argB_iff.1 (Bool.and_eq_true _ _ ▸ hb).1
    have HQ : Hid (noteL L s a t = s.set a.toNat t) := by show _ = _; unfold noteL; rw [hb]; rfl
    have HE := fun W g1 g2 => HM.out 0 h0 W g1 g2
    have HB := Lib.hid hb
    clear hb h0
    obtain ⟨k, rfl⟩ : ∃ k : Nat, a = k := ⟨a.toNat, by omega⟩
    rw [Int.toNat_natCast] at HQ
    have hk : k < n := by omega
    have i1 : (0 : Int) ≤ (k : Int) := by omega
    have i2 : (k : Int) < (n : Int) := by omega
    have Z0 := Lib.hid z0
    have Z1 := Lib.hid z1
    replace x0 := cell_bw x0
    replace x1 := cell_bw x1
    replace z0 := cell_bw z0
    replace z1 := cell_bw z1
    refine wp_region_bw (by kernel_rfl) (by kernel_rfl) ?_
    repeat
      (with_reducible refine wpQuiet_step (fun K hK => ?_)
       go_simp
       first
         | (with_reducible refine hK _ ?_
            clear hK K)
         | (rw [if_neg]
            rotate_left
            focus (intro h; cases h; done)
            with_reducible refine hK _ ?_
            clear hK K)
         | (apply Exists.intro
            refine ⟨fun _ => ?_, hK _ ?_⟩
            (exact Calls.bw (HE _ (HT0.out.bw _) (HI0.out.bw _)))
            clear hK K))
    with_reducible refine wpQuiet_nil ?_
    intro wb hw'
    obtain ⟨⟨wb', lb⟩, hw''⟩ := hw'
    subst hw''
    have B1 := Lib.hid (below_step B0.out lb)
    have HR1 := Lib.hid (HR0.out.below lb)
    have y0 := HR1.out.c1
    have y1 := HR1.out.t.c k hk
    have y2 := HR1.out.t.z k
    have y3 := cell_below lb Z0.out
    have y4 := cell_below lb Z1.out
    have HP := Lib.hid ((HR1.out.below (Below.refl _ _).drew).put hne hsl hk t)
    have HG := Lib.hid (gb_trans (gb_below (B1.out.trans ((Below.refl wb.heap.size wb).drew.mono B1.out.size)) (Nat.le_refl _) (some T)) (gb_put wb.drew T k (.int .i64 t)))
    clear lb x0 x1 z0 z1 HE
    generalize at_ s k = y at *
    go_wp2_with fail
    go_region
    go_wp2_with fail
    go_ret
    exact ⟨ret_bool HB.out.symm, by rw [HQ.out]; exact HP.out, HG.out⟩

end Pc
end Go.Proofs.Ytfhifmpkdnnpmaa

/-
  Layer 16 (police): each, with the method permit; Filter.
-/
namespace Go.Proofs.Ytfhifmpkdnnpmaa
open Go.RowKit Mm Tk
namespace Pc

theorem runS_length {L : List Tsk} (h : allB L = true) (q : List Ask) (k : Nat) : (runS L q k).length = L.length := (lastsB_iff.1 (runS_valid h q k)).2.1
/-- what is told behind k asks -/
def tellF (L : List Tsk) (q : List Ask) (k : Nat) (j : Nat) : Bool := if j < k then mayB L (runS L q j) (at_ q j).1 (at_ q j).2 else false
theorem tellF_step (L : List Tsk) (q : List Ask) (k j : Nat) : tellF L q (k + 1) j = if j = k then mayB L (runS L q k) (at_ q k).1 (at_ q k).2 else tellF L q k j := by
  unfold tellF
  by_cases e : j = k
  · subst e; rw [if_pos (by omega), if_pos rfl]
  · rw [if_neg e]
    by_cases h : j < k
    · rw [if_pos h, if_pos (by omega)]
    · rw [if_neg h, if_neg (by omega)]

/-- the answer of each -/
def EachOf (L : List Tsk) (q : List Ask) (w0 : World) (e : Ending) (w' : World) : Prop :=
  ∃ O, e = .returned (.slice (some ⟨O, 0, none⟩) q.length q.length) ∧ Rd w' (some ⟨O, 0, none⟩) q.length (runF L q q.length) ∧ Below w0.heap.size w0 w'

set_option maxRecDepth 20000 in
set_option maxHeartbeats 1600000 in
theorem each_any (A : Option Addr) (c : Nat) (L : List Tsk) (n : Nat) (hn : L.length = n) (ha : allB L = true) (A2 : Option Addr) (c2 : Nat) (q : List Ask) (R T : Nat) (hne : R ≠ T) (w0 w : World) (hbig : n ≤ 1000000)
    (H : TL w0 A c L) (H2 : QL w0 A2 c2 q) (hb : Below w0.heap.size w0 w) (_hR : w0.heap.size ≤ R) (hT : w0.heap.size ≤ T) (HR : Rec w R T A c n (runS L q 0)) :
    Calls Try.prog 24 #[.slice A2 q.length c2, .func (.func 25) #[.pointer (some ⟨R, 0, none⟩)] #[]] w (EachOf L q w0) := by
  obtain ⟨m, hm⟩ : ∃ m, q.length = m := ⟨_, rfl⟩
  have hb2 := H2.1
  have HH := Lib.hid H
  have HQ := Lib.hid H2
  have B := Lib.hid hb
  have HRR := Lib.hid HR
  have HM := Lib.hid hm
  clear H H2 hb HR
  obtain ⟨O, hO⟩ : ∃ O, w.heap.size = O := ⟨_, rfl⟩
  have HOR : Hid (R < O ∧ T < O ∧ w0.heap.size ≤ O) := ⟨by have := lt_of_cell HRR.out.c0; simp only at this; omega, by have := HRR.out.t.lt; omega, by have := B.out.size; omega⟩
  have HF : Hid (∀ wr, Tf wr O m (tellF L q m) → Below w0.heap.size w0 wr → EachOf L q w0 (.returned (.slice (some ⟨O, 0, none⟩) m m)) wr) := fun wr h1 h2 => ⟨O, by rw [hm], by
    rw [hm]
    exact h1.rd (runF_length L q m) (by omega) fun j hj => by rw [runF_at L q hj]; unfold tellF; rw [if_pos hj], h2⟩
  rw [hm] at hb2
  rw [hm]
  clear hm
  have b0 := below_one w (Obj.cells (madeCells #[.bool false] m) 4)
  have t0 := tf_new m w 4
  have B0 := Lib.hid (B.out.trans (b0.mono B.out.size))
  have HR0 := Lib.hid (HRR.out.below b0)
  rw [hO] at t0
  have T0 := Lib.hid t0
  have HS0 : Hid (O < (w.alloc (Obj.cells (madeCells #[.bool false] m) 4)).heap.size) := t0.lt
  clear b0 t0
  go_enter Try.func24, Try.ntmps24
  go_wp2_with (at_make; refine list_flags rfl _ _ rfl m rfl rfl (by omega) ?_)
  try rw [hO]
  generalize w.alloc (Obj.cells (madeCells #[.bool false] m) 4) = w1 at *
  clear hO
  go_loopw [13] (fun i wr => ∃ k : Nat, i = .int .i64 k ∧ k ≤ m ∧ Hid (Rec wr R T A c n (runS L q k)) ∧ Hid (Tf wr O m (tellF L q k)) ∧ Hid (Below w0.heap.size w0 wr)) (fun i _ => m - (intOf i).toNat)
  case atStart => exact ⟨0, rfl, Nat.zero_le _, HR0.out, T0.out.same fun j _ => by unfold tellF; simp, B0.out⟩
  case round =>
    obtain ⟨k, rfl, hk, HRk, HTk, HBk⟩ := hrel
    by_cases hlt : k < m
    · obtain ⟨b, off, rfl, hc⟩ := ask_at (HQ.out.below HBk.out).2 (by have := HM.out; omega)
      obtain ⟨x0, x1, _, _⟩ := hc k (by have := HM.out; omega)
      clear hc
      have b1 := below_one wr (Obj.cells #[.int .i64 (at_ q k).1, .int .i64 (at_ q k).2] 42)
      have B1 := Lib.hid (HBk.out.trans (b1.mono HBk.out.size))
      have HR1 := Lib.hid (HRk.out.below b1)
      have HT1 := Lib.hid (HTk.out.below b1)
      have hcall := permit_any A c L n hn (runS L q k) (runS_valid ha q k) R T hne (at_ q k).1 (at_ q k).2 _ hbig (HH.out.below B1.out) HR1.out
      have HST : Hid (runS L q (k + 1) = noteL L (runS L q k) (at_ q k).1 (at_ q k).2) := rfl
      have HTS := Lib.hid (tellF_step L q k)
      obtain ⟨z0, z1⟩ := ask_new wr (at_ q k).1 (at_ q k).2 42
      clear b1
      generalize at_ q k = x at *
      have HCALL := Lib.hid hcall
      clear hcall
      go_wp2_with fail
      refine HCALL.out.mono ?_
      clear HCALL
      rintro e w2 ⟨rfl, h1, h2⟩
      rw [← HST.out] at h1
      generalize mayB L (runS L q k) x.1 x.2 = v at *
      have HT2 := Lib.hid (HT1.out.gb h2 (by have := HOR.out; intro e; injection e; omega))
      have B2 := Lib.hid (below_of_gb B1.out h2 B1.out.size (fun k hk => by injection hk with hk; omega))
      have y0 := HT2.out.c k hlt
      have y1 := HT2.out.z k
      have HR3 := Lib.hid (h1.gb (gb_put w2 O k (.bool v)) (by have := HOR.out; intro e; injection e; omega) (by have := HOR.out; intro e; injection e; omega))
      have HT3 : Hid (Tf (w2.setCell ⟨O, k, none⟩ (.bool v)) O m (tellF L q (k + 1))) := (HT2.out.put k v).same fun j _ => HTS.out j
      have B3 := Lib.hid (below_of_gb B2.out (gb_put w2 O k (.bool v)) B2.out.size (fun k hk => by have := HOR.out; injection hk with hk; omega))
      clear h1 h2 HST HTS
      generalize tellF L q k k = u at *
      go_wp2_with fail
      go_roundw
      case rel => exact ⟨k + 1, by go_num, by omega, HR3, HT3, B3⟩
      case measure => (simp [intOf] <;> omega)
    · have hkm : k = m := by omega
      subst hkm
      go_wp2_with fail
      go_ret
      exact HF.out _ HTk.out HBk.out

theorem buildRec (A B : Option Addr) (n c m d : Nat) (w : World) : (Instr.build 53 #[(0, .slice A n c), (1, .slice B m d)]).run Try.prog w = .ok (.agg #[.slice A n c, .slice B m d]) w := by kernel_rfl
attribute [local go_sem ↓] buildRec
/-- the answer of Filter -/
def FilterOf (L : List Tsk) (q : List Ask) (w : World) (e : Ending) (w' : World) : Prop :=
  ∃ A' c', e = .returned (.slice A' (filterP L q).length c') ∧ Rd w' A' c' (filterP L q) ∧ Below w.heap.size w w'

set_option maxRecDepth 20000 in
set_option maxHeartbeats 1600000 in
theorem filter_any (A : Option Addr) (c : Nat) (L : List Tsk) (A2 : Option Addr) (c2 : Nat) (q : List Ask) (w : World) (H : TL w A c L) (H2 : QL w A2 c2 q) :
    Calls Try.prog 14 #[.slice A L.length c, .slice A2 q.length c2] w (FilterOf L q w) := by
  have hb1 := H.1
  have HT := Lib.hid H
  have HQ := Lib.hid H2
  clear H H2
  cases ha : allB L with
  | false =>
    have HF : Hid (filterP L q = []) := by show _ = _; unfold filterP; rw [ha]; rfl
    go_enter Try.func14, Try.ntmps14
    go_wp2_with fail
    refine (all_any A c L _ hb1 HT.out.2.1 HT.out.2.2).mono ?_
    rintro e w1 ⟨rfl, b1⟩
    rw [ha]
    go_wp2_with fail
    go_ret
    exact ⟨none, 0, by rw [HF.out]; rfl, by rw [HF.out]; exact rd_nil (fun _ => rfl) (by unfold maxLen; omega), b1⟩
  | true =>
    have HF : Hid (filterP L q = runF L q q.length) := by show _ = _; unfold filterP; rw [ha]; rfl
    have hl8 : L.length ≤ 8 := by
      rw [allB, Bool.and_eq_true, decide_eq_true_iff] at ha
      exact ha.1
    have HA := Lib.hid ha
    obtain ⟨n, hn⟩ : ∃ n, L.length = n := ⟨_, rfl⟩
    have hall := fun W h => all_any A c L W hb1 HT.out.2.1 h
    rw [ha, hn] at hall
    rw [hn] at hl8 hb1
    have HN := Lib.hid hn
    have HEACH := Lib.hid (fun R T hne w1 hb hR hT HR => each_any A c L n hn HA.out A2 c2 q R T hne w w1 hb1 HT.out HQ.out hb hR hT HR)
    rw [hn]
    clear hn ha
    go_enter Try.func14, Try.ntmps14
    go_wp2_with fail
    refine (hall _ HT.out.2.2).mono ?_
    rintro e w1 ⟨rfl, b1⟩
    have B1 := Lib.hid b1
    clear b1
    have b2 := below_one w1 (Obj.cells #[.int .i64 (-1)] 3)
    have R2 := Lib.hid (rd_new1 w1 3 (-1) ⟨by omega, by omega⟩)
    have B2 := Lib.hid (below_step B1.out b2)
    clear b2
    go_wp2_with fail
    refine (Tb.rep_all _ _ (-1) n _ (by omega) R2.out).mono ?_
    rintro e w3 ⟨rfl, t3, b3⟩
    clear R2
    have hT := B2.out.size
    generalize (w1.alloc (Obj.cells #[.int .i64 (-1)] 3)).heap.size = T at *
    have HTT := Lib.hid hT
    obtain ⟨R, hR⟩ : ∃ R, w3.heap.size = R := ⟨_, rfl⟩
    have b4 := below_one w3 (Obj.cells #[.slice A n c, .slice (some ⟨T, 0, none⟩) n n] 53)
    have HREC : Hid (Rec (w3.alloc (Obj.cells #[.slice A n c, .slice (some ⟨T, 0, none⟩) n n] 53)) R T A c n (runS L q 0)) := by
      refine ⟨by rw [← hR]; simp, by rw [← hR]; simp, (t3.below b4).same fun j hj => ?_⟩
      rw [runS, at_get (by rw [List.length_replicate, HN.out]; exact hj)]
      simp
    have HNE : Hid (w.heap.size ≤ R ∧ T < R) := ⟨by have := t3.lt; omega, by have := t3.lt; omega⟩
    have B4 := Lib.hid ((B2.out.trans (b3.mono hT)).trans (b4.mono (by have := t3.lt; omega)))
    clear b4 b3 t3 hT
    have hcall := HEACH.out R T (by have := HNE.out; omega) _ B4.out HNE.out.1 HTT.out HREC.out
    go_wp2_with fail
    try rw [hR]
    refine hcall.mono ?_
    rintro e w5 ⟨O, rfl, h5, b5⟩
    have HX : Hid (FilterOf L q w (.returned (.slice (some ⟨O, 0, none⟩) q.length q.length)) w5) := ⟨_, q.length, by rw [HF.out, runF_length], by rw [HF.out]; exact h5, b5⟩
    clear h5 b5 hcall
    go_wp2_with fail
    go_ret
    exact HX.out

end Pc
end Go.Proofs.Ytfhifmpkdnnpmaa

