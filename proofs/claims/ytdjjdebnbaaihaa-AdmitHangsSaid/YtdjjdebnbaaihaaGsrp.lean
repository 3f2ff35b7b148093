/-
  Merged texts: SrpMath.
-/
import Derived.Test.YtdjjdebnbaaihaaGjob
import Derived.Test.YtdjjdebnbaaihaaGlevel
import Derived.Test.YtdjjdebnbaaihaaGdemand
/-
  Layer 15 (srp): plain mathematics: who runs; what a tick, and a release, keep.
-/
namespace Go.Proofs.Ytdjjdebnbaaihaa
namespace Pm
open Mm Tk Dm Lv

/-! ### who runs -/
/-- c runs, the others being those of o -/
structure Runs (L : List Tsk) (c : Jb) (o : List Jb) : Prop where
  fresh : begJ c = false → (∀ x ∈ o, begJ x = false → aheadB x c = false) ∧ (∀ x ∈ o, begJ x = true → aheadB c x = true) ∧ ∀ x ∈ o, begJ x = true → ∀ r ∈ heldJ L x, ceil L r < lvl L (tkJ c).toNat
  top : begJ c = true → (∀ x ∈ o, begJ x = true → aheadB x c = false) ∧ ∀ f ∈ o, begJ f = false → (∀ y ∈ o, begJ y = false → aheadB y f = false) → aheadB f c = true → ∃ x, (x = c ∨ x ∈ o) ∧ begJ x = true ∧ ∃ r ∈ heldJ L x, lvl L (tkJ f).toNat ≤ ceil L r

/-- a job that may be, of tasks; all were released ahead of hi -/
structure JobOk (L : List Tsk) (lasts : List Int) (hi : Int) (j : Jb) : Prop where
  lo : 0 ≤ tkJ j
  up : tkJ j < L.length
  at0 : 0 ≤ atJ j
  at1 : atJ j < hi
  due : dueJ j = atJ j + (ofJ L j).2.1
  had0 : 0 ≤ hadJ j
  had1 : hadJ j < (ofJ L j).1
  last : atJ j ≤ at_ lasts (tkJ j).toNat
/-- a state, at a tick: all releases were ahead of hi -/
structure Sound (L : List Tsk) (lasts : List Int) (jobs : List Jb) (hi : Int) : Prop where
  all : allB L = true
  len : lasts.length = L.length
  job : ∀ j ∈ jobs, JobOk L lasts hi j
  last : ∀ i, i < L.length → at_ lasts i < hi
  apart : jobs.Pairwise unlike
  srp : ∀ a ∈ jobs, ∀ b ∈ jobs, begJ a = true → begJ b = true → aheadB a b = true → ∀ r ∈ heldJ L b, ceil L r < lvl L (tkJ a).toNat

theorem JobOk.right {L : List Tsk} {lasts : List Int} {hi : Int} {j : Jb} (h : JobOk L lasts hi j) (ha : allB L = true) : rightT (ofJ L j) = true := by
  have := h.lo
  have := h.up
  exact all_right ha _ (by omega)
theorem JobOk.mem {L : List Tsk} {lasts : List Int} {hi : Int} {j : Jb} (h : JobOk L lasts hi j) : ofJ L j ∈ L := by
  have := h.lo
  have := h.up
  exact at_mem (by omega)

/-- a job with a tick more -/
def runJ (j : Jb) : Jb := (tkJ j, atJ j, dueJ j, wantJ j, hadJ j + 1, true)
/-- what is left when c has run -/
def left (over : Bool) (l1 : List Jb) (c : Jb) (l2 : List Jb) : List Jb := l1 ++ (if over then l2 else runJ c :: l2)
theorem mem_left {over : Bool} {l1 l2 : List Jb} {c x : Jb} : x ∈ left over l1 c l2 ↔ (over = false ∧ x = runJ c) ∨ x ∈ l1 ++ l2 := by
  unfold left
  cases over with
  | true => simp
  | false =>
    simp only [List.mem_append, List.mem_cons, Bool.false_eq_true, if_false, true_and]
    constructor
    · rintro (h | h | h)
      · exact .inr (.inl h)
      · exact .inl h
      · exact .inr (.inr h)
    · rintro (h | h | h)
      · exact .inr (.inl h)
      · exact .inl h
      · exact .inr (.inr h)
theorem mem_mid {l1 l2 : List Jb} {c x : Jb} : x ∈ l1 ++ c :: l2 ↔ x = c ∨ x ∈ l1 ++ l2 := by
  simp only [List.mem_append, List.mem_cons]
  constructor
  · rintro (h | h | h)
    · exact .inr (.inl h)
    · exact .inl h
    · exact .inr (.inr h)
  · rintro (h | h | h)
    · exact .inr (.inl h)
    · exact .inl h
    · exact .inr (.inr h)
theorem apart_mid {l1 l2 : List Jb} {c x : Jb} (h : (l1 ++ c :: l2).Pairwise unlike) (hx : x ∈ l1 ++ l2) : unlike c x := by
  rw [List.pairwise_append, List.pairwise_cons] at h
  rcases List.mem_append.1 hx with hx | hx
  · exact (h.2.2 x hx c (by simp)).symm
  · exact h.2.1.1 x hx
theorem apart_left {over : Bool} {l1 l2 : List Jb} {c : Jb} (h : (l1 ++ c :: l2).Pairwise unlike) : (left over l1 c l2).Pairwise unlike := by
  unfold left
  rw [List.pairwise_append, List.pairwise_cons] at h
  cases over with
  | true =>
    simp only [if_true]
    rw [List.pairwise_append]
    exact ⟨h.1, h.2.1.2, fun a ha b hb => h.2.2 a ha b (List.mem_cons_of_mem _ hb)⟩
  | false =>
    simp only [Bool.false_eq_true, if_false]
    rw [List.pairwise_append, List.pairwise_cons]
    refine ⟨h.1, ⟨fun a ha => h.2.1.1 a ha, h.2.1.2⟩, fun a ha b hb => ?_⟩
    rcases List.mem_cons.1 hb with rfl | hb
    · exact h.2.2 a ha c (by simp)
    · exact h.2.2 a ha b (List.mem_cons_of_mem _ hb)
section
variable {L : List Tsk} {lasts : List Int} {l1 l2 : List Jb} {c : Jb} {over : Bool}
theorem Sound.ran {hi : Int} (S : Sound L lasts (l1 ++ c :: l2) hi) (Rn : Runs L c (l1 ++ l2)) (ho : over = false → hadJ c + 1 < (ofJ L c).1) : Sound L lasts (left over l1 c l2) hi where
  all := S.all
  len := S.len
  job := fun j hj => by
    rcases mem_left.1 hj with ⟨h0, rfl⟩ | hj
    · have ok := S.job c (mem_mid.2 (.inl rfl))
      have := ok.had0
      exact ⟨ok.lo, ok.up, ok.at0, ok.at1, ok.due, by show (0 : Int) ≤ hadJ c + 1; omega, ho h0, ok.last⟩
    · exact S.job j (mem_mid.2 (.inr hj))
  last := S.last
  apart := apart_left S.apart
  srp := fun a ha b hb h1 h2 h3 r hr => by
    have hc := mem_mid.2 (.inl rfl : c = c ∨ c ∈ l1 ++ l2)
    rcases mem_left.1 hb with ⟨_, rfl⟩ | hb
    · -- nobody that began is ahead of who runs
      exfalso
      have h4 : aheadB a c = true := h3
      rcases mem_left.1 ha with ⟨_, rfl⟩ | ha
      · have : aheadB c c = true := h4
        rw [ahead_self] at this
        cases this
      · cases hbc : begJ c with
        | true => rw [(Rn.top hbc).1 a ha h1] at h4; cases h4
        | false => rw [ahead_not ((Rn.fresh hbc).2.1 a ha h1)] at h4; cases h4
    · have hb' : b ∈ l1 ++ c :: l2 := mem_mid.2 (.inr hb)
      rcases mem_left.1 ha with ⟨_, rfl⟩ | ha
      · show ceil L r < lvl L (tkJ c).toNat
        cases hbc : begJ c with
        | true => exact S.srp c hc b hb' hbc h2 h3 r hr
        | false => exact (Rn.fresh hbc).2.2 b hb h2 r hr
      · exact S.srp a (mem_mid.2 (.inr ha)) b hb' h1 h2 h3 r hr

/-- nearer deadlines, higher levels -/
theorem lvl_job {hi : Int} {jobs : List Jb} (S : Sound L lasts jobs hi) {a b : Jb} (hb : b ∈ jobs) (h : (ofJ L a).2.1 < (ofJ L b).2.1) : lvl L (tkJ b).toNat < lvl L (tkJ a).toNat := by
  have ok := S.job b hb
  have := ok.lo
  have := ok.up
  exact (lvl_lt (i := (tkJ a).toNat) (k := (tkJ b).toNat) (by omega)).2 h
/-- whose ceiling a resource has -/
theorem ceil_who {r : Int} {n : Nat} (hn : 1 ≤ n) (h : n ≤ ceil L r) : ∃ i, i < L.length ∧ usesT (at_ L i) r = true ∧ n ≤ lvl L i := by
  have key : ∀ k, k ≤ L.length → n ≤ ceilTo L r k → ∃ i, i < L.length ∧ usesT (at_ L i) r = true ∧ n ≤ lvl L i := by
    intro k
    induction k with
    | zero => intro _ h; rw [ceilTo] at h; omega
    | succ k ih =>
      intro hk h
      rw [ceilTo] at h
      by_cases hu : usesT (at_ L k) r = true
      · rw [if_pos hu] at h
        by_cases h' : n ≤ ceilTo L r k
        · exact ih (by omega) h'
        · exact ⟨k, by omega, hu, by omega⟩
      · rw [if_neg hu] at h
        exact ih (by omega) h
  exact key _ (Nat.le_refl _) h

end
section
variable {L : List Tsk} {lasts : List Int} {jobs : List Jb} {t : Nat}
/-- a job is released -/
theorem Sound.release (S : Sound L lasts jobs (t + 1 : Nat)) {i : Nat} {want : Int} (hi : i < L.length) (hold : ∀ j ∈ jobs, tkJ j = i → atJ j ≠ t) : Sound L (lasts.set i t) (jobs ++ [((i : Int), (t : Int), (t : Int) + (at_ L i).2.1, want, 0, false)]) (t + 1 : Nat) where
  all := S.all
  len := by rw [List.length_set]; exact S.len
  job := fun j hj => by
    have hx := right_T (all_right S.all i hi)
    rcases List.mem_append.1 hj with hj | hj
    · have ok := S.job j hj
      refine { ok with last := ?_ }
      by_cases e : (tkJ j).toNat = i
      · rw [e, at_set_same _ (by rw [S.len]; exact hi)]
        have := ok.at1
        omega
      · rw [at_set_other _ e]
        exact ok.last
    · rw [List.mem_singleton] at hj
      subst hj
      refine ⟨by show (0 : Int) ≤ (i : Int); omega, by show (i : Int) < _; omega, by show (0 : Int) ≤ (t : Int); omega, by show (t : Int) < _; omega, ?_, Int.le_refl _, ?_, ?_⟩
      · show _ = (t : Int) + (at_ L ((i : Int)).toNat).2.1
        rw [Int.toNat_natCast]
      · show (0 : Int) < (at_ L ((i : Int)).toNat).1
        rw [Int.toNat_natCast]
        omega
      · show (t : Int) ≤ at_ (lasts.set i t) ((i : Int)).toNat
        rw [Int.toNat_natCast, at_set_same _ (by rw [S.len]; exact hi)]
        exact Int.le_refl _
  last := fun k hk => by
    by_cases e : k = i
    · subst e
      rw [at_set_same _ (by rw [S.len]; exact hi)]
      omega
    · rw [at_set_other _ e]
      exact S.last k hk
  apart := by
    rw [List.pairwise_append]
    refine ⟨S.apart, List.pairwise_singleton _ _, fun a ha b hb => ?_⟩
    rw [List.mem_singleton] at hb
    subst hb
    rintro ⟨h1, h2⟩
    exact hold a ha h1 h2
  srp := fun a ha b hb h1 h2 h3 => by
    have no : ∀ x : Jb, x ∈ [(((i : Int), (t : Int), (t : Int) + (at_ L i).2.1, want, 0, false) : Jb)] → begJ x = true → False := fun x hx hb => by
      rw [List.mem_singleton] at hx
      subst hx
      cases hb
    rcases List.mem_append.1 ha with ha | ha
    · rcases List.mem_append.1 hb with hb | hb
      · exact S.srp a ha b hb h1 h2 h3
      · exact (no b hb h2).elim
    · exact (no a ha h1).elim
theorem Sound.none {hi : Int} (h1 : allB L = true) (h2 : lasts.length = L.length) (h3 : ∀ i, i < L.length → at_ lasts i < hi) : Sound L lasts [] hi :=
  ⟨h1, h2, fun j hj => by simp at hj, h3, List.Pairwise.nil, fun a ha => by simp at ha⟩
theorem Sound.later {hi hi' : Int} (S : Sound L lasts jobs hi) (h : hi ≤ hi') : Sound L lasts jobs hi' :=
  ⟨S.all, S.len, fun j hj => { S.job j hj with at1 := by have := (S.job j hj).at1; omega }, fun i hi => by have := S.last i hi; omega, S.apart, S.srp⟩
end

/-! ### choosing -/
theorem heldC_lt {L : List Tsk} {n : Nat} (hn : 1 ≤ n) : ∀ {h : List Int}, heldC L h < n ↔ ∀ r ∈ h, ceil L r < n
  | [] => by simp [heldC]; omega
  | r :: h => by
    rw [heldC, Nat.max_lt, heldC_lt hn]
    simp
theorem heldC_who {L : List Tsk} {n : Nat} (hn : 1 ≤ n) {h : List Int} (hh : ¬ heldC L h < n) : ∃ r ∈ h, n ≤ ceil L r := by
  rcases Classical.em (∃ r ∈ h, n ≤ ceil L r) with e | e
  · exact e
  · refine absurd ((heldC_lt hn).2 fun r hr => ?_) hh
    rcases Nat.lt_or_ge (ceil L r) n with h' | h'
    · exact h'
    · exact absurd ⟨r, hr, h'⟩ e
theorem cut_at {l : List Jb} {i : Nat} (h : i < l.length) : l = l.take i ++ at_ l i :: l.drop (i + 1) := by
  rw [at_get h, ← List.drop_eq_getElem_cons h, List.take_append_drop]
/-- is the first one of those that didn't begin let in -/
def letIn (L : List Tsk) (l : List Jb) : Bool :=
  decide (0 ≤ firstI l false) && ((decide (firstI l true < 0) || aheadB (at_ l (firstI l false).toNat) (at_ l (firstI l true).toNat)) && decide (heldC L (heldAll L l) < lvl L (tkJ (at_ l (firstI l false).toNat)).toNat))
theorem letIn_iff {L : List Tsk} {l : List Jb} : letIn L l = true ↔ 0 ≤ firstI l false ∧ (firstI l true < 0 ∨ aheadB (at_ l (firstI l false).toNat) (at_ l (firstI l true).toNat) = true) ∧ heldC L (heldAll L l) < lvl L (tkJ (at_ l (firstI l false).toNat)).toNat := by
  unfold letIn
  rw [Bool.and_eq_true, Bool.and_eq_true, Bool.or_eq_true, decide_eq_true_iff, decide_eq_true_iff, decide_eq_true_iff]
/-- who runs: an index, or -1 -/
def chooseI (L : List Tsk) (l : List Jb) : Int := if letIn L l then firstI l false else firstI l true
theorem chooseI_runs {L : List Tsk} {l : List Jb} (hu : l.Pairwise unlike) {i : Nat} (h : chooseI L l = i) : i < l.length ∧ Runs L (at_ l i) (l.take i ++ l.drop (i + 1)) := by
  have sub : ∀ {k x}, k < l.length → x ∈ l.take k ++ l.drop (k + 1) → x ∈ l := fun {k x} hk hx => by
    rcases List.mem_append.1 hx with hx | hx
    · exact List.mem_of_mem_take hx
    · exact List.mem_of_mem_drop hx
  unfold chooseI at h
  by_cases hl : letIn L l = true
  · rw [if_pos hl] at h
    obtain ⟨_, h2, h3⟩ := letIn_iff.1 hl
    rw [h, Int.toNat_natCast] at h2 h3
    rcases firstI_of l false with ⟨e, _⟩ | ⟨k, e, hk, hf, _⟩
    · omega
    · have : k = i := by omega
      subst this
      obtain ⟨f1, f2⟩ := isFirst_iff.1 hf
      refine ⟨hk, ⟨fun _ => ⟨fun x hx => f2 x (sub hk hx), fun x hx hxb => ?_, fun x hx hxb r hr => ?_⟩, fun hb => ?_⟩⟩
      · rcases firstI_of l true with ⟨_, g⟩ | ⟨q, e2, hq, hfq, _⟩
        · exact absurd hxb (g x (sub hk hx))
        · obtain ⟨_, g2⟩ := isFirst_iff.1 hfq
          rw [e2, Int.toNat_natCast] at h2
          have h4 := ahead_no.1 (g2 x (sub hk hx) hxb)
          rcases h2 with h2 | h2
          · omega
          · have := ahead_iff.1 h2
            rw [ahead_iff]
            omega
      · exact (heldC_lt (lvl_pos L _)).1 h3 r (mem_heldAll.2 ⟨x, sub hk hx, hxb, hr⟩)
      · rw [f1] at hb; cases hb
  · rw [if_neg hl] at h
    rcases firstI_of l true with ⟨e, _⟩ | ⟨k, e, hk, hf, _⟩
    · omega
    · have : k = i := by omega
      subst this
      obtain ⟨f1, f2⟩ := isFirst_iff.1 hf
      refine ⟨hk, ⟨fun hb => (by rw [f1] at hb; cases hb), fun _ => ⟨fun x hx => f2 x (sub hk hx), fun f hfo hfb hff hfc => ?_⟩⟩⟩
      rcases firstI_of l false with ⟨_, g⟩ | ⟨q, e2, hq, hfq, _⟩
      · exact absurd hfb (g f (sub hk hfo))
      · obtain ⟨g1, g2⟩ := isFirst_iff.1 hfq
        have hqf : at_ l q = f := by
          obtain ⟨m, hm, rfl⟩ := mem_at (sub hk hfo)
          by_cases e3 : m = q
          · rw [e3]
          · have h5 := unlike_at.1 hu m q hm hq e3
            have h6 := ahead_or h5 (g2 _ (at_mem hm) hfb)
            have hqo : at_ l q ∈ l.take k ++ l.drop (k + 1) := by
              have h7 : at_ l q ∈ l.take k ++ at_ l k :: l.drop (k + 1) := by rw [← cut_at hk]; exact at_mem hq
              rcases mem_mid.1 h7 with h8 | h8
              · rw [h8, f1] at g1; cases g1
              · exact h8
            rw [hff _ hqo g1] at h6
            cases h6
        have hc : ¬ heldC L (heldAll L l) < lvl L (tkJ f).toNat := fun hlt => hl (letIn_iff.2 ⟨by omega, .inr (by rw [e2, h, Int.toNat_natCast, Int.toNat_natCast, hqf]; exact hfc), by rw [e2, Int.toNat_natCast, hqf]; exact hlt⟩)
        obtain ⟨r, hr, hlv⟩ := heldC_who (lvl_pos L _) hc
        obtain ⟨x, hx, hxb, hxr⟩ := mem_heldAll.1 hr
        have h7 : x ∈ l.take k ++ at_ l k :: l.drop (k + 1) := by rw [← cut_at hk]; exact hx
        exact ⟨x, mem_mid.1 h7, hxb, r, hxr, hlv⟩
theorem chooseI_nil (L : List Tsk) : chooseI L [] = -1 := by
  have h1 : firstI [] false = -1 := rfl
  have h2 : firstI [] true = -1 := rfl
  have h3 : letIn L [] = false := by unfold letIn; rw [h1]; rfl
  unfold chooseI
  rw [h3, h2]
  rfl
/-- P15.4 -/
theorem chooseI_some {L : List Tsk} {l : List Jb} (h : l ≠ []) : ∃ i : Nat, chooseI L l = i := by
  unfold chooseI
  rcases firstI_of l true with ⟨e, g⟩ | ⟨k, e, _⟩
  · rcases firstI_of l false with ⟨_, g'⟩ | ⟨q, e2, hq, hf, _⟩
    · obtain ⟨x, hx⟩ := List.exists_mem_of_ne_nil l h
      cases hb : begJ x with
      | true => exact absurd hb (g x hx)
      | false => exact absurd hb (g' x hx)
    · have hh : heldC L (heldAll L l) < lvl L (tkJ (at_ l (firstI l false).toNat)).toNat := (heldC_lt (lvl_pos L _)).2 fun r hr => by
        obtain ⟨x, hx, hxb, _⟩ := mem_heldAll.1 hr
        exact absurd hxb (g x hx)
      rw [if_pos (letIn_iff.2 ⟨by omega, .inl (by omega), hh⟩)]
      exact ⟨q, e2⟩
  · cases hl : letIn L l with
    | true =>
      obtain ⟨h1, _⟩ := letIn_iff.1 hl
      exact ⟨(firstI l false).toNat, by rw [if_pos rfl]; omega⟩
    | false => exact ⟨k, by rw [if_neg (by simp)]; exact e⟩

/-! ### a tick -/
def overB (L : List Tsk) (j : Jb) : Bool := decide (hadJ j + 1 = wantJ j ∨ hadJ j + 1 = (ofJ L j).1)
theorem over_no {L : List Tsk} {j : Jb} (h : overB L j = false) : hadJ j + 1 ≠ wantJ j ∧ hadJ j + 1 ≠ (ofJ L j).1 := by
  unfold overB at h
  have := of_decide_eq_false h
  omega
def tickJ (L : List Tsk) (l : List Jb) : List Jb :=
  if chooseI L l < 0 then l else left (overB L (at_ l (chooseI L l).toNat)) (l.take (chooseI L l).toNat) (at_ l (chooseI L l).toNat) (l.drop ((chooseI L l).toNat + 1))
theorem tickJ_at {L : List Tsk} {l : List Jb} {i : Nat} (h : chooseI L l = i) : tickJ L l = left (overB L (at_ l i)) (l.take i) (at_ l i) (l.drop (i + 1)) := by
  unfold tickJ
  rw [h, if_neg (by omega), Int.toNat_natCast]
theorem tickJ_nil (L : List Tsk) : tickJ L [] = [] := by
  unfold tickJ
  rw [chooseI_nil, if_pos (by omega)]
theorem Sound.tick {L : List Tsk} {lasts : List Int} {l : List Jb} {hi : Int} (S : Sound L lasts l hi) : Sound L lasts (tickJ L l) hi := by
  by_cases h : l = []
  · subst h
    rw [tickJ_nil]
    exact S
  · obtain ⟨i, hi'⟩ := chooseI_some (L := L) h
    obtain ⟨h1, h2⟩ := chooseI_runs S.apart hi'
    rw [tickJ_at hi']
    have S' := S
    rw [cut_at h1] at S'
    refine S'.ran h2 fun h0 => ?_
    have := (over_no h0).2
    have := (S.job _ (at_mem h1)).had1
    omega
/-- jobs that are valid stay so -/
theorem allJ_tick {L : List Tsk} {l : List Jb} (h : allJ L l = true) : allJ L (tickJ L l) = true := by
  obtain ⟨h1, h2, h3, h4⟩ := allJ_iff.1 h
  by_cases he : l = []
  · subst he
    rw [tickJ_nil]
    exact h
  · obtain ⟨i, hi⟩ := chooseI_some (L := L) he
    obtain ⟨hl, _⟩ := chooseI_runs h3 hi
    rw [tickJ_at hi]
    have h3' := h3
    rw [cut_at hl] at h3'
    have hlen : (left (overB L (at_ l i)) (l.take i) (at_ l i) (l.drop (i + 1))).length ≤ l.length := by
      unfold left
      rw [List.length_append, List.length_take]
      split
      · rw [List.length_drop]; omega
      · rw [List.length_cons, List.length_drop]; omega
    refine allJ_iff.2 ⟨h1, by omega, apart_left h3', fun j hj => ?_⟩
    rcases mem_left.1 hj with ⟨h0, rfl⟩ | hj
    · have g := rightJ_iff.1 (h4 _ (at_mem hl))
      have := over_no h0
      refine rightJ_iff.2 ⟨g.1, g.2.1, g.2.2.1, g.2.2.2.1, g.2.2.2.2.1, g.2.2.2.2.2.1, g.2.2.2.2.2.2.1, ?_, ?_, ?_, .inl rfl⟩
      · show (0 : Int) ≤ hadJ (at_ l i) + 1; omega
      · show hadJ (at_ l i) + 1 < wantJ (at_ l i); omega
      · show hadJ (at_ l i) + 1 < (ofJ L (at_ l i)).1; omega
    · refine h4 j ?_
      rcases List.mem_append.1 hj with hj | hj
      · exact List.mem_of_mem_take hj
      · exact List.mem_of_mem_drop hj
/-- how many ticks jobs still want, of which they get any -/
def lft (L : List Tsk) : List Jb → Int
  | [] => 0
  | j :: l => ((if (ofJ L j).1 < wantJ j then (ofJ L j).1 else wantJ j) - hadJ j) + lft L l
theorem lft_append (L : List Tsk) : ∀ a b : List Jb, lft L (a ++ b) = lft L a + lft L b
  | [], b => by rw [lft, List.nil_append]; omega
  | j :: a, b => by rw [List.cons_append, lft, lft, lft_append L a b]; omega
theorem lft_tick {L : List Tsk} {l : List Jb} (h : allJ L l = true) (he : l ≠ []) : lft L (tickJ L l) = lft L l - 1 := by
  obtain ⟨h1, h2, h3, h4⟩ := allJ_iff.1 h
  obtain ⟨i, hi⟩ := chooseI_some (L := L) he
  obtain ⟨hl, _⟩ := chooseI_runs h3 hi
  have g := rightJ_iff.1 (h4 _ (at_mem hl))
  have e : lft L l = lft L (l.take i ++ at_ l i :: l.drop (i + 1)) := by rw [← cut_at hl]
  rw [tickJ_at hi, e, lft_append, lft]
  unfold left
  cases ho : overB L (at_ l i) with
  | true =>
    have := of_decide_eq_true ho
    rw [if_pos rfl, lft_append]
    split <;> omega
  | false =>
    have := over_no ho
    rw [if_neg (by simp), lft_append, lft]
    show _ + ((if (ofJ L (at_ l i)).1 < wantJ (at_ l i) then (ofJ L (at_ l i)).1 else wantJ (at_ l i)) - (hadJ (at_ l i) + 1) + _) = _
    split <;> omega
theorem len_tick {L : List Tsk} {l : List Jb} {i : Nat} (h : chooseI L l = i) (hl : i < l.length) : (tickJ L l).length = if overB L (at_ l i) then l.length - 1 else l.length := by
  rw [tickJ_at h]
  unfold left
  rw [List.length_append, List.length_take]
  split
  · rw [List.length_drop]; omega
  · rw [List.length_cons, List.length_drop]; omega

/-! ### what is held -/
theorem held_mine {L : List Tsk} {lasts : List Int} {hi : Int} {j : Jb} (ok : JobOk L lasts hi j) {r : Int} (hr : r ∈ heldJ L j) : lvl L (tkJ j).toNat ≤ ceil L r := by
  have := ok.lo
  have := ok.up
  refine ceil_ge (by omega) ?_
  have h := held_uses (l := (ofJ L j).2.2.2) hr
  unfold usesT
  rw [List.any_eq_true] at *
  obtain ⟨x, hx, e⟩ := h
  exact ⟨x, hx, decide_eq_true (beq_iff_eq.1 e)⟩
/-- P15.3: what jobs hold are unlike resources -/
theorem held_apart {L : List Tsk} {lasts : List Int} {hi : Int} (ha : allB L = true) : ∀ {l : List Jb}, (∀ j ∈ l, JobOk L lasts hi j) → l.Pairwise unlike →
    (∀ a ∈ l, ∀ b ∈ l, begJ a = true → begJ b = true → aheadB a b = true → ∀ r ∈ heldJ L b, ceil L r < lvl L (tkJ a).toNat) → (heldAll L l).Pairwise fun a b => b ≠ a
  | [], _, _, _ => List.Pairwise.nil
  | j :: l, hj, hu, hs => by
    obtain ⟨hu1, hu2⟩ := List.pairwise_cons.1 hu
    have ih := held_apart ha (l := l) (fun x hx => hj x (List.mem_cons_of_mem _ hx)) hu2 fun a ha' b hb => hs a (List.mem_cons_of_mem _ ha') b (List.mem_cons_of_mem _ hb)
    have okj := hj j (by simp)
    rw [heldAll]
    cases hb : begJ j with
    | false => simpa using ih
    | true =>
      rw [if_pos rfl, List.pairwise_append]
      refine ⟨held_nodup (ok_of (show rightB (ofJ L j).1 (ofJ L j).2.1 (ofJ L j).2.2.1 (ofJ L j).2.2.2 = true from okj.right ha)) _, ih, fun r hr q hq e => ?_⟩
      subst e
      obtain ⟨x, hx, hxb, hxr⟩ := mem_heldAll.1 hq
      have okx := hj x (List.mem_cons_of_mem _ hx)
      cases h : aheadB j x with
      | true =>
        have := hs j (by simp) x (List.mem_cons_of_mem _ hx) hb hxb h _ hxr
        have := held_mine okj hr
        omega
      | false =>
        have := hs x (List.mem_cons_of_mem _ hx) j (by simp) hxb hb (ahead_or (hu1 x hx) h) _ hr
        have := held_mine okx hxr
        omega
theorem Sound.held {L : List Tsk} {lasts : List Int} {l : List Jb} {hi : Int} (S : Sound L lasts l hi) : (heldAll L l).Pairwise fun a b => b ≠ a := held_apart S.all S.job S.apart S.srp
/-- .. and who begins uses none of them -/
theorem Sound.fresh {L : List Tsk} {lasts : List Int} {l : List Jb} {hi : Int} (S : Sound L lasts l hi) {i : Nat} (h : chooseI L l = i) (hb : begJ (at_ l i) = false) {r : Int} (hr : r ∈ heldAll L l) : usesT (ofJ L (at_ l i)) r = false := by
  obtain ⟨h1, h2⟩ := chooseI_runs S.apart h
  obtain ⟨x, hx, hxb, hxr⟩ := mem_heldAll.1 hr
  rw [cut_at h1] at hx
  have ok := S.job _ (at_mem h1)
  have := ok.lo
  have := ok.up
  cases hu : usesT (ofJ L (at_ l i)) r with
  | false => rfl
  | true =>
    have h3 := ceil_ge (i := (tkJ (at_ l i)).toNat) (by omega) hu
    rcases mem_mid.1 hx with e | e
    · rw [e, hb] at hxb; cases hxb
    · have := (h2.fresh hb).2.2 x e hxb r hxr
      omega
/-- P15.5 -/
theorem Sound.stack {L : List Tsk} {lasts : List Int} {l : List Jb} {hi : Int} (S : Sound L lasts l hi) {i k : Nat} (h : chooseI L l = i) (hk : k < l.length) (hne : k ≠ i) (hb : begJ (at_ l k) = true) : aheadB (at_ l i) (at_ l k) = true := by
  obtain ⟨h1, h2⟩ := chooseI_runs S.apart h
  have hko : at_ l k ∈ l.take i ++ l.drop (i + 1) := by
    have h7 : at_ l k ∈ l.take i ++ at_ l i :: l.drop (i + 1) := by rw [← cut_at h1]; exact at_mem hk
    rcases mem_mid.1 h7 with h8 | h8
    · exact absurd ⟨by rw [h8], by rw [h8]⟩ (unlike_at.1 S.apart k i hk h1 hne)
    · exact h8
  cases hbi : begJ (at_ l i) with
  | false => exact (h2.fresh hbi).2.1 _ hko hb
  | true => exact ahead_or (unlike_at.1 S.apart k i hk h1 hne) ((h2.top hbi).1 _ hko hb)
/-- last releases do not matter where none are looked at -/
theorem Sound.flat {L : List Tsk} {lasts : List Int} {l : List Jb} {hi : Int} (S : Sound L lasts l hi) : Sound L (List.replicate L.length (hi - 1)) l hi := by
  have hr : ∀ {i : Nat}, i < L.length → at_ (List.replicate L.length (hi - 1)) i = hi - 1 := fun {i} h => by rw [at_get (by simpa using h)]; simp
  refine ⟨S.all, by simp, fun j hj => ?_, fun i h => by rw [hr h]; omega, S.apart, S.srp⟩
  have ok := S.job j hj
  have := ok.lo
  have := ok.up
  have := ok.at1
  exact { ok with last := by rw [hr (by omega)]; omega }

end Pm
end Go.Proofs.Ytdjjdebnbaaihaa

