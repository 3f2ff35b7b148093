/-
  Merged texts: AdmitMath, AdmitErr, AdmitFirst, AdmitCond, AdmitAdded.
-/
import Derived.Test.YtdjjdebnbaaihaaGpart
import Derived.Test.YtdjjdebnbaaihaaGverdict
/-
  Layer 20 (admit): plain mathematics: a task that is let in while no job began keeps that no job will be missed.
-/
namespace Go.Proofs.Ytdjjdebnbaaihaa
namespace Pm
open Mm Tk Dm Bk Sp Vd Lv

section
variable {L : List Tsk} {lasts : List Int} {jobs : List Jb} {x : Tsk}
theorem ofJ_add {j : Jb} (h0 : 0 ≤ tkJ j) (h1 : tkJ j < L.length) : ofJ (L ++ [x]) j = ofJ L j := at_left (by omega)
theorem Sound.add {hi : Int} (S : Sound L lasts jobs hi) (hb : ∀ j ∈ jobs, begJ j = false) (ha : allB (L ++ [x]) = true) (h0 : 0 ≤ hi) : Sound (L ++ [x]) (lasts ++ [-1]) jobs hi where
  all := ha
  len := by rw [List.length_append, List.length_append, S.len]; rfl
  job := fun j hj => by
    have ok := S.job j hj
    have e := ofJ_add (x := x) ok.lo ok.up
    have h1 := ok.lo
    have h2 := ok.up
    refine ⟨ok.lo, by rw [List.length_append]; simp only [List.length_cons, List.length_nil]; omega, ok.at0, ok.at1, by rw [e]; exact ok.due, ok.had0, by rw [e]; exact ok.had1, ?_⟩
    rw [at_left (by rw [S.len]; omega)]
    exact ok.last
  last := fun i hi' => by
    rw [List.length_append] at hi'
    simp only [List.length_cons, List.length_nil] at hi'
    by_cases e : i < L.length
    · rw [at_left (by rw [S.len]; exact e)]
      exact S.last i e
    · have : i = lasts.length := by rw [S.len]; omega
      subst this
      rw [at_right (Nat.le_refl _), Nat.sub_self]
      show (-1 : Int) < hi
      omega
  apart := S.apart
  srp := fun a ha' b _ h1 => by rw [hb a ha'] at h1; cases h1
theorem wrk_add {d : Int} : ∀ {l : List Jb}, (∀ j ∈ l, 0 ≤ tkJ j ∧ tkJ j < L.length) → wrk (L ++ [x]) d l = wrk L d l
  | [], _ => rfl
  | j :: l, h => by
    obtain ⟨h1, h2⟩ := h j (by simp)
    rw [wrk, wrk, ofJ_add h1 h2, wrk_add fun y hy => h y (List.mem_cons_of_mem _ hy)]
theorem relTo_add {R : Nat → Nat} : ∀ {k}, k ≤ L.length → relTo (L ++ [x]) (fun q => if q < L.length then R q else 0) k = relTo L R k
  | 0, _ => rfl
  | k + 1, h => by rw [relTo, relTo, relTo_add (k := k) (by omega), at_left (by omega), if_pos (by omega)]
theorem Busy.add {g : Nat → Bool} {d t s : Nat} {R : Nat → Nat} {b hi : Int} (B : Busy L lasts jobs g d t s R b) (S : Sound L lasts jobs hi) (hb : ∀ j ∈ jobs, begJ j = false) : Busy (L ++ [x]) (lasts ++ [-1]) jobs g d t s (fun q => if q < L.length then R q else 0) b where
  le := B.le
  since := B.since
  other := B.other
  rel := fun i hi' h => by
    by_cases e : i < L.length
    · simp only [if_pos e] at h ⊢
      obtain ⟨u, h1, h2, h3⟩ := B.rel i e h
      exact ⟨u, by rw [at_left (by rw [S.len]; exact e)]; exact h1, by rw [at_left e]; exact h2, by rw [at_left e]; exact h3⟩
    · simp only [if_neg e] at h
      omega
  way := fun j hj h1 => by rw [hb j hj] at h1; cases h1
  pos := B.pos
  sum := by
    have h1 := B.sum
    have h2 : blk L ((d : Int) - s) ≤ blk (L ++ [x]) ((d : Int) - s) := blk_more fun y hy => List.mem_append_left _ hy
    rw [wrk_add fun j hj => ⟨(S.job j hj).lo, (S.job j hj).up⟩]
    have e : relTo (L ++ [x]) (fun q => if q < L.length then R q else 0) (L ++ [x]).length = relTo L R L.length := by
      rw [List.length_append]
      show relTo _ _ (L.length + 1) = _
      rw [relTo, relTo_add (Nat.le_refl _), if_neg (by omega)]
      simp
    rw [e]
    omega
end

/-- a state with a task more -/
def addedS (s : St) (x : Tsk) : St := { s with tasks := s.tasks ++ [x], leaves := s.leaves ++ [false], lasts := s.lasts ++ [-1] }
theorem Good.add {g : Nat → Bool} {P C : Nat} {s : St} {t : Nat} {hi : Int} (G : Good g P C s t hi) {x : Tsk} (hb : ∀ j ∈ s.jobs, begJ j = false) (ha : allB (s.tasks ++ [x]) = true) (h0 : 0 ≤ hi) (hf : Fit_ (s.tasks ++ [x]) P C) : Good g P C (addedS s x) t hi where
  sound := G.sound.add hb ha h0
  inv := fun d hd => by
    obtain ⟨s0, R, b, B⟩ := G.inv d hd
    exact ⟨s0, _, b, B.add G.sound hb⟩
  due := G.due
  fit := hf
  len := by
    show (s.leaves ++ [false]).length = (s.tasks ++ [x]).length
    rw [List.length_append, List.length_append, G.len]
    rfl
  log := G.log
theorem right_added {s : St} {x : Tsk} (hs : rightS s = true) (ha : allB (s.tasks ++ [x]) = true) : rightS (addedS s x) = true := by
  obtain ⟨h1, h2, h3, h4, h5⟩ := rightS_iff.1 hs
  obtain ⟨a1, a2, a3, a4⟩ := allJ_iff.1 h4
  refine rightS_iff.2 ⟨?_, ?_, fun y hy => ?_, allJ_iff.2 ⟨ha, a2, a3, fun j hj => ?_⟩, h5⟩
  · show (s.leaves ++ [false]).length = (s.tasks ++ [x]).length
    rw [List.length_append, List.length_append, h1]
    rfl
  · show (s.lasts ++ [-1]).length = (s.tasks ++ [x]).length
    rw [List.length_append, List.length_append, h2]
    rfl
  · rcases List.mem_append.1 hy with hy | hy
    · exact h3 y hy
    · rw [List.mem_singleton] at hy
      subst hy
      omega
  · have r := rightJ_iff.1 (a4 j hj)
    have e := ofJ_add (x := x) r.1 r.2.1
    show rightJ (s.tasks ++ [x]) j = true
    rw [rightJ_iff, e, List.length_append]
    have := r.2.1
    exact ⟨r.1, by simp only [List.length_cons, List.length_nil]; omega, r.2.2⟩

/-- a task is let in: the error, the state -/
def admE (s : St) (P B : Int) (x : Tsk) : Nat :=
  if rightS s = true ∧ Sp.rightB P B = true ∧ rightT x = true then
    (if 8 ≤ s.tasks.length then 3 else if (s.jobs.any fun j => begJ j) = true then 9 else if cycE (s.tasks ++ [x]) P B ≠ 0 then cycE (s.tasks ++ [x]) P B else if fitsB (s.tasks ++ [x]) P B then 0 else 7)
  else 1
def admS (s : St) (P B : Int) (x : Tsk) : St := if admE s P B x = 0 then addedS s x else s
theorem adm_zero {s : St} {P B : Int} {x : Tsk} (h : admE s P B x = 0) : rightS s = true ∧ Sp.rightB P B = true ∧ rightT x = true ∧ s.tasks.length < 8 ∧ (∀ j ∈ s.jobs, begJ j = false) ∧ fitsB (s.tasks ++ [x]) P B = true := by
  unfold admE at h
  split at h
  · rename_i h1
    split at h
    · cases h
    · rename_i h2
      split at h
      · cases h
      · rename_i h3
        split at h
        · rename_i h4
          exact absurd h h4
        · split at h
          · rename_i h5
            refine ⟨h1.1, h1.2.1, h1.2.2, by omega, fun j hj => ?_, h5⟩
            cases hb : begJ j with
            | false => rfl
            | true => exact absurd (List.any_eq_true.2 ⟨j, hj, hb⟩) h3
          · cases h
  · cases h
theorem all_add {L : List Tsk} {x : Tsk} (h : allB L = true) (hx : rightT x = true) (hl : L.length < 8) : allB (L ++ [x]) = true := by
  unfold allB at *
  rw [Bool.and_eq_true, decide_eq_true_eq, List.all_eq_true] at *
  refine ⟨by rw [List.length_append]; simp only [List.length_cons, List.length_nil]; omega, fun y hy => ?_⟩
  rcases List.mem_append.1 hy with hy | hy
  · exact h.2 y hy
  · rw [List.mem_singleton] at hy
    subst hy
    exact hx
theorem fits_is_fit {L : List Tsk} {P C : Nat} (h : fitsB L P C = true) : Fit_ L P C := by
  have hk : cycOk L P C = true := by
    unfold fitsB at h
    rw [Bool.and_eq_true] at h
    exact h.1
  exact (fits_true hk).1 h
theorem Good.admit {g : Nat → Bool} {P C : Nat} {s : St} {t : Nat} {hi : Int} (G : Good g P C s t hi) (h0 : 0 ≤ hi) (x : Tsk) : Good g P C (admS s P C x) t hi := by
  unfold admS
  split
  · rename_i h
    obtain ⟨_, _, h3, h4, h5, h6⟩ := adm_zero h
    exact G.add h5 (all_add G.sound.all h3 h4) h0 (fits_is_fit h6)
  · exact G
theorem right_admit {s : St} (hs : rightS s = true) (P B : Int) (x : Tsk) : rightS (admS s P B x) = true := by
  unfold admS
  split
  · rename_i h
    obtain ⟨h1, _, h3, h4, _, _⟩ := adm_zero h
    exact right_added hs (all_add (allJ_iff.1 (rightS_iff.1 h1).2.2.2.1).1 h3 h4)
  · exact hs
/-- a task is changed: the error, the state -/
def chgE (s : St) (P B : Int) (i : Int) (x : Tsk) : Nat := if leaveE s i ≠ 0 then leaveE s i else admE s P B x
def chgS (s : St) (P B : Int) (i : Int) (x : Tsk) : St := if chgE s P B i x = 0 then addedS (leaveS s i) x else s
theorem leave_same (s : St) (i : Int) : (leaveS s i).tasks = s.tasks ∧ (leaveS s i).jobs = s.jobs ∧ (leaveS s i).lasts = s.lasts := by
  unfold leaveS
  split <;> exact ⟨rfl, rfl, rfl⟩
theorem Good.change {g : Nat → Bool} {P C : Nat} {s : St} {t : Nat} {hi : Int} (G : Good g P C s t hi) (h0 : 0 ≤ hi) (i : Int) (x : Tsk) : Good g P C (chgS s P C i x) t hi := by
  unfold chgS
  split
  · rename_i h
    unfold chgE at h
    split at h
    · omega
    · obtain ⟨_, _, h3, h4, h5, h6⟩ := adm_zero h
      obtain ⟨e1, e2, _⟩ := leave_same s i
      have G' := G.leave i
      exact G'.add (by rw [e2]; exact h5) (by rw [e1]; exact all_add G.sound.all h3 h4) h0 (by rw [e1]; exact fits_is_fit h6)
  · exact G
theorem right_change {s : St} (hs : rightS s = true) (P B : Int) (i : Int) (x : Tsk) : rightS (chgS s P B i x) = true := by
  unfold chgS
  split
  · rename_i h
    unfold chgE at h
    split at h
    · omega
    · obtain ⟨h1, _, h3, h4, _, _⟩ := adm_zero h
      obtain ⟨e1, _, _⟩ := leave_same s i
      exact right_added (right_leave hs i) (by rw [e1]; exact all_add (allJ_iff.1 (rightS_iff.1 h1).2.2.2.1).1 h3 h4)
  · exact hs

/-- the cycle of fewer tasks is no greater; so what fits is not refused -/
theorem lcmTo_sub {P : Nat} {L M : List Tsk} {n : Nat} (hP : P ∣ n) (hs : ∀ x ∈ L, x ∈ M) (hM : ∀ x ∈ M, x.2.2.1.toNat ∣ n) : ∀ {k}, k ≤ L.length → lcmTo P L k ∣ n
  | 0, _ => hP
  | k + 1, hk => by
    rw [lcmTo]
    exact Nat.lcm_dvd (lcmTo_sub hP hs hM (k := k) (by omega)) (hM _ (hs _ (at_mem (by omega))))
theorem cyc_sub {P : Nat} {L M : List Tsk} (hs : ∀ x ∈ L, x ∈ M) : cyc P L ∣ cyc P M := by
  refine lcmTo_sub (lcmTo_dvd P M (Nat.zero_le _)) hs (fun x hx => ?_) (Nat.le_refl _)
  obtain ⟨j, hj, rfl⟩ := mem_at hx
  exact lcmTo_T hj
theorem farTo_sub {P : Nat} {L M : List Tsk} (hs : ∀ x ∈ L, x ∈ M) : ∀ {k}, k ≤ L.length → farTo P L k ≤ far P M
  | 0, _ => by rw [farTo]; exact far_two P M
  | k + 1, hk => by
    obtain ⟨j, hj, e⟩ := mem_at (hs _ (at_mem (show k < L.length by omega)))
    have h1 := farTo_D P M hj
    have h2 := farTo_sub (P := P) hs (k := k) (by omega)
    rw [farTo, ← e]
    unfold far at *
    omega
theorem cycOk_sub {L M : List Tsk} {P B : Int} (hs : L.Sublist M) (h : cycOk M P B = true) : cycOk L P B = true := by
  obtain ⟨h1, h2⟩ := cycOk_iff.1 h
  obtain ⟨h3, h4⟩ := in_iff.1 h1
  obtain ⟨p, b, rfl, rfl, g1, g2, g3⟩ := right_nat h4
  rw [Int.toNat_natCast] at h2
  refine cycOk_iff.2 ⟨in_iff.2 ⟨all_sub h3 hs, h4⟩, ?_⟩
  rw [Int.toNat_natCast]
  have e1 := Nat.le_of_dvd (lcmTo_pos (by omega) (all_right h3) (Nat.le_refl _)) (cyc_sub (P := p) fun x hx => hs.subset hx)
  have e2 : far p L ≤ far p M := farTo_sub (fun x hx => hs.subset hx) (Nat.le_refl _)
  unfold cyc at *
  omega
theorem fits_sub {L M : List Tsk} {P B : Int} (hs : L.Sublist M) (h : fitsB M P B = true) : fitsB L P B = true := by
  have hk : cycOk M P B = true := by
    unfold fitsB at h
    rw [Bool.and_eq_true] at h
    exact h.1
  exact (fits_true (cycOk_sub hs hk)).2 (fit_sub (in_iff.1 (cycOk_iff.1 hk).1).1 hs ((fits_true hk).1 h))
/-- whatever was let in or has left: the tasks fit -/
theorem fits_tick {s : St} {P B : Int} (h : fitsB s.tasks P B = true) (given : Bool) (now : Int) : fitsB (tickS s given now).tasks P B = true := by
  unfold tickS
  split
  · exact fits_sub (keepL_sub _ _) h
  · exact h
theorem fits_admit {s : St} {P B : Int} (h : fitsB s.tasks P B = true) (x : Tsk) : fitsB (admS s P B x).tasks P B = true := by
  unfold admS
  split
  · rename_i h'
    exact (adm_zero h').2.2.2.2.2
  · exact h
theorem fits_change {s : St} {P B : Int} (h : fitsB s.tasks P B = true) (i : Int) (x : Tsk) : fitsB (chgS s P B i x).tasks P B = true := by
  unfold chgS
  split
  · rename_i h'
    unfold chgE at h'
    split at h'
    · omega
    · show fitsB ((leaveS s i).tasks ++ [x]) P B = true
      rw [(leave_same s i).1]
      exact (adm_zero h').2.2.2.2.2
  · exact h

end Pm
end Go.Proofs.Ytdjjdebnbaaihaa

/-
  Layer 20 (admit): the errors, in parts; plain mathematics.
-/
namespace Go.Proofs.Ytdjjdebnbaaihaa
namespace Pm
open Go.RowKit Mm Tk Vd

/-- the error of tasks in an interface -/
def fitE (L : List Tsk) (P B : Int) : Nat := if cycE L P B ≠ 0 then cycE L P B else if fitsB L P B then 0 else 7
theorem fitE_cyc {L : List Tsk} {P B : Int} (h : cycE L P B ≠ 0) : fitE L P B = cycE L P B := by unfold fitE; rw [if_pos h]
theorem fitE_yes {L : List Tsk} {P B : Int} (h : cycE L P B = 0) (hf : fitsB L P B = true) : fitE L P B = 0 := by unfold fitE; rw [if_neg (by omega), if_pos hf]
theorem fitE_no {L : List Tsk} {P B : Int} (h : cycE L P B = 0) (hf : fitsB L P B = false) : fitE L P B = 7 := by unfold fitE; rw [if_neg (by omega), hf]; rfl
/-- Boot: the error, the state -/
def bootE (L : List Tsk) (P B : Int) : Nat := if Sp.rightB P B = true ∧ allB L = true then fitE L P B else 1
def bootS (L : List Tsk) (P B : Int) : St := if bootE L P B = 0 then newS L else noSt
theorem boot_ok {L : List Tsk} {P B : Int} (h : bootE L P B = 0) : allB L = true := by
  unfold bootE at h
  split at h
  · rename_i h1; exact h1.2
  · cases h
/-- Add, in parts -/
theorem admE_parts (s : St) (P B : Int) (x : Tsk) : admE s P B x = if rightS s = true ∧ Sp.rightB P B = true ∧ rightT x = true then (if 8 ≤ s.tasks.length then 3 else if (s.jobs.any fun j => begJ j) = true then 9 else fitE (s.tasks ++ [x]) P B) else 1 := rfl
theorem leaveE_zero {s : St} {i : Int} (h : leaveE s i = 0) : rightS s = true ∧ 0 ≤ i ∧ i < s.tasks.length ∧ at_ s.leaves i.toNat = false := by
  unfold leaveE at h
  split at h
  · rename_i h1
    split at h
    · cases h
    · rename_i h2
      exact ⟨h1.1, h1.2.1, h1.2.2, by cases e : at_ s.leaves i.toNat with
        | false => rfl
        | true => exact absurd e h2⟩
  · cases h
/-- a task more is let in just as well where another one is to leave -/
theorem admE_leave {s : St} {i : Int} (h : leaveE s i = 0) (P B : Int) (x : Tsk) : admE (leaveS s i) P B x = admE s P B x := by
  obtain ⟨e1, e2, e3⟩ := leave_same s i
  have hr := (leaveE_zero h).1
  have hr2 := right_leave hr i
  unfold admE
  rw [e1, e2, hr, hr2]
/-- what a call of part has made, as the answer of a call around it -/
theorem up_res {w w0 w1 : World} {S : Nat → Prop} {Z : Nat} {p : Pl} {r : St} (hS : ∀ b, S b → b < w.heap.size) (hZ : w.heap.size ≤ Z ∧ Z < w0.heap.size) (h : StS w1 (Upw S w0) p r) : StS w1 (fun b => b ≠ Z ∧ Upw S w b) p r :=
  h.keep fun b _ hb => ⟨hb.elim (fun h1 => ⟨fun e => by have := hS b h1; omega, .inl h1⟩) (fun h1 => ⟨fun e => by omega, .inr (by omega)⟩), rfl⟩

end Pm
end Go.Proofs.Ytdjjdebnbaaihaa

/-
  Layer 20 (admit): the first error of conditions, each a closure, in their order.
-/
namespace Go.Proofs.Ytdjjdebnbaaihaa
open Go.RowKit Mm Tk Vd
namespace Ad

/-- a condition: a closure, what it has captured, the error that it tells -/
structure Cnd where
  g : Nat
  lb : Array Value
  e : Nat
instance : Inhabited Cnd := ⟨⟨0, #[], 0⟩⟩
def CndOk (x : Cnd) (w : World) : Prop := (∀ args W, (callFunc x.g args).run Try.prog W = .ok (.enter x.g args) W) ∧
  ∀ W, Below w.heap.size w W → Calls Try.prog x.g x.lb W fun e w' => e = .returned (.int .i64 x.e) ∧ Below W.heap.size W w'
theorem CndOk.below {x : Cnd} {w w' : World} (h : CndOk x w) (b : Below w.heap.size w w') : CndOk x w' := ⟨h.1, fun W bW => h.2 W (below_step b bW)⟩
def firstE : List Cnd → Nat
  | [] => 0
  | x :: l => if x.e = 0 then firstE l else x.e
theorem firstE_none {l : List Cnd} (h : ∀ j, j < l.length → (at_ l j).e = 0) : firstE l = 0 := by
  induction l with
  | nil => rfl
  | cons x l ih =>
    have h0 : x.e = 0 := h 0 (by simp)
    rw [firstE, if_pos h0]
    exact ih fun j hj => h (j + 1) (by simpa using hj)
theorem firstE_at : ∀ {l : List Cnd} {k : Nat}, k < l.length → (∀ j, j < k → (at_ l j).e = 0) → (at_ l k).e ≠ 0 → firstE l = (at_ l k).e
  | [], k, hk, _, _ => by simp at hk
  | x :: l, 0, _, _, hn => by
    have hn : x.e ≠ 0 := hn
    rw [firstE, if_neg hn]; rfl
  | x :: l, k + 1, hk, h, hn => by
    have h0 : x.e = 0 := h 0 (by omega)
    rw [firstE, if_pos h0]
    exact firstE_at (l := l) (k := k) (by simpa using hk) (fun j hj => h (j + 1) (by omega)) hn

set_option maxHeartbeats 800000 in
theorem first_any (X : Nat) (l : List Cnd) (n : Nat) (hn : l.length = n) (hb : n ≤ 100) (w : World) (hc : ∀ j, j < n → w.cell? ⟨X, j, none⟩ = some (.func (.func (at_ l j).g) #[] (at_ l j).lb)) (ho : ∀ j, j < n → (∀ i, i < j → (at_ l i).e = 0) → CndOk (at_ l j) w) :
    Calls Try.prog 19 #[.slice (some ⟨X, 0, none⟩) n n] w fun e w' => e = .returned (.int .i64 (firstE l : Nat)) ∧ Below w.heap.size w w' := by
  have HC := Lib.hid hc
  have HO := Lib.hid ho
  have HN := Lib.hid hn
  clear hc ho hn
  go_enter Try.func19, Try.ntmps19
  go_wp2_with fail
  go_loopw [8] (fun i wr => ∃ k : Nat, i = .int .i64 k ∧ k ≤ n ∧ Hid (∀ j, j < k → (at_ l j).e = 0) ∧ Hid (Below w.heap.size w wr)) (fun i _ => n - (intOf i).toNat)
  case atStart => exact ⟨0, rfl, Nat.zero_le _, (fun j h => by omega), Below.refl _ _⟩
  case round =>
    obtain ⟨k, rfl, hk, HH, HB⟩ := hrel
    by_cases hlt : k < n
    · have c0 := cell_below HB.out (HC.out k hlt)
      obtain ⟨eg, hcall⟩ := HO.out k hlt HH.out
      have hcall := hcall wr HB.out
      obtain ⟨y, hy⟩ : ∃ y, at_ l k = y := ⟨_, rfl⟩
      have HY := Lib.hid hy
      rw [hy] at c0 eg hcall
      clear hy
      obtain ⟨g, lb, e⟩ := y
      simp only at c0 eg hcall
      by_cases h0 : e = 0
      · subst h0
        go_wp2_with (go_at_fn g; refine hcall.mono ?_; rintro e w1 ⟨rfl, b2⟩; have HB2 := Lib.hid (below_step HB.out b2); clear b2 hcall)
        go_roundw
        case rel =>
          refine ⟨k + 1, by go_num, hlt, fun j hj => ?_, HB2⟩
          by_cases e : j = k
          · subst e; rw [HY.out]
          · exact HH.out j (by omega)
        case measure => simp [intOf]; omega
      · have i1 : ¬ (e : Int) = 0 := by omega
        have i2 : ((e : Int) == 0) = false := beq_eq_false_iff_ne.2 i1
        have HE : Hid (firstE l = e) := by
          show _ = _
          have := firstE_at (l := l) (k := k) (by rw [HN.out]; exact hlt) HH.out (by rw [HY.out]; exact h0)
          rw [this, HY.out]
        clear h0
        go_wp2_with (go_at_fn g; refine hcall.mono ?_; rintro e w1 ⟨rfl, b2⟩; have HB2 := Lib.hid (below_step HB.out b2); clear b2 hcall)
        go_ret
        exact ⟨by rw [HE.out]; rfl, HB2.out⟩
    · have HE : Hid (firstE l = 0) := by
        show _ = _
        exact firstE_none fun j hj => HH.out j (by rw [HN.out] at hj; omega)
      go_wp2_with fail
      go_ret
      exact ⟨by rw [HE.out]; rfl, HB.out⟩

set_option maxHeartbeats 800000 in
/-- two conditions, the first of which may change what the second one reads -/
theorem first_two (X : Nat) (g1 g2 : Nat) (lb1 lb2 : Array Value) (eg1 : ∀ args W, (callFunc g1 args).run Try.prog W = .ok (.enter g1 args) W) (eg2 : ∀ args W, (callFunc g2 args).run Try.prog W = .ok (.enter g2 args) W)
    (v1 v2 v : Nat) (hv : (if v1 = 0 then v2 else v1) = v) (R1 R2 : World → Prop) (w : World) (c1 : w.cell? ⟨X, 0, none⟩ = some (.func (.func g1) #[] lb1)) (h1 : Calls Try.prog g1 lb1 w fun e w' => e = .returned (.int .i64 v1) ∧ R1 w')
    (c2 : v1 = 0 → ∀ w', R1 w' → w'.cell? ⟨X, 1, none⟩ = some (.func (.func g2) #[] lb2)) (h2 : v1 = 0 → ∀ w', R1 w' → Calls Try.prog g2 lb2 w' fun e w'' => e = .returned (.int .i64 v2) ∧ R2 w'') :
    Calls Try.prog 19 #[.slice (some ⟨X, 0, none⟩) 2 2] w fun e w' => e = .returned (.int .i64 v) ∧ (if v1 = 0 then R2 w' else R1 w') := by
  by_cases h0 : v1 = 0
  · subst h0
    have C2 := Lib.hid (c2 rfl)
    have H2 := Lib.hid (h2 rfl)
    clear c2 h2
    rw [if_pos rfl] at hv
    subst hv
    simp only [if_true]
    go_enter Try.func19, Try.ntmps19
    go_wp2_with fail
    refine wp_loop_rounds 3 ?_
    rw [rounds_succ]
    go_wp2_with fail
    refine h1.mono ?_
    rintro e w1 ⟨rfl, r1⟩
    have RR := Lib.hid r1
    have cc := C2.out _ r1
    have hh := H2.out _ r1
    clear r1 h1 c1 C2 H2
    go_wp2_with fail
    rw [rounds_succ]
    by_cases h0 : v2 = 0
    · subst h0
      go_wp2_with fail
      refine hh.mono ?_
      rintro e w2 ⟨rfl, r2⟩
      have RQ := Lib.hid r2
      clear r2 hh cc
      go_wp2_with fail
      rw [rounds_succ]
      go_wp2_with fail
      go_ret
      exact ⟨rfl, RQ.out⟩
    · have i1 : ¬ (v2 : Int) = 0 := by omega
      have i2 : ((v2 : Int) == 0) = false := beq_eq_false_iff_ne.2 i1
      clear h0
      go_wp2_with fail
      refine hh.mono ?_
      rintro e w2 ⟨rfl, r2⟩
      have RQ := Lib.hid r2
      clear r2 hh cc
      go_wp2_with fail
      go_ret
      exact ⟨rfl, RQ.out⟩
  · rw [if_neg h0] at hv
    subst hv
    simp only [if_neg h0]
    have i1 : ¬ (v1 : Int) = 0 := by omega
    have i2 : ((v1 : Int) == 0) = false := beq_eq_false_iff_ne.2 i1
    clear h0 c2 h2
    go_enter Try.func19, Try.ntmps19
    go_wp2_with fail
    refine wp_loop_rounds 3 ?_
    rw [rounds_succ]
    go_wp2_with fail
    refine h1.mono ?_
    rintro e w1 ⟨rfl, r1⟩
    have RR := Lib.hid r1
    clear r1 h1 c1
    go_wp2_with fail
    go_ret
    exact ⟨rfl, RR.out⟩

/-- conditions that all may be asked -/
def AllOk (l : List Cnd) (w : World) : Prop := ∀ x ∈ l, CndOk x w
theorem ok_nil (w : World) : AllOk [] w := fun x h => by cases h
theorem ok_cons {x : Cnd} {l : List Cnd} {w : World} (h : CndOk x w) (hl : AllOk l w) : AllOk (x :: l) w := fun y hy => by
  rcases List.mem_cons.1 hy with e | e
  · subst e; exact h
  · exact hl y e
/-- .. laid out in a new block, as the arguments of a variadic call are -/
theorem first_lit (t : TypeId) (cs : Array Value) (l : List Cnd) (h : cs = (l.map fun x => Value.func (.func x.g) #[] x.lb).toArray) (n : Nat) (hn : l.length = n) (hb : n ≤ 100) (w : World) (ho : AllOk l w) (v : Nat) (hv : firstE l = v) :
    Calls Try.prog 19 #[.slice (some ⟨w.heap.size, 0, none⟩) n n] (w.alloc (.cells cs t)) fun e w' => e = .returned (.int .i64 v) ∧ Below w.heap.size w w' := by
  subst h hv
  have b0 := below_one w (.cells (l.map fun x => Value.func (.func x.g) #[] x.lb).toArray t)
  refine (first_any w.heap.size l n hn hb _ (fun j hj => ?_) (fun j hj _ => (ho _ (at_mem (by omega))).below b0)).mono fun e w' h => ⟨h.1, below_step b0 h.2⟩
  have hj' : j < l.length := by omega
  rw [World.cell?_alloc_new]
  simp [at_, List.getD_eq_getElem?_getD, hj']

end Ad
end Go.Proofs.Ytdjjdebnbaaihaa

/-
  Layer 20 (admit): unless, and the closure that it makes; fit.
-/
namespace Go.Proofs.Ytdjjdebnbaaihaa
open Go.RowKit Mm Tk Vd
namespace Ad

theorem unless_v (v g : Nat) (lb : Array Value) (w : World) :
    Calls Try.prog 20 #[.int .i64 v, .func (.func g) #[] lb] w fun e w' => ∃ X Y, e = .returned (.func (.func 45) #[] #[.pointer (some ⟨X, 0, none⟩), .pointer (some ⟨Y, 0, none⟩)]) ∧ w'.cell? ⟨X, 0, none⟩ = some (.func (.func g) #[] lb) ∧ w'.cell? ⟨Y, 0, none⟩ = some (.int .i64 v) ∧ Below w.heap.size w w' := by
  go_enter Try.func20, Try.ntmps20
  go_wp2_with fail
  go_ret
  exact ⟨_, _, rfl, by simp, by simp, below_two w _ _⟩
theorem unless1Enters : ∀ args w, (callFunc 45 args).run Try.prog w = .ok (.enter 45 args) w := enters_of Try.func45 (by kernel_rfl) rfl
set_option maxHeartbeats 800000 in
theorem unless1_ok (g : Nat) (lb : Array Value) (ok : Bool) (v u : Nat) (hu : (if ok then 0 else v) = u) (eg : ∀ args w, (callFunc g args).run Try.prog w = .ok (.enter g args) w) (X Y : Nat) (w : World) (hX : w.cell? ⟨X, 0, none⟩ = some (.func (.func g) #[] lb)) (hY : w.cell? ⟨Y, 0, none⟩ = some (.int .i64 v))
    (hg : ∀ W, Below w.heap.size w W → Calls Try.prog g lb W fun e w' => e = .returned (.bool ok) ∧ Below W.heap.size W w') : CndOk ⟨45, #[.pointer (some ⟨X, 0, none⟩), .pointer (some ⟨Y, 0, none⟩)], u⟩ w :=
  ⟨unless1Enters, fun W b => by
    have hc := cell_below b hX
    have hd := cell_below b hY
    have hcall := hg W b
    show Calls Try.prog 45 #[.pointer (some ⟨X, 0, none⟩), .pointer (some ⟨Y, 0, none⟩)] W _
    clear hX hY hg b
    cases ok with
    | true =>
      have hu : 0 = u := hu
      subst hu
      go_enter Try.func45, Try.ntmps45
      go_wp2_with (go_at_fn g; refine hcall.mono ?_; rintro e w1 ⟨rfl, b1⟩; have B1 := Lib.hid b1; clear b1 hcall hc hd)
      go_ret
      exact ⟨rfl, B1.out⟩
    | false =>
      have hu : v = u := hu
      subst hu
      go_enter Try.func45, Try.ntmps45
      go_wp2_with (go_at_fn g; refine hcall.mono ?_; rintro e w1 ⟨rfl, b1⟩; replace hd := cell_below b1 hd; have B1 := Lib.hid b1; clear b1 hcall hc)
      go_ret
      exact ⟨rfl, B1.out⟩⟩

set_option maxHeartbeats 1600000 in
theorem fit_s (A : Option Addr) (c : Nat) (L : List Tsk) (n : Nat) (hn : L.length = n) (P B : Int) (v : Nat) (hv : Pm.fitE L P B = v) (w : World) (H : TL w A c L) :
    Calls Try.prog 28 #[.slice A n c, .agg #[.int .i64 P, .int .i64 B]] w fun e w' => e = .returned (.int .i64 v) ∧ Below w.heap.size w w' := by
  have B0 := below_one w (Obj.cells #[.int .i64 P, .int .i64 B] 30)
  have HT := Lib.hid (H.below B0)
  have BB := Lib.hid B0
  clear H B0
  obtain ⟨e, he⟩ : ∃ e, cycE L P B = e := ⟨_, rfl⟩
  obtain ⟨f, hf⟩ : ∃ f, fitsB L P B = f := ⟨_, rfl⟩
  have HF := Lib.hid (fits_v A c L P B f e hf he n hn)
  by_cases h0 : e = 0
  · subst h0
    cases f with
    | true =>
      have hvf : 0 = v := by rw [← hv]; exact (Pm.fitE_yes he hf).symm
      subst hvf
      clear he hf hn hv
      go_enter Try.func28, Try.ntmps28
      go_wp2_with fail
      refine (HF.out _ HT.out).mono ?_
      rintro x w1 ⟨rfl, b1⟩
      have B1 := Lib.hid (below_step BB.out b1)
      clear b1
      go_wp2_with fail
      go_ret
      exact ⟨rfl, B1.out⟩
    | false =>
      have hvf : 7 = v := by rw [← hv]; exact (Pm.fitE_no he hf).symm
      subst hvf
      clear he hf hn hv
      go_enter Try.func28, Try.ntmps28
      go_wp2_with fail
      refine (HF.out _ HT.out).mono ?_
      rintro x w1 ⟨rfl, b1⟩
      have B1 := Lib.hid (below_step BB.out b1)
      clear b1
      go_wp2_with fail
      go_ret
      exact ⟨rfl, B1.out⟩
  · have hve : e = v := by rw [← hv, Pm.fitE_cyc (by omega), he]
    subst hve
    have i1 : ¬ (e : Int) = 0 := by omega
    have i2 : ((e : Int) == 0) = false := beq_eq_false_iff_ne.2 i1
    clear he hf hn hv h0
    go_enter Try.func28, Try.ntmps28
    go_wp2_with fail
    refine (HF.out _ HT.out).mono ?_
    rintro x w1 ⟨rfl, b1⟩
    have B1 := Lib.hid (below_step BB.out b1)
    clear b1
    go_wp2_with fail
    go_ret
    exact ⟨rfl, B1.out⟩

end Ad
end Go.Proofs.Ytdjjdebnbaaihaa

/-
  Layer 20 (admit): what is let in is added.
-/
namespace Go.Proofs.Ytdjjdebnbaaihaa
open Go.RowKit Mm Tk Vd
namespace Pm
theorem addE_adm {s : St} {P B : Int} {x : Tsk} (h : admE s P B x = 0) : (addE s x : Int) = 0 := by
  obtain ⟨h1, _, h3, h4, _⟩ := adm_zero h
  unfold addE
  rw [if_pos ⟨h1, h3⟩, if_neg (by omega)]
  rfl
theorem addS_adm {s r : St} {P B : Int} {x : Tsk} (hr : admS s P B x = r) (h : admE s P B x = 0) : addS s x = r := by
  rw [← hr]
  unfold admS addS
  rw [if_pos (by have := addE_adm h; omega), if_pos h]
  rfl

end Pm
end Go.Proofs.Ytdjjdebnbaaihaa

