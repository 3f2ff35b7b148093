/-
  Merged texts: PortMath, PortLine, PortMem, PortRight, PortRing, PortFind, PortSend, PortDeliver, PortLines, PortOne.
-/
import Derived.Test.YtfkcplnjhelclaaGmem
import Derived.Test.YtfkcplnjhelclaaGring
import Derived.Shelf.Lay
import Derived.Lib.SliceRun
import Derived.Laws.MakeOwn
/-
  Layer 18 (port): plain mathematics: a line is two rows of messages.
-/
namespace Go.Proofs.Ytfkcplnjhelclaa
namespace Po
open Mm

/-- a message is put behind all; of a full row the first one is lost -/
def putL (cap : Nat) (q : List Int) (v : Int) : List Int := if q.length < cap then q ++ [v] else q.tail ++ [v]
/-- what is under way arrives -/
def deliL (cap : Nat) (got under : List Int) : List Int := (got ++ under).drop ((got ++ under).length - cap)
theorem putL_deli {cap : Nat} (hc : 1 ≤ cap) {q : List Int} (hq : q.length ≤ cap) (v : Int) : putL cap q v = deliL cap q [v] := by
  unfold putL deliL
  rw [List.length_append, List.length_singleton]
  split
  · rw [show q.length + 1 - cap = 0 by omega, List.drop_zero]
  · have e : q.length + 1 - cap = 1 := by omega
    rw [e]
    cases q with
    | nil => simp at hq; rename_i h; simp at h; omega
    | cons a q => rfl
theorem deliL_length {cap : Nat} (got under : List Int) : (deliL cap got under).length = min cap (got.length + under.length) := by
  unfold deliL
  rw [List.length_drop, List.length_append]
  omega
theorem deliL_le {cap : Nat} (got under : List Int) : (deliL cap got under).length ≤ cap := by
  rw [deliL_length]; omega
theorem deliL_nil {cap : Nat} {got : List Int} (h : got.length ≤ cap) : deliL cap got [] = got := by
  unfold deliL
  rw [List.append_nil, show got.length - cap = 0 by omega, List.drop_zero]
theorem deliL_snoc {cap : Nat} (hc : 1 ≤ cap) (got under : List Int) (v : Int) : deliL cap got (under ++ [v]) = deliL cap (deliL cap got under) [v] := by
  unfold deliL
  rw [← List.append_assoc]
  generalize got ++ under = l
  simp only [List.length_append, List.length_drop, List.length_singleton]
  by_cases h : l.length + 1 ≤ cap
  · rw [show l.length + 1 - cap = 0 by omega, show l.length - cap = 0 by omega, show l.length - 0 + 1 - cap = 0 by omega]
    simp
  · by_cases h2 : l.length ≤ cap
    · rw [show l.length - cap = 0 by omega, show l.length - 0 + 1 - cap = l.length + 1 - cap by omega, List.drop_zero]
    · rw [show l.length - (l.length - cap) + 1 - cap = 1 by omega, show l.length + 1 - cap = 1 + (l.length - cap) by omega]
      rw [List.drop_append_of_le_length (by omega), List.drop_append_of_le_length (by rw [List.length_drop]; omega), List.drop_drop]
      rw [Nat.add_comm]
/-- one by one it comes to the same -/
theorem fold_deli {cap : Nat} (hc : 1 ≤ cap) {got : List Int} (hg : got.length ≤ cap) : ∀ k (under : List Int), k ≤ under.length → (under.take k).foldl (putL cap) got = deliL cap got (under.take k)
  | 0, under, _ => by rw [List.take_zero, List.foldl_nil, deliL_nil hg]
  | k + 1, under, hk => by
    have ih := fold_deli hc hg k under (by omega)
    rw [take_succ_at (by omega), List.foldl_append, ih, List.foldl_cons, List.foldl_nil, putL_deli hc (deliL_le _ _), ← deliL_snoc hc]

/-- a line: what is under way, what is there; acts: 0 a send of its number, 1 a read, all others a delivery -/
structure Ln where
  under : List Int
  got : List Int
def actL (cap k : Nat) (a : Nat) (x : Ln) : Ln :=
  if a = 0 then (if x.under.length < cap then ⟨x.under ++ [(k : Int)], x.got⟩ else x)
  else if a = 1 then ⟨x.under, x.got.tail⟩ else ⟨[], deliL cap x.got x.under⟩
/-- messages rise, from what was read last on, and are elder than k -/
structure Rise (cap : Nat) (x : Ln) (last : Int) (k : Nat) : Prop where
  u : x.under.length ≤ cap
  g : x.got.length ≤ cap
  up : (x.got ++ x.under).Pairwise (· < ·)
  lo : ∀ v ∈ x.got ++ x.under, last < v
  hi : ∀ v ∈ x.got ++ x.under, v < k
theorem Rise.start (cap : Nat) : Rise cap ⟨[], []⟩ (-1) 0 := ⟨by simp, by simp, List.Pairwise.nil, fun v h => by simp at h, fun v h => by simp at h⟩
theorem Rise.later {cap : Nat} {x : Ln} {last : Int} {k : Nat} (h : Rise cap x last k) : Rise cap x last (k + 1) := ⟨h.u, h.g, h.up, h.lo, fun v hv => by have := h.hi v hv; omega⟩
theorem Rise.send {cap : Nat} {x : Ln} {last : Int} {k : Nat} (h : Rise cap x last k) (hl : last < k) (hc : x.under.length < cap) : Rise cap ⟨x.under ++ [(k : Int)], x.got⟩ last (k + 1) := by
  refine ⟨by simp; omega, h.g, ?_, fun v hv => ?_, fun v hv => ?_⟩
  · show (x.got ++ (x.under ++ [(k : Int)])).Pairwise _
    rw [← List.append_assoc, List.pairwise_append]
    exact ⟨h.up, List.pairwise_singleton _ _, fun a ha b hb => by rw [List.mem_singleton] at hb; rw [hb]; exact h.hi a ha⟩
  · have hv' : v ∈ (x.got ++ x.under) ++ [(k : Int)] := by rw [List.append_assoc]; exact hv
    rcases List.mem_append.1 hv' with h1 | h1
    · exact h.lo v h1
    · rw [List.mem_singleton] at h1; omega
  · have hv' : v ∈ (x.got ++ x.under) ++ [(k : Int)] := by rw [List.append_assoc]; exact hv
    rcases List.mem_append.1 hv' with h1 | h1
    · have := h.hi v h1; omega
    · rw [List.mem_singleton] at h1; omega
theorem Rise.read {cap : Nat} {u g : List Int} {v last : Int} {k : Nat} (h : Rise cap ⟨u, v :: g⟩ last k) : last < v ∧ v < k ∧ Rise cap ⟨u, g⟩ v k := by
  have hup : (v :: (g ++ u)).Pairwise (· < ·) := h.up
  rw [List.pairwise_cons] at hup
  refine ⟨h.lo v (by simp), h.hi v (by simp), h.u, ?_, hup.2, hup.1, fun x hx => h.hi x ?_⟩
  · have : (v :: g).length ≤ cap := h.g
    rw [List.length_cons] at this
    show g.length ≤ cap
    omega
  · show x ∈ v :: g ++ u
    rw [List.cons_append]
    exact List.mem_cons_of_mem _ hx
theorem Rise.deliver {cap : Nat} {x : Ln} {last : Int} {k : Nat} (h : Rise cap x last k) : Rise cap ⟨[], deliL cap x.got x.under⟩ last k := by
  have hm : ∀ v ∈ deliL cap x.got x.under ++ [], v ∈ x.got ++ x.under := fun v hv => by
    rw [List.append_nil] at hv
    exact List.mem_of_mem_drop hv
  refine ⟨by simp, deliL_le _ _, ?_, fun v hv => h.lo v (hm v hv), fun v hv => h.hi v (hm v hv)⟩
  show (deliL cap x.got x.under ++ []).Pairwise _
  rw [List.append_nil]
  exact h.up.drop

end Po
end Go.Proofs.Ytfkcplnjhelclaa

/-
  Layer 18 (port): plain mathematics: rings, lines, and what the calls answer.
-/
namespace Go.Proofs.Ytfkcplnjhelclaa
open Mm
namespace Po

/-- a port; a ring: its places, where it begins, how many; a line: its port, what is under way, what is there -/
abbrev Pt := Int × Int × Int
abbrev Rg := List Int × Int × Int
abbrev Lin := Pt × Rg × Rg
/-- the document's line: its port, and two rows of messages -/
abbrev Rw := Pt × List Int × List Int

def okP (p : Pt) : Bool := decide (0 ≤ p.1 ∧ p.1 < 4 ∧ 0 ≤ p.2.1 ∧ p.2.1 < 4 ∧ p.1 ≠ p.2.1 ∧ 1 ≤ p.2.2 ∧ p.2.2 ≤ 4)
def okR (r : Rg) (k : Int) : Bool := Rn.rightB r.1.length r.2.1 r.2.2 && decide ((r.1.length : Int) = k)
def okL (x : Lin) : Bool := okP x.1 && okR x.2.1 x.1.2.2 && okR x.2.2 x.1.2.2
def okS (L : List Lin) : Bool := decide (L.length ≤ 4) && L.all okL

/-- a ring of n places that is right -/
structure Good (r : Rg) (n : Nat) : Prop where
  len : r.1.length = n
  f0 : 0 ≤ r.2.1
  f1 : r.2.1 < n
  m0 : 0 ≤ r.2.2
  m1 : r.2.2 ≤ n
theorem okR_iff {r : Rg} {k : Int} : okR r k = true ↔ ∃ n : Nat, k = (n : Int) ∧ Good r n := by
  unfold okR Rn.rightB
  rw [Bool.and_eq_true, decide_eq_true_iff, decide_eq_true_iff]
  constructor
  · rintro ⟨⟨h1, h2, h3, h4⟩, h5⟩
    exact ⟨r.1.length, h5.symm, rfl, h1, h2, h3, h4⟩
  · rintro ⟨n, rfl, h⟩
    rw [h.len]
    exact ⟨⟨h.f0, h.f1, h.m0, h.m1⟩, rfl⟩

def newR (n : Nat) : Rg := (List.replicate n 0, 0, 0)
def pushR (r : Rg) (v : Int) : Rg := (r.1.set ((r.2.1.toNat + r.2.2.toNat) % r.1.length) v, r.2.1, r.2.2 + 1)
def popR (r : Rg) : Rg := (r.1, (((r.2.1.toNat + 1) % r.1.length : Nat) : Int), r.2.2 - 1)
def fstR (r : Rg) : Int := Rn.at_ r.1 r.2.1.toNat
def putR (r : Rg) (v : Int) : Rg := if r.2.2 = (r.1.length : Int) then pushR (popR r) v else pushR r v
/-- the messages -/
def msgR (r : Rg) : List Int := Rn.msgs r.1 r.2.1.toNat r.2.2.toNat
theorem msgR_length (r : Rg) : (msgR r).length = r.2.2.toNat := Rn.msgs_length _ _ _

theorem good_new {n : Nat} (h : 1 ≤ n) : Good (newR n) n := ⟨by simp [newR], by simp [newR], by simp [newR]; omega, by simp [newR], by simp [newR]⟩
theorem msg_new (n : Nat) : msgR (newR n) = [] := rfl
section
variable {r : Rg} {n : Nat} {v : Int}
theorem Good.push (h : Good r n) (hm : r.2.2 < n) : Good (pushR r v) n := by
  refine ⟨?_, h.f0, h.f1, ?_, ?_⟩
  · show (r.1.set _ v).length = n
    rw [List.length_set]; exact h.len
  · show 0 ≤ r.2.2 + 1
    have := h.m0; omega
  · show r.2.2 + 1 ≤ n
    omega
theorem Good.msg_push (h : Good r n) (hm : r.2.2 < n) : msgR (pushR r v) = msgR r ++ [v] := by
  have h1 := h.f0
  have h2 := h.f1
  have h3 := h.m0
  have h4 := h.len
  unfold msgR
  show Rn.msgs (r.1.set _ v) r.2.1.toNat (r.2.2 + 1).toNat = _
  rw [show (r.2.2 + 1).toNat = r.2.2.toNat + 1 by omega]
  exact Rn.msgs_push r.1 r.2.1.toNat r.2.2.toNat v (by omega) (by omega)
theorem Good.pop (h : Good r n) (hm : 0 < r.2.2) : Good (popR r) n := by
  have h1 := h.f0
  have h2 := h.f1
  have h4 := h.len
  have h5 := h.m1
  refine ⟨h4, ?_, ?_, ?_, ?_⟩
  · show (0 : Int) ≤ ((_ : Nat) : Int)
    omega
  · show (((r.2.1.toNat + 1) % r.1.length : Nat) : Int) < n
    have := Nat.mod_lt (r.2.1.toNat + 1) (show 0 < r.1.length by omega)
    omega
  · show 0 ≤ r.2.2 - 1
    omega
  · show r.2.2 - 1 ≤ n
    omega
theorem Good.msg_pop (h : Good r n) (hm : 0 < r.2.2) : msgR r = fstR r :: msgR (popR r) := by
  have h1 := h.f0
  have h2 := h.f1
  have h4 := h.len
  have e := Rn.msgs_pop r.1 r.2.1.toNat (r.2.2.toNat - 1) (by omega)
  rw [show r.2.2.toNat - 1 + 1 = r.2.2.toNat by omega] at e
  unfold msgR
  rw [e]
  show _ = _ :: Rn.msgs r.1 (((r.2.1.toNat + 1) % r.1.length : Nat) : Int).toNat (r.2.2 - 1).toNat
  rw [Int.toNat_natCast, show (r.2.2 - 1).toNat = r.2.2.toNat - 1 by omega]
  rfl
theorem Good.pos (h : Good r n) : 1 ≤ n := by
  have := h.f0
  have := h.f1
  omega
theorem Good.put (h : Good r n) : Good (putR r v) n := by
  have h0 := h.pos
  have h5 := h.m1
  have h4 := h.len
  unfold putR
  split
  · rename_i e
    refine (h.pop (by omega)).push ?_
    show r.2.2 - 1 < n
    omega
  · rename_i e
    exact h.push (by omega)
theorem Good.msg_put (h : Good r n) : msgR (putR r v) = putL n (msgR r) v := by
  have h0 := h.pos
  have h5 := h.m1
  have h3 := h.m0
  have h4 := h.len
  unfold putR putL
  rw [msgR_length]
  split
  · rename_i e
    rw [if_neg (by omega), (h.pop (by omega)).msg_push (by show r.2.2 - 1 < n; omega), h.msg_pop (by omega)]
    rfl
  · rename_i e
    rw [if_pos (by omega), h.msg_push (by omega)]
end

/-- k messages pass from one ring to another -/
def goR : Nat → Rg × Rg → Rg × Rg
  | 0, x => x
  | k + 1, x => ((popR (goR k x).1), putR (goR k x).2 (fstR (goR k x).1))
theorem goR_good {u g : Rg} {n : Nat} (hu : Good u n) (hg : Good g n) : ∀ k : Nat, (k : Int) ≤ u.2.2 →
    Good (goR k (u, g)).1 n ∧ Good (goR k (u, g)).2 n ∧ (goR k (u, g)).1.2.2 = u.2.2 - k ∧ msgR (goR k (u, g)).1 = (msgR u).drop k ∧ msgR (goR k (u, g)).2 = ((msgR u).take k).foldl (putL n) (msgR g)
  | 0, _ => ⟨hu, hg, by show u.2.2 = _; simp, rfl, by rw [List.take_zero]; rfl⟩
  | k + 1, hk => by
    obtain ⟨h1, h2, h3, h4, h5⟩ := goR_good hu hg k (by omega)
    have hp : 0 < (goR k (u, g)).1.2.2 := by omega
    have e := h1.msg_pop hp
    have hl : k < (msgR u).length := by rw [msgR_length]; omega
    have hd : (msgR u).drop k = at_ (msgR u) k :: (msgR u).drop (k + 1) := by rw [at_get hl, List.drop_eq_getElem_cons hl]
    rw [h4, hd] at e
    injection e with e1 e2
    refine ⟨h1.pop hp, h2.put, ?_, e2.symm, ?_⟩
    · show (goR k (u, g)).1.2.2 - 1 = _
      rw [h3]
      push_cast
      omega
    · show msgR (putR _ _) = _
      rw [h2.msg_put, h5, ← e1, take_succ_at hl, List.foldl_append]
      rfl

/-- a line after a delivery -/
def delivL (x : Lin) : Lin := if x.2.1.2.2 = 0 then x else (x.1, newR x.1.2.2.toNat, (goR x.2.1.2.2.toNat x.2).2)
/-- a line as the document's -/
def rowOf (x : Lin) : Rw := (x.1, msgR x.2.1, msgR x.2.2)
/-- the document's delivery -/
def delivW (x : Rw) : Rw := (x.1, [], deliL x.1.2.2.toNat x.2.2 x.2.1)

theorem okL_good {x : Lin} (h : okL x = true) : ∃ n : Nat, x.1.2.2 = (n : Int) ∧ 1 ≤ n ∧ n ≤ 4 ∧ okP x.1 = true ∧ Good x.2.1 n ∧ Good x.2.2 n := by
  unfold okL at h
  rw [Bool.and_eq_true, Bool.and_eq_true] at h
  obtain ⟨⟨h1, h2⟩, h3⟩ := h
  obtain ⟨n, e, g1⟩ := okR_iff.1 h2
  obtain ⟨m, e', g2⟩ := okR_iff.1 h3
  have : n = m := by omega
  subst this
  have hp := of_decide_eq_true h1
  exact ⟨n, e, by omega, by omega, h1, g1, g2⟩
theorem okL_of {x : Lin} {n : Nat} (h : okP x.1 = true) (e : x.1.2.2 = (n : Int)) (g1 : Good x.2.1 n) (g2 : Good x.2.2 n) : okL x = true := by
  unfold okL
  rw [h, e, okR_iff.2 ⟨n, rfl, g1⟩, okR_iff.2 ⟨n, rfl, g2⟩]
  rfl
theorem deliv_ok {x : Lin} (h : okL x = true) : okL (delivL x) = true ∧ rowOf (delivL x) = delivW (rowOf x) := by
  obtain ⟨n, e, n1, n4, hp, g1, g2⟩ := okL_good h
  have hm := g1.m0
  have hm2 := g2.m1
  have hm3 := g1.m1
  unfold delivL
  split
  · rename_i h0
    refine ⟨h, ?_⟩
    have hu : msgR x.2.1 = [] := List.eq_nil_of_length_eq_zero (by rw [msgR_length]; omega)
    unfold delivW rowOf
    simp only [hu]
    rw [deliL_nil (by rw [msgR_length]; omega)]
  · rename_i h0
    obtain ⟨k1, k2, k3, k4, k5⟩ := goR_good g1 g2 x.2.1.2.2.toNat (by omega)
    have en : x.1.2.2.toNat = n := by omega
    have et : (msgR x.2.1).take x.2.1.2.2.toNat = msgR x.2.1 := List.take_of_length_le (by rw [msgR_length]; omega)
    have hx : (x.2.1, x.2.2) = x.2 := rfl
    rw [hx] at k2 k5
    rw [et] at k5
    have hf := fold_deli (cap := n) n1 (got := msgR x.2.2) (by rw [msgR_length]; omega) (msgR x.2.1).length (msgR x.2.1) (Nat.le_refl _)
    rw [List.take_length] at hf
    refine ⟨okL_of hp e (by rw [en]; exact good_new n1) k2, ?_⟩
    unfold rowOf delivW
    simp only [en, msg_new, k5, hf]

/-- what the calls answer -/
def sendE (L : List Lin) (who i : Int) : Int :=
  if okS L = false then 1 else if i < 0 ∨ (L.length : Int) ≤ i then 4 else if who ≠ (at_ L i.toNat).1.1 then 7 else if (at_ L i.toNat).2.1.2.2 = ((at_ L i.toNat).2.1.1.length : Int) then 3 else 0
def sentL (x : Lin) (v : Int) : Lin := (x.1, pushR x.2.1 v, x.2.2)
def sendL (L : List Lin) (who i v : Int) : List Lin := if sendE L who i = 0 then L.set i.toNat (sentL (at_ L i.toNat) v) else L
def readE (L : List Lin) (who i : Int) : Int :=
  if okS L = false then 1 else if i < 0 ∨ (L.length : Int) ≤ i then 4 else if who ≠ (at_ L i.toNat).1.2.1 then 7 else if (at_ L i.toNat).2.2.2.2 = 0 then 4 else 0
def readV (L : List Lin) (who i : Int) : Int := if readE L who i = 0 then fstR (at_ L i.toNat).2.2 else 0
def gotL (x : Lin) : Lin := (x.1, x.2.1, popR x.2.2)
def readL (L : List Lin) (who i : Int) : List Lin := if readE L who i = 0 then L.set i.toNat (gotL (at_ L i.toNat)) else L
def delS (L : List Lin) : List Lin := if okS L then L.map delivL else L
/-- the lines of ports -/
def openP (p : Pt) : Lin := (p, newR p.2.2.toNat, newR p.2.2.toNat)
def okPs (P : List Pt) : Bool := decide (P.length ≤ 4) && P.all okP
def openS (P : List Pt) : List Lin := if okPs P then P.map openP else []
def openE (P : List Pt) : Int := if okPs P then 0 else 1

theorem okS_at {L : List Lin} (h : okS L = true) {j : Nat} (hj : j < L.length) : okL (at_ L j) = true := by
  unfold okS at h
  rw [Bool.and_eq_true] at h
  exact List.all_eq_true.1 h.2 _ (at_mem hj)
theorem okS_len {L : List Lin} (h : okS L = true) : L.length ≤ 4 := by
  unfold okS at h
  rw [Bool.and_eq_true] at h
  exact of_decide_eq_true h.1
theorem okS_of {L : List Lin} (hl : L.length ≤ 4) (h : ∀ j, j < L.length → okL (at_ L j) = true) : okS L = true := by
  unfold okS
  rw [decide_eq_true hl, Bool.true_and, List.all_eq_true]
  intro x hx
  obtain ⟨j, hj, rfl⟩ := mem_at hx
  exact h j hj
theorem okS_set {L : List Lin} (h : okS L = true) (k : Nat) {y : Lin} (hy : okL y = true) : okS (L.set k y) = true := by
  refine okS_of (by rw [List.length_set]; exact okS_len h) fun j hj => ?_
  rw [List.length_set] at hj
  by_cases e : j = k
  · subst e; rw [at_set_same _ hj]; exact hy
  · rw [at_set_other _ e]; exact okS_at h hj

end Po
end Go.Proofs.Ytfkcplnjhelclaa

/-
  Layer 18 (port): lines in memory: the cells of a slice's elements; a line, a ring, a document's line in a block of its own; an element of a slice of the call's own written whole; what ring's contracts want, and give.
-/
namespace Go.Proofs.Ytfkcplnjhelclaa
open Go.RowKit Mm
namespace Po

/-- those blocks, and all that are new since w -/
def Upw (S : Nat → Prop) (w : World) (b : Nat) : Prop := S b ∨ w.heap.size ≤ b
theorem Upw.sub {S : Nat → Prop} {w w' : World} (h : w.heap.size ≤ w'.heap.size) {b : Nat} (hb : Upw S w' b) : Upw S w b := hb.elim .inl fun e => .inr (Nat.le_trans h e)
theorem upw_in {S : Nat → Prop} {w : World} {b : Nat} (hb : S b) : Upw S w b := .inl hb

/-- the numbers of a line -/
def FitL (x : Lin) : Prop := (Fit x.1.1 ∧ Fit x.1.2.1 ∧ Fit x.1.2.2) ∧ (Fit x.2.1.2.1 ∧ Fit x.2.1.2.2) ∧ Fit x.2.2.2.1 ∧ Fit x.2.2.2.2
def FitP (x : Pt) : Prop := Fit x.1 ∧ Fit x.2.1 ∧ Fit x.2.2
theorem rd_port {w : World} {S : Nat → Prop} {vs : List Value} {x : Pt} : Dat.rd w S vs x ↔ vs = [.int .i64 x.1, .int .i64 x.2.1, .int .i64 x.2.2] ∧ FitP x := by
  constructor
  · rintro ⟨v, r, rfl, ⟨rfl, h1⟩, v2, r2, rfl, ⟨rfl, h2⟩, rfl, h3⟩
    exact ⟨rfl, h1, h2, h3⟩
  · rintro ⟨rfl, h1, h2, h3⟩
    exact ⟨[.int .i64 x.1], [.int .i64 x.2.1, .int .i64 x.2.2], rfl, ⟨rfl, h1⟩, [.int .i64 x.2.1], [.int .i64 x.2.2], rfl, ⟨rfl, h2⟩, rfl, h3⟩
theorem rd_ring {w : World} {S : Nat → Prop} {vs : List Value} {x : Rg} : Dat.rd w S vs x ↔ ∃ P p, vs = [.slice P x.1.length p, .int .i64 x.2.1, .int .i64 x.2.2] ∧ RdS w S P p x.1 ∧ Fit x.2.1 ∧ Fit x.2.2 := by
  constructor
  · rintro ⟨v, r, rfl, ⟨P, p, rfl, h1⟩, v2, r2, rfl, ⟨rfl, h2⟩, rfl, h3⟩
    exact ⟨P, p, rfl, h1, h2, h3⟩
  · rintro ⟨P, p, rfl, h1, h2, h3⟩
    exact ⟨[.slice P x.1.length p], [.int .i64 x.2.1, .int .i64 x.2.2], rfl, ⟨P, p, rfl, h1⟩, [.int .i64 x.2.1], [.int .i64 x.2.2], rfl, ⟨rfl, h2⟩, rfl, h3⟩
theorem rd_line {w : World} {S : Nat → Prop} {vs : List Value} {x : Lin} : Dat.rd w S vs x ↔ ∃ P p Q q, vs = #[.int .i64 x.1.1, .int .i64 x.1.2.1, .int .i64 x.1.2.2, .slice P x.2.1.1.length p, .int .i64 x.2.1.2.1, .int .i64 x.2.1.2.2, .slice Q x.2.2.1.length q, .int .i64 x.2.2.2.1, .int .i64 x.2.2.2.2].toList ∧ FitL x ∧ RdS w S P p x.2.1.1 ∧ RdS w S Q q x.2.2.1 := by
  constructor
  · rintro ⟨v, r, rfl, h1, v2, r2, rfl, h2, h3⟩
    obtain ⟨rfl, f1⟩ := rd_port.1 h1
    obtain ⟨P, p, rfl, r1, f2, f3⟩ := rd_ring.1 h2
    obtain ⟨Q, q, rfl, r2, f4, f5⟩ := rd_ring.1 h3
    exact ⟨P, p, Q, q, rfl, ⟨f1, ⟨f2, f3⟩, f4, f5⟩, r1, r2⟩
  · rintro ⟨P, p, Q, q, rfl, ⟨f1, ⟨f2, f3⟩, f4, f5⟩, r1, r2⟩
    exact ⟨_, _, rfl, rd_port.2 ⟨rfl, f1⟩, _, _, rfl, rd_ring.2 ⟨P, p, rfl, r1, f2, f3⟩, rd_ring.2 ⟨Q, q, rfl, r2, f4, f5⟩⟩
theorem rd_row {w : World} {S : Nat → Prop} {vs : List Value} {x : Rw} : Dat.rd w S vs x ↔ ∃ P p Q q, vs = #[.int .i64 x.1.1, .int .i64 x.1.2.1, .int .i64 x.1.2.2, .slice P x.2.1.length p, .slice Q x.2.2.length q].toList ∧ FitP x.1 ∧ RdS w S P p x.2.1 ∧ RdS w S Q q x.2.2 := by
  constructor
  · rintro ⟨v, r, rfl, h1, v2, r2, rfl, ⟨P, p, rfl, r1⟩, Q, q, rfl, r2⟩
    obtain ⟨rfl, f1⟩ := rd_port.1 h1
    exact ⟨P, p, Q, q, rfl, f1, r1, r2⟩
  · rintro ⟨P, p, Q, q, rfl, f1, r1, r2⟩
    exact ⟨_, _, rfl, rd_port.2 ⟨rfl, f1⟩, _, _, rfl, ⟨P, p, rfl, r1⟩, Q, q, rfl, r2⟩
theorem k_line : Dat.k Lin = 9 := rfl
theorem k_row : Dat.k Rw = 5 := rfl
theorem k_port : Dat.k Pt = 3 := rfl

/-- the cells of a port, a line, a document's line at a place -/
structure CP (w : World) (X o : Nat) (x : Pt) : Prop where
  c0 : w.cell? ⟨X, o, none⟩ = some (.int .i64 x.1)
  c1 : w.cell? ⟨X, o + 1, none⟩ = some (.int .i64 x.2.1)
  c2 : w.cell? ⟨X, o + 2, none⟩ = some (.int .i64 x.2.2)
structure CL (w : World) (X o : Nat) (P : Option Addr) (p : Nat) (Q : Option Addr) (q : Nat) (x : Lin) : Prop where
  c0 : w.cell? ⟨X, o, none⟩ = some (.int .i64 x.1.1)
  c1 : w.cell? ⟨X, o + 1, none⟩ = some (.int .i64 x.1.2.1)
  c2 : w.cell? ⟨X, o + 2, none⟩ = some (.int .i64 x.1.2.2)
  c3 : w.cell? ⟨X, o + 3, none⟩ = some (.slice P x.2.1.1.length p)
  c4 : w.cell? ⟨X, o + 4, none⟩ = some (.int .i64 x.2.1.2.1)
  c5 : w.cell? ⟨X, o + 5, none⟩ = some (.int .i64 x.2.1.2.2)
  c6 : w.cell? ⟨X, o + 6, none⟩ = some (.slice Q x.2.2.1.length q)
  c7 : w.cell? ⟨X, o + 7, none⟩ = some (.int .i64 x.2.2.2.1)
  c8 : w.cell? ⟨X, o + 8, none⟩ = some (.int .i64 x.2.2.2.2)
structure CW (w : World) (X o : Nat) (P : Option Addr) (p : Nat) (Q : Option Addr) (q : Nat) (x : Rw) : Prop where
  c0 : w.cell? ⟨X, o, none⟩ = some (.int .i64 x.1.1)
  c1 : w.cell? ⟨X, o + 1, none⟩ = some (.int .i64 x.1.2.1)
  c2 : w.cell? ⟨X, o + 2, none⟩ = some (.int .i64 x.1.2.2)
  c3 : w.cell? ⟨X, o + 3, none⟩ = some (.slice P x.2.1.length p)
  c4 : w.cell? ⟨X, o + 4, none⟩ = some (.slice Q x.2.2.length q)
section
variable {w w' : World} {X o : Nat} {P Q : Option Addr} {p q : Nat}
theorem CP.below {x : Pt} (h : CP w X o x) (b : Below w.heap.size w w') : CP w' X o x := ⟨cell_below b h.c0, cell_below b h.c1, cell_below b h.c2⟩
theorem CL.below {x : Lin} (h : CL w X o P p Q q x) (b : Below w.heap.size w w') : CL w' X o P p Q q x :=
  ⟨cell_below b h.c0, cell_below b h.c1, cell_below b h.c2, cell_below b h.c3, cell_below b h.c4, cell_below b h.c5, cell_below b h.c6, cell_below b h.c7, cell_below b h.c8⟩
theorem CW.below {x : Rw} (h : CW w X o P p Q q x) (b : Below w.heap.size w w') : CW w' X o P p Q q x :=
  ⟨cell_below b h.c0, cell_below b h.c1, cell_below b h.c2, cell_below b h.c3, cell_below b h.c4⟩
theorem CL.lt {x : Lin} (h : CL w X o P p Q q x) : X < w.heap.size := lt_of_cell h.c0
theorem CW.lt {x : Rw} (h : CW w X o P p Q q x) : X < w.heap.size := lt_of_cell h.c0
theorem cp_new (w : World) (x : Pt) (t : TypeId) (h : w.heap.size = X) : CP (w.alloc (.cells #[.int .i64 x.1, .int .i64 x.2.1, .int .i64 x.2.2] t)) X 0 x := by
  subst h
  refine ⟨?_, ?_, ?_⟩ <;> simp
theorem cl_new (w : World) (P : Option Addr) (p : Nat) (Q : Option Addr) (q : Nat) (x : Lin) (t : TypeId) (h : w.heap.size = X) : CL (w.alloc (.cells #[.int .i64 x.1.1, .int .i64 x.1.2.1, .int .i64 x.1.2.2, .slice P x.2.1.1.length p, .int .i64 x.2.1.2.1, .int .i64 x.2.1.2.2, .slice Q x.2.2.1.length q, .int .i64 x.2.2.2.1, .int .i64 x.2.2.2.2] t)) X 0 P p Q q x := by
  subst h
  refine ⟨?_, ?_, ?_, ?_, ?_, ?_, ?_, ?_, ?_⟩ <;> simp
theorem cw_new (w : World) (P : Option Addr) (p : Nat) (Q : Option Addr) (q : Nat) (x : Rw) (t : TypeId) (h : w.heap.size = X) : CW (w.alloc (.cells #[.int .i64 x.1.1, .int .i64 x.1.2.1, .int .i64 x.1.2.2, .slice P x.2.1.length p, .slice Q x.2.2.length q] t)) X 0 P p Q q x := by
  subst h
  refine ⟨?_, ?_, ?_, ?_, ?_⟩ <;> simp
end
section
variable {w : World} {S : Nat → Prop} {A : Option Addr} {c : Nat}
theorem port_at {l : List Pt} (h : RdS w S A c l) (h0 : 0 < l.length) : ∃ b off, A = some ⟨b, off, none⟩ ∧ ∀ j, j < l.length → CP w b (off + j * 3) (at_ l j) ∧ FitP (at_ l j) := by
  obtain ⟨b, off, e, hc⟩ := h.cells h0
  refine ⟨b, off, e, fun j hj => ?_⟩
  obtain ⟨vs, h1, h2⟩ := hc j hj
  obtain ⟨rfl, f⟩ := rd_port.1 h1
  exact ⟨⟨h2 0 _ rfl, h2 1 _ rfl, h2 2 _ rfl⟩, f⟩
theorem line_at {l : List Lin} (h : RdS w S A c l) (h0 : 0 < l.length) : ∃ b off, A = some ⟨b, off, none⟩ ∧ S b ∧ ∀ j, j < l.length → ∃ P p Q q, CL w b (off + j * 9) P p Q q (at_ l j) ∧ FitL (at_ l j) ∧ RdS w S P p (at_ l j).2.1.1 ∧ RdS w S Q q (at_ l j).2.2.1 := by
  obtain ⟨b, off, e, hs, hc⟩ := h.2.2 h0
  refine ⟨b, off, e, hs, fun j hj => ?_⟩
  obtain ⟨vs, h1, h2⟩ := hc j hj
  obtain ⟨P, p, Q, q, rfl, f, r1, r2⟩ := rd_line.1 h1
  exact ⟨P, p, Q, q, ⟨h2 0 _ rfl, h2 1 _ rfl, h2 2 _ rfl, h2 3 _ rfl, h2 4 _ rfl, h2 5 _ rfl, h2 6 _ rfl, h2 7 _ rfl, h2 8 _ rfl⟩, f, r1, r2⟩
theorem row_at {l : List Rw} (h : RdS w S A c l) (h0 : 0 < l.length) : ∃ b off, A = some ⟨b, off, none⟩ ∧ S b ∧ ∀ j, j < l.length → ∃ P p Q q, CW w b (off + j * 5) P p Q q (at_ l j) ∧ FitP (at_ l j).1 ∧ RdS w S P p (at_ l j).2.1 ∧ RdS w S Q q (at_ l j).2.2 := by
  obtain ⟨b, off, e, hs, hc⟩ := h.2.2 h0
  refine ⟨b, off, e, hs, fun j hj => ?_⟩
  obtain ⟨vs, h1, h2⟩ := hc j hj
  obtain ⟨P, p, Q, q, rfl, f, r1, r2⟩ := rd_row.1 h1
  exact ⟨P, p, Q, q, ⟨h2 0 _ rfl, h2 1 _ rfl, h2 2 _ rfl, h2 3 _ rfl, h2 4 _ rfl⟩, f, r1, r2⟩
end

/-- cells written one behind the other -/
def putC (w : World) (g : Nat) : Nat → List Value → World
  | _, [] => w
  | o, v :: vs => putC (w.setCell ⟨g, o, none⟩ v) g (o + 1) vs
def setR (cs : List Value) : Nat → List Value → List Value
  | _, [] => cs
  | o, v :: vs => setR (cs.set o v) (o + 1) vs
theorem setR_all : ∀ (vs u p r : List Value), u.length = vs.length → setR (p ++ (u ++ r)) p.length vs = p ++ (vs ++ r)
  | [], u, p, r, h => by
    have := List.eq_nil_of_length_eq_zero (by simpa using h : u.length = 0)
    subst this
    rfl
  | v :: vs, [], p, r, h => by simp at h
  | v :: vs, a :: u, p, r, h => by
    show setR ((p ++ (a :: u ++ r)).set p.length v) (p.length + 1) vs = _
    rw [List.set_append_right _ _ (Nat.le_refl _), Nat.sub_self]
    show setR (p ++ (v :: (u ++ r))) (p.length + 1) vs = _
    have e := setR_all vs u (p ++ [v]) r (by simpa using h)
    rw [List.length_append, List.length_singleton, List.append_assoc, List.append_assoc] at e
    exact e
theorem setR_right : ∀ (vs u r : List Value) (o : Nat), setR (u ++ r) (u.length + o) vs = u ++ setR r o vs
  | [], u, r, o => rfl
  | v :: vs, u, r, o => by
    show setR ((u ++ r).set (u.length + o) v) (u.length + o + 1) vs = u ++ setR (r.set o v) (o + 1) vs
    rw [List.set_append_right _ _ (by omega), show u.length + o - u.length = o by omega, Nat.add_assoc]
    exact setR_right vs u _ _
theorem setR_length : ∀ (vs cs : List Value) (o : Nat), (setR cs o vs).length = cs.length
  | [], _, _ => rfl
  | v :: vs, cs, o => by
    show (setR (cs.set o v) (o + 1) vs).length = _
    rw [setR_length vs, List.length_set]
section
variable {α : Type} [Inhabited α] [Dat α]
theorem rows_setR {β : Type} [Dat β] {w : World} {S : Nat → Prop} {vs : List Value} {y : β} (hy : Dat.rd w S vs y) {l : List β} : ∀ {cs : List Value}, Mm.Rows w S cs l → ∀ j, j < l.length → Mm.Rows w S (setR cs (j * Dat.k β) vs) (l.set j y) := by
  induction l with
  | nil => intro cs _ j hj; simp at hj
  | cons x l ih =>
    intro cs h j hj
    obtain ⟨u, r, rfl, h1, h2⟩ := h
    have hl := Dat.len h1
    have hv := Dat.len hy
    cases j with
    | zero =>
      have e := setR_all vs u [] r (by omega)
      rw [List.nil_append, List.nil_append, List.length_nil] at e
      rw [Nat.zero_mul, e]
      exact ⟨vs, r, rfl, hy, h2⟩
    | succ j =>
      have e := setR_right vs u r (j * Dat.k β)
      rw [show (j + 1) * Dat.k β = u.length + j * Dat.k β by rw [Nat.add_mul]; omega, e]
      exact ⟨u, _, rfl, h1, ih h2 j (by simpa using hj)⟩
theorem owns_putC {base g : Nat} {e : TypeId} {k n c : Nat} : ∀ (vs cs : List Value) (o : Nat) (w : World), w.ownsRow base e k (.slice (some ⟨g, 0, none⟩) n c) n cs → (putC w g o vs).ownsRow base e k (.slice (some ⟨g, 0, none⟩) n c) n (setR cs o vs) ∧ w.grownBy (putC w g o vs) (some g)
  | [], cs, o, w, h => ⟨h, gb_refl _ _⟩
  | v :: vs, cs, o, w, h => by
    obtain ⟨h1, g1⟩ := World.ownsRow.stored h o v
    obtain ⟨h2, g2⟩ := owns_putC vs _ (o + 1) _ h1
    exact ⟨h2, gb_trans g1 g2⟩
/-- an element of a slice of the call's own, written whole -/
theorem own_puts {β : Type} [Dat β] {w : World} {S : Nat → Prop} {base g c : Nat} {e : TypeId} {l : List β} (h : OwS w S base e (some ⟨g, 0, none⟩) c l) (hS : ¬ S g) {j : Nat} (hj : j < l.length) {vs : List Value} {y : β} (hy : Dat.rd w S vs y) :
    OwS (putC w g (j * Dat.k β) vs) S base e (some ⟨g, 0, none⟩) c (l.set j y) ∧ w.grownBy (putC w g (j * Dat.k β) vs) (some g) := by
  obtain ⟨cs, h1, h2⟩ := h
  obtain ⟨h3, g1⟩ := owns_putC vs cs (j * Dat.k β) w h1
  refine ⟨⟨setR cs (j * Dat.k β) vs, by rw [List.length_set]; exact h3, (rows_setR hy h2 j hj).keep fun b hb hs => ⟨hs, g1.block b hb (fun e => hS (by injection e with e; rwa [e] at hs))⟩⟩, g1⟩
theorem own_free {β : Type} [Dat β] {w : World} {S : Nat → Prop} {base g c : Nat} {e : TypeId} {l : List β} (h : OwS w S base e (some ⟨g, 0, none⟩) c l) (o : Nat) : w.frozen? ⟨g, o, none⟩ = false := by
  obtain ⟨cs, h1, _⟩ := h
  exact World.ownsRow.frozenAt h1 o
end

/-- what ring's contracts want -/
theorem rn_of {w : World} {S : Nat → Prop} {A : Option Addr} {c : Nat} {l : List Int} (h : RdS w S A c l) : Rn.Rd w A c l := by
  refine ⟨h.1, fun h0 => ?_⟩
  obtain ⟨b, off, e, hc⟩ := h.cells h0
  refine ⟨b, off, e, fun j hj => ?_⟩
  obtain ⟨vs, h1, h2⟩ := hc j hj
  obtain ⟨rfl, _⟩ := h1
  have := h2 0 _ rfl
  rwa [show off + j * Dat.k Int + 0 = off + j from by show off + j * 1 + 0 = _; omega] at this
/-- .. and give -/
theorem rd_of_rn {w : World} {S : Nat → Prop} {base : Nat} {A : Option Addr} {c : Nat} {l : List Int} (h : Rn.Ow w base A c l) (hf : ∀ x ∈ l, Fit x) (hS : ∀ b, base ≤ b → S b) : RdS w S A c l := by
  have hle := h.le
  have hrd := h.rd
  refine ⟨hrd.1, ⟨hle, ?_⟩, fun h0 => ?_⟩
  · rcases h.2 with ⟨h', h0⟩ | ⟨g, cap, cur, h', hb, hg, hn, hm, _⟩
    · injection h' with h1 h2 h3
      subst h3
      exact Nat.zero_le _
    · injection h' with h1 h2 h3
      subst h3
      exact hm
  · obtain ⟨g, rfl, hg, _, _⟩ := h.form h0
    refine ⟨g, 0, rfl, hS g hg, fun j hj => ⟨[.int .i64 (at_ l j)], ⟨rfl, hf _ (at_mem hj)⟩, fun i v hv => ?_⟩⟩
    have hi : i = 0 := by
      rcases Nat.eq_zero_or_pos i with h | h
      · exact h
      · rw [List.getElem?_eq_none (by simp; omega)] at hv; cases hv
    subst hi
    simp at hv
    subst hv
    have := h.cell j hj
    rw [show 0 + j * Dat.k Int + 0 = j from by show 0 + j * 1 + 0 = _; omega]
    exact this
theorem fit_all {w : World} {S : Nat → Prop} {A : Option Addr} {c : Nat} {l : List Int} (h : RdS w S A c l) : ∀ x ∈ l, Fit x := fun x hx => by
  obtain ⟨j, hj, rfl⟩ := mem_at hx
  obtain ⟨b, off, _, hc⟩ := h.cells (by omega)
  obtain ⟨vs, h1, _⟩ := hc j hj
  exact h1.2
theorem fit_zeros (n : Nat) : ∀ x ∈ Rn.zeros n, Fit x := fun x hx => by
  have := List.eq_of_mem_replicate hx
  subst this
  exact ⟨by omega, by omega⟩
theorem fit_set {l : List Int} (h : ∀ x ∈ l, Fit x) (k : Nat) {v : Int} (hv : Fit v) : ∀ x ∈ l.set k v, Fit x := fun x hx => by
  rcases List.mem_or_eq_of_mem_set hx with h1 | h1
  · exact h x h1
  · rw [h1]; exact hv

end Po
end Go.Proofs.Ytfkcplnjhelclaa

/-
  Layer 18 (port): which ports, rings, lines are right; the library's IndexFunc, ContainsFunc at lines and at ports; Right.
-/
namespace Go.Proofs.Ytfkcplnjhelclaa
open Go.RowKit Mm Go.Shelf
namespace Po

theorem part_any (i : Int) (w : World) : Calls Try.prog 52 #[.int .i64 i] w fun e w' => e = .returned (.bool (decide (0 ≤ i ∧ i < 4))) ∧ w' = w := by
  by_cases h1 : (0 : Int) ≤ i
  · by_cases h2 : i < 4
    · rw [show decide (0 ≤ i ∧ i < 4) = true from decide_eq_true ⟨h1, h2⟩]
      go_enter Try.func52, Try.ntmps52
      go_wp2_with fail
      go_ret
      exact ⟨ret_bool (by first | rfl | exact decide_eq_true (by omega) | exact decide_eq_false (by omega)), rfl⟩
    · rw [show decide (0 ≤ i ∧ i < 4) = false from decide_eq_false (by omega)]
      have h4 : 4 ≤ i := by omega
      go_enter Try.func52, Try.ntmps52
      go_wp2_with fail
      go_ret
      exact ⟨ret_bool (by first | rfl | exact decide_eq_true (by omega) | exact decide_eq_false (by omega)), rfl⟩
  · rw [show decide (0 ≤ i ∧ i < 4) = false from decide_eq_false (by omega)]
    have h4 : i < 0 := by omega
    go_enter Try.func52, Try.ntmps52
    go_wp2_with fail
    go_ret
    exact ⟨ret_bool (by first | rfl | exact decide_eq_true (by omega) | exact decide_eq_false (by omega)), rfl⟩

theorem rightPort_any (x : Pt) (w : World) : Calls Try.prog 47 #[.agg #[.int .i64 x.1, .int .i64 x.2.1, .int .i64 x.2.2]] w fun e w' => e = .returned (.bool (okP x)) ∧ Below w.heap.size w w' := by
  obtain ⟨f, t, k⟩ := x
  have B0 := Lib.hid (below_one w (Obj.cells #[.int .i64 f, .int .i64 t, .int .i64 k] 34))
  show Calls Try.prog 47 #[.agg #[.int .i64 f, .int .i64 t, .int .i64 k]] w _
  cases h1 : decide (0 ≤ f ∧ f < 4) with
  | false =>
    have HF : Hid (okP (f, t, k) = false) := decide_eq_false (fun h => of_decide_eq_false h1 ⟨h.1, h.2.1⟩)
    go_enter Try.func47, Try.ntmps47
    go_wp2_with fail
    refine (part_any f _).mono ?_
    rintro e w1 ⟨rfl, rfl⟩
    rw [h1]
    go_wp2_with fail
    go_ret
    exact ⟨ret_bool (by rw [HF.out]; first | done | exact decide_eq_true (by omega) | exact decide_eq_false (by omega)), B0.out⟩
  | true =>
    cases h2 : decide (0 ≤ t ∧ t < 4) with
    | false =>
      have HF : Hid (okP (f, t, k) = false) := decide_eq_false (fun h => of_decide_eq_false h2 ⟨h.2.2.1, h.2.2.2.1⟩)
      go_enter Try.func47, Try.ntmps47
      go_wp2_with fail
      refine (part_any f _).mono ?_
      rintro e w1 ⟨rfl, rfl⟩
      rw [h1]
      go_wp2_with fail
      refine (part_any t _).mono ?_
      rintro e w1 ⟨rfl, rfl⟩
      rw [h2]
      go_wp2_with fail
      go_ret
      exact ⟨ret_bool (by rw [HF.out]; first | done | exact decide_eq_true (by omega) | exact decide_eq_false (by omega)), B0.out⟩
    | true =>
      by_cases h3 : f = t
      · have HF : Hid (okP (f, t, k) = false) := decide_eq_false (fun h => h.2.2.2.2.1 h3)
        subst h3
        go_enter Try.func47, Try.ntmps47
        go_wp2_with fail
        refine (part_any f _).mono ?_
        rintro e w1 ⟨rfl, rfl⟩
        rw [h1]
        go_wp2_with fail
        refine (part_any f _).mono ?_
        rintro e w1 ⟨rfl, rfl⟩
        rw [h2]
        go_wp2_with fail
        go_ret
        exact ⟨ret_bool (by rw [HF.out]; first | done | exact decide_eq_true (by omega) | exact decide_eq_false (by omega)), B0.out⟩
      · have h4 : (f != t) = true := by simp [h3]
        by_cases h5 : (1 : Int) ≤ k
        · by_cases h6 : k ≤ 4
          · have HF : Hid (okP (f, t, k) = true) := decide_eq_true ⟨(of_decide_eq_true h1).1, (of_decide_eq_true h1).2, (of_decide_eq_true h2).1, (of_decide_eq_true h2).2, h3, h5, h6⟩
            go_enter Try.func47, Try.ntmps47
            go_wp2_with fail
            refine (part_any f _).mono ?_
            rintro e w1 ⟨rfl, rfl⟩
            rw [h1]
            go_wp2_with fail
            refine (part_any t _).mono ?_
            rintro e w1 ⟨rfl, rfl⟩
            rw [h2]
            go_wp2_with fail
            go_ret
            exact ⟨ret_bool (by rw [HF.out]; first | done | exact decide_eq_true (by omega) | exact decide_eq_false (by omega)), B0.out⟩
          · have HF : Hid (okP (f, t, k) = false) := decide_eq_false (fun h => h6 h.2.2.2.2.2.2)
            have h7 : 4 < k := by omega
            go_enter Try.func47, Try.ntmps47
            go_wp2_with fail
            refine (part_any f _).mono ?_
            rintro e w1 ⟨rfl, rfl⟩
            rw [h1]
            go_wp2_with fail
            refine (part_any t _).mono ?_
            rintro e w1 ⟨rfl, rfl⟩
            rw [h2]
            go_wp2_with fail
            go_ret
            exact ⟨ret_bool (by rw [HF.out]; first | done | exact decide_eq_true (by omega) | exact decide_eq_false (by omega)), B0.out⟩
        · have HF : Hid (okP (f, t, k) = false) := decide_eq_false (fun h => h5 h.2.2.2.2.2.1)
          have h7 : k < 1 := by omega
          go_enter Try.func47, Try.ntmps47
          go_wp2_with fail
          refine (part_any f _).mono ?_
          rintro e w1 ⟨rfl, rfl⟩
          rw [h1]
          go_wp2_with fail
          refine (part_any t _).mono ?_
          rintro e w1 ⟨rfl, rfl⟩
          rw [h2]
          go_wp2_with fail
          go_ret
          exact ⟨ret_bool (by rw [HF.out]; first | done | exact decide_eq_true (by omega) | exact decide_eq_false (by omega)), B0.out⟩

theorem rightRing_any (A : Option Addr) (c : Nat) (r : Rg) (k : Int) (w : World) : Calls Try.prog 50 #[(.agg #[.slice A r.1.length c, .int .i64 r.2.1, .int .i64 r.2.2]), .int .i64 k] w fun e w' => e = .returned (.bool (okR r k)) ∧ Below w.heap.size w w' := by
  have HE : Hid (okR r k = (Rn.rightB r.1.length r.2.1 r.2.2 && decide ((r.1.length : Int) = k))) := rfl
  generalize okR r k = z at *
  generalize r.1.length = n at *
  generalize r.2.1 = f at *
  generalize r.2.2 = m at *
  have B0 := Lib.hid (below_one w (Obj.cells #[.slice A n c, .int .i64 f, .int .i64 m] 52))
  cases h1 : Rn.rightB n f m with
  | false =>
    have HF : Hid (z = false) := by show _ = _; rw [HE.out, h1]; rfl
    go_enter Try.func50, Try.ntmps50
    go_wp2_with fail
    refine (Rn.right_any A n c f m _).mono ?_
    rintro e w1 ⟨rfl, b1⟩
    rw [h1]
    replace B0 := Lib.hid (below_step B0.out b1)
    clear b1
    go_wp2_with fail
    go_ret
    exact ⟨ret_bool (by rw [HF.out]; first | done | exact decide_eq_true (by omega) | exact decide_eq_false (by omega)), B0.out⟩
  | true =>
    by_cases h2 : (n : Int) = k
    · have HF : Hid (z = true) := by show _ = _; rw [HE.out, h1, decide_eq_true h2]; rfl
      have h3 : ((n : Int) == k) = true := by simp [h2]
      have x0 : (w.alloc (Obj.cells #[.slice A n c, .int .i64 f, .int .i64 m] 52)).cell? ⟨w.heap.size, 0, none⟩ = some (.slice A n c) := by simp
      have H2 := Lib.hid h2
      clear h2
      go_enter Try.func50, Try.ntmps50
      go_wp2_with fail
      refine (Rn.right_any A n c f m _).mono ?_
      rintro e w1 ⟨rfl, b1⟩
      rw [h1]
      replace x0 := cell_below b1 x0
      replace B0 := Lib.hid (below_step B0.out b1)
      clear b1
      go_wp2_with fail
      go_ret
      exact ⟨ret_bool (by rw [HF.out]; first | done | exact decide_eq_true (by omega) | exact decide_eq_false (by omega)), B0.out⟩
    · have HF : Hid (z = false) := by show _ = _; rw [HE.out, h1, decide_eq_false h2]; rfl
      have h3 : ((n : Int) == k) = false := by simp [h2]
      have x0 : (w.alloc (Obj.cells #[.slice A n c, .int .i64 f, .int .i64 m] 52)).cell? ⟨w.heap.size, 0, none⟩ = some (.slice A n c) := by simp
      go_enter Try.func50, Try.ntmps50
      go_wp2_with fail
      refine (Rn.right_any A n c f m _).mono ?_
      rintro e w1 ⟨rfl, b1⟩
      rw [h1]
      replace x0 := cell_below b1 x0
      replace B0 := Lib.hid (below_step B0.out b1)
      clear b1
      go_wp2_with fail
      go_ret
      exact ⟨ret_bool (by rw [HF.out]; first | done | exact decide_eq_true (by omega) | exact decide_eq_false (by omega)), B0.out⟩

theorem okL_eq (x : Lin) : okL x = (okP x.1 && okR x.2.1 x.1.2.2 && okR x.2.2 x.1.2.2) := rfl
set_option maxHeartbeats 800000 in
theorem rightLine_any (P : Option Addr) (p : Nat) (Q : Option Addr) (q : Nat) (x : Lin) (w : World) : Calls Try.prog 37 #[(.agg #[.int .i64 x.1.1, .int .i64 x.1.2.1, .int .i64 x.1.2.2, .slice P x.2.1.1.length p, .int .i64 x.2.1.2.1, .int .i64 x.2.1.2.2, .slice Q x.2.2.1.length q, .int .i64 x.2.2.2.1, .int .i64 x.2.2.2.2])] w fun e w' => e = .returned (.bool (okL x)) ∧ Below w.heap.size w w' := by
  have HE := Lib.hid (okL_eq x)
  have HX := Lib.hid (cl_new w P p Q q x 54 rfl)
  have B0 := Lib.hid (below_one w (Obj.cells #[.int .i64 x.1.1, .int .i64 x.1.2.1, .int .i64 x.1.2.2, .slice P x.2.1.1.length p, .int .i64 x.2.1.2.1, .int .i64 x.2.1.2.2, .slice Q x.2.2.1.length q, .int .i64 x.2.2.2.1, .int .i64 x.2.2.2.2] 54))
  go_enter Try.func37, Try.ntmps37
  go_wp2_with fail
  generalize w.alloc (Obj.cells #[.int .i64 x.1.1, .int .i64 x.1.2.1, .int .i64 x.1.2.2, .slice P x.2.1.1.length p, .int .i64 x.2.1.2.1, .int .i64 x.2.1.2.2, .slice Q x.2.2.1.length q, .int .i64 x.2.2.2.1, .int .i64 x.2.2.2.2] 54) = w0 at *
  refine (rightPort_any x.1 _).mono ?_
  rintro e w1 ⟨rfl, b1⟩
  replace HX := Lib.hid (HX.out.below b1)
  replace B0 := Lib.hid (below_step B0.out b1)
  clear b1
  obtain ⟨x0, x1, x2, x3, x4, x5, x6, x7, x8⟩ := HX.out
  try rw [Nat.zero_add] at x1 x2 x3 x4 x5 x6 x7 x8
  cases h1 : okP x.1 with
  | false =>
    have HF : Hid (okL x = false) := by show _ = _; rw [HE.out, h1]; rfl
    go_wp2_with fail
    go_ret
    exact ⟨ret_bool (by rw [HF.out]; first | done | exact decide_eq_true (by omega) | exact decide_eq_false (by omega)), B0.out⟩
  | true =>
    cases h2 : okR x.2.1 x.1.2.2 with
    | false =>
      have HF : Hid (okL x = false) := by show _ = _; rw [HE.out, h1, h2]; rfl
      go_wp2_with fail
      refine (rightRing_any P p x.2.1 _ _).mono ?_
      rintro e w2 ⟨rfl, b2⟩
      rw [h2]
      clear x0 x1 x2 x3 x4 x5 x6 x7 x8
      replace HX := Lib.hid (HX.out.below b2)
      replace B0 := Lib.hid (below_step B0.out b2)
      clear b2
      obtain ⟨x0, x1, x2, x3, x4, x5, x6, x7, x8⟩ := HX.out
      try rw [Nat.zero_add] at x1 x2 x3 x4 x5 x6 x7 x8
      go_wp2_with fail
      go_ret
      exact ⟨ret_bool (by rw [HF.out]; first | done | exact decide_eq_true (by omega) | exact decide_eq_false (by omega)), B0.out⟩
    | true =>
      have HF : Hid (okL x = okR x.2.2 x.1.2.2) := by show _ = _; rw [HE.out, h1, h2]; rfl
      go_wp2_with fail
      refine (rightRing_any P p x.2.1 _ _).mono ?_
      rintro e w2 ⟨rfl, b2⟩
      rw [h2]
      clear x0 x1 x2 x3 x4 x5 x6 x7 x8
      replace HX := Lib.hid (HX.out.below b2)
      replace B0 := Lib.hid (below_step B0.out b2)
      clear b2
      obtain ⟨x0, x1, x2, x3, x4, x5, x6, x7, x8⟩ := HX.out
      try rw [Nat.zero_add] at x1 x2 x3 x4 x5 x6 x7 x8
      go_wp2_with fail
      refine (rightRing_any Q q x.2.2 _ _).mono ?_
      rintro e w2 ⟨rfl, b2⟩
      clear x0 x1 x2 x3 x4 x5 x6 x7 x8
      replace B0 := Lib.hid (below_step B0.out b2)
      clear b2
      go_wp2_with fail
      go_ret
      exact ⟨ret_bool (by rw [HF.out]; first | done | exact decide_eq_true (by omega) | exact decide_eq_false (by omega)), B0.out⟩

/-- what is asked of a closure over lines, over ports -/
def PredLine (g : Nat) (lb : Array Value) (pb : Lin → Bool) : Prop := ∀ (W : World) (P : Option Addr) (p : Nat) (Q : Option Addr) (q : Nat) (x : Lin),
  Calls Try.prog g (#[(.agg #[.int .i64 x.1.1, .int .i64 x.1.2.1, .int .i64 x.1.2.2, .slice P x.2.1.1.length p, .int .i64 x.2.1.2.1, .int .i64 x.2.1.2.2, .slice Q x.2.2.1.length q, .int .i64 x.2.2.2.1, .int .i64 x.2.2.2.2])] ++ lb) W fun e w' => e = .returned (.bool (pb x)) ∧ Below W.heap.size W w'
def PredPort (g : Nat) (lb : Array Value) (pb : Pt → Bool) : Prop := ∀ (W : World) (x : Pt),
  Calls Try.prog g (#[.agg #[.int .i64 x.1, .int .i64 x.2.1, .int .i64 x.2.2]] ++ lb) W fun e w' => e = .returned (.bool (pb x)) ∧ Below W.heap.size W w'
theorem any_take_yes {α : Type} [Inhabited α] {l : List α} {p : α → Bool} {k : Nat} (hk : k < l.length) (h : p (at_ l k) = true) : l.any p = true := List.any_eq_true.2 ⟨_, at_mem hk, h⟩
theorem any_take_no {α : Type} [Inhabited α] {l : List α} {p : α → Bool} (h : ∀ j, j < l.length → p (at_ l j) = false) : l.any p = false := by
  rw [List.any_eq_false]
  intro x hx
  obtain ⟨j, hj, rfl⟩ := mem_at hx
  rw [h j hj]
  simp
/-- an index, or -1: whether there is one -/
def IdxOf (w : World) (r : Bool) (e : Ending) (w' : World) : Prop := ∃ n : Int, e = .returned (.int .i64 n) ∧ (r = true → 0 ≤ n) ∧ (r = false → n = -1) ∧ Below w.heap.size w w'

set_option maxHeartbeats 800000 in
theorem indexLine (g : Nat) (lb : Array Value) (pb : Lin → Bool) (eg : ∀ args w, (callFunc g args).run Try.prog w = .ok (.enter g args) w) (A : Option Addr) (c : Nat) (l : List Lin) (w : World) (hbig : l.length ≤ 1000000) (hp : PredLine g lb pb) (hr : Rd w A c l) :
    Calls Try.prog 49 #[.slice A l.length c, .func (.func g) #[] lb] w (IdxOf w (l.any pb)) := by
  have HR := Lib.hid hr
  have HP := Lib.hid hp
  clear hr hp
  go_enter Try.func49, Try.ntmps49
  go_wp2_with fail
  go_loopw [8] (fun i wr => ∃ k : Nat, i = .int .i64 k ∧ k ≤ l.length ∧ Hid (∀ j, j < k → pb (at_ l j) = false) ∧ Hid (Below w.heap.size w wr)) (fun i _ => l.length - (intOf i).toNat)
  case atStart => exact ⟨0, rfl, Nat.zero_le _, (fun j h => by omega), Below.refl _ _⟩
  case round =>
    obtain ⟨k, rfl, hk, HH, HB⟩ := hrel
    by_cases hlt : k < l.length
    · skip
      obtain ⟨b, off, rfl, _, hc⟩ := line_at (HR.out.below HB.out) (by omega)
      obtain ⟨P, p, Q, q, hx9, _, _, _⟩ := hc k hlt
      obtain ⟨x0, x1, x2, x3, x4, x5, x6, x7, x8⟩ := hx9
      have hcall := HP.out wr P p Q q (at_ l k)
      clear hc
      cases hb : pb (at_ l k) with
      | true =>
        rw [hb] at hcall
        have HY := Lib.hid (any_take_yes hlt hb)
        clear hb
        generalize at_ l k = x at *
        go_wp2_with (go_at_fn g; refine hcall.mono ?_; rintro e w1 ⟨rfl, b2⟩; have HB2 := Lib.hid (below_step HB.out b2); clear b2 hcall)
        go_ret
        exact ⟨k, rfl, (fun _ => by omega), (fun h => by rw [HY.out] at h; cases h), HB2.out⟩
      | false =>
        rw [hb] at hcall
        have HN := Lib.hid hb
        clear hb
        generalize hx : at_ l k = x at *
        have HX := Lib.hid hx
        clear hx
        go_wp2_with (go_at_fn g; refine hcall.mono ?_; rintro e w1 ⟨rfl, b2⟩; have HB2 := Lib.hid (below_step HB.out b2); clear b2 hcall)
        go_roundw
        case rel =>
          refine ⟨k + 1, by go_num, hlt, fun j hj => ?_, HB2⟩
          by_cases e : j = k
          · subst e; rw [HX.out]; exact HN.out
          · exact HH.out j (by omega)
        case measure => simp [intOf]; omega
    · go_wp2_with fail
      go_ret
      have hn := any_take_no (p := pb) (l := l) fun j hj => HH.out j (by omega)
      exact ⟨-1, rfl, (fun h => by rw [hn] at h; cases h), (fun _ => rfl), HB.out⟩
theorem hasLine (g : Nat) (lb : Array Value) (pb : Lin → Bool) (eg : ∀ args w, (callFunc g args).run Try.prog w = .ok (.enter g args) w) (A : Option Addr) (c : Nat) (l : List Lin) (w : World) (hbig : l.length ≤ 1000000) (hp : PredLine g lb pb) (hr : Rd w A c l) :
    Calls Try.prog 35 #[.slice A l.length c, .func (.func g) #[] lb] w fun e w' => e = .returned (.bool (l.any pb)) ∧ Below w.heap.size w w' := by
  have HR := Lib.hid hr
  have HP := Lib.hid hp
  clear hr hp
  go_enter Try.func35, Try.ntmps35
  go_wp2_with fail
  refine (indexLine g lb pb eg A c l _ hbig HP.out HR.out).mono ?_
  rintro e w1 ⟨n, rfl, h1, h2, b1⟩
  have B1 := Lib.hid b1
  have H1 := Lib.hid h1
  have H2 := Lib.hid h2
  clear b1 h1 h2
  cases ha : l.any pb with
  | true =>
    have h := H1.out ha
    have HA := Lib.hid ha
    clear ha
    go_wp2_with fail
    go_ret
    exact ⟨ret_bool (by rw [HA.out]), B1.out⟩
  | false =>
    have h := H2.out ha
    subst h
    have HA := Lib.hid ha
    clear ha
    go_wp2_with fail
    go_ret
    exact ⟨ret_bool (by rw [HA.out]), B1.out⟩
set_option maxHeartbeats 800000 in
theorem indexPort (g : Nat) (lb : Array Value) (pb : Pt → Bool) (eg : ∀ args w, (callFunc g args).run Try.prog w = .ok (.enter g args) w) (A : Option Addr) (c : Nat) (l : List Pt) (w : World) (hbig : l.length ≤ 1000000) (hp : PredPort g lb pb) (hr : Rd w A c l) :
    Calls Try.prog 51 #[.slice A l.length c, .func (.func g) #[] lb] w (IdxOf w (l.any pb)) := by
  have HR := Lib.hid hr
  have HP := Lib.hid hp
  clear hr hp
  go_enter Try.func51, Try.ntmps51
  go_wp2_with fail
  go_loopw [8] (fun i wr => ∃ k : Nat, i = .int .i64 k ∧ k ≤ l.length ∧ Hid (∀ j, j < k → pb (at_ l j) = false) ∧ Hid (Below w.heap.size w wr)) (fun i _ => l.length - (intOf i).toNat)
  case atStart => exact ⟨0, rfl, Nat.zero_le _, (fun j h => by omega), Below.refl _ _⟩
  case round =>
    obtain ⟨k, rfl, hk, HH, HB⟩ := hrel
    by_cases hlt : k < l.length
    · skip
      obtain ⟨b, off, rfl, hc⟩ := port_at (HR.out.below HB.out) (by omega)
      obtain ⟨⟨x0, x1, x2⟩, _⟩ := hc k hlt
      have hcall := HP.out wr (at_ l k)
      clear hc
      cases hb : pb (at_ l k) with
      | true =>
        rw [hb] at hcall
        have HY := Lib.hid (any_take_yes hlt hb)
        clear hb
        generalize at_ l k = x at *
        go_wp2_with (go_at_fn g; refine hcall.mono ?_; rintro e w1 ⟨rfl, b2⟩; have HB2 := Lib.hid (below_step HB.out b2); clear b2 hcall)
        go_ret
        exact ⟨k, rfl, (fun _ => by omega), (fun h => by rw [HY.out] at h; cases h), HB2.out⟩
      | false =>
        rw [hb] at hcall
        have HN := Lib.hid hb
        clear hb
        generalize hx : at_ l k = x at *
        have HX := Lib.hid hx
        clear hx
        go_wp2_with (go_at_fn g; refine hcall.mono ?_; rintro e w1 ⟨rfl, b2⟩; have HB2 := Lib.hid (below_step HB.out b2); clear b2 hcall)
        go_roundw
        case rel =>
          refine ⟨k + 1, by go_num, hlt, fun j hj => ?_, HB2⟩
          by_cases e : j = k
          · subst e; rw [HX.out]; exact HN.out
          · exact HH.out j (by omega)
        case measure => simp [intOf]; omega
    · go_wp2_with fail
      go_ret
      have hn := any_take_no (p := pb) (l := l) fun j hj => HH.out j (by omega)
      exact ⟨-1, rfl, (fun h => by rw [hn] at h; cases h), (fun _ => rfl), HB.out⟩
theorem hasPort (g : Nat) (lb : Array Value) (pb : Pt → Bool) (eg : ∀ args w, (callFunc g args).run Try.prog w = .ok (.enter g args) w) (A : Option Addr) (c : Nat) (l : List Pt) (w : World) (hbig : l.length ≤ 1000000) (hp : PredPort g lb pb) (hr : Rd w A c l) :
    Calls Try.prog 45 #[.slice A l.length c, .func (.func g) #[] lb] w fun e w' => e = .returned (.bool (l.any pb)) ∧ Below w.heap.size w w' := by
  have HR := Lib.hid hr
  have HP := Lib.hid hp
  clear hr hp
  go_enter Try.func45, Try.ntmps45
  go_wp2_with fail
  refine (indexPort g lb pb eg A c l _ hbig HP.out HR.out).mono ?_
  rintro e w1 ⟨n, rfl, h1, h2, b1⟩
  have B1 := Lib.hid b1
  have H1 := Lib.hid h1
  have H2 := Lib.hid h2
  clear b1 h1 h2
  cases ha : l.any pb with
  | true =>
    have h := H1.out ha
    have HA := Lib.hid ha
    clear ha
    go_wp2_with fail
    go_ret
    exact ⟨ret_bool (by rw [HA.out]), B1.out⟩
  | false =>
    have h := H2.out ha
    subst h
    have HA := Lib.hid ha
    clear ha
    go_wp2_with fail
    go_ret
    exact ⟨ret_bool (by rw [HA.out]), B1.out⟩

theorem line_closure : PredLine 36 #[] (fun x => !okL x) := fun W P p Q q x => by
  show Calls Try.prog 36 #[(.agg #[.int .i64 x.1.1, .int .i64 x.1.2.1, .int .i64 x.1.2.2, .slice P x.2.1.1.length p, .int .i64 x.2.1.2.1, .int .i64 x.2.1.2.2, .slice Q x.2.2.1.length q, .int .i64 x.2.2.2.1, .int .i64 x.2.2.2.2])] W _
  have HX := Lib.hid (cl_new W P p Q q x 54 rfl)
  have B0 := Lib.hid (below_one W (Obj.cells #[.int .i64 x.1.1, .int .i64 x.1.2.1, .int .i64 x.1.2.2, .slice P x.2.1.1.length p, .int .i64 x.2.1.2.1, .int .i64 x.2.1.2.2, .slice Q x.2.2.1.length q, .int .i64 x.2.2.2.1, .int .i64 x.2.2.2.2] 54))
  go_enter Try.func36, Try.ntmps36
  go_wp2_with fail
  generalize W.alloc (Obj.cells #[.int .i64 x.1.1, .int .i64 x.1.2.1, .int .i64 x.1.2.2, .slice P x.2.1.1.length p, .int .i64 x.2.1.2.1, .int .i64 x.2.1.2.2, .slice Q x.2.2.1.length q, .int .i64 x.2.2.2.1, .int .i64 x.2.2.2.2] 54) = w0 at *
  refine (rightLine_any P p Q q x _).mono ?_
  rintro e w1 ⟨rfl, b1⟩
  replace B0 := Lib.hid (below_step B0.out b1)
  clear b1
  go_wp2_with fail
  go_ret
  exact ⟨rfl, B0.out⟩
theorem port_closure : PredPort 46 #[] (fun x => !okP x) := fun W x => by
  show Calls Try.prog 46 #[.agg #[.int .i64 x.1, .int .i64 x.2.1, .int .i64 x.2.2]] W _
  have B0 := Lib.hid (below_one W (Obj.cells #[.int .i64 x.1, .int .i64 x.2.1, .int .i64 x.2.2] 34))
  go_enter Try.func46, Try.ntmps46
  go_wp2_with fail
  generalize W.alloc (Obj.cells #[.int .i64 x.1, .int .i64 x.2.1, .int .i64 x.2.2] 34) = w0 at *
  refine (rightPort_any x _).mono ?_
  rintro e w1 ⟨rfl, b1⟩
  replace B0 := Lib.hid (below_step B0.out b1)
  clear b1
  go_wp2_with fail
  go_ret
  exact ⟨rfl, B0.out⟩
theorem lineEnters : ∀ args w, (callFunc 36 args).run Try.prog w = .ok (.enter 36 args) w := enters_of Try.func36 (by kernel_rfl) rfl
theorem portEnters : ∀ args w, (callFunc 46 args).run Try.prog w = .ok (.enter 46 args) w := enters_of Try.func46 (by kernel_rfl) rfl
theorem any_not {α : Type} (f : α → Bool) (L : List α) : L.any (fun t => !f t) = !L.all f := by
  induction L with
  | nil => rfl
  | cons x l ih => simp [ih]

theorem right_any (A : Option Addr) (c : Nat) (L : List Lin) (w : World) (hbig : L.length ≤ 1000000) (hr : Rd w A c L) :
    Calls Try.prog 21 #[.slice A L.length c] w fun e w' => e = .returned (.bool (okS L)) ∧ Below w.heap.size w w' := by
  by_cases h8 : (L.length : Int) ≤ 4
  · have HH : Hid (okS L = !(L.any (fun t => !okL t))) := by show _ = _; rw [any_not]; simp [okS]; omega
    have HR := Lib.hid hr
    clear hr
    go_enter Try.func21, Try.ntmps21
    go_wp2_with fail
    refine (hasLine _ _ _ lineEnters A c L _ hbig line_closure HR.out).mono ?_
    rintro e w1 ⟨rfl, b1⟩
    have B1 := Lib.hid b1
    clear b1
    go_wp2_with fail
    go_ret
    exact ⟨ret_bool HH.out.symm, B1.out⟩
  · have HH : Hid (okS L = false) := by show _ = _; simp [okS]; omega
    have h9 : (4 : Int) < (L.length : Int) := by omega
    go_enter Try.func21, Try.ntmps21
    go_wp2_with fail
    go_ret
    exact ⟨ret_bool HH.out.symm, Below.refl _ _⟩
theorem right_n (A : Option Addr) (c : Nat) (L : List Lin) (n : Nat) (b : Bool) (hn : L.length = n) (hb : okS L = b) (w : World) (hbig : n ≤ 1000000) (hr : Rd w A c L) :
    Calls Try.prog 21 #[.slice A n c] w fun e w' => e = .returned (.bool b) ∧ Below w.heap.size w w' := by
  subst hn
  subst hb
  exact right_any A c L w hbig hr
theorem ports_any (A : Option Addr) (c : Nat) (L : List Pt) (w : World) (hbig : L.length ≤ 1000000) (hr : Rd w A c L) :
    Calls Try.prog 33 #[.slice A L.length c] w fun e w' => e = .returned (.bool (okPs L)) ∧ Below w.heap.size w w' := by
  by_cases h8 : (L.length : Int) ≤ 4
  · have HH : Hid (okPs L = !(L.any (fun t => !okP t))) := by show _ = _; rw [any_not]; simp [okPs]; omega
    have HR := Lib.hid hr
    clear hr
    go_enter Try.func33, Try.ntmps33
    go_wp2_with fail
    refine (hasPort _ _ _ portEnters A c L _ hbig port_closure HR.out).mono ?_
    rintro e w1 ⟨rfl, b1⟩
    have B1 := Lib.hid b1
    clear b1
    go_wp2_with fail
    go_ret
    exact ⟨ret_bool HH.out.symm, B1.out⟩
  · have HH : Hid (okPs L = false) := by show _ = _; simp [okPs]; omega
    have h9 : (4 : Int) < (L.length : Int) := by omega
    go_enter Try.func33, Try.ntmps33
    go_wp2_with fail
    go_ret
    exact ⟨ret_bool HH.out.symm, Below.refl _ _⟩
theorem ports_n (A : Option Addr) (c : Nat) (L : List Pt) (n : Nat) (b : Bool) (hn : L.length = n) (hb : okPs L = b) (w : World) (hbig : n ≤ 1000000) (hr : Rd w A c L) :
    Calls Try.prog 33 #[.slice A n c] w fun e w' => e = .returned (.bool b) ∧ Below w.heap.size w w' := by
  subst hn
  subst hb
  exact ports_any A c L w hbig hr

end Po
end Go.Proofs.Ytfkcplnjhelclaa

/-
  Layer 18 (port): ring's calls again, over rings as mathematics, with the blocks in which their places lie.
-/
namespace Go.Proofs.Ytfkcplnjhelclaa
open Go.RowKit Mm
namespace Po

theorem Good.nat {r : Rg} {n : Nat} (h : Good r n) : ∃ (b : List Int) (f m : Nat), r = (b, (f : Int), (m : Int)) ∧ b.length = n ∧ f < n ∧ m ≤ n := by
  have h1 := h.f0
  have h2 := h.f1
  have h3 := h.m0
  have h4 := h.m1
  refine ⟨r.1, r.2.1.toNat, r.2.2.toNat, ?_, h.len, by omega, by omega⟩
  rw [show ((r.2.1.toNat : Nat) : Int) = r.2.1 by omega, show ((r.2.2.toNat : Nat) : Int) = r.2.2 by omega]
theorem Good.fit {r : Rg} {n : Nat} (h : Good r n) (hn : n ≤ 100000) : Fit r.2.1 ∧ Fit r.2.2 := by
  have h1 := h.f0
  have h2 := h.f1
  have h3 := h.m0
  have h4 := h.m1
  exact ⟨⟨by omega, by omega⟩, ⟨by omega, by omega⟩⟩
theorem fstR_fit {w : World} {S : Nat → Prop} {A : Option Addr} {c : Nat} {r : Rg} {n : Nat} (h : Good r n) (hr : RdS w S A c r.1) : Fit (fstR r) := by
  obtain ⟨b, f, m, rfl, hl, hf, hm⟩ := h.nat
  exact fit_all hr _ (at_mem (by show f < b.length; omega))

/-- a ring and OK; a ring; what is first, a ring, and OK -/
def PushR (w : World) (S : Nat → Prop) (r : Rg) (e : Ending) (w' : World) : Prop :=
  ∃ A c, e = .returned (.tuple #[(.agg #[.slice A r.1.length c, .int .i64 r.2.1, .int .i64 r.2.2]), .int .i64 0]) ∧ RdS w' (Upw S w) A c r.1 ∧ Below w.heap.size w w'
def PutR (w : World) (S : Nat → Prop) (r : Rg) (e : Ending) (w' : World) : Prop :=
  ∃ A c, e = .returned (.agg #[.slice A r.1.length c, .int .i64 r.2.1, .int .i64 r.2.2]) ∧ RdS w' (Upw S w) A c r.1 ∧ Below w.heap.size w w'
section
variable {S : Nat → Prop} {A : Option Addr} {c n : Nat} {r : Rg} {w : World}
theorem push_r (v : Int) (hg : Good r n) (hn : n ≤ 1000) (hm : r.2.2 < n) (hv : Fit v) (hr : RdS w S A c r.1) :
    Calls Try.prog 23 #[(.agg #[.slice A r.1.length c, .int .i64 r.2.1, .int .i64 r.2.2]), .int .i64 v] w (PushR w S (pushR r v)) := by
  obtain ⟨b, f, m, rfl, hl, hf, hm'⟩ := hg.nat
  have hm : (m : Int) < n := hm
  refine (Rn.push_some A c b f m v w (by omega) (by omega) (by omega) (rn_of hr)).mono ?_
  rintro e w' ⟨A', c', rfl, ho, hb⟩
  refine ⟨A', c', ?_, ?_, hb⟩
  · show Ending.returned (.tuple #[(.agg #[.slice (A') b.length (c'), .int .i64 (f : Int), .int .i64 ((m : Int) + 1)]), .int .i64 0]) = .returned (.tuple #[(.agg #[.slice (A') ((b.set _ v).length) (c'), .int .i64 (f : Int), .int .i64 ((m : Int) + 1)]), .int .i64 0])
    rw [List.length_set]
  · exact rd_of_rn ho (fit_set (fit_all hr) _ hv) fun b hb => .inr hb
theorem push_f (v : Int) (hg : Good r n) (hm : r.2.2 = n) :
    Calls Try.prog 23 #[(.agg #[.slice A r.1.length c, .int .i64 r.2.1, .int .i64 r.2.2]), .int .i64 v] w fun e w' => e = .returned (.tuple #[(.agg #[.slice A r.1.length c, .int .i64 r.2.1, .int .i64 r.2.2]), .int .i64 3]) ∧ Below w.heap.size w w' := by
  obtain ⟨b, f, m, rfl, hl, hf, hm'⟩ := hg.nat
  have hm : (m : Int) = n := hm
  exact Rn.push_full A b.length c f (m : Int) v w (by omega) (by omega)
theorem pop_r (hg : Good r n) (hn : n ≤ 1000) (hm : 0 < r.2.2) (hr : RdS w S A c r.1) :
    Calls Try.prog 25 #[(.agg #[.slice A r.1.length c, .int .i64 r.2.1, .int .i64 r.2.2])] w fun e w' => e = .returned (.tuple #[.int .i64 (fstR r), (.agg #[.slice A ((popR r).1.length) c, .int .i64 ((popR r).2.1), .int .i64 ((popR r).2.2)]), .int .i64 0]) ∧ Below w.heap.size w w' := by
  obtain ⟨b, f, m, rfl, hl, hf, hm'⟩ := hg.nat
  have hm : 0 < (m : Int) := hm
  refine (Rn.pop_some A c b f (m - 1) (m : Int) w (by omega) (by omega) (by omega) (by omega) (rn_of hr)).mono ?_
  rintro e w' ⟨p, rfl, rfl, hb⟩
  refine ⟨?_, hb⟩
  show Ending.returned (.tuple #[.int .i64 (Rn.at_ b f), (.agg #[.slice A b.length c, .int .i64 (((f + 1) % b.length : Nat) : Int), .int .i64 ((m - 1 : Nat) : Int)]), .int .i64 0]) = .returned (.tuple #[.int .i64 (Rn.at_ b f), (.agg #[.slice A b.length c, .int .i64 (((f + 1) % b.length : Nat) : Int), .int .i64 ((m : Int) - 1)]), .int .i64 0])
  rw [show ((m - 1 : Nat) : Int) = (m : Int) - 1 by omega]
theorem pop_z (hg : Good r n) (hm : r.2.2 = 0) :
    Calls Try.prog 25 #[(.agg #[.slice A r.1.length c, .int .i64 r.2.1, .int .i64 r.2.2])] w fun e w' => e = .returned (.tuple #[.int .i64 0, (.agg #[.slice A r.1.length c, .int .i64 r.2.1, .int .i64 r.2.2]), .int .i64 4]) ∧ Below w.heap.size w w' := by
  obtain ⟨b, f, m, rfl, hl, hf, hm'⟩ := hg.nat
  have hm : (m : Int) = 0 := hm
  show Calls Try.prog 25 #[(.agg #[.slice A b.length c, .int .i64 (f : Int), .int .i64 (m : Int)])] w fun e w' => e = .returned (.tuple #[.int .i64 0, (.agg #[.slice A b.length c, .int .i64 (f : Int), .int .i64 (m : Int)]), .int .i64 4]) ∧ Below w.heap.size w w'
  rw [hm]
  exact Rn.pop_none A b.length c f w (by omega)
theorem put_r (v : Int) (hg : Good r n) (hn : n ≤ 1000) (hv : Fit v) (hr : RdS w S A c r.1) :
    Calls Try.prog 44 #[(.agg #[.slice A r.1.length c, .int .i64 r.2.1, .int .i64 r.2.2]), .int .i64 v] w (PutR w S (putR r v)) := by
  obtain ⟨b, f, m, rfl, hl, hf, hm'⟩ := hg.nat
  by_cases hm : (m : Int) = b.length
  · have e : putR (b, (f : Int), (m : Int)) v = pushR (popR (b, (f : Int), (m : Int))) v := if_pos hm
    rw [e]
    refine (Rn.put_full A c b f (m - 1) (m : Int) v w (by omega) (by omega) (by omega) hm (rn_of hr)).mono ?_
    rintro e w' ⟨A', c', p, rfl, rfl, ho, hb⟩
    have e1 : pushR (popR (b, (f : Int), (m : Int))) v = (b.set (((f + 1) % b.length + (m - 1)) % b.length) v, (((f + 1) % b.length : Nat) : Int), (m : Int) - 1 + 1) := by
      show (b.set (((((f + 1) % b.length : Nat) : Int).toNat + ((m : Int) - 1).toNat) % b.length) v, _, _) = _
      rw [Int.toNat_natCast, show ((m : Int) - 1).toNat = m - 1 by omega]
      rfl
    refine ⟨A', c', ?_, ?_, hb⟩
    · rw [e1]
      show _ = Ending.returned (.agg #[.slice A' (b.set _ v).length c', _, _])
      rw [List.length_set, show ((m - 1 : Nat) : Int) = (m : Int) - 1 by omega]
    · rw [e1]
      exact rd_of_rn ho (fit_set (fit_all hr) _ hv) fun b hb => .inr hb
  · have e : putR (b, (f : Int), (m : Int)) v = pushR (b, (f : Int), (m : Int)) v := if_neg hm
    rw [e]
    refine (Rn.put_some A c b f m v w (by omega) (by omega) (by omega) (rn_of hr)).mono ?_
    rintro e w' ⟨A', c', rfl, ho, hb⟩
    refine ⟨A', c', ?_, ?_, hb⟩
    · show Ending.returned (.agg #[.slice (A') b.length (c'), .int .i64 (f : Int), .int .i64 ((m : Int) + 1)]) = .returned (.agg #[.slice (A') ((b.set _ v).length) (c'), .int .i64 (f : Int), .int .i64 ((m : Int) + 1)])
      rw [List.length_set]
    · exact rd_of_rn ho (fit_set (fit_all hr) _ hv) fun b hb => .inr hb
theorem new_r (S : Nat → Prop) (k : Int) (h1 : 1 ≤ k) (h4 : k ≤ 4) (w : World) :
    Calls Try.prog 48 #[.int .i64 k] w (PushR w S (newR k.toNat)) := by
  refine (Rn.new_some k.toNat k w (by omega) (by omega) (by omega)).mono ?_
  rintro e w' ⟨A', rfl, ho, hb⟩
  refine ⟨A', k.toNat, ?_, rd_of_rn ho (fit_zeros _) fun b hb => .inr hb, hb⟩
  show _ = Ending.returned (.tuple #[(.agg #[.slice (A') ((List.replicate k.toNat (0 : Int)).length) k.toNat, .int .i64 0, .int .i64 0]), .int .i64 0])
  rw [List.length_replicate]
theorem list_r (hg : Good r n) (hn : n ≤ 1000) (hr : RdS w S A c r.1) :
    Calls Try.prog 30 #[(.agg #[.slice A r.1.length c, .int .i64 r.2.1, .int .i64 r.2.2])] w fun e w' => ∃ A' c', e = .returned (.slice A' (msgR r).length c') ∧ RdS w' (fun b => w.heap.size ≤ b) A' c' (msgR r) ∧ Below w.heap.size w w' := by
  obtain ⟨b, f, m, rfl, hl, hf, hm'⟩ := hg.nat
  refine (Rn.list_some A c b f m w (by omega) (by omega) (by omega) (rn_of hr)).mono ?_
  rintro e w' ⟨A', c', rfl, ho, hb⟩
  refine ⟨A', c', rfl, rd_of_rn ho (fun x hx => ?_) fun b hb => hb, hb⟩
  obtain ⟨i, hi, rfl⟩ := List.mem_map.1 hx
  exact fit_all hr _ (at_mem (Nat.mod_lt _ (show 0 < b.length by omega)))
end

end Po
end Go.Proofs.Ytfkcplnjhelclaa

/-
  Layer 18 (port): a line in a block of its own that may be written; find, Clone at lines, with.
-/
namespace Go.Proofs.Ytfkcplnjhelclaa
open Go.RowKit Mm
namespace Po

/-- what is written into one block leaves all others -/
theorem gb_putC (g : Nat) : ∀ (vs : List Value) (o : Nat) (w : World), w.grownBy (putC w g o vs) (some g)
  | [], _, _ => gb_refl _ _
  | v :: vs, o, w => gb_trans (b := w.setCell ⟨g, o, none⟩ v) ⟨rfl, rfl, rfl, by simp [World.setCell], fun b _ hb => Below.heap_setCell w ⟨g, o, none⟩ v b (fun e => hb (by rw [e]))⟩ (gb_putC g vs (o + 1) _)
theorem below_putC {B g : Nat} {a : World} (hg : B ≤ g) : ∀ (vs : List Value) (o : Nat) (w : World), Below B a w → Below B a (putC w g o vs)
  | [], _, _, h => h
  | v :: vs, o, _, h => below_putC hg vs (o + 1) _ (h.setCell (p := ⟨g, o, none⟩) hg v)
theorem size_putC (g : Nat) : ∀ (vs : List Value) (o : Nat) (w : World), (putC w g o vs).heap.size = w.heap.size
  | [], _, _ => rfl
  | v :: vs, o, w => (size_putC g vs (o + 1) _).trans (by simp [World.setCell])
theorem fr_putC {g k : Nat} (c : Nat) : ∀ (vs : List Value) (o : Nat) (w : World), w.frozen? ⟨k, c, none⟩ = false → (putC w g o vs).frozen? ⟨k, c, none⟩ = false
  | [], _, _, h => h
  | v :: vs, o, w, h => fr_putC c vs (o + 1) _ (by rw [World.frozen?_setCell]; exact h)
theorem cell_putC {g c : Nat} {u : Value} : ∀ (vs : List Value) (o : Nat) (w : World), (c < o ∨ o + vs.length ≤ c) → w.cell? ⟨g, c, none⟩ = some u → (putC w g o vs).cell? ⟨g, c, none⟩ = some u
  | [], _, _, _, h => h
  | v :: vs, o, w, hc, h => cell_putC vs (o + 1) _ (by simp only [List.length_cons] at hc; omega) ((World.cell?_setCell_other _ _ _ _ (fun e => by injection e with _ e; simp only [List.length_cons] at hc; omega)).trans h)
theorem cell_put {g : Nat} : ∀ (vs : List Value) (o : Nat) (w : World), (∀ j, j < vs.length → ∃ u, w.cell? ⟨g, o + j, none⟩ = some u) → ∀ (j : Nat) (v : Value), vs[j]? = some v → (putC w g o vs).cell? ⟨g, o + j, none⟩ = some v
  | [], _, _, _, j, v, hv => by simp at hv
  | u :: vs, o, w, h, j, v, hv => by
    obtain ⟨u0, h0⟩ := h 0 (by simp)
    cases j with
    | zero =>
      simp at hv
      subst hv
      exact cell_putC vs (o + 1) _ (by omega) (World.cell?_setCell_same _ _ _ h0)
    | succ j =>
      have := cell_put vs (o + 1) (w.setCell ⟨g, o, none⟩ u) (fun i hi => by
        obtain ⟨u1, h1⟩ := h (i + 1) (by simpa using hi)
        refine ⟨u1, ?_⟩
        rw [show o + 1 + i = o + (i + 1) by omega]
        exact (World.cell?_setCell_other _ _ _ _ (fun e => by injection e with _ e; omega)).trans h1) j v (by simpa using hv)
      rwa [show o + 1 + j = o + (j + 1) by omega] at this
theorem rd_putC {α : Type} [Inhabited α] [Dat α] {w : World} {S : Nat → Prop} {g : Nat} {A : Option Addr} {c : Nat} {l : List α} (h : RdS w S A c l) (hn : ¬ S g) (vs : List Value) (o : Nat) : RdS (putC w g o vs) S A c l :=
  h.gb (gb_putC g vs o w) fun _ hs e => hn (by injection e with e; rwa [e] at hs)

theorem put9 (w : World) (X : Nat) (v0 v1 v2 v3 v4 v5 v6 v7 v8 : Value) : (((((((((w.setCell ⟨X, 0, none⟩ v0).setCell ⟨X, 1, none⟩ v1).setCell ⟨X, 2, none⟩ v2).setCell ⟨X, 3, none⟩ v3).setCell ⟨X, 4, none⟩ v4).setCell ⟨X, 5, none⟩ v5).setCell ⟨X, 6, none⟩ v6).setCell ⟨X, 7, none⟩ v7).setCell ⟨X, 8, none⟩ v8) = putC w X 0 [v0, v1, v2, v3, v4, v5, v6, v7, v8] := by simp only [putC, Nat.zero_add, Nat.reduceAdd]
theorem put9k (w : World) (X o : Nat) (v0 v1 v2 v3 v4 v5 v6 v7 v8 : Value) : (((((((((w.setCell ⟨X, o, none⟩ v0).setCell ⟨X, o + 1, none⟩ v1).setCell ⟨X, o + 2, none⟩ v2).setCell ⟨X, o + 3, none⟩ v3).setCell ⟨X, o + 4, none⟩ v4).setCell ⟨X, o + 5, none⟩ v5).setCell ⟨X, o + 6, none⟩ v6).setCell ⟨X, o + 7, none⟩ v7).setCell ⟨X, o + 8, none⟩ v8) = putC w X o [v0, v1, v2, v3, v4, v5, v6, v7, v8] := by simp only [putC, Nat.add_assoc, Nat.reduceAdd]
theorem put3u (w : World) (X : Nat) (v0 v1 v2 : Value) : (((w.setCell ⟨X, 3, none⟩ v0).setCell ⟨X, 4, none⟩ v1).setCell ⟨X, 5, none⟩ v2) = putC w X 3 [v0, v1, v2] := by simp only [putC, Nat.reduceAdd]
theorem put3g (w : World) (X : Nat) (v0 v1 v2 : Value) : (((w.setCell ⟨X, 6, none⟩ v0).setCell ⟨X, 7, none⟩ v1).setCell ⟨X, 8, none⟩ v2) = putC w X 6 [v0, v1, v2] := by simp only [putC, Nat.reduceAdd]

/-- block X holds this line, and may be written -/
structure Bl (w : World) (X : Nat) (P : Option Addr) (p : Nat) (Q : Option Addr) (q : Nat) (x : Lin) : Prop where
  c : CL w X 0 P p Q q x
  f : ∀ o, w.frozen? ⟨X, o, none⟩ = false
def noL : Lin := ((0, 0, 0), ([], 0, 0), ([], 0, 0))
section
variable {w w' : World} {X : Nat} {P P' Q Q' : Option Addr} {p p' q q' : Nat} {x y : Lin}
theorem bl_new (w : World) (P : Option Addr) (p : Nat) (Q : Option Addr) (q : Nat) (x : Lin) (X : Nat) (h : w.heap.size = X) : Bl (w.alloc (.cells #[.int .i64 x.1.1, .int .i64 x.1.2.1, .int .i64 x.1.2.2, .slice P x.2.1.1.length p, .int .i64 x.2.1.2.1, .int .i64 x.2.1.2.2, .slice Q x.2.2.1.length q, .int .i64 x.2.2.2.1, .int .i64 x.2.2.2.2] 54)) X P p Q q x :=
  ⟨cl_new w P p Q q x _ h, fun o => by subst h; simp⟩
theorem Bl.below (h : Bl w X P p Q q x) (b : Below w.heap.size w w') : Bl w' X P p Q q x := ⟨h.c.below b, fun o => (by rw [b.frozen (p := ⟨X, o, none⟩) h.c.lt]; exact h.f o)⟩
theorem Bl.keep (h : Bl w X P p Q q x) (e : w'.heap[X]? = w.heap[X]?) : Bl w' X P p Q q x := by
  have k : ∀ {o v}, w.cell? ⟨X, o, none⟩ = some v → w'.cell? ⟨X, o, none⟩ = some v := fun {o v} h => (World.cell?_of_block (w := w) e).trans h
  exact ⟨⟨k h.c.c0, k h.c.c1, k h.c.c2, k h.c.c3, k h.c.c4, k h.c.c5, k h.c.c6, k h.c.c7, k h.c.c8⟩, fun o => (World.frozen?_of_block (w := w) (a := ⟨X, o, none⟩) e).trans (h.f o)⟩
theorem Bl.lt (h : Bl w X P p Q q x) : X < w.heap.size := h.c.lt
theorem Bl.any (h : Bl w X P p Q q x) : ∀ j, j < 9 → ∃ u, w.cell? ⟨X, 0 + j, none⟩ = some u := fun j hj => by
  match j, hj with
  | 0, _ => exact ⟨_, h.c.c0⟩
  | 1, _ => exact ⟨_, h.c.c1⟩
  | 2, _ => exact ⟨_, h.c.c2⟩
  | 3, _ => exact ⟨_, h.c.c3⟩
  | 4, _ => exact ⟨_, h.c.c4⟩
  | 5, _ => exact ⟨_, h.c.c5⟩
  | 6, _ => exact ⟨_, h.c.c6⟩
  | 7, _ => exact ⟨_, h.c.c7⟩
  | 8, _ => exact ⟨_, h.c.c8⟩
theorem Bl.put (h : Bl w X P p Q q x) (P' : Option Addr) (p' : Nat) (Q' : Option Addr) (q' : Nat) (y : Lin) : Bl (((((((((w.setCell ⟨X, 0, none⟩ (.int .i64 y.1.1)).setCell ⟨X, 1, none⟩ (.int .i64 y.1.2.1)).setCell ⟨X, 2, none⟩ (.int .i64 y.1.2.2)).setCell ⟨X, 3, none⟩ (.slice (P') y.2.1.1.length (p'))).setCell ⟨X, 4, none⟩ (.int .i64 y.2.1.2.1)).setCell ⟨X, 5, none⟩ (.int .i64 y.2.1.2.2)).setCell ⟨X, 6, none⟩ (.slice (Q') y.2.2.1.length (q'))).setCell ⟨X, 7, none⟩ (.int .i64 y.2.2.2.1)).setCell ⟨X, 8, none⟩ (.int .i64 y.2.2.2.2)) X P' p' Q' q' y := by
  rw [put9]
  have k := cell_put [.int .i64 y.1.1, .int .i64 y.1.2.1, .int .i64 y.1.2.2, .slice P' y.2.1.1.length p', .int .i64 y.2.1.2.1, .int .i64 y.2.1.2.2, .slice Q' y.2.2.1.length q', .int .i64 y.2.2.2.1, .int .i64 y.2.2.2.2] 0 w h.any
  exact ⟨⟨k 0 _ rfl, k 1 _ rfl, k 2 _ rfl, k 3 _ rfl, k 4 _ rfl, k 5 _ rfl, k 6 _ rfl, k 7 _ rfl, k 8 _ rfl⟩, fun o => fr_putC o _ 0 w (h.f o)⟩
/-- a ring written into it -/
theorem Bl.under (h : Bl w X P p Q q x) (P' : Option Addr) (p' : Nat) (r : Rg) : Bl (((w.setCell ⟨X, 3, none⟩ (.slice (P') r.1.length (p'))).setCell ⟨X, 4, none⟩ (.int .i64 r.2.1)).setCell ⟨X, 5, none⟩ (.int .i64 r.2.2)) X P' p' Q q (x.1, r, x.2.2) := by
  rw [put3u]
  have k := cell_put [.slice P' r.1.length p', .int .i64 r.2.1, .int .i64 r.2.2] 3 w (fun j hj => by
    have := h.any (3 + j) (by simp at hj; omega)
    rwa [Nat.zero_add] at this)
  have n : ∀ {c u}, (c < 3 ∨ 6 ≤ c) → w.cell? ⟨X, c, none⟩ = some u → _ := fun {c u} hc e => cell_putC (g := X) (c := c) (u := u) [.slice P' r.1.length p', .int .i64 r.2.1, .int .i64 r.2.2] 3 w hc e
  have c := h.c
  exact ⟨⟨n (by omega) c.c0, n (by omega) c.c1, n (by omega) c.c2, k 0 _ rfl, k 1 _ rfl, k 2 _ rfl, n (by omega) c.c6, n (by omega) c.c7, n (by omega) c.c8⟩, fun o => fr_putC o [.slice P' r.1.length p', .int .i64 r.2.1, .int .i64 r.2.2] 3 w (h.f o)⟩
theorem Bl.got (h : Bl w X P p Q q x) (Q' : Option Addr) (q' : Nat) (r : Rg) : Bl (((w.setCell ⟨X, 6, none⟩ (.slice (Q') r.1.length (q'))).setCell ⟨X, 7, none⟩ (.int .i64 r.2.1)).setCell ⟨X, 8, none⟩ (.int .i64 r.2.2)) X P p Q' q' (x.1, x.2.1, r) := by
  rw [put3g]
  have k := cell_put [.slice Q' r.1.length q', .int .i64 r.2.1, .int .i64 r.2.2] 6 w (fun j hj => by
    have := h.any (6 + j) (by simp at hj; omega)
    rwa [Nat.zero_add] at this)
  have n : ∀ {c u}, (c < 6 ∨ 9 ≤ c) → w.cell? ⟨X, c, none⟩ = some u → _ := fun {c u} hc e => cell_putC (g := X) (c := c) (u := u) [.slice Q' r.1.length q', .int .i64 r.2.1, .int .i64 r.2.2] 6 w hc e
  have c := h.c
  exact ⟨⟨n (by omega) c.c0, n (by omega) c.c1, n (by omega) c.c2, n (by omega) c.c3, n (by omega) c.c4, n (by omega) c.c5, k 0 _ rfl, k 1 _ rfl, k 2 _ rfl⟩, fun o => fr_putC o [.slice Q' r.1.length q', .int .i64 r.2.1, .int .i64 r.2.2] 6 w (h.f o)⟩
end
theorem below_S9 {B : Nat} {a w : World} (h : Below B a w) {X : Nat} (hX : B ≤ X) (P : Option Addr) (p : Nat) (Q : Option Addr) (q : Nat) (x : Lin) : Below B a (((((((((w.setCell ⟨X, 0, none⟩ (.int .i64 x.1.1)).setCell ⟨X, 1, none⟩ (.int .i64 x.1.2.1)).setCell ⟨X, 2, none⟩ (.int .i64 x.1.2.2)).setCell ⟨X, 3, none⟩ (.slice P x.2.1.1.length p)).setCell ⟨X, 4, none⟩ (.int .i64 x.2.1.2.1)).setCell ⟨X, 5, none⟩ (.int .i64 x.2.1.2.2)).setCell ⟨X, 6, none⟩ (.slice Q x.2.2.1.length q)).setCell ⟨X, 7, none⟩ (.int .i64 x.2.2.2.1)).setCell ⟨X, 8, none⟩ (.int .i64 x.2.2.2.2)) := by rw [put9]; exact below_putC hX _ 0 w h
theorem below_S3u {B : Nat} {a w : World} (h : Below B a w) {X : Nat} (hX : B ≤ X) (P : Option Addr) (n p : Nat) (f m : Int) : Below B a (((w.setCell ⟨X, 3, none⟩ (.slice P n p)).setCell ⟨X, 4, none⟩ (.int .i64 f)).setCell ⟨X, 5, none⟩ (.int .i64 m)) := by rw [put3u]; exact below_putC hX _ 3 w h
theorem below_S3g {B : Nat} {a w : World} (h : Below B a w) {X : Nat} (hX : B ≤ X) (P : Option Addr) (n p : Nat) (f m : Int) : Below B a (((w.setCell ⟨X, 6, none⟩ (.slice P n p)).setCell ⟨X, 7, none⟩ (.int .i64 f)).setCell ⟨X, 8, none⟩ (.int .i64 m)) := by rw [put3g]; exact below_putC hX _ 6 w h
theorem size_S9 (w : World) (X : Nat) (P : Option Addr) (p : Nat) (Q : Option Addr) (q : Nat) (x : Lin) : (((((((((w.setCell ⟨X, 0, none⟩ (.int .i64 x.1.1)).setCell ⟨X, 1, none⟩ (.int .i64 x.1.2.1)).setCell ⟨X, 2, none⟩ (.int .i64 x.1.2.2)).setCell ⟨X, 3, none⟩ (.slice P x.2.1.1.length p)).setCell ⟨X, 4, none⟩ (.int .i64 x.2.1.2.1)).setCell ⟨X, 5, none⟩ (.int .i64 x.2.1.2.2)).setCell ⟨X, 6, none⟩ (.slice Q x.2.2.1.length q)).setCell ⟨X, 7, none⟩ (.int .i64 x.2.2.2.1)).setCell ⟨X, 8, none⟩ (.int .i64 x.2.2.2.2)).heap.size = w.heap.size := by rw [put9]; exact size_putC X _ 0 w

/-- what find answers -/
def FindOf (w : World) (S : Nat → Prop) (E : Int) (x : Lin) (e : Ending) (w' : World) : Prop :=
  ∃ P p Q q, e = .returned (.tuple #[(.agg #[.int .i64 x.1.1, .int .i64 x.1.2.1, .int .i64 x.1.2.2, .slice P x.2.1.1.length p, .int .i64 x.2.1.2.1, .int .i64 x.2.1.2.2, .slice Q x.2.2.1.length q, .int .i64 x.2.2.2.1, .int .i64 x.2.2.2.2]), .int .i64 E]) ∧ RdS w' S P p x.2.1.1 ∧ RdS w' S Q q x.2.2.1 ∧ Below w.heap.size w w'
def findE (L : List Lin) (i : Int) : Int := if okS L = false then 1 else if i < 0 ∨ (L.length : Int) ≤ i then 4 else 0
def findX (L : List Lin) (i : Int) : Lin := if findE L i = 0 then at_ L i.toNat else noL

theorem buildLine0 (w : World) : (Instr.build 54 #[]).run Try.prog w = .ok (.agg #[.int .i64 0, .int .i64 0, .int .i64 0, .slice none 0 0, .int .i64 0, .int .i64 0, .slice none 0 0, .int .i64 0, .int .i64 0]) w := by kernel_rfl

section
attribute [local go_sem ↓] buildLine0
variable {S : Nat → Prop} {A : Option Addr} {c : Nat} {L : List Lin}
set_option maxHeartbeats 1600000 in
theorem find_bad (i : Int) (w : World) (hbig : L.length ≤ 1000000) (hr : RdS w S A c L) (h : okS L = false) :
    Calls Try.prog 22 #[.slice A L.length c, .int .i64 i] w (FindOf w S 1 noL) := by
  have B0 := Lib.hid (below_one w (Obj.cells #[.int .i64 0, .int .i64 0, .int .i64 0, .slice none 0 0, .int .i64 0, .int .i64 0, .slice none 0 0, .int .i64 0, .int .i64 0] 54))
  have HX : Hid (Bl (w.alloc (Obj.cells #[.int .i64 0, .int .i64 0, .int .i64 0, .slice none 0 0, .int .i64 0, .int .i64 0, .slice none 0 0, .int .i64 0, .int .i64 0] 54)) w.heap.size none 0 none 0 noL) := bl_new w none 0 none 0 noL _ rfl
  have HR0 := Lib.hid (hr.below B0.out)
  go_enter Try.func22, Try.ntmps22
  go_wp2_with fail
  generalize w.alloc (Obj.cells #[.int .i64 0, .int .i64 0, .int .i64 0, .slice none 0 0, .int .i64 0, .int .i64 0, .slice none 0 0, .int .i64 0, .int .i64 0] 54) = w0 at *
  refine (right_any A c L _ hbig HR0.out.rd).mono ?_
  rintro e w1 ⟨rfl, b1⟩
  replace HX := Lib.hid (HX.out.below b1)
  replace HR0 := Lib.hid (HR0.out.below b1)
  replace B0 := Lib.hid (below_step B0.out b1)
  clear b1
  rw [h]
  obtain ⟨⟨y0, y1, y2, y3, y4, y5, y6, y7, y8⟩, hf⟩ := HX.out
  rw [Nat.zero_add] at y1 y2 y3 y4 y5 y6 y7 y8
  have f0 := hf 0
  have f1 := hf 1
  have f2 := hf 2
  have f3 := hf 3
  have f4 := hf 4
  have f5 := hf 5
  have f6 := hf 6
  have f7 := hf 7
  have f8 := hf 8
  clear hf
  go_wp2_with fail
  refine bodyPost_ret (v := .tuple #[(.agg #[.int .i64 0, .int .i64 0, .int .i64 0, .slice none 0 0, .int .i64 0, .int .i64 0, .slice none 0 0, .int .i64 0, .int .i64 0]), .int .i64 1]) (by simp [results, Try.results22, go_sem, y0, y1, y2, y3, y4, y5, y6, y7, y8]) rfl ?_
  exact ⟨none, 0, none, 0, rfl, rd_nil (fun _ => rfl) (Nat.zero_le _), rd_nil (fun _ => rfl) (Nat.zero_le _), below_S9 B0.out (Nat.le_refl _) none 0 none 0 noL⟩
set_option maxHeartbeats 1600000 in
theorem find_none (i : Int) (w : World) (hbig : L.length ≤ 1000000) (hr : RdS w S A c L) (h : okS L = true) (hi : i < 0 ∨ (L.length : Int) ≤ i) :
    Calls Try.prog 22 #[.slice A L.length c, .int .i64 i] w (FindOf w S 4 noL) := by
  by_cases h0 : i < 0
  · clear hi
    have B0 := Lib.hid (below_one w (Obj.cells #[.int .i64 0, .int .i64 0, .int .i64 0, .slice none 0 0, .int .i64 0, .int .i64 0, .slice none 0 0, .int .i64 0, .int .i64 0] 54))
    have HX : Hid (Bl (w.alloc (Obj.cells #[.int .i64 0, .int .i64 0, .int .i64 0, .slice none 0 0, .int .i64 0, .int .i64 0, .slice none 0 0, .int .i64 0, .int .i64 0] 54)) w.heap.size none 0 none 0 noL) := bl_new w none 0 none 0 noL _ rfl
    have HR0 := Lib.hid (hr.below B0.out)
    go_enter Try.func22, Try.ntmps22
    go_wp2_with fail
    generalize w.alloc (Obj.cells #[.int .i64 0, .int .i64 0, .int .i64 0, .slice none 0 0, .int .i64 0, .int .i64 0, .slice none 0 0, .int .i64 0, .int .i64 0] 54) = w0 at *
    refine (right_any A c L _ hbig HR0.out.rd).mono ?_
    rintro e w1 ⟨rfl, b1⟩
    replace HX := Lib.hid (HX.out.below b1)
    replace HR0 := Lib.hid (HR0.out.below b1)
    replace B0 := Lib.hid (below_step B0.out b1)
    clear b1
    rw [h]
    obtain ⟨⟨y0, y1, y2, y3, y4, y5, y6, y7, y8⟩, hf⟩ := HX.out
    rw [Nat.zero_add] at y1 y2 y3 y4 y5 y6 y7 y8
    have f0 := hf 0
    have f1 := hf 1
    have f2 := hf 2
    have f3 := hf 3
    have f4 := hf 4
    have f5 := hf 5
    have f6 := hf 6
    have f7 := hf 7
    have f8 := hf 8
    clear hf
    go_wp2_with fail
    refine bodyPost_ret (v := .tuple #[(.agg #[.int .i64 0, .int .i64 0, .int .i64 0, .slice none 0 0, .int .i64 0, .int .i64 0, .slice none 0 0, .int .i64 0, .int .i64 0]), .int .i64 4]) (by simp [results, Try.results22, go_sem, y0, y1, y2, y3, y4, y5, y6, y7, y8]) rfl ?_
    exact ⟨none, 0, none, 0, rfl, rd_nil (fun _ => rfl) (Nat.zero_le _), rd_nil (fun _ => rfl) (Nat.zero_le _), below_S9 B0.out (Nat.le_refl _) none 0 none 0 noL⟩
  · have h1 : (L.length : Int) ≤ i := by omega
    have h2 : (0 : Int) ≤ i := by omega
    clear hi h0
    have B0 := Lib.hid (below_one w (Obj.cells #[.int .i64 0, .int .i64 0, .int .i64 0, .slice none 0 0, .int .i64 0, .int .i64 0, .slice none 0 0, .int .i64 0, .int .i64 0] 54))
    have HX : Hid (Bl (w.alloc (Obj.cells #[.int .i64 0, .int .i64 0, .int .i64 0, .slice none 0 0, .int .i64 0, .int .i64 0, .slice none 0 0, .int .i64 0, .int .i64 0] 54)) w.heap.size none 0 none 0 noL) := bl_new w none 0 none 0 noL _ rfl
    have HR0 := Lib.hid (hr.below B0.out)
    go_enter Try.func22, Try.ntmps22
    go_wp2_with fail
    generalize w.alloc (Obj.cells #[.int .i64 0, .int .i64 0, .int .i64 0, .slice none 0 0, .int .i64 0, .int .i64 0, .slice none 0 0, .int .i64 0, .int .i64 0] 54) = w0 at *
    refine (right_any A c L _ hbig HR0.out.rd).mono ?_
    rintro e w1 ⟨rfl, b1⟩
    replace HX := Lib.hid (HX.out.below b1)
    replace HR0 := Lib.hid (HR0.out.below b1)
    replace B0 := Lib.hid (below_step B0.out b1)
    clear b1
    rw [h]
    obtain ⟨⟨y0, y1, y2, y3, y4, y5, y6, y7, y8⟩, hf⟩ := HX.out
    rw [Nat.zero_add] at y1 y2 y3 y4 y5 y6 y7 y8
    have f0 := hf 0
    have f1 := hf 1
    have f2 := hf 2
    have f3 := hf 3
    have f4 := hf 4
    have f5 := hf 5
    have f6 := hf 6
    have f7 := hf 7
    have f8 := hf 8
    clear hf
    go_wp2_with fail
    refine bodyPost_ret (v := .tuple #[(.agg #[.int .i64 0, .int .i64 0, .int .i64 0, .slice none 0 0, .int .i64 0, .int .i64 0, .slice none 0 0, .int .i64 0, .int .i64 0]), .int .i64 4]) (by simp [results, Try.results22, go_sem, y0, y1, y2, y3, y4, y5, y6, y7, y8]) rfl ?_
    exact ⟨none, 0, none, 0, rfl, rd_nil (fun _ => rfl) (Nat.zero_le _), rd_nil (fun _ => rfl) (Nat.zero_le _), below_S9 B0.out (Nat.le_refl _) none 0 none 0 noL⟩
set_option maxHeartbeats 1600000 in
theorem find_ok (k : Nat) (i : Int) (x : Lin) (w : World) (hbig : L.length ≤ 1000000) (hr : RdS w S A c L) (h : okS L = true) (hi : i = (k : Int)) (hk : k < L.length) (hx : at_ L k = x) :
    Calls Try.prog 22 #[.slice A L.length c, .int .i64 i] w (FindOf w S 0 x) := by
  subst hi
  have i1 : (0 : Int) ≤ (k : Int) := by omega
  have i2 : (k : Int) < (L.length : Int) := by omega
  obtain ⟨b, off, rfl, _, hc⟩ := line_at hr (by omega)
  obtain ⟨P, p, Q, q, hx9, _, hr1, hr2⟩ := hc k hk
  rw [hx] at hx9 hr1 hr2
  have HC := Lib.hid (hx9.below (below_one w (Obj.cells #[.int .i64 0, .int .i64 0, .int .i64 0, .slice none 0 0, .int .i64 0, .int .i64 0, .slice none 0 0, .int .i64 0, .int .i64 0] 54)))
  have HR1 := Lib.hid hr1
  have HR2 := Lib.hid hr2
  clear hc hx9 hx hr1 hr2
  have B0 := Lib.hid (below_one w (Obj.cells #[.int .i64 0, .int .i64 0, .int .i64 0, .slice none 0 0, .int .i64 0, .int .i64 0, .slice none 0 0, .int .i64 0, .int .i64 0] 54))
  have HX : Hid (Bl (w.alloc (Obj.cells #[.int .i64 0, .int .i64 0, .int .i64 0, .slice none 0 0, .int .i64 0, .int .i64 0, .slice none 0 0, .int .i64 0, .int .i64 0] 54)) w.heap.size none 0 none 0 noL) := bl_new w none 0 none 0 noL _ rfl
  have HR0 := Lib.hid (hr.below B0.out)
  clear hr
  go_enter Try.func22, Try.ntmps22
  go_wp2_with fail
  generalize w.alloc (Obj.cells #[.int .i64 0, .int .i64 0, .int .i64 0, .slice none 0 0, .int .i64 0, .int .i64 0, .slice none 0 0, .int .i64 0, .int .i64 0] 54) = w0 at *
  refine (right_any (some ⟨b, off, none⟩) c L _ hbig HR0.out.rd).mono ?_
  rintro e w1 ⟨rfl, b1⟩
  replace HX := Lib.hid (HX.out.below b1)
  replace HC := Lib.hid (HC.out.below b1)
  replace B0 := Lib.hid (below_step B0.out b1)
  clear b1 HR0
  rw [h]
  obtain ⟨⟨y0, y1, y2, y3, y4, y5, y6, y7, y8⟩, hf⟩ := HX.out
  rw [Nat.zero_add] at y1 y2 y3 y4 y5 y6 y7 y8
  have f0 := hf 0
  have f1 := hf 1
  have f2 := hf 2
  have f3 := hf 3
  have f4 := hf 4
  have f5 := hf 5
  have f6 := hf 6
  have f7 := hf 7
  have f8 := hf 8
  clear hf
  obtain ⟨z0, z1, z2, z3, z4, z5, z6, z7, z8⟩ := HC.out
  have HP := Lib.hid ((HX.out.put P p Q q x).c)
  go_wp2_with fail
  obtain ⟨u0, u1, u2, u3, u4, u5, u6, u7, u8⟩ := HP.out
  rw [Nat.zero_add] at u1 u2 u3 u4 u5 u6 u7 u8
  have BE := Lib.hid (below_S9 B0.out (Nat.le_refl _) P p Q q x)
  clear y0 y1 y2 y3 y4 y5 y6 y7 y8 z0 z1 z2 z3 z4 z5 z6 z7 z8 f0 f1 f2 f3 f4 f5 f6 f7 f8 HX HC HP
  generalize (((((((((w1.setCell ⟨(w.heap.size), 0, none⟩ (.int .i64 x.1.1)).setCell ⟨(w.heap.size), 1, none⟩ (.int .i64 x.1.2.1)).setCell ⟨(w.heap.size), 2, none⟩ (.int .i64 x.1.2.2)).setCell ⟨(w.heap.size), 3, none⟩ (.slice P x.2.1.1.length p)).setCell ⟨(w.heap.size), 4, none⟩ (.int .i64 x.2.1.2.1)).setCell ⟨(w.heap.size), 5, none⟩ (.int .i64 x.2.1.2.2)).setCell ⟨(w.heap.size), 6, none⟩ (.slice Q x.2.2.1.length q)).setCell ⟨(w.heap.size), 7, none⟩ (.int .i64 x.2.2.2.1)).setCell ⟨(w.heap.size), 8, none⟩ (.int .i64 x.2.2.2.2)) = w2 at *
  refine bodyPost_ret (v := .tuple #[(.agg #[.int .i64 x.1.1, .int .i64 x.1.2.1, .int .i64 x.1.2.2, .slice P x.2.1.1.length p, .int .i64 x.2.1.2.1, .int .i64 x.2.1.2.2, .slice Q x.2.2.1.length q, .int .i64 x.2.2.2.1, .int .i64 x.2.2.2.2]), .int .i64 0]) (by simp [results, Try.results22, go_sem, u0, u1, u2, u3, u4, u5, u6, u7, u8]) rfl ?_
  exact ⟨P, p, Q, q, rfl, HR1.out.below BE.out, HR2.out.below BE.out, BE.out⟩
end

/-- .. of the old blocks -/
def Low (S : Nat → Prop) (w : World) (b : Nat) : Prop := S b ∧ b < w.heap.size
theorem lowS {α : Type} [Inhabited α] [Dat α] {w : World} {S : Nat → Prop} {A : Option Addr} {c : Nat} {l : List α} (h : RdS w S A c l) : RdS w (Low S w) A c l := h.keep fun _ hlt hs => ⟨⟨hs, hlt⟩, rfl⟩
theorem slL : SlT Try.prog 22 54 (Dat.k Lin) := slT_of Try.underlying22 (show _ = some (some (.agg #[.int .i64 0, .int .i64 0, .int .i64 0, .slice none 0 0, .int .i64 0, .int .i64 0, .slice none 0 0, .int .i64 0, .int .i64 0]), 9, 104) by kernel_rfl) rfl (by omega)
set_option maxHeartbeats 1600000 in
theorem clone_line (S : Nat → Prop) (A : Option Addr) (c : Nat) (l : List Lin) (n : Nat) (hn : l.length = n) (hb : n ≤ 900000) (w : World) (h : RdS w S A c l) :
    Calls Try.prog 41 #[.slice A n c] w fun e w' => ∃ A' c', e = .returned (.slice A' n c') ∧ OwS w' (Low S w) w.heap.size 54 A' c' l ∧ Below w.heap.size w w' := by
  rcases A with _ | a
  · subst hn
    obtain ⟨rfl, rfl⟩ := nil_of_none h
    clear h
    have hz := fun W => Lib.run_eql_slice_nil (P := Try.prog) W 22 54 none 0 0 0 0 Try.underlying22
    go_enter Try.func41, Try.ntmps41
    go_wp2_with fail
    go_ret
    exact ⟨none, 0, rfl, ow_nil _ _ _ _, Below.refl _ _⟩
  · subst hn
    have hz := fun W => Lib.run_eql_slice_nil (P := Try.prog) W 22 54 (some a) l.length c 0 0 Try.underlying22
    have B1 := Lib.hid (below_one w (Obj.cells #[] 54))
    have O1 : Hid (OwS (w.alloc (Obj.cells #[] 54)) (Low S w) w.heap.size 54 (some ⟨w.heap.size, 0, none⟩) 0 ([] : List Lin)) := ow_lit (l := ([] : List Lin)) w (Low S w) w.heap.size 54 #[] (Nat.le_refl _) (by simp) rfl
    have HR1 := Lib.hid (RdS.below (lowS h) B1.out)
    clear h
    go_enter Try.func41, Try.ntmps41
    go_wp2_with (at_builtin
                 refine list_app slL rfl _ _ rfl (base := w.heap.size) (l := ([] : List Lin)) (r := l) rfl rfl O1.out HR1.out (fun _ h => h) (fun g hA hs => by injection hA with hA; injection hA with hA; subst hA; exact Nat.lt_irrefl _ hs.2) (by simp only [List.length_nil]; omega) B1.out.size ?_
                 intro A2 c2 w2 k1 k2 k3
                 have O2 := Lib.hid k1
                 have B2 := Lib.hid (B1.out.grown k2 B1.out.size (OwS.row O1.out))
                 clear k1 k2 k3)
    rw [List.nil_append] at O2
    try simp only [List.length_nil, Nat.zero_add]
    go_ret
    exact ⟨A2, c2, rfl, O2.out, B2.out⟩

/-- the cells of an element of a slice of the call's own -/
theorem own_line {w : World} {S : Nat → Prop} {base g c : Nat} {l : List Lin} (h : OwS w S base 54 (some ⟨g, 0, none⟩) c l) {k : Nat} (hk : k < l.length) : ∃ P p Q q, CL w g (k * 9) P p Q q (at_ l k) := by
  obtain ⟨b, off, e, _, hc⟩ := line_at (OwS.rd h) (by omega)
  injection e with e
  injection e with e1 e2
  subst e1
  subst e2
  obtain ⟨P, p, Q, q, h9, _⟩ := hc k hk
  rw [Nat.zero_add] at h9
  exact ⟨P, p, Q, q, h9⟩
/-- lines as an answer -/
def LinesOf (w : World) (S : Nat → Prop) (L : List Lin) (e : Ending) (w' : World) : Prop := ∃ A c, e = .returned (.slice A L.length c) ∧ RdS w' (Upw S w) A c L ∧ Below w.heap.size w w'
set_option maxHeartbeats 1600000 in
theorem with_any (S : Nat → Prop) (A : Option Addr) (c : Nat) (L : List Lin) (k : Nat) (i : Int) (hi : i = (k : Int)) (hk : k < L.length) (hb : L.length ≤ 900000) (P : Option Addr) (p : Nat) (Q : Option Addr) (q : Nat) (y : Lin) (V : Value) (hV : V = (.agg #[.int .i64 y.1.1, .int .i64 y.1.2.1, .int .i64 y.1.2.2, .slice P y.2.1.1.length p, .int .i64 y.2.1.2.1, .int .i64 y.2.1.2.2, .slice Q y.2.2.1.length q, .int .i64 y.2.2.2.1, .int .i64 y.2.2.2.2])) (w : World) (h : RdS w S A c L) (hf : FitL y) (h1 : RdS w S P p y.2.1.1) (h2 : RdS w S Q q y.2.2.1) :
    Calls Try.prog 24 #[.slice A L.length c, .int .i64 i, V] w (LinesOf w S (L.set k y)) := by
  subst hi
  subst hV
  have i1 : (0 : Int) ≤ (k : Int) := by omega
  have i2 : (k : Int) < (L.length : Int) := by omega
  have B0 := Lib.hid (below_one w (Obj.cells #[.int .i64 y.1.1, .int .i64 y.1.2.1, .int .i64 y.1.2.2, .slice P y.2.1.1.length p, .int .i64 y.2.1.2.1, .int .i64 y.2.1.2.2, .slice Q y.2.2.1.length q, .int .i64 y.2.2.2.1, .int .i64 y.2.2.2.2] 54))
  have HX : Hid (Bl (w.alloc (Obj.cells #[.int .i64 y.1.1, .int .i64 y.1.2.1, .int .i64 y.1.2.2, .slice P y.2.1.1.length p, .int .i64 y.2.1.2.1, .int .i64 y.2.1.2.2, .slice Q y.2.2.1.length q, .int .i64 y.2.2.2.1, .int .i64 y.2.2.2.2] 54)) w.heap.size P p Q q y) := bl_new w P p Q q y _ rfl
  have HR0 := Lib.hid (RdS.below (lowS h) B0.out)
  have H1 := Lib.hid (RdS.below (lowS h1) B0.out)
  have H2 := Lib.hid (RdS.below (lowS h2) B0.out)
  have HF := Lib.hid hf
  clear h h1 h2 hf
  go_enter Try.func24, Try.ntmps24
  go_wp2_with fail
  generalize w.alloc (Obj.cells #[.int .i64 y.1.1, .int .i64 y.1.2.1, .int .i64 y.1.2.2, .slice P y.2.1.1.length p, .int .i64 y.2.1.2.1, .int .i64 y.2.1.2.2, .slice Q y.2.2.1.length q, .int .i64 y.2.2.2.1, .int .i64 y.2.2.2.2] 54) = w0 at *
  refine (clone_line (Low S w) A c L L.length rfl hb _ HR0.out).mono ?_
  rintro e w1 ⟨A1, c1, rfl, o1, b1⟩
  obtain ⟨g, rfl, hg1, hg2, hg3⟩ := OwS.form o1 (by omega)
  have HO := Lib.hid o1
  have hXlt := HX.out.lt
  have hgX : g ≠ w.heap.size := by omega
  clear hXlt
  obtain ⟨P2, p2, Q2, q2, o0, o1', o2, o3, o4, o5, o6, o7, o8⟩ := own_line o1 hk
  replace HX := Lib.hid (HX.out.below b1)
  replace H1 := Lib.hid (RdS.below (lowS H1.out) b1)
  replace H2 := Lib.hid (RdS.below (lowS H2.out) b1)
  have hgw : w.heap.size ≤ g := Nat.le_trans B0.out.size hg1
  replace B0 := Lib.hid (below_step B0.out b1)
  clear b1 o1
  obtain ⟨⟨y0, y1, y2, y3, y4, y5, y6, y7, y8⟩, -⟩ := HX.out
  rw [Nat.zero_add] at y1 y2 y3 y4 y5 y6 y7 y8
  have hfz := own_free HO.out
  have f0 := hfz (k * 9)
  have f1 := hfz (k * 9 + 1)
  have f2 := hfz (k * 9 + 2)
  have f3 := hfz (k * 9 + 3)
  have f4 := hfz (k * 9 + 4)
  have f5 := hfz (k * 9 + 5)
  have f6 := hfz (k * 9 + 6)
  have f7 := hfz (k * 9 + 7)
  have f8 := hfz (k * 9 + 8)
  clear hfz
  go_wp2_with fail
  go_ret
  rw [put9k]
  obtain ⟨k1, k2⟩ := own_puts HO.out (fun h => by have := h.2; omega) hk (rd_line.2 ⟨P, p, Q, q, rfl, HF.out, H1.out, H2.out⟩)
  have hl : (L.set k y).length = L.length := List.length_set
  refine ⟨some ⟨g, 0, none⟩, c1, by rw [hl]; rfl, OwS.rdS k1 (fun b hb => .inl hb.1.1) (fun g' hg' => ?_), below_of_gb B0.out k2 B0.out.size (fun k' hk' => ?_)⟩
  · injection hg' with hg'
    injection hg' with hg'
    subst hg'
    exact .inr hgw
  · injection hk' with hk'
    subst hk'
    exact hgw
end Po
end Go.Proofs.Ytfkcplnjhelclaa

/-
  Layer 18 (port): Send, Read.
-/
namespace Go.Proofs.Ytfkcplnjhelclaa
open Go.RowKit Mm
namespace Po

/-- what Send, Read answer -/
def SendOf (w : World) (S : Nat → Prop) (L : List Lin) (E : Int) (e : Ending) (w' : World) : Prop :=
  ∃ A c, e = .returned (.tuple #[.slice A L.length c, .int .i64 E]) ∧ RdS w' (Upw S w) A c L ∧ Below w.heap.size w w'
def ReadOf (w : World) (S : Nat → Prop) (L : List Lin) (v E : Int) (e : Ending) (w' : World) : Prop :=
  ∃ A c, e = .returned (.tuple #[.int .i64 v, .slice A L.length c, .int .i64 E]) ∧ RdS w' (Upw S w) A c L ∧ Below w.heap.size w w'
theorem up_low {S : Nat → Prop} {w w2 W w' : World} (h2 : w.heap.size ≤ w2.heap.size) (hW : w.heap.size ≤ W.heap.size) {A : Option Addr} {c : Nat} {L : List Lin} (h : RdS w' (Upw (Upw (Low S w) w2) W) A c L) : RdS w' (Upw S w) A c L :=
  h.sub fun _ _ hb => hb.elim (fun hb => hb.elim (fun hb => .inl hb.1) (fun hb => .inr (Nat.le_trans h2 hb))) (fun hb => .inr (Nat.le_trans hW hb))
theorem upIn {α : Type} [Inhabited α] [Dat α] {S : Nat → Prop} {w w' : World} {A : Option Addr} {c : Nat} {L : List α} (h : RdS w' S A c L) : RdS w' (Upw S w) A c L := h.sub fun _ _ hb => .inl hb

theorem line_fit {w : World} {S : Nat → Prop} {A : Option Addr} {c : Nat} {L : List Lin} (h : RdS w S A c L) {k : Nat} (hk : k < L.length) : FitL (at_ L k) := by
  obtain ⟨b, off, _, _, hc⟩ := line_at h (by omega)
  obtain ⟨P, p, Q, q, _, hf, _, _⟩ := hc k hk
  exact hf

/-- blocks but one: what may lie in old blocks, and new ones -/
theorem upw_far {α : Type} [Inhabited α] [Dat α] {S : Nat → Prop} {w2 w3 : World} {N X : Nat} {A : Option Addr} {c : Nat} {l : List α} (h : RdS w3 (Upw S w2) A c l) (hS : ∀ b, S b → b < N) (hX : N ≤ X) (hX2 : X < w2.heap.size) : RdS w3 (fun b => Upw S w2 b ∧ b ≠ X) A c l :=
  h.sub fun b _ hb => ⟨hb, fun e => hb.elim (fun hb => by have := hS b hb; omega) (fun hb => by omega)⟩

section
variable {S : Nat → Prop} {A : Option Addr} {c : Nat} {L : List Lin}
set_option maxHeartbeats 800000 in
theorem send_bad (who i v : Int) (w : World) (hb : L.length ≤ 900000) (hr : RdS w S A c L) (h : okS L = false) :
    Calls Try.prog 9 #[.slice A L.length c, .int .i64 who, .int .i64 i, .int .i64 v] w (SendOf w S L 1) := by
  have HR := Lib.hid hr
  clear hr
  go_enter Try.func9, Try.ntmps9
  go_wp2_with fail
  refine (find_bad i _ (by omega) HR.out h).mono ?_
  rintro e w1 ⟨P, p, Q, q, rfl, r1, r2, b1⟩
  clear r1 r2
  have HB := Lib.hid (b1.alloc b1.size (Obj.cells #[.int .i64 noL.1.1, .int .i64 noL.1.2.1, .int .i64 noL.1.2.2, .slice P noL.2.1.1.length p, .int .i64 noL.2.1.2.1, .int .i64 noL.2.1.2.2, .slice Q noL.2.2.1.length q, .int .i64 noL.2.2.2.1, .int .i64 noL.2.2.2.2] 54))
  clear b1
  go_wp2_with fail
  go_ret2
  exact ⟨A, c, rfl, upIn (HR.out.below HB.out), HB.out⟩
set_option maxHeartbeats 800000 in
theorem send_none (who i v : Int) (w : World) (hb : L.length ≤ 900000) (hr : RdS w S A c L) (h : okS L = true) (hi : i < 0 ∨ (L.length : Int) ≤ i) :
    Calls Try.prog 9 #[.slice A L.length c, .int .i64 who, .int .i64 i, .int .i64 v] w (SendOf w S L 4) := by
  have HR := Lib.hid hr
  have HI := Lib.hid hi
  clear hr hi
  go_enter Try.func9, Try.ntmps9
  go_wp2_with fail
  refine (find_none i _ (by omega) HR.out h HI.out).mono ?_
  rintro e w1 ⟨P, p, Q, q, rfl, r1, r2, b1⟩
  clear r1 r2
  have HB := Lib.hid (b1.alloc b1.size (Obj.cells #[.int .i64 noL.1.1, .int .i64 noL.1.2.1, .int .i64 noL.1.2.2, .slice P noL.2.1.1.length p, .int .i64 noL.2.1.2.1, .int .i64 noL.2.1.2.2, .slice Q noL.2.2.1.length q, .int .i64 noL.2.2.2.1, .int .i64 noL.2.2.2.2] 54))
  clear b1
  go_wp2_with fail
  go_ret2
  exact ⟨A, c, rfl, upIn (HR.out.below HB.out), HB.out⟩
set_option maxHeartbeats 800000 in
theorem send_deny (k : Nat) (x : Lin) (who i v : Int) (w : World) (hb : L.length ≤ 900000) (hr : RdS w S A c L) (h : okS L = true) (hi : i = (k : Int)) (hk : k < L.length) (hxk : at_ L k = x) (hw : who ≠ x.1.1) :
    Calls Try.prog 9 #[.slice A L.length c, .int .i64 who, .int .i64 i, .int .i64 v] w (SendOf w S L 7) := by
  have h2 : (who != x.1.1) = true := by simp [hw]
  have HR := Lib.hid hr
  have HI := Lib.hid hi
  have HXK := Lib.hid hxk
  clear hr hi hxk
  go_enter Try.func9, Try.ntmps9
  go_wp2_with fail
  refine (find_ok k i x _ (by omega) HR.out h HI.out hk HXK.out).mono ?_
  rintro e w1 ⟨P, p, Q, q, rfl, r1, r2, b1⟩
  have HP := Lib.hid (RdS.below r1 (below_one w1 (Obj.cells #[.int .i64 x.1.1, .int .i64 x.1.2.1, .int .i64 x.1.2.2, .slice P x.2.1.1.length p, .int .i64 x.2.1.2.1, .int .i64 x.2.1.2.2, .slice Q x.2.2.1.length q, .int .i64 x.2.2.2.1, .int .i64 x.2.2.2.2] 54)))
  have HQ := Lib.hid (RdS.below r2 (below_one w1 (Obj.cells #[.int .i64 x.1.1, .int .i64 x.1.2.1, .int .i64 x.1.2.2, .slice P x.2.1.1.length p, .int .i64 x.2.1.2.1, .int .i64 x.2.1.2.2, .slice Q x.2.2.1.length q, .int .i64 x.2.2.2.1, .int .i64 x.2.2.2.2] 54)))
  have HX := Lib.hid (bl_new w1 P p Q q x _ rfl)
  have HB := Lib.hid (b1.alloc b1.size (Obj.cells #[.int .i64 x.1.1, .int .i64 x.1.2.1, .int .i64 x.1.2.2, .slice P x.2.1.1.length p, .int .i64 x.2.1.2.1, .int .i64 x.2.1.2.2, .slice Q x.2.2.1.length q, .int .i64 x.2.2.2.1, .int .i64 x.2.2.2.2] 54))
  have HW : Hid (w.heap.size ≤ w1.heap.size) := b1.size
  clear b1 r1 r2
  obtain ⟨y0, y1, y2, y3, y4, y5, y6, y7, y8⟩ := HX.out.c
  rw [Nat.zero_add] at y1 y2 y3 y4 y5 y6 y7 y8
  go_wp2_with fail
  go_ret2
  exact ⟨A, c, rfl, upIn (HR.out.below HB.out), HB.out⟩
set_option maxHeartbeats 1600000 in
theorem send_full (k n : Nat) (x : Lin) (who i v : Int) (w : World) (hb : L.length ≤ 900000) (hr : RdS w S A c L) (h : okS L = true) (hi : i = (k : Int)) (hk : k < L.length) (hxk : at_ L k = x) (hw : who = x.1.1) (hg : Good x.2.1 n) (hm : x.2.1.2.2 = n) :
    Calls Try.prog 9 #[.slice A L.length c, .int .i64 who, .int .i64 i, .int .i64 v] w (SendOf w S L 3) := by
  have h2 : (who != x.1.1) = false := by simp [hw]
  have HR := Lib.hid hr
  have HI := Lib.hid hi
  have HXK := Lib.hid hxk
  have HW := Lib.hid hw
  have HM := Lib.hid hm
  clear hr hi hxk hw hm
  go_enter Try.func9, Try.ntmps9
  go_wp2_with fail
  refine (find_ok k i x _ (by omega) HR.out h HI.out hk HXK.out).mono ?_
  rintro e w1 ⟨P, p, Q, q, rfl, r1, r2, b1⟩
  have HP := Lib.hid (RdS.below r1 (below_one w1 (Obj.cells #[.int .i64 x.1.1, .int .i64 x.1.2.1, .int .i64 x.1.2.2, .slice P x.2.1.1.length p, .int .i64 x.2.1.2.1, .int .i64 x.2.1.2.2, .slice Q x.2.2.1.length q, .int .i64 x.2.2.2.1, .int .i64 x.2.2.2.2] 54)))
  have HQ := Lib.hid (RdS.below r2 (below_one w1 (Obj.cells #[.int .i64 x.1.1, .int .i64 x.1.2.1, .int .i64 x.1.2.2, .slice P x.2.1.1.length p, .int .i64 x.2.1.2.1, .int .i64 x.2.1.2.2, .slice Q x.2.2.1.length q, .int .i64 x.2.2.2.1, .int .i64 x.2.2.2.2] 54)))
  have HX := Lib.hid (bl_new w1 P p Q q x _ rfl)
  have HB := Lib.hid (b1.alloc b1.size (Obj.cells #[.int .i64 x.1.1, .int .i64 x.1.2.1, .int .i64 x.1.2.2, .slice P x.2.1.1.length p, .int .i64 x.2.1.2.1, .int .i64 x.2.1.2.2, .slice Q x.2.2.1.length q, .int .i64 x.2.2.2.1, .int .i64 x.2.2.2.2] 54))
  have HW : Hid (w.heap.size ≤ w1.heap.size) := b1.size
  clear b1 r1 r2
  obtain ⟨y0, y1, y2, y3, y4, y5, y6, y7, y8⟩ := HX.out.c
  rw [Nat.zero_add] at y1 y2 y3 y4 y5 y6 y7 y8
  go_wp2_with fail
  clear y0 y1 y2 y3 y4 y5 y6 y7 y8
  generalize w1.alloc (Obj.cells #[.int .i64 x.1.1, .int .i64 x.1.2.1, .int .i64 x.1.2.2, .slice P x.2.1.1.length p, .int .i64 x.2.1.2.1, .int .i64 x.2.1.2.2, .slice Q x.2.2.1.length q, .int .i64 x.2.2.2.1, .int .i64 x.2.2.2.2] 54) = w2 at *
  refine (push_f v hg HM.out).mono ?_
  rintro e w3 ⟨rfl, b3⟩
  replace HX := Lib.hid (HX.out.below b3)
  replace HB := Lib.hid (below_S3u (below_step HB.out b3) HW.out P x.2.1.1.length p x.2.1.2.1 x.2.1.2.2)
  clear b3
  obtain ⟨⟨y0, y1, y2, y3, y4, y5, y6, y7, y8⟩, hfz⟩ := HX.out
  rw [Nat.zero_add] at y1 y2 y3 y4 y5 y6 y7 y8
  have f3 := hfz 3
  have f4 := hfz 4
  have f5 := hfz 5
  clear hfz
  go_wp2_with fail
  go_ret2
  exact ⟨A, c, rfl, upIn (HR.out.below HB.out), HB.out⟩
set_option maxHeartbeats 1600000 in
theorem send_ok (k n : Nat) (x : Lin) (who i v : Int) (w : World) (hb : L.length ≤ 900000) (hr : RdS w S A c L) (h : okS L = true) (hi : i = (k : Int)) (hk : k < L.length) (hxk : at_ L k = x) (hf : FitL x) (hv : Fit v) (hw : who = x.1.1) (hg : Good x.2.1 n) (hn : n ≤ 4) (hm : x.2.1.2.2 < n) :
    Calls Try.prog 9 #[.slice A L.length c, .int .i64 who, .int .i64 i, .int .i64 v] w (SendOf w S (L.set k (sentL x v)) 0) := by
  have h2 : (who != x.1.1) = false := by simp [hw]
  have hr := lowS hr
  have hfp := (hg.push (v := v) hm).fit (by omega)
  have HSL : Hid (∀ b, Low S w b → b < w.heap.size) := fun b hb => hb.2
  have HR := Lib.hid hr
  have HI := Lib.hid hi
  have HXK := Lib.hid hxk
  have HW := Lib.hid hw
  have HM := Lib.hid hm
  have HF := Lib.hid hf
  have HFP := Lib.hid hfp
  have HV := Lib.hid hv
  clear hr hi hxk hw hm hf hfp hv
  go_enter Try.func9, Try.ntmps9
  go_wp2_with fail
  refine (find_ok k i x _ (by omega) HR.out h HI.out hk HXK.out).mono ?_
  rintro e w1 ⟨P, p, Q, q, rfl, r1, r2, b1⟩
  have HP := Lib.hid (RdS.below r1 (below_one w1 (Obj.cells #[.int .i64 x.1.1, .int .i64 x.1.2.1, .int .i64 x.1.2.2, .slice P x.2.1.1.length p, .int .i64 x.2.1.2.1, .int .i64 x.2.1.2.2, .slice Q x.2.2.1.length q, .int .i64 x.2.2.2.1, .int .i64 x.2.2.2.2] 54)))
  have HQ := Lib.hid (RdS.below r2 (below_one w1 (Obj.cells #[.int .i64 x.1.1, .int .i64 x.1.2.1, .int .i64 x.1.2.2, .slice P x.2.1.1.length p, .int .i64 x.2.1.2.1, .int .i64 x.2.1.2.2, .slice Q x.2.2.1.length q, .int .i64 x.2.2.2.1, .int .i64 x.2.2.2.2] 54)))
  have HX := Lib.hid (bl_new w1 P p Q q x _ rfl)
  have HB := Lib.hid (b1.alloc b1.size (Obj.cells #[.int .i64 x.1.1, .int .i64 x.1.2.1, .int .i64 x.1.2.2, .slice P x.2.1.1.length p, .int .i64 x.2.1.2.1, .int .i64 x.2.1.2.2, .slice Q x.2.2.1.length q, .int .i64 x.2.2.2.1, .int .i64 x.2.2.2.2] 54))
  have HW : Hid (w.heap.size ≤ w1.heap.size) := b1.size
  clear b1 r1 r2
  obtain ⟨y0, y1, y2, y3, y4, y5, y6, y7, y8⟩ := HX.out.c
  rw [Nat.zero_add] at y1 y2 y3 y4 y5 y6 y7 y8
  go_wp2_with fail
  clear y0 y1 y2 y3 y4 y5 y6 y7 y8
  have HXX := HX.out.lt
  generalize w1.alloc (Obj.cells #[.int .i64 x.1.1, .int .i64 x.1.2.1, .int .i64 x.1.2.2, .slice P x.2.1.1.length p, .int .i64 x.2.1.2.1, .int .i64 x.2.1.2.2, .slice Q x.2.2.1.length q, .int .i64 x.2.2.2.1, .int .i64 x.2.2.2.2] 54) = w2 at *
  refine (push_r v hg (by omega) HM.out HV.out HP.out).mono ?_
  rintro e w3 ⟨P3, p3, rfl, r3, b3⟩
  have HPN := Lib.hid (upw_far r3 HSL.out HW.out HXX)
  have HUW : Hid (w.heap.size ≤ w2.heap.size) := HB.out.size
  replace HX := Lib.hid (HX.out.below b3)
  replace HQ := Lib.hid (HQ.out.below b3)
  replace HB := Lib.hid (below_step HB.out b3)
  clear b3 r3 HP
  obtain ⟨⟨y0, y1, y2, y3, y4, y5, y6, y7, y8⟩, hfz⟩ := HX.out
  rw [Nat.zero_add] at y1 y2 y3 y4 y5 y6 y7 y8
  have f3 := hfz 3
  have f4 := hfz 4
  have f5 := hfz 5
  clear hfz
  go_wp2_with fail
  have HBW := Lib.hid (below_S3u HB.out HW.out P3 (pushR x.2.1 v).1.length p3 (pushR x.2.1 v).2.1 (pushR x.2.1 v).2.2)
  have W0 : Hid (RdS (((w3.setCell ⟨(w1.heap.size), 3, none⟩ (.slice P3 ((pushR x.2.1 v).1.length) p3)).setCell ⟨(w1.heap.size), 4, none⟩ (.int .i64 ((pushR x.2.1 v).2.1))).setCell ⟨(w1.heap.size), 5, none⟩ (.int .i64 ((pushR x.2.1 v).2.2))) (Upw (Low S w) w2) A c L) := upIn (HR.out.below HBW.out)
  have W1 : Hid (RdS (((w3.setCell ⟨(w1.heap.size), 3, none⟩ (.slice P3 ((pushR x.2.1 v).1.length) p3)).setCell ⟨(w1.heap.size), 4, none⟩ (.int .i64 ((pushR x.2.1 v).2.1))).setCell ⟨(w1.heap.size), 5, none⟩ (.int .i64 ((pushR x.2.1 v).2.2))) (Upw (Low S w) w2) P3 p3 (pushR x.2.1 v).1) := by
    show RdS _ _ _ _ _
    rw [put3u]
    exact (rd_putC HPN.out (fun h => h.2 rfl) _ _).sub fun _ _ h => h.1
  have W2 : Hid (RdS (((w3.setCell ⟨(w1.heap.size), 3, none⟩ (.slice P3 ((pushR x.2.1 v).1.length) p3)).setCell ⟨(w1.heap.size), 4, none⟩ (.int .i64 ((pushR x.2.1 v).2.1))).setCell ⟨(w1.heap.size), 5, none⟩ (.int .i64 ((pushR x.2.1 v).2.2))) (Upw (Low S w) w2) Q q x.2.2.1) := by
    show RdS _ _ _ _ _
    rw [put3u]
    exact upIn (rd_putC HQ.out (fun h => by have := HSL.out _ h; have := HW.out; omega) _ _)
  clear y0 y1 y2 y3 y4 y5 y6 y7 y8 f3 f4 f5 HX HPN HQ HB HR
  generalize (((w3.setCell ⟨(w1.heap.size), 3, none⟩ (.slice P3 ((pushR x.2.1 v).1.length) p3)).setCell ⟨(w1.heap.size), 4, none⟩ (.int .i64 ((pushR x.2.1 v).2.1))).setCell ⟨(w1.heap.size), 5, none⟩ (.int .i64 ((pushR x.2.1 v).2.2))) = w4 at *
  refine (with_any (Upw (Low S w) w2) A c L k i HI.out hk hb P3 p3 Q q (sentL x v) _ (by rfl) w4 W0.out ⟨HF.out.1, HFP.out, HF.out.2.2⟩ W1.out W2.out).mono ?_
  rintro e w5 ⟨A5, c5, rfl, r5, b5⟩
  have R5 := Lib.hid (up_low HUW.out HBW.out.size r5)
  have B5 := Lib.hid (below_step HBW.out b5)
  clear r5 b5
  go_wp2_with fail
  go_ret2
  exact ⟨A5, c5, by rw [List.length_set]; rfl, R5.out, B5.out⟩

set_option maxHeartbeats 800000 in
theorem read_bad (who i : Int) (w : World) (hb : L.length ≤ 900000) (hr : RdS w S A c L) (h : okS L = false) :
    Calls Try.prog 10 #[.slice A L.length c, .int .i64 who, .int .i64 i] w (ReadOf w S L 0 1) := by
  have HR := Lib.hid hr
  clear hr
  go_enter Try.func10, Try.ntmps10
  go_wp2_with fail
  refine (find_bad i _ (by omega) HR.out h).mono ?_
  rintro e w1 ⟨P, p, Q, q, rfl, r1, r2, b1⟩
  clear r1 r2
  have HB := Lib.hid (b1.alloc b1.size (Obj.cells #[.int .i64 noL.1.1, .int .i64 noL.1.2.1, .int .i64 noL.1.2.2, .slice P noL.2.1.1.length p, .int .i64 noL.2.1.2.1, .int .i64 noL.2.1.2.2, .slice Q noL.2.2.1.length q, .int .i64 noL.2.2.2.1, .int .i64 noL.2.2.2.2] 54))
  clear b1
  go_wp2_with fail
  go_ret3
  exact ⟨A, c, rfl, upIn (HR.out.below HB.out), HB.out⟩
set_option maxHeartbeats 800000 in
theorem read_none (who i : Int) (w : World) (hb : L.length ≤ 900000) (hr : RdS w S A c L) (h : okS L = true) (hi : i < 0 ∨ (L.length : Int) ≤ i) :
    Calls Try.prog 10 #[.slice A L.length c, .int .i64 who, .int .i64 i] w (ReadOf w S L 0 4) := by
  have HR := Lib.hid hr
  have HI := Lib.hid hi
  clear hr hi
  go_enter Try.func10, Try.ntmps10
  go_wp2_with fail
  refine (find_none i _ (by omega) HR.out h HI.out).mono ?_
  rintro e w1 ⟨P, p, Q, q, rfl, r1, r2, b1⟩
  clear r1 r2
  have HB := Lib.hid (b1.alloc b1.size (Obj.cells #[.int .i64 noL.1.1, .int .i64 noL.1.2.1, .int .i64 noL.1.2.2, .slice P noL.2.1.1.length p, .int .i64 noL.2.1.2.1, .int .i64 noL.2.1.2.2, .slice Q noL.2.2.1.length q, .int .i64 noL.2.2.2.1, .int .i64 noL.2.2.2.2] 54))
  clear b1
  go_wp2_with fail
  go_ret3
  exact ⟨A, c, rfl, upIn (HR.out.below HB.out), HB.out⟩
set_option maxHeartbeats 800000 in
theorem read_deny (k : Nat) (x : Lin) (who i : Int) (w : World) (hb : L.length ≤ 900000) (hr : RdS w S A c L) (h : okS L = true) (hi : i = (k : Int)) (hk : k < L.length) (hxk : at_ L k = x) (hw : who ≠ x.1.2.1) :
    Calls Try.prog 10 #[.slice A L.length c, .int .i64 who, .int .i64 i] w (ReadOf w S L 0 7) := by
  have h2 : (who != x.1.2.1) = true := by simp [hw]
  have HR := Lib.hid hr
  have HI := Lib.hid hi
  have HXK := Lib.hid hxk
  clear hr hi hxk
  go_enter Try.func10, Try.ntmps10
  go_wp2_with fail
  refine (find_ok k i x _ (by omega) HR.out h HI.out hk HXK.out).mono ?_
  rintro e w1 ⟨P, p, Q, q, rfl, r1, r2, b1⟩
  have HP := Lib.hid (RdS.below r1 (below_one w1 (Obj.cells #[.int .i64 x.1.1, .int .i64 x.1.2.1, .int .i64 x.1.2.2, .slice P x.2.1.1.length p, .int .i64 x.2.1.2.1, .int .i64 x.2.1.2.2, .slice Q x.2.2.1.length q, .int .i64 x.2.2.2.1, .int .i64 x.2.2.2.2] 54)))
  have HQ := Lib.hid (RdS.below r2 (below_one w1 (Obj.cells #[.int .i64 x.1.1, .int .i64 x.1.2.1, .int .i64 x.1.2.2, .slice P x.2.1.1.length p, .int .i64 x.2.1.2.1, .int .i64 x.2.1.2.2, .slice Q x.2.2.1.length q, .int .i64 x.2.2.2.1, .int .i64 x.2.2.2.2] 54)))
  have HX := Lib.hid (bl_new w1 P p Q q x _ rfl)
  have HB := Lib.hid (b1.alloc b1.size (Obj.cells #[.int .i64 x.1.1, .int .i64 x.1.2.1, .int .i64 x.1.2.2, .slice P x.2.1.1.length p, .int .i64 x.2.1.2.1, .int .i64 x.2.1.2.2, .slice Q x.2.2.1.length q, .int .i64 x.2.2.2.1, .int .i64 x.2.2.2.2] 54))
  have HW : Hid (w.heap.size ≤ w1.heap.size) := b1.size
  clear b1 r1 r2
  obtain ⟨y0, y1, y2, y3, y4, y5, y6, y7, y8⟩ := HX.out.c
  rw [Nat.zero_add] at y1 y2 y3 y4 y5 y6 y7 y8
  go_wp2_with fail
  go_ret3
  exact ⟨A, c, rfl, upIn (HR.out.below HB.out), HB.out⟩
set_option maxHeartbeats 1600000 in
theorem read_zero (k n : Nat) (x : Lin) (who i : Int) (w : World) (hb : L.length ≤ 900000) (hr : RdS w S A c L) (h : okS L = true) (hi : i = (k : Int)) (hk : k < L.length) (hxk : at_ L k = x) (hw : who = x.1.2.1) (hg : Good x.2.2 n) (hm : x.2.2.2.2 = 0) :
    Calls Try.prog 10 #[.slice A L.length c, .int .i64 who, .int .i64 i] w (ReadOf w S L 0 4) := by
  have h2 : (who != x.1.2.1) = false := by simp [hw]
  have HR := Lib.hid hr
  have HI := Lib.hid hi
  have HXK := Lib.hid hxk
  have HW := Lib.hid hw
  have HM := Lib.hid hm
  clear hr hi hxk hw hm
  go_enter Try.func10, Try.ntmps10
  go_wp2_with fail
  refine (find_ok k i x _ (by omega) HR.out h HI.out hk HXK.out).mono ?_
  rintro e w1 ⟨P, p, Q, q, rfl, r1, r2, b1⟩
  have HP := Lib.hid (RdS.below r1 (below_one w1 (Obj.cells #[.int .i64 x.1.1, .int .i64 x.1.2.1, .int .i64 x.1.2.2, .slice P x.2.1.1.length p, .int .i64 x.2.1.2.1, .int .i64 x.2.1.2.2, .slice Q x.2.2.1.length q, .int .i64 x.2.2.2.1, .int .i64 x.2.2.2.2] 54)))
  have HQ := Lib.hid (RdS.below r2 (below_one w1 (Obj.cells #[.int .i64 x.1.1, .int .i64 x.1.2.1, .int .i64 x.1.2.2, .slice P x.2.1.1.length p, .int .i64 x.2.1.2.1, .int .i64 x.2.1.2.2, .slice Q x.2.2.1.length q, .int .i64 x.2.2.2.1, .int .i64 x.2.2.2.2] 54)))
  have HX := Lib.hid (bl_new w1 P p Q q x _ rfl)
  have HB := Lib.hid (b1.alloc b1.size (Obj.cells #[.int .i64 x.1.1, .int .i64 x.1.2.1, .int .i64 x.1.2.2, .slice P x.2.1.1.length p, .int .i64 x.2.1.2.1, .int .i64 x.2.1.2.2, .slice Q x.2.2.1.length q, .int .i64 x.2.2.2.1, .int .i64 x.2.2.2.2] 54))
  have HW : Hid (w.heap.size ≤ w1.heap.size) := b1.size
  clear b1 r1 r2
  obtain ⟨y0, y1, y2, y3, y4, y5, y6, y7, y8⟩ := HX.out.c
  rw [Nat.zero_add] at y1 y2 y3 y4 y5 y6 y7 y8
  go_wp2_with fail
  clear y0 y1 y2 y3 y4 y5 y6 y7 y8
  generalize w1.alloc (Obj.cells #[.int .i64 x.1.1, .int .i64 x.1.2.1, .int .i64 x.1.2.2, .slice P x.2.1.1.length p, .int .i64 x.2.1.2.1, .int .i64 x.2.1.2.2, .slice Q x.2.2.1.length q, .int .i64 x.2.2.2.1, .int .i64 x.2.2.2.2] 54) = w2 at *
  refine (pop_z hg HM.out).mono ?_
  rintro e w3 ⟨rfl, b3⟩
  replace HB := Lib.hid ((below_step HB.out b3).alloc (below_step HB.out b3).size (Obj.cells #[.slice Q x.2.2.1.length q, .int .i64 x.2.2.2.1, .int .i64 x.2.2.2.2] 52))
  clear b3
  go_wp2_with fail
  go_ret3
  exact ⟨A, c, rfl, upIn (HR.out.below HB.out), HB.out⟩
set_option maxHeartbeats 1600000 in
theorem read_ok (k n : Nat) (x : Lin) (who i : Int) (w : World) (hb : L.length ≤ 900000) (hr : RdS w S A c L) (h : okS L = true) (hi : i = (k : Int)) (hk : k < L.length) (hxk : at_ L k = x) (hf : FitL x) (hw : who = x.1.2.1) (hg : Good x.2.2 n) (hn : n ≤ 4) (hm : 0 < x.2.2.2.2) :
    Calls Try.prog 10 #[.slice A L.length c, .int .i64 who, .int .i64 i] w (ReadOf w S (L.set k (gotL x)) (fstR x.2.2) 0) := by
  have h2 : (who != x.1.2.1) = false := by simp [hw]
  have hr := lowS hr
  have hfp := (hg.pop hm).fit (by omega)
  have HSL : Hid (∀ b, Low S w b → b < w.heap.size) := fun b hb => hb.2
  have HR := Lib.hid hr
  have HI := Lib.hid hi
  have HXK := Lib.hid hxk
  have HW := Lib.hid hw
  have HM := Lib.hid hm
  have HF := Lib.hid hf
  have HFP := Lib.hid hfp
  clear hr hi hxk hw hm hf hfp
  go_enter Try.func10, Try.ntmps10
  go_wp2_with fail
  refine (find_ok k i x _ (by omega) HR.out h HI.out hk HXK.out).mono ?_
  rintro e w1 ⟨P, p, Q, q, rfl, r1, r2, b1⟩
  have HP := Lib.hid (RdS.below r1 (below_one w1 (Obj.cells #[.int .i64 x.1.1, .int .i64 x.1.2.1, .int .i64 x.1.2.2, .slice P x.2.1.1.length p, .int .i64 x.2.1.2.1, .int .i64 x.2.1.2.2, .slice Q x.2.2.1.length q, .int .i64 x.2.2.2.1, .int .i64 x.2.2.2.2] 54)))
  have HQ := Lib.hid (RdS.below r2 (below_one w1 (Obj.cells #[.int .i64 x.1.1, .int .i64 x.1.2.1, .int .i64 x.1.2.2, .slice P x.2.1.1.length p, .int .i64 x.2.1.2.1, .int .i64 x.2.1.2.2, .slice Q x.2.2.1.length q, .int .i64 x.2.2.2.1, .int .i64 x.2.2.2.2] 54)))
  have HX := Lib.hid (bl_new w1 P p Q q x _ rfl)
  have HB := Lib.hid (b1.alloc b1.size (Obj.cells #[.int .i64 x.1.1, .int .i64 x.1.2.1, .int .i64 x.1.2.2, .slice P x.2.1.1.length p, .int .i64 x.2.1.2.1, .int .i64 x.2.1.2.2, .slice Q x.2.2.1.length q, .int .i64 x.2.2.2.1, .int .i64 x.2.2.2.2] 54))
  have HW : Hid (w.heap.size ≤ w1.heap.size) := b1.size
  clear b1 r1 r2
  obtain ⟨y0, y1, y2, y3, y4, y5, y6, y7, y8⟩ := HX.out.c
  rw [Nat.zero_add] at y1 y2 y3 y4 y5 y6 y7 y8
  go_wp2_with fail
  clear y0 y1 y2 y3 y4 y5 y6 y7 y8
  generalize w1.alloc (Obj.cells #[.int .i64 x.1.1, .int .i64 x.1.2.1, .int .i64 x.1.2.2, .slice P x.2.1.1.length p, .int .i64 x.2.1.2.1, .int .i64 x.2.1.2.2, .slice Q x.2.2.1.length q, .int .i64 x.2.2.2.1, .int .i64 x.2.2.2.2] 54) = w2 at *
  refine (pop_r hg (by omega) HM.out HQ.out).mono ?_
  rintro e w3 ⟨rfl, b3⟩
  have bn := below_one w3 (Obj.cells #[.slice Q (popR x.2.2).1.length q, .int .i64 (popR x.2.2).2.1, .int .i64 (popR x.2.2).2.2] 52)
  replace HX := Lib.hid ((HX.out.below b3).below bn)
  replace HQ := Lib.hid (RdS.below (RdS.below HQ.out b3) bn)
  replace HP := Lib.hid (RdS.below (RdS.below HP.out b3) bn)
  replace HB := Lib.hid (below_step (below_step HB.out b3) bn)
  clear b3 bn
  obtain ⟨⟨y0, y1, y2, y3, y4, y5, y6, y7, y8⟩, hfz⟩ := HX.out
  rw [Nat.zero_add] at y1 y2 y3 y4 y5 y6 y7 y8
  have f6 := hfz 6
  have f7 := hfz 7
  have f8 := hfz 8
  have x0 : (w3.alloc (Obj.cells #[.slice Q (popR x.2.2).1.length q, .int .i64 (popR x.2.2).2.1, .int .i64 (popR x.2.2).2.2] 52)).cell? ⟨w3.heap.size, 0, none⟩ = some (.slice Q (popR x.2.2).1.length q) := by simp
  have x1 : (w3.alloc (Obj.cells #[.slice Q (popR x.2.2).1.length q, .int .i64 (popR x.2.2).2.1, .int .i64 (popR x.2.2).2.2] 52)).cell? ⟨w3.heap.size, 1, none⟩ = some (.int .i64 (popR x.2.2).2.1) := by simp
  have x2 : (w3.alloc (Obj.cells #[.slice Q (popR x.2.2).1.length q, .int .i64 (popR x.2.2).2.1, .int .i64 (popR x.2.2).2.2] 52)).cell? ⟨w3.heap.size, 2, none⟩ = some (.int .i64 (popR x.2.2).2.2) := by simp
  clear hfz
  go_wp2_with fail
  have HBW := Lib.hid (below_S3g HB.out HW.out Q (popR x.2.2).1.length q (popR x.2.2).2.1 (popR x.2.2).2.2)
  have W0 : Hid (RdS ((((w3.alloc (Obj.cells #[.slice Q (popR x.2.2).1.length q, .int .i64 (popR x.2.2).2.1, .int .i64 (popR x.2.2).2.2] 52)).setCell ⟨(w1.heap.size), 6, none⟩ (.slice Q ((popR x.2.2).1.length) q)).setCell ⟨(w1.heap.size), 7, none⟩ (.int .i64 ((popR x.2.2).2.1))).setCell ⟨(w1.heap.size), 8, none⟩ (.int .i64 ((popR x.2.2).2.2))) (Low S w) A c L) := HR.out.below HBW.out
  have W1 : Hid (RdS ((((w3.alloc (Obj.cells #[.slice Q (popR x.2.2).1.length q, .int .i64 (popR x.2.2).2.1, .int .i64 (popR x.2.2).2.2] 52)).setCell ⟨(w1.heap.size), 6, none⟩ (.slice Q ((popR x.2.2).1.length) q)).setCell ⟨(w1.heap.size), 7, none⟩ (.int .i64 ((popR x.2.2).2.1))).setCell ⟨(w1.heap.size), 8, none⟩ (.int .i64 ((popR x.2.2).2.2))) (Low S w) P p x.2.1.1) := by
    show RdS _ _ _ _ _
    rw [put3g]
    exact rd_putC HP.out (fun h => by have := HSL.out _ h; have := HW.out; omega) _ _
  have W2 : Hid (RdS ((((w3.alloc (Obj.cells #[.slice Q (popR x.2.2).1.length q, .int .i64 (popR x.2.2).2.1, .int .i64 (popR x.2.2).2.2] 52)).setCell ⟨(w1.heap.size), 6, none⟩ (.slice Q ((popR x.2.2).1.length) q)).setCell ⟨(w1.heap.size), 7, none⟩ (.int .i64 ((popR x.2.2).2.1))).setCell ⟨(w1.heap.size), 8, none⟩ (.int .i64 ((popR x.2.2).2.2))) (Low S w) Q q (popR x.2.2).1) := by
    show RdS _ _ _ _ _
    rw [put3g]
    exact rd_putC HQ.out (fun h => by have := HSL.out _ h; have := HW.out; omega) _ _
  clear y0 y1 y2 y3 y4 y5 y6 y7 y8 f6 f7 f8 x0 x1 x2 HX HP HQ HB HR
  generalize ((((w3.alloc (Obj.cells #[.slice Q (popR x.2.2).1.length q, .int .i64 (popR x.2.2).2.1, .int .i64 (popR x.2.2).2.2] 52)).setCell ⟨(w1.heap.size), 6, none⟩ (.slice Q ((popR x.2.2).1.length) q)).setCell ⟨(w1.heap.size), 7, none⟩ (.int .i64 ((popR x.2.2).2.1))).setCell ⟨(w1.heap.size), 8, none⟩ (.int .i64 ((popR x.2.2).2.2))) = w4 at *
  refine (with_any (Low S w) A c L k i HI.out hk hb P p Q q (gotL x) _ (by rfl) w4 W0.out ⟨HF.out.1, HF.out.2.1, HFP.out⟩ W1.out W2.out).mono ?_
  rintro e w5 ⟨A5, c5, rfl, r5, b5⟩
  have R5 : Hid (RdS w5 (Upw S w) A5 c5 (L.set k (gotL x))) := r5.sub fun _ _ hb => hb.elim (fun hb => .inl hb.1) (fun hb => .inr (Nat.le_trans HBW.out.size hb))
  have B5 := Lib.hid (below_step HBW.out b5)
  clear r5 b5
  go_wp2_with fail
  go_ret3
  exact ⟨A5, c5, by rw [List.length_set]; rfl, R5.out, B5.out⟩

/-- Send, whatever is asked -/
theorem send_any (who i v : Int) (w : World) (hb : L.length ≤ 900000) (hr : RdS w S A c L) (hv : Fit v) :
    Calls Try.prog 9 #[.slice A L.length c, .int .i64 who, .int .i64 i, .int .i64 v] w (SendOf w S (sendL L who i v) (sendE L who i)) := by
  cases h : okS L with
  | false =>
    have e : sendE L who i = 1 := by unfold sendE; rw [if_pos h]
    unfold sendL
    rw [e, if_neg (by decide)]
    exact send_bad who i v w hb hr h
  | true =>
    have h1 : ¬ okS L = false := by rw [h]; simp
    by_cases hi : i < 0 ∨ (L.length : Int) ≤ i
    · have e : sendE L who i = 4 := by unfold sendE; rw [if_neg h1, if_pos hi]
      unfold sendL
      rw [e, if_neg (by decide)]
      exact send_none who i v w hb hr h hi
    · have hk : i.toNat < L.length := by omega
      have ei : i = (i.toNat : Int) := by omega
      obtain ⟨n, -, n1, n4, hp, g1, g2⟩ := okL_good (okS_at h hk)
      by_cases hw : who = (at_ L i.toNat).1.1
      · by_cases hm : (at_ L i.toNat).2.1.2.2 = ((at_ L i.toNat).2.1.1.length : Int)
        · have e : sendE L who i = 3 := by unfold sendE; rw [if_neg h1, if_neg hi, if_neg (fun h => h hw), if_pos hm]
          unfold sendL
          rw [e, if_neg (by decide)]
          exact send_full i.toNat n _ who i v w hb hr h ei hk rfl hw g1 (by rw [hm, g1.len])
        · have e : sendE L who i = 0 := by unfold sendE; rw [if_neg h1, if_neg hi, if_neg (fun h => h hw), if_neg hm]
          unfold sendL
          rw [e, if_pos rfl]
          have hm1 := g1.m1
          rw [g1.len] at hm
          exact send_ok i.toNat n _ who i v w hb hr h ei hk rfl (line_fit hr hk) hv hw g1 n4 (by omega)
      · have e : sendE L who i = 7 := by unfold sendE; rw [if_neg h1, if_neg hi, if_pos hw]
        unfold sendL
        rw [e, if_neg (by decide)]
        exact send_deny i.toNat _ who i v w hb hr h ei hk rfl hw
/-- Read, whatever is asked -/
theorem read_any (who i : Int) (w : World) (hb : L.length ≤ 900000) (hr : RdS w S A c L) :
    Calls Try.prog 10 #[.slice A L.length c, .int .i64 who, .int .i64 i] w (ReadOf w S (readL L who i) (readV L who i) (readE L who i)) := by
  cases h : okS L with
  | false =>
    have e : readE L who i = 1 := by unfold readE; rw [if_pos h]
    unfold readL readV
    rw [e, if_neg (by decide), if_neg (by decide)]
    exact read_bad who i w hb hr h
  | true =>
    have h1 : ¬ okS L = false := by rw [h]; simp
    by_cases hi : i < 0 ∨ (L.length : Int) ≤ i
    · have e : readE L who i = 4 := by unfold readE; rw [if_neg h1, if_pos hi]
      unfold readL readV
      rw [e, if_neg (by decide), if_neg (by decide)]
      exact read_none who i w hb hr h hi
    · have hk : i.toNat < L.length := by omega
      have ei : i = (i.toNat : Int) := by omega
      obtain ⟨n, -, n1, n4, hp, g1, g2⟩ := okL_good (okS_at h hk)
      by_cases hw : who = (at_ L i.toNat).1.2.1
      · by_cases hm : (at_ L i.toNat).2.2.2.2 = 0
        · have e : readE L who i = 4 := by unfold readE; rw [if_neg h1, if_neg hi, if_neg (fun h => h hw), if_pos hm]
          unfold readL readV
          rw [e, if_neg (by decide), if_neg (by decide)]
          exact read_zero i.toNat n _ who i w hb hr h ei hk rfl hw g2 hm
        · have e : readE L who i = 0 := by unfold readE; rw [if_neg h1, if_neg hi, if_neg (fun h => h hw), if_neg hm]
          unfold readL readV
          rw [e, if_pos rfl, if_pos rfl]
          have hm1 := g2.m0
          exact read_ok i.toNat n _ who i w hb hr h ei hk rfl (line_fit hr hk) hw g2 n4 (by omega)
      · have e : readE L who i = 7 := by unfold readE; rw [if_neg h1, if_neg hi, if_pos hw]
        unfold readL readV
        rw [e, if_neg (by decide), if_neg (by decide)]
        exact read_deny i.toNat _ who i w hb hr h ei hk rfl hw
theorem send_v (who i v : Int) (n : Nat) (L' : List Lin) (E : Int) (hn : L.length = n) (hL : sendL L who i v = L') (hE : sendE L who i = E) (w : World) (hb : n ≤ 900000) (hr : RdS w S A c L) (hv : Fit v) :
    Calls Try.prog 9 #[.slice A n c, .int .i64 who, .int .i64 i, .int .i64 v] w (SendOf w S L' E) := by
  subst hn; subst hL; subst hE
  exact send_any who i v w hb hr hv
theorem read_v (who i : Int) (n : Nat) (L' : List Lin) (v E : Int) (hn : L.length = n) (hL : readL L who i = L') (hV : readV L who i = v) (hE : readE L who i = E) (w : World) (hb : n ≤ 900000) (hr : RdS w S A c L) :
    Calls Try.prog 10 #[.slice A n c, .int .i64 who, .int .i64 i] w (ReadOf w S L' v E) := by
  subst hn; subst hL; subst hV; subst hE
  exact read_any who i w hb hr
end
end Po
end Go.Proofs.Ytfkcplnjhelclaa

/-
  Layer 18 (port): empty, delivered.
-/
namespace Go.Proofs.Ytfkcplnjhelclaa
open Go.RowKit Mm
namespace Po

theorem Bl.cells {w : World} {X : Nat} {P Q : Option Addr} {p q : Nat} {t : Pt} {u g : Rg} (h : Bl w X P p Q q (t, u, g)) :
    w.cell? ⟨X, 0, none⟩ = some (.int .i64 t.1) ∧ w.cell? ⟨X, 1, none⟩ = some (.int .i64 t.2.1) ∧ w.cell? ⟨X, 2, none⟩ = some (.int .i64 t.2.2) ∧
    w.cell? ⟨X, 3, none⟩ = some (.slice P u.1.length p) ∧ w.cell? ⟨X, 4, none⟩ = some (.int .i64 u.2.1) ∧ w.cell? ⟨X, 5, none⟩ = some (.int .i64 u.2.2) ∧
    w.cell? ⟨X, 6, none⟩ = some (.slice Q g.1.length q) ∧ w.cell? ⟨X, 7, none⟩ = some (.int .i64 g.2.1) ∧ w.cell? ⟨X, 8, none⟩ = some (.int .i64 g.2.2) := by
  obtain ⟨y0, y1, y2, y3, y4, y5, y6, y7, y8⟩ := h.c
  rw [Nat.zero_add] at y1 y2 y3 y4 y5 y6 y7 y8
  exact ⟨y0, y1, y2, y3, y4, y5, y6, y7, y8⟩

theorem put3z (w : World) (X : Nat) (v0 v1 v2 : Value) : (((w.setCell ⟨X, 0, none⟩ v0).setCell ⟨X, 1, none⟩ v1).setCell ⟨X, 2, none⟩ v2) = putC w X 0 [v0, v1, v2] := by simp only [putC, Nat.zero_add, Nat.reduceAdd]
set_option maxHeartbeats 800000 in
theorem empty_any (S : Nat → Prop) (f t k : Int) (w : World) (h1 : 1 ≤ k) (h4 : k ≤ 4) :
    Calls Try.prog 34 #[.agg #[.int .i64 f, .int .i64 t, .int .i64 k]] w (PutR w S (newR k.toNat)) := by
  have B0 := Lib.hid (below_two w (Obj.cells #[.int .i64 f, .int .i64 t, .int .i64 k] 34) (Obj.cells #[.slice none 0 0, .int .i64 0, .int .i64 0] 52))
  have x2 : ((w.alloc (Obj.cells #[.int .i64 f, .int .i64 t, .int .i64 k] 34)).alloc (Obj.cells #[.slice none 0 0, .int .i64 0, .int .i64 0] 52)).cell? ⟨w.heap.size, 2, none⟩ = some (.int .i64 k) := cell_new (by simp) _
  have z0 : ((w.alloc (Obj.cells #[.int .i64 f, .int .i64 t, .int .i64 k] 34)).alloc (Obj.cells #[.slice none 0 0, .int .i64 0, .int .i64 0] 52)).cell? ⟨w.heap.size + 1, 0, none⟩ = some (.slice none 0 0) := by go_simp
  have z1 : ((w.alloc (Obj.cells #[.int .i64 f, .int .i64 t, .int .i64 k] 34)).alloc (Obj.cells #[.slice none 0 0, .int .i64 0, .int .i64 0] 52)).cell? ⟨w.heap.size + 1, 1, none⟩ = some (.int .i64 0) := by go_simp
  have z2 : ((w.alloc (Obj.cells #[.int .i64 f, .int .i64 t, .int .i64 k] 34)).alloc (Obj.cells #[.slice none 0 0, .int .i64 0, .int .i64 0] 52)).cell? ⟨w.heap.size + 1, 2, none⟩ = some (.int .i64 0) := by go_simp
  have f0 : ((w.alloc (Obj.cells #[.int .i64 f, .int .i64 t, .int .i64 k] 34)).alloc (Obj.cells #[.slice none 0 0, .int .i64 0, .int .i64 0] 52)).frozen? ⟨w.heap.size + 1, 0, none⟩ = false := by go_simp
  have f1 : ((w.alloc (Obj.cells #[.int .i64 f, .int .i64 t, .int .i64 k] 34)).alloc (Obj.cells #[.slice none 0 0, .int .i64 0, .int .i64 0] 52)).frozen? ⟨w.heap.size + 1, 1, none⟩ = false := by go_simp
  have f2 : ((w.alloc (Obj.cells #[.int .i64 f, .int .i64 t, .int .i64 k] 34)).alloc (Obj.cells #[.slice none 0 0, .int .i64 0, .int .i64 0] 52)).frozen? ⟨w.heap.size + 1, 2, none⟩ = false := by go_simp
  have Z0 : Hid (((w.alloc (Obj.cells #[.int .i64 f, .int .i64 t, .int .i64 k] 34)).alloc (Obj.cells #[.slice none 0 0, .int .i64 0, .int .i64 0] 52)).heap.size = w.heap.size + 2) := by show _ = _; simp
  go_enter Try.func34, Try.ntmps34
  go_wp2_with fail
  generalize (w.alloc (Obj.cells #[.int .i64 f, .int .i64 t, .int .i64 k] 34)).alloc (Obj.cells #[.slice none 0 0, .int .i64 0, .int .i64 0] 52) = w0 at *
  refine (new_r (fun _ => False) k h1 h4 _).mono ?_
  rintro e w1 ⟨A1, c1, rfl, r1, b1⟩
  generalize hR : newR k.toNat = R at *
  have bn := below_one w1 (Obj.cells #[.slice A1 R.1.length c1, .int .i64 R.2.1, .int .i64 R.2.2] 52)
  have y0 := cell_below bn (cell_below b1 z0)
  have y1 := cell_below bn (cell_below b1 z1)
  have y2 := cell_below bn (cell_below b1 z2)
  have g0 := frozen_below bn (cell_below b1 z0) (frozen_below b1 z0 f0)
  have g1 := frozen_below bn (cell_below b1 z1) (frozen_below b1 z1 f1)
  have g2 := frozen_below bn (cell_below b1 z2) (frozen_below b1 z2 f2)
  have HR := Lib.hid (RdS.below r1 bn)
  have HB := Lib.hid (below_step (below_step B0.out b1) bn)
  have u0 : (w1.alloc (Obj.cells #[.slice A1 R.1.length c1, .int .i64 R.2.1, .int .i64 R.2.2] 52)).cell? ⟨w1.heap.size, 0, none⟩ = some (.slice A1 R.1.length c1) := by simp
  have u1 : (w1.alloc (Obj.cells #[.slice A1 R.1.length c1, .int .i64 R.2.1, .int .i64 R.2.2] 52)).cell? ⟨w1.heap.size, 1, none⟩ = some (.int .i64 R.2.1) := by simp
  have u2 : (w1.alloc (Obj.cells #[.slice A1 R.1.length c1, .int .i64 R.2.1, .int .i64 R.2.2] 52)).cell? ⟨w1.heap.size, 2, none⟩ = some (.int .i64 R.2.2) := by simp
  clear z0 z1 z2 f0 f1 f2 x2 r1 b1 bn
  go_wp2_with fail
  refine bodyPost_ret (v := (.agg #[.slice A1 R.1.length c1, .int .i64 R.2.1, .int .i64 R.2.2])) (by simp [results, Try.results34, go_sem, y0, y1, y2]) rfl ?_
  rw [put3z]
  exact ⟨A1, c1, rfl, (rd_putC HR.out (fun h => h.elim id (fun h => by have := Z0.out; omega)) _ _).sub fun b _ hb => hb.elim False.elim (fun hb => .inr (by have := Z0.out; omega)), below_putC (by omega) _ 0 _ HB.out⟩

/-- the loop of a delivery: j messages passed -/
def DelRel (w : World) (S : Nat → Prop) (x : Lin) (X Y j : Nat) (wr : World) : Prop :=
  ∃ P p Q q, Bl wr X P p Q q (x.1, (goR j x.2).1, (goR j x.2).2) ∧ Bl wr Y none 0 none 0 noL ∧ RdS wr (fun b => Upw S w b ∧ b ≠ X ∧ b ≠ Y) P p (goR j x.2).1.1 ∧ RdS wr (fun b => Upw S w b ∧ b ≠ X ∧ b ≠ Y) Q q (goR j x.2).2.1 ∧ Below w.heap.size w wr
/-- what delivered answers -/
def DelOf (w : World) (S : Nat → Prop) (x : Lin) (e : Ending) (w' : World) : Prop :=
  ∃ P p Q q, e = .returned (.agg #[.int .i64 x.1.1, .int .i64 x.1.2.1, .int .i64 x.1.2.2, .slice P x.2.1.1.length p, .int .i64 x.2.1.2.1, .int .i64 x.2.1.2.2, .slice Q x.2.2.1.length q, .int .i64 x.2.2.2.1, .int .i64 x.2.2.2.2]) ∧ RdS w' (Upw S w) P p x.2.1.1 ∧ RdS w' (Upw S w) Q q x.2.2.1 ∧ Below w.heap.size w w'

theorem del_step {w w4 w5 : World} {S : Nat → Prop} {x : Lin} {X Y j : Nat} {P Q A : Option Addr} {p q c : Nat} {u g u' g' : Rg} (hX : Bl w4 X P p Q q (x.1, u, g)) (hY : Bl w4 Y none 0 none 0 noL) (r1 : RdS w4 (fun b => Upw S w b ∧ b ≠ X ∧ b ≠ Y) P p u.1) (hb : Below w.heap.size w w4) (hw : w.heap.size ≤ X ∧ X ≠ Y)
    (b : Below w4.heap.size w4 w5) (r5 : RdS w5 (Upw (fun b => Upw S w b ∧ b ≠ X ∧ b ≠ Y) w4.drew) A c g'.1) (hu : u'.1 = u.1) (e1 : u' = (goR (j + 1) x.2).1) (e2 : g' = (goR (j + 1) x.2).2) :
    DelRel w S x X Y (j + 1) ((((((w5.setCell ⟨X, 3, none⟩ (.slice P (u'.1.length) p)).setCell ⟨X, 4, none⟩ (.int .i64 (u'.2.1))).setCell ⟨X, 5, none⟩ (.int .i64 (u'.2.2))).setCell ⟨X, 6, none⟩ (.slice A (g'.1.length) c)).setCell ⟨X, 7, none⟩ (.int .i64 (g'.2.1))).setCell ⟨X, 8, none⟩ (.int .i64 (g'.2.2))) := by
  have hx := ((hX.below b).under P p u').got A c g'
  have hlX := hX.lt
  have hlY := hY.lt
  have hg : w5.grownBy ((((((w5.setCell ⟨X, 3, none⟩ (.slice P (u'.1.length) p)).setCell ⟨X, 4, none⟩ (.int .i64 (u'.2.1))).setCell ⟨X, 5, none⟩ (.int .i64 (u'.2.2))).setCell ⟨X, 6, none⟩ (.slice A (g'.1.length) c)).setCell ⟨X, 7, none⟩ (.int .i64 (g'.2.1))).setCell ⟨X, 8, none⟩ (.int .i64 (g'.2.2))) (some X) := by
    rw [put3g, put3u]
    exact gb_trans (gb_putC _ _ _ _) (gb_putC _ _ _ _)
  refine ⟨P, p, A, c, ?_, (hY.below b).keep (hg.block Y (Nat.lt_of_lt_of_le hlY b.size) (fun e => hw.2 (by injection e with e; exact e.symm))), ?_, ?_, below_of_gb (below_step hb b) hg (below_step hb b).size (fun k hk => by injection hk with hk; omega)⟩
  · rw [← e1, ← e2]
    exact hx
  · rw [← e1]
    have r1' : RdS w4 (fun b => Upw S w b ∧ b ≠ X ∧ b ≠ Y) P p u'.1 := by rw [hu]; exact r1
    exact (r1'.below b).gb hg fun k hk e => hk.2.1 (by injection e)
  · rw [← e2]
    refine (r5.sub fun k _ hk => ?_).gb hg fun k (hk : Upw S w k ∧ k ≠ X ∧ k ≠ Y) e => hk.2.1 (by injection e)
    rcases hk with hk | hk
    · exact hk
    · have hk : w4.heap.size ≤ k := hk
      exact ⟨.inr (Nat.le_trans hb.size hk), by omega, by omega⟩
theorem del_end {w W : World} {S : Nat → Prop} {X Y : Nat} {d : Lin} {P Q : Option Addr} {p q : Nat} (r1 : RdS W (fun b => Upw S w b ∧ b ≠ X ∧ b ≠ Y) P p d.2.1.1) (r2 : RdS W (fun b => Upw S w b ∧ b ≠ X ∧ b ≠ Y) Q q d.2.2.1) (hb : Below w.heap.size w W) (hY : w.heap.size ≤ Y) :
    DelOf w S d (.returned (.agg #[.int .i64 d.1.1, .int .i64 d.1.2.1, .int .i64 d.1.2.2, .slice P d.2.1.1.length p, .int .i64 d.2.1.2.1, .int .i64 d.2.1.2.2, .slice Q d.2.2.1.length q, .int .i64 d.2.2.2.1, .int .i64 d.2.2.2.2])) (((((((((W.setCell ⟨Y, 0, none⟩ (.int .i64 d.1.1)).setCell ⟨Y, 1, none⟩ (.int .i64 d.1.2.1)).setCell ⟨Y, 2, none⟩ (.int .i64 d.1.2.2)).setCell ⟨Y, 3, none⟩ (.slice P d.2.1.1.length p)).setCell ⟨Y, 4, none⟩ (.int .i64 d.2.1.2.1)).setCell ⟨Y, 5, none⟩ (.int .i64 d.2.1.2.2)).setCell ⟨Y, 6, none⟩ (.slice Q d.2.2.1.length q)).setCell ⟨Y, 7, none⟩ (.int .i64 d.2.2.2.1)).setCell ⟨Y, 8, none⟩ (.int .i64 d.2.2.2.2)) := by
  rw [put9]
  exact ⟨P, p, Q, q, rfl, (rd_putC r1 (fun h => h.2.2 rfl) _ _).sub fun _ _ h => h.1, (rd_putC r2 (fun h => h.2.2 rfl) _ _).sub fun _ _ h => h.1, below_putC hY _ _ _ hb⟩
set_option maxHeartbeats 3200000 in
theorem delivered_any (S : Nat → Prop) (P : Option Addr) (p : Nat) (Q : Option Addr) (q : Nat) (x : Lin) (w : World) (hx : okL x = true) (h1 : RdS w S P p x.2.1.1) (h2 : RdS w S Q q x.2.2.1) :
    Calls Try.prog 32 #[(.agg #[.int .i64 x.1.1, .int .i64 x.1.2.1, .int .i64 x.1.2.2, .slice P x.2.1.1.length p, .int .i64 x.2.1.2.1, .int .i64 x.2.1.2.2, .slice Q x.2.2.1.length q, .int .i64 x.2.2.2.1, .int .i64 x.2.2.2.2])] w (DelOf w S (delivL x)) := by
  obtain ⟨n, hn, n1, n4, hp, gu, gg⟩ := okL_good hx
  have hm0 := gu.m0
  have hm1 := gu.m1
  obtain ⟨m, hm⟩ : ∃ m : Nat, x.2.1.2.2 = (m : Int) := ⟨x.2.1.2.2.toNat, by omega⟩
  have hmn : m ≤ 4 := by omega
  have B0 := Lib.hid (below_two w (Obj.cells #[.int .i64 x.1.1, .int .i64 x.1.2.1, .int .i64 x.1.2.2, .slice P x.2.1.1.length p, .int .i64 x.2.1.2.1, .int .i64 x.2.1.2.2, .slice Q x.2.2.1.length q, .int .i64 x.2.2.2.1, .int .i64 x.2.2.2.2] 54) (Obj.cells #[.int .i64 0, .int .i64 0, .int .i64 0, .slice none 0 0, .int .i64 0, .int .i64 0, .slice none 0 0, .int .i64 0, .int .i64 0] 54))
  have HX : Hid (Bl ((w.alloc (Obj.cells #[.int .i64 x.1.1, .int .i64 x.1.2.1, .int .i64 x.1.2.2, .slice P x.2.1.1.length p, .int .i64 x.2.1.2.1, .int .i64 x.2.1.2.2, .slice Q x.2.2.1.length q, .int .i64 x.2.2.2.1, .int .i64 x.2.2.2.2] 54)).alloc (Obj.cells #[.int .i64 0, .int .i64 0, .int .i64 0, .slice none 0 0, .int .i64 0, .int .i64 0, .slice none 0 0, .int .i64 0, .int .i64 0] 54)) w.heap.size P p Q q x) := (bl_new w P p Q q x _ rfl).below (below_one _ _)
  have HY : Hid (Bl ((w.alloc (Obj.cells #[.int .i64 x.1.1, .int .i64 x.1.2.1, .int .i64 x.1.2.2, .slice P x.2.1.1.length p, .int .i64 x.2.1.2.1, .int .i64 x.2.1.2.2, .slice Q x.2.2.1.length q, .int .i64 x.2.2.2.1, .int .i64 x.2.2.2.2] 54)).alloc (Obj.cells #[.int .i64 0, .int .i64 0, .int .i64 0, .slice none 0 0, .int .i64 0, .int .i64 0, .slice none 0 0, .int .i64 0, .int .i64 0] 54)) (w.heap.size + 1) none 0 none 0 noL) := bl_new _ none 0 none 0 noL _ (by simp)
  have H1 : Hid (RdS ((w.alloc (Obj.cells #[.int .i64 x.1.1, .int .i64 x.1.2.1, .int .i64 x.1.2.2, .slice P x.2.1.1.length p, .int .i64 x.2.1.2.1, .int .i64 x.2.1.2.2, .slice Q x.2.2.1.length q, .int .i64 x.2.2.2.1, .int .i64 x.2.2.2.2] 54)).alloc (Obj.cells #[.int .i64 0, .int .i64 0, .int .i64 0, .slice none 0 0, .int .i64 0, .int .i64 0, .slice none 0 0, .int .i64 0, .int .i64 0] 54)) (fun b => Upw S w b ∧ b ≠ w.heap.size ∧ b ≠ w.heap.size + 1) P p x.2.1.1) := (RdS.below (lowS h1) B0.out).sub fun b _ hb => ⟨.inl hb.1, by have := hb.2; omega, by have := hb.2; omega⟩
  have H2 : Hid (RdS ((w.alloc (Obj.cells #[.int .i64 x.1.1, .int .i64 x.1.2.1, .int .i64 x.1.2.2, .slice P x.2.1.1.length p, .int .i64 x.2.1.2.1, .int .i64 x.2.1.2.2, .slice Q x.2.2.1.length q, .int .i64 x.2.2.2.1, .int .i64 x.2.2.2.2] 54)).alloc (Obj.cells #[.int .i64 0, .int .i64 0, .int .i64 0, .slice none 0 0, .int .i64 0, .int .i64 0, .slice none 0 0, .int .i64 0, .int .i64 0] 54)) (fun b => Upw S w b ∧ b ≠ w.heap.size ∧ b ≠ w.heap.size + 1) Q q x.2.2.1) := (RdS.below (lowS h2) B0.out).sub fun b _ hb => ⟨.inl hb.1, by have := hb.2; omega, by have := hb.2; omega⟩
  clear h1 h2
  have hm' : (0 : Int) ≤ x.2.1.2.2 := hm0
  clear hm0 hm1
  have HN := Lib.hid hn
  have HM := Lib.hid hm
  clear hn hm
  obtain ⟨y0, y1, y2, y3, y4, y5, y6, y7, y8⟩ := HX.out.c
  rw [Nat.zero_add] at y1 y2 y3 y4 y5 y6 y7 y8
  go_enter Try.func32, Try.ntmps32
  go_wp2_with fail
  generalize (w.alloc (Obj.cells #[.int .i64 x.1.1, .int .i64 x.1.2.1, .int .i64 x.1.2.2, .slice P x.2.1.1.length p, .int .i64 x.2.1.2.1, .int .i64 x.2.1.2.2, .slice Q x.2.2.1.length q, .int .i64 x.2.2.2.1, .int .i64 x.2.2.2.2] 54)).alloc (Obj.cells #[.int .i64 0, .int .i64 0, .int .i64 0, .slice none 0 0, .int .i64 0, .int .i64 0, .slice none 0 0, .int .i64 0, .int .i64 0] 54) = w0 at *
  have HL0 : Hid (DelRel w S x w.heap.size (w.heap.size + 1) 0 w0) := ⟨P, p, Q, q, HX.out, HY.out, H1.out, H2.out, B0.out⟩
  clear HX HY H1 H2 B0 y0 y1 y2 y3 y4 y5 y6 y7 y8
  go_loopw [11] (fun i wr => ∃ j : Nat, i = .int .i64 (j : Int) ∧ j ≤ m ∧ Hid (DelRel w S x w.heap.size (w.heap.size + 1) j wr)) (fun i _ => m - (intOf i).toNat)
  case atStart => exact ⟨0, rfl, Nat.zero_le _, HL0⟩
  case round =>
    obtain ⟨j, rfl, hj, HR⟩ := hrel
    obtain ⟨P1, p1, Q1, q1, hX, hY, r1, r2, hb⟩ := HR.out
    clear HR
    by_cases hlt : j < m
    · have k1 : (j : Int) < x.2.1.2.2 := by rw [HM.out]; omega
      have k2 : IntKind.i64.wrap ((j : Int) + 1) = (j : Int) + 1 := IntWalk.i64_in _ (by omega)
      obtain ⟨g1, g2, g3, _, _⟩ := goR_good gu gg j (by rw [HM.out]; omega)
      have g4 : 0 < (goR j x.2).1.2.2 := by rw [g3, HM.out]; omega
      have HG : Hid (popR (goR j x.2).1 = (goR (j + 1) x.2).1 ∧ putR (goR j x.2).2 (fstR (goR j x.2).1) = (goR (j + 1) x.2).2) := ⟨rfl, rfl⟩
      generalize (goR j x.2).1 = u at *
      generalize (goR j x.2).2 = g at *
      have HX := Lib.hid hX
      have HY := Lib.hid hY
      have R1 := Lib.hid r1
      have R2 := Lib.hid r2
      have HB := Lib.hid hb
      have G1 := Lib.hid g1
      have G2 := Lib.hid g2
      have G4 := Lib.hid g4
      clear hX hY r1 r2 hb g1 g2 g4
      clear g3
      have HZ : Hid (w.heap.size ≤ w.heap.size ∧ w.heap.size ≠ w.heap.size + 1) := ⟨Nat.le_refl _, by omega⟩
      obtain ⟨y0, y1, y2, y3, y4, y5, y6, y7, y8⟩ := HX.out.cells
      go_wp2_with fail
      refine (pop_r G1.out (by omega) G4.out R1.out).mono ?_
      rintro e w3 ⟨rfl, b3⟩
      have HFU := Lib.hid (fstR_fit G1.out R1.out)
      have bn := below_one w3 (Obj.cells #[.slice P1 (popR u).1.length p1, .int .i64 (popR u).2.1, .int .i64 (popR u).2.2] 52)
      replace HX := Lib.hid ((HX.out.below b3).below bn)
      replace HY := Lib.hid ((HY.out.below b3).below bn)
      replace R1 := Lib.hid (RdS.below (RdS.below R1.out b3) bn)
      replace R2 := Lib.hid (RdS.below (RdS.below R2.out b3) bn)
      replace HB := Lib.hid (below_step (below_step HB.out b3) bn)
      have z0 : (w3.alloc (Obj.cells #[.slice P1 (popR u).1.length p1, .int .i64 (popR u).2.1, .int .i64 (popR u).2.2] 52)).cell? ⟨w3.heap.size, 0, none⟩ = some (.slice P1 (popR u).1.length p1) := by simp
      have z1 : (w3.alloc (Obj.cells #[.slice P1 (popR u).1.length p1, .int .i64 (popR u).2.1, .int .i64 (popR u).2.2] 52)).cell? ⟨w3.heap.size, 1, none⟩ = some (.int .i64 (popR u).2.1) := by simp
      have z2 : (w3.alloc (Obj.cells #[.slice P1 (popR u).1.length p1, .int .i64 (popR u).2.1, .int .i64 (popR u).2.2] 52)).cell? ⟨w3.heap.size, 2, none⟩ = some (.int .i64 (popR u).2.2) := by simp
      clear b3 bn y0 y1 y2 y3 y4 y5 y6 y7 y8
      go_wp2_with fail
      obtain ⟨y0, y1, y2, y3, y4, y5, y6, y7, y8⟩ := HX.out.cells
      have f3 := HX.out.f 3
      have f4 := HX.out.f 4
      have f5 := HX.out.f 5
      have f6 := HX.out.f 6
      have f7 := HX.out.f 7
      have f8 := HX.out.f 8
      generalize (w3.alloc (Obj.cells #[.slice P1 (popR u).1.length p1, .int .i64 (popR u).2.1, .int .i64 (popR u).2.2] 52)) = w4 at *
      generalize w3.heap.size = T at *
      have HRD := Lib.hid (RdS.below R2.out ((Below.refl _ w4).drew))
      go_region_with (go_at_call 44
                      refine (put_r (fstR u) G2.out (by omega) HFU.out HRD.out).mono ?_
                      rintro e w5 ⟨A5, c5, rfl, r5, b5⟩
                      have bX : Below w4.heap.size w4 w5 := (Below.refl _ w4).drew.trans b5
                      have R5 := Lib.hid r5
                      have BX := Lib.hid bX
                      have f3 := frozen_below bX y3 f3
                      have f4 := frozen_below bX y4 f4
                      have f5 := frozen_below bX y5 f5
                      have f6 := frozen_below bX y6 f6
                      have f7 := frozen_below bX y7 f7
                      have f8 := frozen_below bX y8 f8
                      have y3 := cell_below bX y3
                      have y4 := cell_below bX y4
                      have y5 := cell_below bX y5
                      have y6 := cell_below bX y6
                      have y7 := cell_below bX y7
                      have y8 := cell_below bX y8
                      have z0 := cell_below bX z0
                      have z1 := cell_below bX z1
                      have z2 := cell_below bX z2
                      clear b5 r5 bX)
      all_goals
        go_wp2_with fail
        go_roundw
        case rel => exact ⟨j + 1, by go_num, by omega, del_step HX.out HY.out R1.out HB.out HZ.out BX.out R5.out rfl HG.out.1 HG.out.2⟩
        case measure => simp [intOf]; omega
    · have ej : j = m := by omega
      subst ej
      have k1 : x.2.1.2.2 ≤ (j : Int) := by rw [HM.out]; omega
      obtain ⟨g1, g2, -, -, -⟩ := goR_good gu gg j (by rw [HM.out]; omega)
      by_cases h0 : j = 0
      · have HF : Hid (delivL x = (x.1, (goR j x.2).1, (goR j x.2).2)) := by
          show _ = _
          rw [h0]
          exact if_pos (by rw [HM.out, h0]; rfl)
        have k2 : x.2.1.2.2 ≤ 0 := by omega
        generalize (goR j x.2).1 = u at *
        generalize (goR j x.2).2 = g at *
        generalize delivL x = d at *
        have HX := Lib.hid hX
        have HY := Lib.hid hY
        have R1 := Lib.hid r1
        have R2 := Lib.hid r2
        have HB := Lib.hid hb
        have G1 := Lib.hid g1
        have G2 := Lib.hid g2
        clear hX hY r1 r2 hb g1 g2
        clear gu gg
        obtain ⟨y0, y1, y2, y3, y4, y5, y6, y7, y8⟩ := HX.out.cells
        obtain ⟨⟨z0, z1, z2, z3, z4, z5, z6, z7, z8⟩, hfz⟩ := HY.out
        rw [Nat.zero_add] at z1 z2 z3 z4 z5 z6 z7 z8
        have f0 := hfz 0
        have f1 := hfz 1
        have f2 := hfz 2
        have f3 := hfz 3
        have f4 := hfz 4
        have f5 := hfz 5
        have f6 := hfz 6
        have f7 := hfz 7
        have f8 := hfz 8
        clear hfz
        go_wp2_with fail
        have u0 := HY.out.put P1 p1 Q1 q1 (x.1, u, g)
        obtain ⟨c0, c1, c2, c3, c4, c5, c6, c7, c8⟩ := u0.cells
        clear z0 z1 z2 z3 z4 z5 z6 z7 z8 f0 f1 f2 f3 f4 f5 f6 f7 f8 y0 y1 y2 y3 y4 y5 y6 y7 y8 u0
        have HE : Hid (DelOf w S (x.1, u, g) (.returned (.agg #[.int .i64 x.1.1, .int .i64 x.1.2.1, .int .i64 x.1.2.2, .slice P1 u.1.length p1, .int .i64 u.2.1, .int .i64 u.2.2, .slice Q1 g.1.length q1, .int .i64 g.2.1, .int .i64 g.2.2])) (((((((((wr.setCell ⟨(w.heap.size + 1), 0, none⟩ (.int .i64 (x.1, u, g).1.1)).setCell ⟨(w.heap.size + 1), 1, none⟩ (.int .i64 (x.1, u, g).1.2.1)).setCell ⟨(w.heap.size + 1), 2, none⟩ (.int .i64 (x.1, u, g).1.2.2)).setCell ⟨(w.heap.size + 1), 3, none⟩ (.slice P1 (x.1, u, g).2.1.1.length p1)).setCell ⟨(w.heap.size + 1), 4, none⟩ (.int .i64 (x.1, u, g).2.1.2.1)).setCell ⟨(w.heap.size + 1), 5, none⟩ (.int .i64 (x.1, u, g).2.1.2.2)).setCell ⟨(w.heap.size + 1), 6, none⟩ (.slice Q1 (x.1, u, g).2.2.1.length q1)).setCell ⟨(w.heap.size + 1), 7, none⟩ (.int .i64 (x.1, u, g).2.2.2.1)).setCell ⟨(w.heap.size + 1), 8, none⟩ (.int .i64 (x.1, u, g).2.2.2.2))) := del_end R1.out R2.out HB.out (by omega)
        rw [HF.out]
        refine bodyPost_ret (v := (.agg #[.int .i64 x.1.1, .int .i64 x.1.2.1, .int .i64 x.1.2.2, .slice P1 u.1.length p1, .int .i64 u.2.1, .int .i64 u.2.2, .slice Q1 g.1.length q1, .int .i64 g.2.1, .int .i64 g.2.2])) (by simp [results, Try.results32, go_sem, c0, c1, c2, c3, c4, c5, c6, c7, c8]) rfl ?_
        exact HE.out
      · have HF : Hid (delivL x = (x.1, newR x.1.2.2.toNat, (goR j x.2).2)) := by
          show _ = _
          rw [show j = x.2.1.2.2.toNat by rw [HM.out]; rfl]
          exact if_neg (by rw [HM.out]; omega)
        have k2 : 0 < x.2.1.2.2 := by rw [HM.out]; omega
        have hc := of_decide_eq_true hp
        have i1 : 1 ≤ x.1.2.2 := hc.2.2.2.2.2.1
        have i4 : x.1.2.2 ≤ 4 := hc.2.2.2.2.2.2
        clear hc
        generalize (goR j x.2).1 = u at *
        generalize (goR j x.2).2 = g at *
        generalize delivL x = d at *
        have HI1 := Lib.hid i1
        have HI4 := Lib.hid i4
        have HX := Lib.hid hX
        have HY := Lib.hid hY
        have R1 := Lib.hid r1
        have R2 := Lib.hid r2
        have HB := Lib.hid hb
        have G1 := Lib.hid g1
        have G2 := Lib.hid g2
        clear hX hY r1 r2 hb g1 g2
        clear gu gg i1 i4
        obtain ⟨y0, y1, y2, y3, y4, y5, y6, y7, y8⟩ := HX.out.cells
        go_wp2_with fail
        refine (empty_any (fun _ => False) x.1.1 x.1.2.1 x.1.2.2 _ HI1.out HI4.out).mono ?_
        rintro e w6 ⟨A6, c6, rfl, r6, b6⟩
        generalize newR x.1.2.2.toNat = R at *
        have HR6 : Hid (RdS w6 (fun b => Upw S w b ∧ b ≠ w.heap.size ∧ b ≠ w.heap.size + 1) A6 c6 R.1) := r6.sub fun b _ hb => hb.elim False.elim fun hb => by
          have := HX.out.lt
          have := HY.out.lt
          exact ⟨.inr (by omega), by omega, by omega⟩
        replace HX := Lib.hid (HX.out.below b6)
        replace HY := Lib.hid (HY.out.below b6)
        replace R2 := Lib.hid (RdS.below R2.out b6)
        replace HB := Lib.hid (below_step HB.out b6)
        clear b6 r6 R1 y0 y1 y2 y3 y4 y5 y6 y7 y8
        obtain ⟨y0, y1, y2, y3, y4, y5, y6, y7, y8⟩ := HX.out.cells
        have g3 := HX.out.f 3
        have g4 := HX.out.f 4
        have g5 := HX.out.f 5
        obtain ⟨⟨z0, z1, z2, z3, z4, z5, z6, z7, z8⟩, hfz⟩ := HY.out
        rw [Nat.zero_add] at z1 z2 z3 z4 z5 z6 z7 z8
        have f0 := hfz 0
        have f1 := hfz 1
        have f2 := hfz 2
        have f3 := hfz 3
        have f4 := hfz 4
        have f5 := hfz 5
        have f6 := hfz 6
        have f7 := hfz 7
        have f8 := hfz 8
        clear hfz
        go_wp2_with fail
        have HXY : Hid (w.heap.size ≠ w.heap.size + 1) := by show _ ≠ _; omega
        have hg : w6.grownBy (((w6.setCell ⟨(w.heap.size), 3, none⟩ (.slice A6 R.1.length c6)).setCell ⟨(w.heap.size), 4, none⟩ (.int .i64 R.2.1)).setCell ⟨(w.heap.size), 5, none⟩ (.int .i64 R.2.2)) (some w.heap.size) := by rw [put3u]; exact gb_putC _ _ _ _
        have u0 := (HY.out.keep (hg.block (w.heap.size + 1) HY.out.lt (fun e => HXY.out (by injection e with e; exact e.symm)))).put A6 c6 Q1 q1 (x.1, R, g)
        obtain ⟨c0, c1, c2, c3, c4, c5, c6', c7, c8⟩ := u0.cells
        have W1 : Hid (RdS (((w6.setCell ⟨(w.heap.size), 3, none⟩ (.slice A6 R.1.length c6)).setCell ⟨(w.heap.size), 4, none⟩ (.int .i64 R.2.1)).setCell ⟨(w.heap.size), 5, none⟩ (.int .i64 R.2.2)) (fun b => Upw S w b ∧ b ≠ w.heap.size ∧ b ≠ w.heap.size + 1) A6 c6 R.1) := RdS.gb HR6.out hg fun k hk e => hk.2.1 (by injection e)
        have W2 : Hid (RdS (((w6.setCell ⟨(w.heap.size), 3, none⟩ (.slice A6 R.1.length c6)).setCell ⟨(w.heap.size), 4, none⟩ (.int .i64 R.2.1)).setCell ⟨(w.heap.size), 5, none⟩ (.int .i64 R.2.2)) (fun b => Upw S w b ∧ b ≠ w.heap.size ∧ b ≠ w.heap.size + 1) Q1 q1 g.1) := RdS.gb R2.out hg fun k hk e => hk.2.1 (by injection e)
        have W3 := Lib.hid (below_of_gb HB.out hg HB.out.size (fun k hk => by injection hk with hk; omega))
        clear z0 z1 z2 z3 z4 z5 z6 z7 z8 f0 f1 f2 f3 f4 f5 f6 f7 f8 y0 y1 y2 y3 y4 y5 y6 y7 y8 u0 g3 g4 g5 hg HX HY HB HR6 R2
        generalize (((w6.setCell ⟨(w.heap.size), 3, none⟩ (.slice A6 R.1.length c6)).setCell ⟨(w.heap.size), 4, none⟩ (.int .i64 R.2.1)).setCell ⟨(w.heap.size), 5, none⟩ (.int .i64 R.2.2)) = w7 at *
        have HE : Hid (DelOf w S (x.1, R, g) (.returned (.agg #[.int .i64 x.1.1, .int .i64 x.1.2.1, .int .i64 x.1.2.2, .slice A6 R.1.length c6, .int .i64 R.2.1, .int .i64 R.2.2, .slice Q1 g.1.length q1, .int .i64 g.2.1, .int .i64 g.2.2])) (((((((((w7.setCell ⟨(w.heap.size + 1), 0, none⟩ (.int .i64 (x.1, R, g).1.1)).setCell ⟨(w.heap.size + 1), 1, none⟩ (.int .i64 (x.1, R, g).1.2.1)).setCell ⟨(w.heap.size + 1), 2, none⟩ (.int .i64 (x.1, R, g).1.2.2)).setCell ⟨(w.heap.size + 1), 3, none⟩ (.slice A6 (x.1, R, g).2.1.1.length c6)).setCell ⟨(w.heap.size + 1), 4, none⟩ (.int .i64 (x.1, R, g).2.1.2.1)).setCell ⟨(w.heap.size + 1), 5, none⟩ (.int .i64 (x.1, R, g).2.1.2.2)).setCell ⟨(w.heap.size + 1), 6, none⟩ (.slice Q1 (x.1, R, g).2.2.1.length q1)).setCell ⟨(w.heap.size + 1), 7, none⟩ (.int .i64 (x.1, R, g).2.2.2.1)).setCell ⟨(w.heap.size + 1), 8, none⟩ (.int .i64 (x.1, R, g).2.2.2.2))) := del_end W1.out W2.out W3.out (by omega)
        rw [HF.out]
        refine bodyPost_ret (v := (.agg #[.int .i64 x.1.1, .int .i64 x.1.2.1, .int .i64 x.1.2.2, .slice A6 R.1.length c6, .int .i64 R.2.1, .int .i64 R.2.2, .slice Q1 g.1.length q1, .int .i64 g.2.1, .int .i64 g.2.2])) (by simp [results, Try.results32, go_sem, c0, c1, c2, c3, c4, c5, c6', c7, c8]) rfl ?_
        exact HE.out

end Po
end Go.Proofs.Ytfkcplnjhelclaa

/-
  Layer 18 (port): make of lines; Deliver, Open.
-/
namespace Go.Proofs.Ytfkcplnjhelclaa
open Go.RowKit Mm
namespace Po

theorem rows_same {α : Type} [Inhabited α] [Dat α] {w : World} {S : Nat → Prop} {zs : List Value} {z : α} (hz : Dat.rd w S zs z) : ∀ (n : Nat) (cs : List Value), cs.length = n * Dat.k α → (∀ j i, j < n → i < Dat.k α → cs[j * Dat.k α + i]? = zs[i]?) → Mm.Rows w S cs (List.replicate n z)
  | 0, cs, hl, _ => by
    rw [Nat.zero_mul] at hl
    exact List.eq_nil_of_length_eq_zero hl
  | n + 1, cs, hl, h => by
    have hk := Dat.len hz
    rw [List.replicate_succ]
    refine ⟨zs, cs.drop (Dat.k α), ?_, hz, rows_same hz n _ ?_ fun j i hj hi => ?_⟩
    · have e : cs.take (Dat.k α) = zs := by
        apply List.ext_getElem?
        intro i
        rcases Nat.lt_or_ge i (Dat.k α) with hi | hi
        · rw [List.getElem?_take, if_pos hi]
          have := h 0 i (by omega) hi
          rwa [Nat.zero_mul, Nat.zero_add] at this
        · rw [List.getElem?_eq_none (by rw [List.length_take]; omega), List.getElem?_eq_none (by omega)]
      rw [← e, List.take_append_drop]
    · rw [List.length_drop, hl, Nat.add_mul, Nat.one_mul, Nat.add_sub_cancel]
    · rw [List.getElem?_drop]
      have := h (j + 1) i (by omega) hi
      rwa [show (j + 1) * Dat.k α + i = Dat.k α + (j * Dat.k α + i) by rw [Nat.add_mul]; omega] at this
theorem infoL : (Try.prog.info? 54).map (fun i => (i.zero, i.size, i.bytes)) = some (some (.agg #[.int .i64 0, .int .i64 0, .int .i64 0, .slice none 0 0, .int .i64 0, .int .i64 0, .slice none 0 0, .int .i64 0, .int .i64 0]), 9, 104) := by kernel_rfl
theorem rd_noL (w : World) (S : Nat → Prop) : Dat.rd w S #[.int .i64 noL.1.1, .int .i64 noL.1.2.1, .int .i64 noL.1.2.2, .slice none noL.2.1.1.length 0, .int .i64 noL.2.1.2.1, .int .i64 noL.2.1.2.2, .slice none noL.2.2.1.length 0, .int .i64 noL.2.2.2.1, .int .i64 noL.2.2.2.2].toList noL :=
  rd_line.2 ⟨none, 0, none, 0, rfl, ⟨⟨⟨by decide, by decide⟩, ⟨by decide, by decide⟩, ⟨by decide, by decide⟩⟩, ⟨⟨by decide, by decide⟩, ⟨by decide, by decide⟩⟩, ⟨by decide, by decide⟩, ⟨by decide, by decide⟩⟩, rd_nil (fun _ => rfl) (Nat.zero_le _), rd_nil (fun _ => rfl) (Nat.zero_le _)⟩
/-- make of n lines -/
theorem run_mkL (n : Nat) {w : World} {base : Nat} (hbig : n ≤ 1000000) (hbase : base ≤ w.heap.size) :
    ∃ w', (Instr.makeSlice 22 (.int .i64 (n : Int)) (.int .i64 (n : Int))).run Try.prog w = .ok (.slice (some ⟨w.heap.size, 0, none⟩) n n) w' ∧ OwS w' (fun _ => False) base 54 (some ⟨w.heap.size, 0, none⟩) n (List.replicate n noL) ∧ w.grownBy w' none := by
  obtain ⟨i, hi, hz, hs, hb⟩ := info_parts infoL
  obtain ⟨w', hrun, r1, r2⟩ := run_make_full (P := Try.prog) w base 22 54 i (.agg #[.int .i64 0, .int .i64 0, .int .i64 0, .slice none 0 0, .int .i64 0, .int .i64 0, .slice none 0 0, .int .i64 0, .int .i64 0]) 9 Try.underlying22 hi hz hs .i64 .i64 n (by rw [hb]; omega) (by unfold maxLen; omega) hbase
  refine ⟨w', hrun, ⟨_, by rw [List.length_replicate]; exact r1, rows_same (rd_noL w' _) n _ ?_ fun j i hj hi => ?_⟩, r2⟩
  · simp [madeCells, k_line]
  · rw [k_line] at hi
    have hlt : j * 9 + i < n * 9 := by omega
    simp [madeCells, k_line, Value.cells, hlt, show (j * 9 + i) % 9 = i by omega]
    match i, hi with
    | 0, _ => rfl
    | 1, _ => rfl
    | 2, _ => rfl
    | 3, _ => rfl
    | 4, _ => rfl
    | 5, _ => rfl
    | 6, _ => rfl
    | 7, _ => rfl
    | 8, _ => rfl
theorem list_mkL {w : World} {ops : Array Oper} {rest : List Oper} {o : Oper} {a : Act} {Q : Exit → Act → World → Prop} (hg : o.guard = none) (s x : Operand) (ho : o.op = .makeSlice 22 s x)
    {base : Nat} (n : Nat) (h1 : a.eval s = .int .i64 (n : Int)) (h2 : a.eval x = .int .i64 (n : Int)) (hbig : n ≤ 1000000) (hbase : base ≤ w.heap.size)
    (hK : ∀ w', OwS w' (fun _ => False) base 54 (some ⟨w.heap.size, 0, none⟩) n (List.replicate n noL) → w.grownBy w' none → wpList Try.prog ops Q rest (a.put o.dst (.slice (some ⟨w.heap.size, 0, none⟩) n n)) w') :
    wpList Try.prog ops Q (o :: rest) a w := by
  obtain ⟨w', hrun, k1, k2⟩ := run_mkL n hbig hbase
  exact wpList_plain hg fun _ hK' => Rn.wp_mk_run s x _ ho _ _ _ _ h1 h2 hrun (hK' _ _ (hK w' k1 k2))

theorem okL_fit {x : Lin} (h : okL x = true) : FitL x := by
  obtain ⟨n, e, n1, n4, hp, g1, g2⟩ := okL_good h
  have hc := of_decide_eq_true hp
  refine ⟨⟨⟨?_, ?_⟩, ⟨?_, ?_⟩, ⟨?_, ?_⟩⟩, g1.fit (by omega), g2.fit (by omega)⟩ <;> omega
/-- the loop of Deliver: the first k lines are delivered -/
def DelvRel (w : World) (S : Nat → Prop) (L : List Lin) (g k : Nat) (wr : World) : Prop :=
  ∃ l : List Lin, l.length = L.length ∧ (∀ j, j < k → at_ l j = delivL (at_ L j)) ∧ OwS wr (fun b => Upw S w b ∧ b ≠ g) w.heap.size 54 (some ⟨g, 0, none⟩) L.length l ∧ Below w.heap.size w wr
theorem delv_done {w wr : World} {S : Nat → Prop} {L : List Lin} {g : Nat} (h : DelvRel w S L g L.length wr) (hg : w.heap.size ≤ g) (f : List Lin) (hf : f = L.map delivL) : RdS wr (Upw S w) (some ⟨g, 0, none⟩) L.length f ∧ Below w.heap.size w wr := by
  obtain ⟨l, hl, hall, ho, hb⟩ := h
  have e : l = f := by
    rw [hf]
    refine at_eq_of (by rw [hl, List.length_map]) fun i hi => ?_
    rw [hall i (by omega), at_get (l := L.map delivL) (by rw [List.length_map]; omega), List.getElem_map, at_get (by omega)]
  subst e
  exact ⟨OwS.rdS ho (fun _ hb => hb.1) (fun g' hg' => by injection hg' with hg'; injection hg' with hg'; subst hg'; exact .inr hg), hb⟩
theorem delv_step {w wr w5 : World} {S : Nat → Prop} {L : List Lin} {g k : Nat} {P Q : Option Addr} {p q : Nat} {d : Lin} (h : DelvRel w S L g k wr) (hk : k < L.length) (hg : w.heap.size ≤ g) (b : Below wr.heap.size wr w5) (hd : d = delivL (at_ L k)) (hf : FitL d) {S5 : Nat → Prop} (r1 : RdS w5 S5 P p d.2.1.1) (r2 : RdS w5 S5 Q q d.2.2.1)
    (hS : ∀ b, S5 b → Upw S w b ∧ b ≠ g) : DelvRel w S L g (k + 1) (putC w5 g (k * 9) #[.int .i64 d.1.1, .int .i64 d.1.2.1, .int .i64 d.1.2.2, .slice P d.2.1.1.length p, .int .i64 d.2.1.2.1, .int .i64 d.2.1.2.2, .slice Q d.2.2.1.length q, .int .i64 d.2.2.2.1, .int .i64 d.2.2.2.2].toList) := by
  obtain ⟨l, hl, hall, ho, hb⟩ := h
  have ho5 := OwS.below ho b (Nat.le_refl _)
  obtain ⟨k1, k2⟩ := own_puts ho5 (fun h => h.2 rfl) (j := k) (by omega) (rd_line.2 ⟨P, p, Q, q, rfl, hf, r1.sub fun b _ h => hS b h, r2.sub fun b _ h => hS b h⟩)
  refine ⟨l.set k d, by rw [List.length_set]; exact hl, fun j hj => ?_, k1, below_of_gb (below_step hb b) k2 (below_step hb b).size (fun i hi => by injection hi with hi; omega)⟩
  by_cases e : j = k
  · subst e; rw [at_set_same _ (by omega), hd]
  · rw [at_set_other _ e]; exact hall j (by omega)
theorem delv_below {w wr : World} {S : Nat → Prop} {L : List Lin} {g k : Nat} (h : DelvRel w S L g k wr) : Below w.heap.size w wr := by
  obtain ⟨l, hl, hall, ho, hb⟩ := h
  exact hb
theorem delv_cell {w wr : World} {S : Nat → Prop} {L : List Lin} {g k : Nat} (h : DelvRel w S L g k wr) (hk : k < L.length) : (∃ P p Q q x, CL wr g (k * 9) P p Q q x) ∧ (∀ o, wr.frozen? ⟨g, o, none⟩ = false) ∧ g < wr.heap.size := by
  obtain ⟨l, hl, hall, ho, hb⟩ := h
  obtain ⟨P, p, Q, q, h9⟩ := own_line ho (k := k) (by omega)
  exact ⟨⟨P, p, Q, q, _, h9⟩, own_free ho, h9.lt⟩

section
variable {S : Nat → Prop} {A : Option Addr} {c : Nat} {L : List Lin}
theorem deliver_bad (w : World) (hb : L.length ≤ 900000) (hr : RdS w S A c L) (h : okS L = false) :
    Calls Try.prog 18 #[.slice A L.length c] w (LinesOf w S L) := by
  have HR := Lib.hid hr
  clear hr
  go_enter Try.func18, Try.ntmps18
  go_wp2_with fail
  refine (right_any A c L _ (by omega) HR.out.rd).mono ?_
  rintro e w1 ⟨rfl, b1⟩
  rw [h]
  have B1 := Lib.hid b1
  clear b1
  go_wp2_with fail
  go_ret
  exact ⟨A, c, rfl, upIn (HR.out.below B1.out), B1.out⟩
set_option maxHeartbeats 1600000 in
theorem deliver_ok (w : World) (hr : RdS w S A c L) (h : okS L = true) (f : List Lin) (hf : f = L.map delivL) :
    Calls Try.prog 18 #[.slice A L.length c] w (LinesOf w S f) := by
  have h4 := okS_len h
  have hlen : f.length = L.length := by rw [hf, List.length_map]
  have hr := lowS hr
  have HSL : Hid (∀ b, Low S w b → b < w.heap.size ∧ S b) := fun b hb => ⟨hb.2, hb.1⟩
  have HR := Lib.hid hr
  have HF := Lib.hid hf
  have HLEN := Lib.hid hlen
  clear hr hf hlen
  go_enter Try.func18, Try.ntmps18
  go_wp2_with fail
  refine (right_any A c L _ (by omega) HR.out.rd).mono ?_
  rintro e w1 ⟨rfl, b1⟩
  rw [h]
  have HOK := Lib.hid h
  have B1 := Lib.hid b1
  clear b1
  clear h
  go_wp2_with (at_make; refine list_mkL rfl _ _ rfl (base := w.heap.size) L.length rfl rfl (by omega) (by exact B1.out.size) ?_)
  intro w2 k1 k2
  have b2 : Below w.heap.size w w2 := below_of_gb B1.out k2 B1.out.size (fun k hk => by cases hk)
  have HL0 : Hid (DelvRel w S L w1.heap.size 0 w2) := ⟨_, List.length_replicate, fun j hj => by omega, OwS.sub k1 fun _ h => h.elim, b2⟩
  have HGW : Hid (w.heap.size ≤ w1.heap.size) := B1.out.size
  clear k1 k2 b2
  generalize w1.heap.size = g at *
  go_wp2_with fail
  go_loopw [15] (fun i wr => ∃ k : Nat, i = .int .i64 (k : Int) ∧ k ≤ L.length ∧ Hid (DelvRel w S L g k wr)) (fun i _ => L.length - (intOf i).toNat)
  case atStart => exact ⟨0, rfl, Nat.zero_le _, HL0⟩
  case round =>
    obtain ⟨k, rfl, hk, HD⟩ := hrel
    by_cases hlt : k < L.length
    · have i1 : (k : Int) < (L.length : Int) := by omega
      have i0 : (0 : Int) ≤ (k : Int) := by omega
      have i2 : IntKind.i64.wrap ((k : Int) + 1) = (k : Int) + 1 := IntWalk.i64_in _ (by omega)
      have HBW := Lib.hid (delv_below HD.out)
      obtain ⟨b, off, rfl, _, hc⟩ := line_at (HR.out.below HBW.out) (by omega)
      obtain ⟨P, p, Q, q, h9, _, r1, r2⟩ := hc k hlt
      have HOX := Lib.hid (okS_at HOK.out hlt)
      obtain ⟨⟨P', p', Q', q', x', o0, o1, o2, o3, o4, o5, o6, o7, o8⟩, hfz, hgr⟩ := delv_cell HD.out hlt
      obtain ⟨x, hx⟩ : ∃ x, at_ L k = x := ⟨_, rfl⟩
      have HX := Lib.hid hx
      rw [hx] at h9 r1 r2 HOX
      obtain ⟨x0, x1, x2, x3, x4, x5, x6, x7, x8⟩ := h9
      have HP := Lib.hid (RdS.below r1 (below_one wr (Obj.cells #[.int .i64 x.1.1, .int .i64 x.1.2.1, .int .i64 x.1.2.2, .slice P x.2.1.1.length p, .int .i64 x.2.1.2.1, .int .i64 x.2.1.2.2, .slice Q x.2.2.1.length q, .int .i64 x.2.2.2.1, .int .i64 x.2.2.2.2] 54)))
      have HQ := Lib.hid (RdS.below r2 (below_one wr (Obj.cells #[.int .i64 x.1.1, .int .i64 x.1.2.1, .int .i64 x.1.2.2, .slice P x.2.1.1.length p, .int .i64 x.2.1.2.1, .int .i64 x.2.1.2.2, .slice Q x.2.2.1.length q, .int .i64 x.2.2.2.1, .int .i64 x.2.2.2.2] 54)))
      have HN := Lib.hid (below_one wr (Obj.cells #[.int .i64 x.1.1, .int .i64 x.1.2.1, .int .i64 x.1.2.2, .slice P x.2.1.1.length p, .int .i64 x.2.1.2.1, .int .i64 x.2.1.2.2, .slice Q x.2.2.1.length q, .int .i64 x.2.2.2.1, .int .i64 x.2.2.2.2] 54))
      have HFZ := Lib.hid hfz
      have HGR := Lib.hid hgr
      have HY := Lib.hid (bl_new wr P p Q q x _ rfl).c
      obtain ⟨y0, y1, y2, y3, y4, y5, y6, y7, y8⟩ := HY.out
      rw [Nat.zero_add] at y1 y2 y3 y4 y5 y6 y7 y8
      clear hc hx r1 r2 hfz hgr
      go_wp2_with fail
      clear y0 y1 y2 y3 y4 y5 y6 y7 y8 x0 x1 x2 x3 x4 x5 x6 x7 x8
      generalize wr.alloc (Obj.cells #[.int .i64 x.1.1, .int .i64 x.1.2.1, .int .i64 x.1.2.2, .slice P x.2.1.1.length p, .int .i64 x.2.1.2.1, .int .i64 x.2.1.2.2, .slice Q x.2.2.1.length q, .int .i64 x.2.2.2.1, .int .i64 x.2.2.2.2] 54) = w3 at *
      refine (delivered_any (Low S w) P p Q q x _ HOX.out HP.out HQ.out).mono ?_
      rintro e w5 ⟨P5, p5, Q5, q5, rfl, r51, r52, b5⟩
      have b35 : Below wr.heap.size wr w5 := below_step HN.out b5
      have HS5 : Hid (∀ b, Upw (Low S w) w3 b → Upw S w b ∧ b ≠ g) := fun b hb => by
        have hgw := HGW.out
        have hgr := HGR.out
        have hs1 := HN.out.size
        have hs2 := HBW.out.size
        rcases hb with hb | hb
        · have := HSL.out b hb
          exact ⟨.inl this.2, by omega⟩
        · exact ⟨.inr (by omega), by omega⟩
      have HD5 := Lib.hid (delv_step HD.out hlt HGW.out b35 (by rw [HX.out]) (okL_fit (deliv_ok HOX.out).1) r51 r52 HS5.out)
      have f0 := frozen_below b35 o0 (HFZ.out _)
      have f1 := frozen_below b35 o1 (HFZ.out _)
      have f2 := frozen_below b35 o2 (HFZ.out _)
      have f3 := frozen_below b35 o3 (HFZ.out _)
      have f4 := frozen_below b35 o4 (HFZ.out _)
      have f5 := frozen_below b35 o5 (HFZ.out _)
      have f6 := frozen_below b35 o6 (HFZ.out _)
      have f7 := frozen_below b35 o7 (HFZ.out _)
      have f8 := frozen_below b35 o8 (HFZ.out _)
      replace o0 := cell_below b35 o0
      replace o1 := cell_below b35 o1
      replace o2 := cell_below b35 o2
      replace o3 := cell_below b35 o3
      replace o4 := cell_below b35 o4
      replace o5 := cell_below b35 o5
      replace o6 := cell_below b35 o6
      replace o7 := cell_below b35 o7
      replace o8 := cell_below b35 o8
      clear b5 r51 r52 b35 HD HP HQ
      generalize delivL x = d at *
      go_wp2_with fail
      go_roundw
      case rel => exact ⟨k + 1, by go_num, hlt, by rw [put9k]; exact HD5⟩
      case measure => simp [intOf]; omega
    · have ek : k = L.length := by omega
      subst ek
      have HE := Lib.hid (delv_done HD.out HGW.out f HF.out)
      go_wp2_with fail
      go_ret
      exact ⟨some ⟨g, 0, none⟩, L.length, by rw [HLEN.out]; rfl, HE.out⟩
theorem deliver_any (w : World) (hb : L.length ≤ 900000) (hr : RdS w S A c L) :
    Calls Try.prog 18 #[.slice A L.length c] w (LinesOf w S (delS L)) := by
  unfold delS
  cases h : okS L with
  | false => exact deliver_bad w hb hr h
  | true => exact deliver_ok w hr h _ rfl
theorem deliver_v (n : Nat) (L' : List Lin) (hn : L.length = n) (hL : delS L = L') (w : World) (hb : n ≤ 900000) (hr : RdS w S A c L) :
    Calls Try.prog 18 #[.slice A n c] w (LinesOf w S L') := by
  subst hn; subst hL
  exact deliver_any w hb hr
end

end Po
end Go.Proofs.Ytfkcplnjhelclaa

/-
  Layer 18 (port): plain mathematics: one line alone.
-/
namespace Go.Proofs.Ytfkcplnjhelclaa
open Mm
namespace Po

def sent1 (x : Lin) (v : Int) : Lin := if x.2.1.2.2 = (x.2.1.1.length : Int) then x else sentL x v
def sent1E (x : Lin) : Int := if x.2.1.2.2 = (x.2.1.1.length : Int) then 3 else 0
def got1 (x : Lin) : Lin := if x.2.2.2.2 = 0 then x else gotL x
def got1E (x : Lin) : Int := if x.2.2.2.2 = 0 then 4 else 0
def got1V (x : Lin) : Int := if x.2.2.2.2 = 0 then 0 else fstR x.2.2
section
variable {x : Lin} {w v : Int}
theorem okS_one (h : okL x = true) : okS [x] = true := by
  unfold okS
  rw [List.all_cons, h]
  rfl
theorem at_one (x : Lin) : at_ [x] (0 : Int).toNat = x := rfl
theorem send_one (h : okL x = true) (hf : x.1.1 = w) (v : Int) : sendE [x] w 0 = sent1E x ∧ sendL [x] w 0 v = [sent1 x v] := by
  have e : sendE [x] w 0 = sent1E x := by
    unfold sendE sent1E
    rw [if_neg (by rw [okS_one h]; simp), if_neg (by simp), at_one, if_neg (fun hn => hn hf.symm)]
  refine ⟨e, ?_⟩
  unfold sendL sent1
  rw [e, at_one]
  unfold sent1E
  by_cases hm : x.2.1.2.2 = (x.2.1.1.length : Int)
  · rw [if_pos hm, if_pos hm, if_neg (by decide)]
  · rw [if_neg hm, if_neg hm, if_pos rfl]
    rfl
theorem sent_ok (h : okL x = true) (hm : x.2.1.2.2 ≠ (x.2.1.1.length : Int)) : okL (sentL x v) = true := by
  obtain ⟨n, e, n1, n4, hp, g1, g2⟩ := okL_good h
  have := g1.m1
  have := g1.len
  exact okL_of (n := n) hp e (g1.push (by omega)) g2
theorem sent1_ok (h : okL x = true) : okL (sent1 x v) = true := by
  unfold sent1
  split
  · exact h
  · rename_i hm
    exact sent_ok h hm
theorem read_one (h : okL x = true) (ht : x.1.2.1 = w) : readE [x] w 0 = got1E x ∧ readV [x] w 0 = got1V x ∧ readL [x] w 0 = [got1 x] := by
  have e : readE [x] w 0 = got1E x := by
    unfold readE got1E
    rw [if_neg (by rw [okS_one h]; simp), if_neg (by simp), at_one, if_neg (fun hn => hn ht.symm)]
  refine ⟨e, ?_, ?_⟩
  · unfold readV got1V
    rw [e, at_one]
    unfold got1E
    by_cases hm : x.2.2.2.2 = 0
    · rw [if_pos hm, if_pos hm, if_neg (by decide)]
    · rw [if_neg hm, if_neg hm, if_pos rfl]
  · unfold readL got1
    rw [e, at_one]
    unfold got1E
    by_cases hm : x.2.2.2.2 = 0
    · rw [if_pos hm, if_pos hm, if_neg (by decide)]
    · rw [if_neg hm, if_neg hm, if_pos rfl]
      rfl
theorem got_ok (h : okL x = true) (hm : x.2.2.2.2 ≠ 0) : okL (gotL x) = true := by
  obtain ⟨n, e, n1, n4, hp, g1, g2⟩ := okL_good h
  have := g2.m0
  exact okL_of (n := n) hp e g1 (g2.pop (by omega))
theorem got1_ok (h : okL x = true) : okL (got1 x) = true := by
  unfold got1
  split
  · exact h
  · rename_i hm
    exact got_ok h hm
theorem del_one (h : okL x = true) : delS [x] = [delivL x] := by
  unfold delS
  rw [if_pos (okS_one h)]
  rfl
theorem deliv_port (x : Lin) : (delivL x).1 = x.1 := by unfold delivL; split <;> rfl
theorem sent_port (x : Lin) (v : Int) : (sent1 x v).1 = x.1 := by unfold sent1; split <;> rfl
theorem got_port (x : Lin) : (got1 x).1 = x.1 := by unfold got1; split <;> rfl

/-- as the document's -/
theorem row_send (h : okL x = true) : rowOf (sentL x v) = (x.1, msgR x.2.1 ++ [v], msgR x.2.2) ∨ x.2.1.2.2 = (x.2.1.1.length : Int) := by
  by_cases hm : x.2.1.2.2 = (x.2.1.1.length : Int)
  · exact .inr hm
  · obtain ⟨n, e, n1, n4, hp, g1, g2⟩ := okL_good h
    have := g1.m1
    have := g1.len
    refine .inl ?_
    show (x.1, msgR (pushR x.2.1 v), msgR x.2.2) = _
    rw [g1.msg_push (by omega)]
theorem full_iff (h : okL x = true) : x.2.1.2.2 = (x.2.1.1.length : Int) ↔ ¬ ((msgR x.2.1).length : Int) < x.1.2.2 := by
  obtain ⟨n, e, n1, n4, hp, g1, g2⟩ := okL_good h
  have := g1.m1
  have := g1.m0
  have := g1.len
  rw [msgR_length, e]
  omega
theorem none_iff (h : okL x = true) : x.2.2.2.2 = 0 ↔ ¬ 0 < ((msgR x.2.2).length : Int) := by
  obtain ⟨n, e, n1, n4, hp, g1, g2⟩ := okL_good h
  have := g2.m0
  rw [msgR_length]
  omega
theorem row_got (h : okL x = true) (hm : x.2.2.2.2 ≠ 0) : msgR x.2.2 = fstR x.2.2 :: msgR (popR x.2.2) := by
  obtain ⟨n, e, n1, n4, hp, g1, g2⟩ := okL_good h
  have := g2.m0
  exact g2.msg_pop (by omega)

/-- how a line begins -/
theorem open_one {p : Pt} (h : okP p = true) : openS [p] = [openP p] ∧ openE [p] = 0 := by
  have e : okPs [p] = true := by unfold okPs; rw [List.all_cons, h]; rfl
  unfold openS openE
  rw [if_pos e, if_pos e]
  exact ⟨rfl, rfl⟩
theorem open_no {p : Pt} (h : okP p = false) : openS [p] = [] ∧ openE [p] = 1 := by
  have e : okPs [p] = false := by unfold okPs; rw [List.all_cons, h]; rfl
  unfold openS openE
  rw [e]
  exact ⟨rfl, rfl⟩
theorem open_good {p : Pt} (h : okP p = true) : okL (openP p) = true := by
  have hc := of_decide_eq_true h
  exact okL_of (n := p.2.2.toNat) h (by show p.2.2 = _; omega) (good_new (by omega)) (good_new (by omega))

/-- two lines, one of which is never read -/
structure Mate (N : Int) (x y : Lin) : Prop where
  kx : okL x = true
  ky : okL y = true
  px : x.1 = (1, 0, N)
  py : y.1 = (1, 0, N)
  u : x.2.1 = y.2.1
theorem Mate.send {N : Int} {x y : Lin} (h : Mate N x y) (v : Int) : sent1E x = sent1E y ∧ Mate N (sent1 x v) (sent1 y v) := by
  refine ⟨by unfold sent1E; rw [h.u], sent1_ok h.kx, sent1_ok h.ky, by rw [sent_port, h.px], by rw [sent_port, h.py], ?_⟩
  unfold sent1
  rw [h.u]
  split
  · exact h.u
  · show pushR x.2.1 v = pushR y.2.1 v
    rw [h.u]
theorem Mate.read {N : Int} {x y : Lin} (h : Mate N x y) : Mate N (got1 x) y := by
  refine ⟨got1_ok h.kx, h.ky, by rw [got_port, h.px], h.py, ?_⟩
  unfold got1
  split
  · exact h.u
  · exact h.u
theorem Mate.deliver {N : Int} {x y : Lin} (h : Mate N x y) : Mate N (delivL x) (delivL y) := by
  refine ⟨(deliv_ok h.kx).1, (deliv_ok h.ky).1, by rw [deliv_port, h.px], by rw [deliv_port, h.py], ?_⟩
  unfold delivL
  rw [h.u, h.px, h.py]
  split
  · exact h.u
  · rfl
end

end Po
end Go.Proofs.Ytfkcplnjhelclaa

