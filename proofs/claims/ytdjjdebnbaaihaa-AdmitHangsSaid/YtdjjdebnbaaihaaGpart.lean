/-
  Merged texts: PartSlices, PartMath, PartTick, PartState, PartMem, PartRight, PartCalls, PartWith, PartNew, PartConcatT, PartAdd.
-/
import Derived.Test.YtdjjdebnbaaihaaGmem
import Derived.Test.YtdjjdebnbaaihaaGjob
import Derived.Test.YtdjjdebnbaaihaaGtask
import Derived.Deep.RegionLaw
import Derived.Lib.SliceRun
import Derived.Test.YtdjjdebnbaaihaaGverdict
import Derived.Test.YtdjjdebnbaaihaaGsrp
import Derived.Test.YtdjjdebnbaaihaaGpolice
import Derived.Deep.DeepCutAuto
import Derived.Deep.CutBlock
import Derived.Lib.AppendZeros
/-
  Layer 17 (part): the library's Clip and Clone, and the generic appended, at tasks, bools and ints.
-/
namespace Go.Proofs.Ytdjjdebnbaaihaa
open Go.RowKit Mm Tk
namespace Pm

/-- an entry of a log: when, its kind, the task -/
abbrev Ent := Int × Int × Int
theorem slE : SlT Try.prog 26 134 (Dat.k Ent) := slT_of Try.underlying26 (show _ = some (some (.agg #[.int .i64 0, .int .i64 0, .int .i64 0]), 3, 24) by kernel_rfl) rfl (by omega)
theorem slS : SlT Try.prog 31 80 (Dat.k Sc) := slT_of Try.underlying31 (show _ = some (some (.agg #[.int .i64 0, .int .i64 0, .int .i64 0]), 3, 24) by kernel_rfl) rfl (by omega)

set_option maxHeartbeats 400000 in
theorem clip_task (A : Option Addr) (n c : Nat) (h : n ≤ c) (w : World) :
    Calls Try.prog 73 #[.slice A n c] w fun e w' => e = .returned (.slice A n n) ∧ w' = w := by
  have i1 : (n : Int) ≤ (c : Int) := by omega
  have i2 : (0 : Int) ≤ (n : Int) := by omega
  go_enter Try.func73, Try.ntmps73
  go_wp2_with fail
  go_ret
  exact ⟨rfl, rfl⟩
set_option maxHeartbeats 400000 in
theorem clip_bool (A : Option Addr) (n c : Nat) (h : n ≤ c) (w : World) :
    Calls Try.prog 74 #[.slice A n c] w fun e w' => e = .returned (.slice A n n) ∧ w' = w := by
  have i1 : (n : Int) ≤ (c : Int) := by omega
  have i2 : (0 : Int) ≤ (n : Int) := by omega
  go_enter Try.func74, Try.ntmps74
  go_wp2_with fail
  go_ret
  exact ⟨rfl, rfl⟩
set_option maxHeartbeats 400000 in
theorem clip_int (A : Option Addr) (n c : Nat) (h : n ≤ c) (w : World) :
    Calls Try.prog 75 #[.slice A n c] w fun e w' => e = .returned (.slice A n n) ∧ w' = w := by
  have i1 : (n : Int) ≤ (c : Int) := by omega
  have i2 : (0 : Int) ≤ (n : Int) := by omega
  go_enter Try.func75, Try.ntmps75
  go_wp2_with fail
  go_ret
  exact ⟨rfl, rfl⟩

/-- what appended answers: the items with one more, in new memory -/
def AppOf {α : Type} [Inhabited α] [Dat α] (w : World) (S : Nat → Prop) (t : TypeId) (l : List α) (x : α) (n : Nat) (e : Ending) (w' : World) : Prop :=
  ∃ A' c', e = .returned (.slice A' (n + 1) c') ∧ OwS w' S w.heap.size t A' c' (l ++ [x]) ∧ Below w.heap.size w w'
theorem lit_at {W : World} {cs : Array Value} {t : TypeId} {Y : Nat} (h : W.heap.size = Y) : ∀ (j : Nat) (u : Value), cs.toList[j]? = some u → (W.alloc (.cells cs t)).cell? ((⟨Y, 0, none⟩ : Addr).add j) = some u := by
  subst h
  intro j u hu
  rw [Addr.add_lit, Nat.zero_add, World.cell?_alloc_new]
  simpa using hu

set_option maxHeartbeats 1600000 in
theorem appended_bool (A : Option Addr) (c : Nat) (l : List Bool) (n : Nat) (hn : l.length = n) (hb : n ≤ 900000) (x : Bool) (_ : True) (w : World) (h : Rd w A c l) :
    Calls Try.prog 67 #[.slice A n c, (.bool x)] w (AppOf w (fun _ => False) 4 l x n) := by
  have HN := Lib.hid hn
  have hle : n ≤ c := by have := h.le; omega
  have HB1 := Lib.hid (below_one w (Obj.cells #[(.bool x)] 4))
  have HR0 : Hid (RdS (w.alloc (Obj.cells #[(.bool x)] 4)) (fun _ => True) A n l) := by
    show RdS _ _ _ _ _
    have := h.below HB1.out
    exact ⟨fun e => by have := this.1 e; omega, ⟨by omega, by unfold maxLen; omega⟩, this.2.2⟩
  have HD : Hid (Mm.Rows (w.alloc (Obj.cells #[(.bool x)] 4)) (fun _ => True) [(.bool x)] [x]) := ⟨[(.bool x)], [], rfl, rfl, rfl⟩
  have HC := Lib.hid (lit_at (W := w) (cs := #[(.bool x)]) (t := 4) rfl)
  clear h hn
  go_enter Try.func67, Try.ntmps67
  go_wp2_with fail
  refine (clip_bool A n c hle _).mono ?_
  rintro e w1 ⟨rfl, rfl⟩
  clear hle
  go_wp2_with (at_builtin
               refine list_app_moves slF rfl _ _ rfl (S := fun _ => True) (l := l) (r := [x]) (n := n) (m := 1) HN.out rfl (by rfl) (by rfl) HR0.out HD.out HC.out (by omega) (by omega) ?_
               intro A2 c2 w2 k1 k2
               have O2 := Lib.hid (OwS.flat k1)
               have B2 := Lib.hid (HB1.out.grown k2 HB1.out.size (fun k hk => by cases hk))
               clear k1 k2)
  go_ret
  exact ⟨A2, c2, rfl, O2.out.rebase HB1.out.size, B2.out⟩
set_option maxHeartbeats 1600000 in
theorem appended_int (A : Option Addr) (c : Nat) (l : List Int) (n : Nat) (hn : l.length = n) (hb : n ≤ 900000) (x : Int) (hx : Fit x) (w : World) (h : Rd w A c l) :
    Calls Try.prog 68 #[.slice A n c, (.int .i64 x)] w (AppOf w (fun _ => False) 3 l x n) := by
  have HN := Lib.hid hn
  have hle : n ≤ c := by have := h.le; omega
  have HB1 := Lib.hid (below_one w (Obj.cells #[(.int .i64 x)] 3))
  have HR0 : Hid (RdS (w.alloc (Obj.cells #[(.int .i64 x)] 3)) (fun _ => True) A n l) := by
    show RdS _ _ _ _ _
    have := h.below HB1.out
    exact ⟨fun e => by have := this.1 e; omega, ⟨by omega, by unfold maxLen; omega⟩, this.2.2⟩
  have HD : Hid (Mm.Rows (w.alloc (Obj.cells #[(.int .i64 x)] 3)) (fun _ => True) [(.int .i64 x)] [x]) := ⟨[(.int .i64 x)], [], rfl, ⟨rfl, hx⟩, rfl⟩
  have HC := Lib.hid (lit_at (W := w) (cs := #[(.int .i64 x)]) (t := 3) rfl)
  clear h hn
  go_enter Try.func68, Try.ntmps68
  go_wp2_with fail
  refine (clip_int A n c hle _).mono ?_
  rintro e w1 ⟨rfl, rfl⟩
  clear hle
  go_wp2_with (at_builtin
               refine list_app_moves slI rfl _ _ rfl (S := fun _ => True) (l := l) (r := [x]) (n := n) (m := 1) HN.out rfl (by rfl) (by rfl) HR0.out HD.out HC.out (by omega) (by omega) ?_
               intro A2 c2 w2 k1 k2
               have O2 := Lib.hid (OwS.flat k1)
               have B2 := Lib.hid (HB1.out.grown k2 HB1.out.size (fun k hk => by cases hk))
               clear k1 k2)
  go_ret
  exact ⟨A2, c2, rfl, O2.out.rebase HB1.out.size, B2.out⟩

section
variable {S : Nat → Prop}
set_option maxRecDepth 20000 in
set_option maxHeartbeats 1600000 in
theorem appended_task (A : Option Addr) (c : Nat) (l : List Tsk) (n : Nat) (hn : l.length = n) (hb : n ≤ 900000) (x : Tsk) (w : World) (B : Option Addr) (k d : Nat) (hk : x.2.2.2.length = k) (hx : Fit x.1 ∧ Fit x.2.1 ∧ Fit x.2.2.1 ∧ RdS w S B d x.2.2.2) (h : RdS w S A c l) :
    Calls Try.prog 66 #[.slice A n c, .agg #[.int .i64 x.1, .int .i64 x.2.1, .int .i64 x.2.2.1, .slice B k d]] w (AppOf w S 33 l x n) := by
  have HN := Lib.hid hn
  have hle : n ≤ c := by have := h.le; omega
  have B0 := Lib.hid (below_one w (Obj.cells #[.int .i64 x.1, .int .i64 x.2.1, .int .i64 x.2.2.1, .slice B k d] 33))
  have HR0 := Lib.hid (h.below B0.out)
  have HSX := Lib.hid (hx.2.2.2.below B0.out)
  obtain ⟨f1, f2, f3, -⟩ := hx
  obtain ⟨y0, y1, y2, y3⟩ := box_at w x.1 x.2.1 x.2.2.1 B k d _ rfl
  clear h hn
  go_enter Try.func66, Try.ntmps66
  go_wp2_with fail
  generalize w.alloc (Obj.cells #[.int .i64 x.1, .int .i64 x.2.1, .int .i64 x.2.2.1, .slice B k d] 33) = w0 at *
  have BD := Lib.hid ((Below.refl w0.heap.size w0).drew)
  have BA := Lib.hid ((Below.refl w0.heap.size w0).drew.alloc (Nat.le_refl _) (Obj.cells #[.int .i64 x.1, .int .i64 x.2.1, .int .i64 x.2.2.1, .slice B k d] 33))
  have HR1 : Hid (RdS (w0.drew.alloc (Obj.cells #[.int .i64 x.1, .int .i64 x.2.1, .int .i64 x.2.2.1, .slice B k d] 33)) S A n l) := by
    show RdS _ _ _ _ _
    have := HR0.out.below BA.out
    exact ⟨fun e => by have := this.1 e; omega, ⟨by have := HN.out; omega, by unfold maxLen; omega⟩, this.2.2⟩
  have HC := Lib.hid (lit_at (W := w0.drew) (cs := #[.int .i64 x.1, .int .i64 x.2.1, .int .i64 x.2.2.1, .slice B k d]) (t := 33) rfl)
  have HD : Hid (Mm.Rows (w0.drew.alloc (Obj.cells #[.int .i64 x.1, .int .i64 x.2.1, .int .i64 x.2.2.1, .slice B k d] 33)) S [.int .i64 x.1, .int .i64 x.2.1, .int .i64 x.2.2.1, .slice B k d] [x]) := rows_task x hk f1 f2 f3 (HSX.out.below BA.out) rows_none
  clear hk
  go_region_held3 (fun w' => w'.cell? ⟨w.heap.size, 0, none⟩ = some (.int .i64 x.1) ∧ w'.cell? ⟨w.heap.size, 1, none⟩ = some (.int .i64 x.2.1) ∧ w'.cell? ⟨w.heap.size, 2, none⟩ = some (.int .i64 x.2.2.1) ∧ w'.cell? ⟨w.heap.size, 3, none⟩ = some (.slice B k d))
    (first
      | (exact ⟨cell_below B2.out y0, cell_below B2.out y1, cell_below B2.out y2, cell_below B2.out y3⟩)
      | (exact ⟨cell_below BA.out y0, cell_below BA.out y1, cell_below BA.out y2, cell_below BA.out y3⟩)
      | (exact ⟨cell_below BD.out y0, cell_below BD.out y1, cell_below BD.out y2, cell_below BD.out y3⟩)
      | (exact ⟨y0, y1, y2, y3⟩))
    (first
      | (refine step_app_moves slTask (by rfl) _ _ (by rfl) (S := S) (l := l) (r := [x]) (n := n) (m := 1) HN.out rfl (by rfl) (by rfl) (by exact HR1.out) (by exact HD.out) (by exact HC.out) (by omega) (by omega) ?_
         intro A2 c2 w2 k1 k2
         have O2 := Lib.hid k1
         have B2 := Lib.hid (Below.grown (B := w0.heap.size) (a := w0) BA.out k2 BA.out.size (fun k hk => by cases hk))
         clear k1 k2)
      | (go_at_call 73
         refine (clip_task A n c hle _).mono ?_
         rintro e w5 ⟨rfl, rfl⟩))
  all_goals
    go_split_ands
    go_wp2_with fail
    go_ret
    exact ⟨A2, c2, rfl, O2.out.rebase (Nat.le_trans B0.out.size BA.out.size), below_step B0.out B2.out⟩
end

set_option maxHeartbeats 1600000 in
theorem clone_sec (A : Option Addr) (c : Nat) (l : List Sc) (n : Nat) (hn : l.length = n) (hb : n ≤ 900000) (w : World) (h : Rd w A c l) :
    Calls Try.prog 65 #[.slice A n c] w fun e w' => ∃ A' c', e = .returned (.slice A' n c') ∧ Ow w' w.heap.size 80 A' c' l ∧ Below w.heap.size w w' := by
  have HN := Lib.hid hn
  have HR := Lib.hid h
  rcases A with _ | a
  · obtain ⟨rfl, rfl⟩ := nil_of_none h
    have : n = 0 := by simpa using hn.symm
    subst this
    clear h hn
    have hz := fun W => Lib.run_eql_slice_nil (P := Try.prog) W 31 80 none 0 0 0 0 Try.underlying31
    go_enter Try.func65, Try.ntmps65
    go_wp2_with fail
    go_ret
    exact ⟨none, 0, rfl, ow_none _ _ _, Below.refl _ _⟩
  · have hz := fun W => Lib.run_eql_slice_nil (P := Try.prog) W 31 80 (some a) n c 0 0 Try.underlying31
    have B1 := Lib.hid (below_one w (Obj.cells #[] 80))
    have O1 : Hid (Ow (w.alloc (Obj.cells #[] 80)) w.heap.size 80 (some ⟨w.heap.size, 0, none⟩) 0 ([] : List Sc)) := ow_lit (l := ([] : List Sc)) w (fun _ => False) w.heap.size 80 #[] (Nat.le_refl _) (by simp) rfl
    have HR1 := Lib.hid (h.below B1.out)
    clear h hn
    go_enter Try.func65, Try.ntmps65
    go_wp2_with (at_builtin
                 refine list_app_n slS rfl _ _ rfl (base := w.heap.size) (l := ([] : List Sc)) (r := l) (n := 0) (m := n) rfl HN.out rfl rfl O1.out HR1.out (by omega) B1.out.size ?_
                 intro A2 c2 w2 k1 k2 k3
                 have O2 := Lib.hid k1
                 have B2 := Lib.hid (B1.out.trans k2)
                 clear k1 k2 k3)
    rw [List.nil_append] at O2
    try simp only [Nat.zero_add]
    go_ret
    exact ⟨A2, c2, rfl, O2.out, B2.out⟩

end Pm
end Go.Proofs.Ytdjjdebnbaaihaa

/-
  Layer 17 (part): plain mathematics: no job is missed: for each tick by which jobs may be due, what they still want, and how long another job may still be in the way, is never more than what is still to come.
-/
namespace Go.Proofs.Ytdjjdebnbaaihaa
namespace Pm
open Mm Tk Dm Bk Sp Vd Lv

/-- work that is due by d -/
def wrk (L : List Tsk) (d : Int) : List Jb → Int
  | [] => 0
  | j :: l => (if dueJ j ≤ d then (ofJ L j).1 - hadJ j else 0) + wrk L d l
theorem wrk_append (L : List Tsk) (d : Int) : ∀ a b : List Jb, wrk L d (a ++ b) = wrk L d a + wrk L d b
  | [], b => by rw [wrk, List.nil_append]; omega
  | j :: a, b => by rw [List.cons_append, wrk, wrk, wrk_append L d a b]; omega
theorem wrk_nonneg {L : List Tsk} {d : Int} : ∀ {l : List Jb}, (∀ j ∈ l, hadJ j < (ofJ L j).1) → 0 ≤ wrk L d l
  | [], _ => Int.le_refl _
  | j :: l, h => by
    have h1 := wrk_nonneg (d := d) (l := l) fun x hx => h x (List.mem_cons_of_mem _ hx)
    have h2 := h j (by simp)
    rw [wrk]
    split <;> omega
theorem wrk_pos {L : List Tsk} {d : Int} {x : Jb} (hd : dueJ x ≤ d) : ∀ {l : List Jb}, (∀ j ∈ l, hadJ j < (ofJ L j).1) → x ∈ l → 1 ≤ wrk L d l
  | [], _, hx => by simp at hx
  | j :: l, h, hx => by
    have h1 := wrk_nonneg (d := d) (l := l) fun x hx => h x (List.mem_cons_of_mem _ hx)
    have h2 := h j (by simp)
    rw [wrk]
    rcases List.mem_cons.1 hx with rfl | hx
    · rw [if_pos hd]; omega
    · have := wrk_pos hd (l := l) (fun x hx => h x (List.mem_cons_of_mem _ hx)) hx
      split <;> omega
theorem wrk_none {L : List Tsk} {d : Int} : ∀ {l : List Jb}, (∀ j ∈ l, d < dueJ j) → wrk L d l = 0
  | [], _ => rfl
  | j :: l, h => by
    have := h j (by simp)
    rw [wrk, if_neg (by omega), wrk_none fun x hx => h x (List.mem_cons_of_mem _ hx)]
    omega

/-- what so many releases of each task ask for -/
def relTo (L : List Tsk) (R : Nat → Nat) : Nat → Int
  | 0 => 0
  | k + 1 => relTo L R k + (at_ L k).1 * R k
theorem relTo_zero (L : List Tsk) : ∀ k, relTo L (fun _ => 0) k = 0
  | 0 => rfl
  | k + 1 => by rw [relTo, relTo_zero L k]; simp
theorem relTo_same {L : List Tsk} {R R' : Nat → Nat} : ∀ {k}, (∀ i, i < k → R i = R' i) → relTo L R k = relTo L R' k
  | 0, _ => rfl
  | k + 1, h => by rw [relTo, relTo, relTo_same (k := k) fun i hi => h i (by omega), h k (by omega)]
theorem relTo_more {L : List Tsk} {R : Nat → Nat} {i : Nat} : ∀ {k}, i < k → relTo L (fun q => if q = i then R q + 1 else R q) k = relTo L R k + (at_ L i).1
  | 0, h => by omega
  | k + 1, h => by
    rw [relTo, relTo]
    by_cases e : i = k
    · subst e
      rw [relTo_same (k := i) (R := fun q => if q = i then R q + 1 else R q) (R' := R) fun q hq => if_neg (by omega), if_pos rfl]
      push_cast
      rw [Int.mul_add]
      omega
    · rw [relTo_more (k := k) (by omega), if_neg (by omega)]
      omega
theorem relTo_bnd {L : List Tsk} (h : ∀ j, j < L.length → rightT (at_ L j) = true) {R : Nat → Nat} {t : Int} : ∀ {k}, k ≤ L.length → (∀ i, i < k → (R i : Int) ≤ njobs (at_ L i).2.1 (at_ L i).2.2.1 t) → relTo L R k ≤ bndTo L t k
  | 0, _, _ => Int.le_refl _
  | k + 1, hk, hR => by
    have ih := relTo_bnd h (k := k) (by omega) fun i hi => hR i (by omega)
    have hx := right_T (h k (by omega))
    have h1 : (at_ L k).1 * (R k : Int) ≤ bndT (at_ L k) t := Int.mul_le_mul_of_nonneg_left (hR k (by omega)) (by omega)
    rw [relTo, bndTo]
    omega




/-- for the jobs that are due by d: since s there was always one of them, or none ahead; R: how many of each task's were released since s; b: how long another job may still be in the way -/
structure Busy (L : List Tsk) (lasts : List Int) (jobs : List Jb) (g : Nat → Bool) (d t s : Nat) (R : Nat → Nat) (b : Int) : Prop where
  le : s ≤ t
  since : ∀ j ∈ jobs, dueJ j ≤ d → (s : Int) ≤ atJ j
  other : ∀ j ∈ jobs, begJ j = true → (d : Int) < dueJ j → atJ j < s
  rel : ∀ i, i < L.length → 1 ≤ R i → ∃ u : Int, u ≤ at_ lasts i ∧ (s : Int) + ((R i : Int) - 1) * (at_ L i).2.2.1 ≤ u ∧ u + (at_ L i).2.1 ≤ d
  way : ∀ j ∈ jobs, begJ j = true → (d : Int) < dueJ j → ∀ x ∈ (ofJ L j).2.2.2, holdB (hadJ j) x = true → nearB L ((d : Int) - s) x.1 = true → x.2.1 + x.2.2 - hadJ j ≤ b
  pos : 0 ≤ b
  sum : wrk L d jobs + b + ((Sp.cnt g t : Int) - Sp.cnt g s) ≤ relTo L R L.length + blk L ((d : Int) - s)

/-- for each tick -/
def Inv (L : List Tsk) (lasts : List Int) (jobs : List Jb) (g : Nat → Bool) (t : Nat) : Prop := ∀ d : Nat, t ≤ d → ∃ s R b, Busy L lasts jobs g d t s R b

section
variable {L : List Tsk} {lasts : List Int} {jobs : List Jb} {g : Nat → Bool} {d t : Nat}
theorem sec_blk {x : Tsk} {s : Sc} {q : Int} (hx : x ∈ L) (hs : s ∈ x.2.2.2) (hq : q < x.2.1) (hn : nearB L q s.1 = true) : s.2.2 ≤ blk L q := by
  have h1 := most_ge (f := blkS L q) hs
  have h2 := most_ge (f := blkT L q) hx
  unfold blk
  have e1 : blkS L q s = s.2.2.toNat := by unfold blkS; rw [if_pos hn]
  have e2 : blkT L q x = most (blkS L q) x.2.2.2 := by unfold blkT; rw [if_pos hq]
  rw [e1] at h1
  rw [e2] at h2
  omega
/-- where no job is due by d, all begins anew -/
theorem Busy.start (S : Sound L lasts jobs t) (h : ∀ j ∈ jobs, (d : Int) < dueJ j) : Busy L lasts jobs g d t t (fun _ => 0) (blk L ((d : Int) - t)) where
  le := Nat.le_refl _
  since := fun j hj hd => by have := h j hj; omega
  other := fun j hj _ _ => (S.job j hj).at1
  rel := fun i _ h => by omega
  way := fun j hj _ hd x hx hh hn => by
    have ok := S.job j hj
    have h1 := hold_iff.1 hh
    have h2 := sec_blk ok.mem hx (q := (d : Int) - t) (by have := ok.due; have := ok.at1; omega) hn
    omega
  pos := by omega
  sum := by
    rw [wrk_none h, relTo_zero]
    omega

/-- nobody is missed -/
theorem Busy.meets {s : Nat} {R : Nat → Nat} {b : Int} (B : Busy L lasts jobs g t t s R b) (S : Sound L lasts jobs t) {P C M : Nat} (hC : 1 ≤ C) (hCP : C ≤ P) (hg : ∀ j, j < M → Sp.cnt g (j * P) + C ≤ Sp.cnt g ((j + 1) * P)) (ht : t ≤ M * P) (hf : Fit_ L P C) : ∀ j ∈ jobs, (t : Int) < dueJ j := fun j hj => by
  rcases Int.lt_or_le t (dueJ j) with h | h
  · exact h
  · have ok := S.job j hj
    have hx := right_T (ok.right S.all)
    have h1 := B.since j hj h
    have h2 := ok.due
    have h3 := wrk_pos h (fun x hx => (S.job x hx).had1) hj
    have h4 := B.sum
    have h5 := B.pos
    have h6 : relTo L R L.length ≤ bnd L ((t : Int) - s) := relTo_bnd (all_right S.all) (Nat.le_refl _) fun i hi => by
      have hxi := right_T (all_right S.all i hi)
      rcases Nat.eq_zero_or_pos (R i) with e | e
      · rw [e]
        exact njobs_nonneg (by omega)
      · obtain ⟨u, _, u2, u3⟩ := B.rel i hi e
        have := (lt_njobs (D := (at_ L i).2.1) (T := (at_ L i).2.2.1) (t := (t : Int) - s) (by omega) ((R i : Int) - 1) (by omega)).1 (by omega)
        omega
    have h7 := hf (t - s)
    have h8 := least_any (p := g) hC hCP hg (s := s) (t := t - s) (by omega)
    have h9 := B.le
    rw [show s + (t - s) = t from by omega] at h8
    unfold need at h7
    rw [show ((t - s : Nat) : Int) = (t : Int) - s from by omega] at h7
    omega

theorem Busy.release {s : Nat} {R : Nat → Nat} {b : Int} (B : Busy L lasts jobs g d t s R b) (hlen : lasts.length = L.length) (hall : allB L = true) {i : Nat} {want : Int} (hi : i < L.length) (hlast : at_ lasts i ≤ t) (hm : at_ lasts i < 0 ∨ at_ lasts i + (at_ L i).2.2.1 ≤ t) :
    ∃ R', Busy L (lasts.set i t) (jobs ++ [((i : Int), (t : Int), (t : Int) + (at_ L i).2.1, want, 0, false)]) g d t s R' b := by
  have hs : at_ (lasts.set i (t : Int)) i = t := at_set_same _ (by omega)
  have ho : ∀ k, k ≠ i → at_ (lasts.set i (t : Int)) k = at_ lasts k := fun k hk => at_set_other _ hk
  have hx := right_T (all_right hall i hi)
  have hrel : ∀ k, k < L.length → 1 ≤ R k → ∃ u : Int, u ≤ at_ (lasts.set i (t : Int)) k ∧ (s : Int) + ((R k : Int) - 1) * (at_ L k).2.2.1 ≤ u ∧ u + (at_ L k).2.1 ≤ d := fun k hk h => by
    obtain ⟨u, u1, u2, u3⟩ := B.rel k hk h
    refine ⟨u, ?_, u2, u3⟩
    by_cases e : k = i
    · subst e; rw [hs]; omega
    · rw [ho k e]; exact u1
  have hle := B.le
  have hsum := B.sum
  by_cases hd : (t : Int) + (at_ L i).2.1 ≤ d
  · refine ⟨fun q => if q = i then R q + 1 else R q, ⟨B.le, fun j hj h => ?_, fun j hj h1 h2 => ?_, fun k hk h => ?_, fun j hj h1 h2 => ?_, B.pos, ?_⟩⟩
    · rcases List.mem_append.1 hj with hj | hj
      · exact B.since j hj h
      · rw [List.mem_singleton] at hj; subst hj; show (s : Int) ≤ (t : Int); omega
    · rcases List.mem_append.1 hj with hj | hj
      · exact B.other j hj h1 h2
      · rw [List.mem_singleton] at hj; subst hj; cases h1
    · by_cases e : k = i
      · subst e
        simp only [if_true]
        refine ⟨t, by rw [hs]; exact Int.le_refl _, ?_, hd⟩
        rcases Nat.eq_zero_or_pos (R k) with e0 | e0
        · rw [e0]
          simp
          omega
        · obtain ⟨u, u1, u2, u3⟩ := B.rel k hk e0
          have h0 : 0 ≤ ((R k : Int) - 1) * (at_ L k).2.2.1 := Int.mul_nonneg (by omega) (by omega)
          have e1 : (((R k + 1 : Nat) : Int) - 1) * (at_ L k).2.2.1 = ((R k : Int) - 1) * (at_ L k).2.2.1 + (at_ L k).2.2.1 := by
            rw [show (((R k + 1 : Nat) : Int) - 1) = ((R k : Int) - 1) + 1 from by omega, Int.add_mul, Int.one_mul]
          rw [e1]
          omega
      · simp only [if_neg e] at h ⊢
        exact hrel k hk h
    · rcases List.mem_append.1 hj with hj | hj
      · exact B.way j hj h1 h2
      · rw [List.mem_singleton] at hj; subst hj; cases h1
    · have e1 : (ofJ L (((i : Int), (t : Int), (t : Int) + (at_ L i).2.1, want, 0, false) : Jb)) = at_ L i := by show at_ L ((i : Int)).toNat = _; rw [Int.toNat_natCast]
      rw [wrk_append, relTo_more hi]
      show wrk L d jobs + ((if (t : Int) + (at_ L i).2.1 ≤ d then (ofJ L (((i : Int), (t : Int), (t : Int) + (at_ L i).2.1, want, 0, false) : Jb)).1 - 0 else 0) + 0) + b + _ ≤ _
      rw [if_pos hd, e1]
      omega
  · refine ⟨R, ⟨B.le, fun j hj h => ?_, fun j hj h1 h2 => ?_, hrel, fun j hj h1 h2 => ?_, B.pos, ?_⟩⟩
    · rcases List.mem_append.1 hj with hj | hj
      · exact B.since j hj h
      · rw [List.mem_singleton] at hj; subst hj; exact absurd h hd
    · rcases List.mem_append.1 hj with hj | hj
      · exact B.other j hj h1 h2
      · rw [List.mem_singleton] at hj; subst hj; cases h1
    · rcases List.mem_append.1 hj with hj | hj
      · exact B.way j hj h1 h2
      · rw [List.mem_singleton] at hj; subst hj; cases h1
    · rw [wrk_append]
      show wrk L d jobs + ((if (t : Int) + (at_ L i).2.1 ≤ d then _ else 0) + 0) + b + _ ≤ _
      rw [if_neg hd]
      omega
end

end Pm
end Go.Proofs.Ytdjjdebnbaaihaa

/-
  Layer 17 (part): plain mathematics: a tick of a partition, and a task that leaves, keep that no job will be missed.
-/
namespace Go.Proofs.Ytdjjdebnbaaihaa
namespace Pm
open Mm Tk Dm Bk Sp Vd Lv

theorem wrk_mid (L : List Tsk) (d : Int) (l1 l2 : List Jb) (c : Jb) : wrk L d (l1 ++ c :: l2) = wrk L d (l1 ++ l2) + (if dueJ c ≤ d then (ofJ L c).1 - hadJ c else 0) := by
  rw [wrk_append, wrk, wrk_append]
  omega
theorem wrk_left (L : List Tsk) (d : Int) (over : Bool) (l1 l2 : List Jb) (c : Jb) : wrk L d (left over l1 c l2) = wrk L d (l1 ++ l2) + (if over = false ∧ dueJ c ≤ d then (ofJ L c).1 - hadJ c - 1 else 0) := by
  unfold left
  cases over with
  | true => simp
  | false =>
    simp only [Bool.false_eq_true, if_false, true_and]
    rw [wrk_mid]
    show _ + (if dueJ c ≤ d then (ofJ L c).1 - (hadJ c + 1) else 0) = _
    split <;> omega

section
variable {L : List Tsk} {lasts : List Int} {l1 l2 : List Jb} {c : Jb} {g : Nat → Bool} {d t : Nat} {over : Bool}
theorem near_of {r q : Int} {X : Tsk} (hX : X ∈ L) (hq : X.2.1 ≤ q) (hu : usesT X r = true) : nearB L q r = true := near_iff.2 ⟨X, hX, hq, hu⟩
theorem Busy.ran {s : Nat} {R : Nat → Nat} {b : Int} (B : Busy L lasts (l1 ++ c :: l2) g d t s R b) (S : Sound L lasts (l1 ++ c :: l2) (t + 1 : Nat)) (Rn : Runs L c (l1 ++ l2)) (hgt : g t = true) (hex : ∃ p ∈ l1 ++ c :: l2, dueJ p ≤ d) :
    ∃ b', Busy L lasts (left over l1 c l2) g d (t + 1) s R b' := by
  have hc := mem_mid.2 (.inl rfl : c = c ∨ c ∈ l1 ++ l2)
  have okc := S.job c hc
  have hsum := B.sum
  have hcnt : (Sp.cnt g (t + 1) : Int) = Sp.cnt g t + 1 := by
    show ((Sp.cnt g t + (if g t then 1 else 0) : Nat) : Int) = _
    rw [hgt]
    push_cast
    simp
  have h1 := okc.had1
  have hpos := B.pos
  have hle := B.le
  rw [wrk_mid] at hsum
  by_cases hcd : dueJ c ≤ d
  · -- one that is due by d runs
    refine ⟨b, ⟨by omega, fun j hj h => ?_, fun j hj h2 h3 => ?_, B.rel, fun j hj h2 h3 => ?_, B.pos, ?_⟩⟩
    · rcases mem_left.1 hj with ⟨_, rfl⟩ | hj
      · exact B.since c hc hcd
      · exact B.since j (mem_mid.2 (.inr hj)) h
    · rcases mem_left.1 hj with ⟨_, rfl⟩ | hj
      · have : (d : Int) < dueJ c := h3
        omega
      · exact B.other j (mem_mid.2 (.inr hj)) h2 h3
    · rcases mem_left.1 hj with ⟨_, rfl⟩ | hj
      · have : (d : Int) < dueJ c := h3
        omega
      · exact B.way j (mem_mid.2 (.inr hj)) h2 h3
    · rw [wrk_left, hcnt]
      rw [if_pos hcd] at hsum
      split <;> omega
  · -- another one is in the way
    rw [if_neg hcd] at hsum
    obtain ⟨p, hp, hpd⟩ := hex
    have hpo : p ∈ l1 ++ l2 := by
      rcases mem_mid.1 hp with rfl | hp
      · exact absurd hpd hcd
      · exact hp
    -- it began
    have hbc : begJ c = true := by
      cases h : begJ c with
      | true => rfl
      | false =>
        exfalso
        obtain ⟨r1, r2, _⟩ := Rn.fresh h
        cases hpb : begJ p with
        | true =>
          have := ahead_iff.1 (r2 p hpo hpb)
          omega
        | false =>
          have := ahead_no.1 (r1 p hpo hpb)
          omega
    obtain ⟨r1, r2⟩ := Rn.top hbc
    -- none of those that are due by d began
    have nob : ∀ x ∈ l1 ++ l2, begJ x = true → (d : Int) < dueJ x := fun x hx hxb => by
      have := ahead_no.1 (r1 x hx hxb)
      omega
    have hpb : begJ p = false := by
      cases h : begJ p with
      | false => rfl
      | true => have := nob p hpo h; omega
    obtain ⟨f, hf, f1, f2, f3⟩ := first_of (fun x => !begJ x) hpo (by rw [hpb]; rfl)
    have hfb : begJ f = false := by
      cases h : begJ f with
      | false => rfl
      | true => rw [h] at f1; cases f1
    obtain ⟨x, hx, hxb, r, hr, hlv⟩ := r2 f hf hfb (fun y hy hyb => f2 y hy (by rw [hyb]; rfl)) (by rw [ahead_iff]; omega)
    have okf := S.job f (mem_mid.2 (.inr hf))
    have hfs := B.since f (mem_mid.2 (.inr hf)) (by omega)
    have hcs := B.other c hc hbc (by omega)
    have hDf := okf.due
    have hDc := okc.due
    have hlvl : lvl L (tkJ c).toNat < lvl L (tkJ f).toNat := lvl_job S hc (by omega)
    -- it is the one that is in the way
    have hxc : x = c := by
      rcases hx with h | h
      · exact h
      · exfalso
        have h4 : aheadB c x = true := ahead_or (apart_mid S.apart h).symm (r1 x h hxb)
        have := S.srp c hc x (mem_mid.2 (.inr h)) hbc hxb h4 r hr
        omega
    subst hxc
    obtain ⟨y, hy, rfl⟩ := List.mem_map.1 hr
    obtain ⟨hym, hyh⟩ := List.mem_filter.1 hy
    have hyh2 := hold_iff.1 hyh
    obtain ⟨i, hi, hiu, hil⟩ := ceil_who (lvl_pos L _) hlv
    have hnear : nearB L ((d : Int) - s) y.1 = true := by
      refine near_of (at_mem hi) ?_ hiu
      rcases Int.lt_or_le (ofJ L f).2.1 (at_ L i).2.1 with h | h
      · have := (lvl_lt (i := (tkJ f).toNat) hi).2 h
        omega
      · omega
    have hway := B.way x hc hbc (by omega) y hym hyh hnear
    refine ⟨b - 1, ⟨by omega, fun j hj h => ?_, fun j hj h2 h3 => ?_, B.rel, fun j hj h2 h3 z hz hzh hzn => ?_, by omega, ?_⟩⟩
    · rcases mem_left.1 hj with ⟨_, rfl⟩ | hj
      · exact absurd h hcd
      · exact B.since j (mem_mid.2 (.inr hj)) h
    · rcases mem_left.1 hj with ⟨_, rfl⟩ | hj
      · exact hcs
      · exact B.other j (mem_mid.2 (.inr hj)) h2 h3
    · rcases mem_left.1 hj with ⟨_, rfl⟩ | hj
      · -- who ran: its sections go on, or lie within one that does
        have hzh' := hold_iff.1 hzh
        have e1 : hadJ (runJ x) = hadJ x + 1 := rfl
        rw [e1] at hzh' ⊢
        have hzm : z ∈ (ofJ L x).2.2.2 := hz
        by_cases hz0 : z.2.1 < hadJ x
        · have := B.way x hc hbc (by omega) z hzm (hold_iff.2 ⟨hz0, by omega⟩) hzn
          omega
        · have ok := (ok_of (show rightB (ofJ L x).1 (ofJ L x).2.1 (ofJ L x).2.2.1 (ofJ L x).2.2.2 = true from okc.right S.all)).2
          obtain ⟨n1, hn1, e1⟩ := List.mem_iff_getElem.1 hym
          obtain ⟨n2, hn2, e2⟩ := List.mem_iff_getElem.1 hzm
          rw [List.pairwise_iff_getElem] at ok
          rcases Nat.lt_trichotomy n1 n2 with h | h | h
          · have := ok n1 n2 hn1 hn2 h
            rw [e1, e2] at this
            have := pair_iff.1 this
            omega
          · subst h
            rw [e1] at e2
            subst e2
            omega
          · have := ok n2 n1 hn2 hn1 h
            rw [e1, e2] at this
            have := pair_iff.1 this
            omega
      · -- all others hold nothing that is wanted
        exfalso
        have h4 : aheadB x j = true := ahead_or (apart_mid S.apart hj).symm (r1 j hj h2)
        have hzr : z.1 ∈ heldJ L j := List.mem_map.2 ⟨z, List.mem_filter.2 ⟨hz, hzh⟩, rfl⟩
        have h5 := S.srp x hc j (mem_mid.2 (.inr hj)) hbc h2 h4 z.1 hzr
        obtain ⟨X, hX, hXD, hXu⟩ := near_iff.1 hzn
        obtain ⟨k, hk, rfl⟩ := mem_at hX
        have h6 := ceil_ge hk (r := z.1) hXu
        have h7 : (ofJ L x).2.1 < (at_ L k).2.1 := by
          rcases Int.lt_or_le (ofJ L x).2.1 (at_ L k).2.1 with h | h
          · exact h
          · rcases Int.lt_or_le (at_ L k).2.1 (ofJ L x).2.1 with h' | h'
            · have := okc.lo
              have := okc.up
              have := (lvl_lt (L := L) (i := k) (k := (tkJ x).toNat) (by omega)).2 h'
              omega
            · have e : (at_ L k).2.1 = (ofJ L x).2.1 := by omega
              have : lvl L k = lvl L (tkJ x).toNat := by
                unfold lvl
                show more L (at_ L k).2.1 + 1 = more L (ofJ L x).2.1 + 1
                rw [e]
              omega
        omega
    · rw [wrk_left, hcnt, if_neg (fun h => hcd h.2)]
      omega

/-- a tick that is not given changes nothing -/
theorem Busy.idle {jobs : List Jb} {s : Nat} {R : Nat → Nat} {b : Int} (B : Busy L lasts jobs g d t s R b) (hgt : g t = false) : Busy L lasts jobs g d (t + 1) s R b := by
  have hcnt : Sp.cnt g (t + 1) = Sp.cnt g t := by
    show Sp.cnt g t + (if g t then 1 else 0) = _
    rw [hgt]
    simp
  have hle := B.le
  exact ⟨by omega, B.since, B.other, B.rel, B.way, B.pos, by rw [hcnt]; exact B.sum⟩
end

section
variable {L : List Tsk} {lasts : List Int} {jobs l1 l2 : List Jb} {c : Jb} {g : Nat → Bool} {t : Nat} {over : Bool}
theorem Inv.release (I : Inv L lasts jobs g t) (S : Sound L lasts jobs (t + 1 : Nat)) {i : Nat} {want : Int} (hi : i < L.length) (hm : at_ lasts i < 0 ∨ at_ lasts i + (at_ L i).2.2.1 ≤ t) :
    Inv L (lasts.set i t) (jobs ++ [((i : Int), (t : Int), (t : Int) + (at_ L i).2.1, want, 0, false)]) g t ∧ Sound L (lasts.set i t) (jobs ++ [((i : Int), (t : Int), (t : Int) + (at_ L i).2.1, want, 0, false)]) (t + 1 : Nat) := by
  have hx := right_T (all_right S.all i hi)
  refine ⟨fun d hd => ?_, S.release hi fun j hj e1 e2 => ?_⟩
  · obtain ⟨s, R, b, B⟩ := I d hd
    obtain ⟨R', B'⟩ := B.release (want := want) S.len S.all hi (by have := S.last i hi; omega) hm
    exact ⟨s, R', b, B'⟩
  · have ok := S.job j hj
    have h1 := ok.last
    have h2 := ok.at0
    have e3 : (tkJ j).toNat = i := by omega
    rw [e3] at h1
    omega
theorem Inv.ran (I : Inv L lasts (l1 ++ c :: l2) g t) (S : Sound L lasts (l1 ++ c :: l2) (t + 1 : Nat)) (Rn : Runs L c (l1 ++ l2)) (hgt : g t = true) (ho : over = false → hadJ c + 1 < (ofJ L c).1) : Inv L lasts (left over l1 c l2) g (t + 1) := fun d hd => by
  by_cases hex : ∃ p ∈ l1 ++ c :: l2, dueJ p ≤ d
  · obtain ⟨s, R, b, B⟩ := I d (by omega)
    obtain ⟨b', B'⟩ := B.ran (over := over) S Rn hgt hex
    exact ⟨s, R, b', B'⟩
  · refine ⟨t + 1, _, _, Busy.start (S.ran Rn ho) fun j hj => ?_⟩
    have hno : ∀ p ∈ l1 ++ c :: l2, (d : Int) < dueJ p := fun p hp => by
      rcases Int.lt_or_le d (dueJ p) with h | h
      · exact h
      · exact absurd ⟨p, hp, h⟩ hex
    rcases mem_left.1 hj with ⟨_, rfl⟩ | hj
    · exact hno c (mem_mid.2 (.inl rfl))
    · exact hno j (mem_mid.2 (.inr hj))
theorem Inv.idle (I : Inv L lasts jobs g t) (hgt : g t = false) : Inv L lasts jobs g (t + 1) := fun d hd => by
  obtain ⟨s, R, b, B⟩ := I d (by omega)
  exact ⟨s, R, b, B.idle hgt⟩
/-- without jobs all begins anew, whatever the tasks -/
theorem Inv.none (S : Sound L lasts [] t) : Inv L lasts [] g t := fun d _ => ⟨t, _, _, Busy.start S fun j hj => by simp at hj⟩
end

/-- fewer tasks need less -/
theorem bnd_sub {L M : List Tsk} (h : allB M = true) (hs : L.Sublist M) (t : Int) : bnd L t ≤ bnd M t := by
  induction hs with
  | slnil => exact Int.le_refl _
  | @cons l₁ l₂ a _ ih =>
    have h2 : allB l₂ = true := all_drop h 1
    have h3 := all_right h 0 (by simp)
    rw [show bnd (a :: l₂) t = bnd ([a] ++ l₂) t from rfl, bnd_append, bnd_one]
    have := bndT_nonneg (x := a) h3 t
    have := ih h2
    omega
  | @cons_cons l₁ l₂ a _ ih =>
    have h2 : allB l₂ = true := all_drop h 1
    rw [show bnd (a :: l₁) t = bnd ([a] ++ l₁) t from rfl, show bnd (a :: l₂) t = bnd ([a] ++ l₂) t from rfl, bnd_append, bnd_append]
    have := ih h2
    omega
theorem all_sub {L M : List Tsk} (h : allB M = true) (hs : L.Sublist M) : allB L = true := by
  unfold allB at *
  rw [Bool.and_eq_true, decide_eq_true_eq, List.all_eq_true] at *
  exact ⟨Nat.le_trans hs.length_le h.1, fun x hx => h.2 x (hs.subset hx)⟩
theorem fit_sub {L M : List Tsk} {P B : Nat} (h : allB M = true) (hs : L.Sublist M) (hf : Fit_ M P B) : Fit_ L P B := fun t => by
  have h1 := hf t
  have h2 := bnd_sub h hs (t : Int)
  have h3 := blk_more (t := (t : Int)) fun x hx => hs.subset hx
  unfold need at *
  omega

end Pm
end Go.Proofs.Ytdjjdebnbaaihaa

/-
  Layer 17 (part): plain mathematics: the state of a partition, releases and ticks; no job is missed, whatever is played.
-/
namespace Go.Proofs.Ytdjjdebnbaaihaa
namespace Pm
open Mm Tk Dm Bk Sp Vd Lv

/-- an entry: when, its kind, the task -/
abbrev En := Int × Int × Int
abbrev whenE (e : En) : Int := e.1
abbrev kindE (e : En) : Int := e.2.1
def noted (log : List En) (e : En) : List En := if log.length < 2000 then log ++ [e] else log
/-- the jobs that are missed are logged -/
def missed (now : Int) : List En → List Jb → List En
  | log, [] => log
  | log, j :: l => missed now (if dueJ j ≤ now then noted log (now, 6, tkJ j) else log) l
/-- those that have left are logged, the one with the greatest number first -/
def gone (now : Int) (leaves : List Bool) : Nat → List En → List En
  | 0, log => log
  | k + 1, log => gone now leaves k (if at_ leaves k then noted log (now, 7, (k : Int)) else log)
/-- what is not flagged -/
def keepL {α : Type} : List Bool → List α → List α
  | b :: bs, x :: xs => if b then keepL bs xs else x :: keepL bs xs
  | _, _ => []
theorem keepL_sub {α : Type} : ∀ (bs : List Bool) (xs : List α), (keepL bs xs).Sublist xs
  | [], xs => by cases xs <;> exact List.nil_sublist _
  | _ :: _, [] => List.nil_sublist _
  | true :: bs, x :: xs => List.Sublist.cons x (keepL_sub bs xs)
  | false :: bs, x :: xs => List.Sublist.cons_cons x (keepL_sub bs xs)
theorem keepL_len {α β : Type} : ∀ (bs : List Bool) (xs : List α) (ys : List β), xs.length = ys.length → (keepL bs xs).length = (keepL bs ys).length
  | [], xs, ys, _ => by cases xs <;> cases ys <;> rfl
  | _ :: _, [], [], _ => rfl
  | _ :: _, [], _ :: _, h => by simp at h
  | _ :: _, _ :: _, [], h => by simp at h
  | true :: bs, x :: xs, y :: ys, h => keepL_len bs xs ys (by simpa using h)
  | false :: bs, x :: xs, y :: ys, h => by
    show (keepL bs xs).length + 1 = (keepL bs ys).length + 1
    rw [keepL_len bs xs ys (by simpa using h)]

/-- the state of a partition -/
structure St where
  tasks : List Tsk
  leaves : List Bool
  lasts : List Int
  jobs : List Jb
  log : List En
def rightL (L : List Tsk) (lasts : List Int) : Bool := decide (lasts.length = L.length) && (allB L && lasts.all fun x => decide (-1 ≤ x ∧ x ≤ 4611686018427387903))
def rightS (s : St) : Bool := decide (s.leaves.length = s.tasks.length) && (rightL s.tasks s.lasts && (allJ s.tasks s.jobs && decide (s.log.length ≤ 2000)))
theorem rightS_iff {s : St} : rightS s = true ↔ s.leaves.length = s.tasks.length ∧ s.lasts.length = s.tasks.length ∧ (∀ x ∈ s.lasts, -1 ≤ x ∧ x ≤ 4611686018427387903) ∧ allJ s.tasks s.jobs = true ∧ s.log.length ≤ 2000 := by
  unfold rightS rightL
  simp only [Bool.and_eq_true, decide_eq_true_iff, List.all_eq_true]
  constructor
  · rintro ⟨h1, ⟨h2, _, h4⟩, h5, h6⟩
    exact ⟨h1, h2, h4, h5, h6⟩
  · rintro ⟨h1, h2, h4, h5, h6⟩
    exact ⟨h1, ⟨h2, (allJ_iff.1 h5).1, h4⟩, h5, h6⟩
def whenOk (now : Int) : Bool := decide (0 ≤ now ∧ now ≤ 4611686018427387703)
/-- may task i release a job: the error -/
def mayE (L : List Tsk) (lasts : List Int) (i t : Int) : Nat :=
  if rightL L lasts = true ∧ 0 ≤ i ∧ i < L.length ∧ 0 ≤ t ∧ t ≤ 4611686018427387703 then (if 0 ≤ at_ lasts i.toNat ∧ t - at_ lasts i.toNat < (at_ L i.toNat).2.2.1 then 6 else 0) else 1
/-- a release: the state, the error -/
def relOk (s : St) (i want now : Int) : Bool := rightS s && decide (0 ≤ i ∧ i < s.tasks.length ∧ 1 ≤ want ∧ want ≤ 200 ∧ 0 ≤ now ∧ now ≤ 4611686018427387703)
def relE (s : St) (i want now : Int) : Nat :=
  if relOk s i want now then (if at_ s.leaves i.toNat then 9 else if mayE s.tasks s.lasts i now ≠ 0 then 6 else if 31 < s.jobs.length then 3 else 0) else 1
def relS (s : St) (i want now : Int) : St :=
  if relE s i want now = 0 then { s with lasts := s.lasts.set i.toNat now, jobs := s.jobs ++ [(i, now, now + (at_ s.tasks i.toNat).2.1, want, 0, false)], log := noted s.log (now, 1, i) }
  else if relE s i want now = 6 then { s with log := noted s.log (now, 2, i) }
  else if relE s i want now = 3 then { s with log := noted s.log (now, 3, i) }
  else s
/-- a task is told to leave -/
def leaveE (s : St) (i : Int) : Nat := if rightS s = true ∧ 0 ≤ i ∧ i < s.tasks.length then (if at_ s.leaves i.toNat then 9 else 0) else 1
def leaveS (s : St) (i : Int) : St := if leaveE s i = 0 then { s with leaves := s.leaves.set i.toNat true } else s
/-- a tick, of a state that is right -/
def jobs1 (s : St) (now : Int) : List Jb := s.jobs.filter fun j => decide (now < dueJ j)
def jobs2 (s : St) (given : Bool) (now : Int) : List Jb := if given then tickJ s.tasks (jobs1 s now) else jobs1 s now
def whoJ (s : St) (now : Int) : Jb := at_ (jobs1 s now) (chooseI s.tasks (jobs1 s now)).toNat
def kindJ (L : List Tsk) (j : Jb) : Int := if (ofJ L j).1 < wantJ j then 5 else 4
def log2 (s : St) (given : Bool) (now : Int) : List En :=
  if given = true ∧ 0 ≤ chooseI s.tasks (jobs1 s now) ∧ overB s.tasks (whoJ s now) = true then noted (missed now s.log s.jobs) (now, kindJ s.tasks (whoJ s now), tkJ (whoJ s now)) else missed now s.log s.jobs
def tickW (s : St) (given : Bool) (now : Int) : Int := if given = true ∧ 0 ≤ chooseI s.tasks (jobs1 s now) then tkJ (whoJ s now) else -1
def tickS (s : St) (given : Bool) (now : Int) : St :=
  if (jobs2 s given now).isEmpty then ⟨keepL s.leaves s.tasks, keepL s.leaves s.leaves, keepL s.leaves s.lasts, [], gone now s.leaves s.leaves.length (log2 s given now)⟩
  else ⟨s.tasks, s.leaves, s.lasts, jobs2 s given now, log2 s given now⟩

/-! ### what is logged -/
/-- only entries of some kinds were added, at 'now' -/
def Added (now : Int) (K : Int → Prop) (log log' : List En) : Prop := ∃ x : List En, log' = log ++ x ∧ (∀ e ∈ x, whenE e = now ∧ K (kindE e)) ∧ (log.length ≤ 2000 → log'.length ≤ 2000)
theorem Added.refl {now : Int} {K : Int → Prop} (log : List En) : Added now K log log := ⟨[], by simp, fun e h => by simp at h, id⟩
theorem Added.trans {now : Int} {K : Int → Prop} {a b c : List En} (h : Added now K a b) (h' : Added now K b c) : Added now K a c := by
  obtain ⟨x, e, hx, l⟩ := h
  obtain ⟨y, e', hy, l'⟩ := h'
  refine ⟨x ++ y, by rw [e', e, List.append_assoc], fun z hz => ?_, fun h => l' (l h)⟩
  rcases List.mem_append.1 hz with hz | hz
  · exact hx z hz
  · exact hy z hz
theorem added_one {now : Int} {K : Int → Prop} {k i : Int} (hk : K k) (log : List En) : Added now K log (noted log (now, k, i)) := by
  unfold noted
  split
  · refine ⟨[(now, k, i)], rfl, fun e he => ?_, fun _ => by rw [List.length_append]; simp; omega⟩
    rw [List.mem_singleton] at he
    subst he
    exact ⟨rfl, hk⟩
  · exact Added.refl log
theorem missed_none {now : Int} : ∀ {l : List Jb} {log : List En}, (∀ j ∈ l, now < dueJ j) → missed now log l = log
  | [], _, _ => rfl
  | j :: l, log, h => by
    have := h j (by simp)
    rw [missed, if_neg (by omega)]
    exact missed_none fun x hx => h x (List.mem_cons_of_mem _ hx)
theorem missed_added {now : Int} {K : Int → Prop} (hK : K 6) : ∀ (l : List Jb) (log : List En), Added now K log (missed now log l)
  | [], log => Added.refl log
  | j :: l, log => by
    rw [missed]
    refine Added.trans ?_ (missed_added hK l _)
    split
    · exact added_one hK log
    · exact Added.refl log
theorem gone_added {now : Int} {K : Int → Prop} (hK : K 7) (leaves : List Bool) : ∀ (k : Nat) (log : List En), Added now K log (gone now leaves k log)
  | 0, log => Added.refl log
  | k + 1, log => by
    rw [gone]
    refine Added.trans ?_ (gone_added hK leaves k _)
    split
    · exact added_one hK log
    · exact Added.refl log
theorem log2_added {s : St} {given : Bool} {now : Int} {K : Int → Prop} (h4 : K 4) (h5 : K 5) (hm : Added now K s.log (missed now s.log s.jobs)) : Added now K s.log (log2 s given now) := by
  unfold log2
  split
  · refine hm.trans (added_one ?_ _)
    unfold kindJ
    split <;> assumption
  · exact hm
theorem tick_added {s : St} {given : Bool} {now : Int} {K : Int → Prop} (h4 : K 4) (h5 : K 5) (h7 : K 7) (hm : Added now K s.log (missed now s.log s.jobs)) : Added now K s.log (tickS s given now).log := by
  unfold tickS
  split
  · exact (log2_added h4 h5 hm).trans (gone_added h7 _ _ _)
  · exact log2_added h4 h5 hm
theorem rel_added {s : St} {i want now : Int} {K : Int → Prop} (h1 : K 1) (h2 : K 2) (h3 : K 3) : Added now K s.log (relS s i want now).log := by
  unfold relS
  split
  · exact added_one h1 _
  · split
    · exact added_one h2 _
    · split
      · exact added_one h3 _
      · exact Added.refl _
theorem leave_log (s : St) (i : Int) : (leaveS s i).log = s.log := by
  unfold leaveS
  split <;> rfl

/-! ### no job is missed -/
/-- a partition whose tasks fit, ahead of tick t; 'mid': a job may have been released at t -/
structure Good (g : Nat → Bool) (P C : Nat) (s : St) (t : Nat) (hi : Int) : Prop where
  sound : Sound s.tasks s.lasts s.jobs hi
  inv : Inv s.tasks s.lasts s.jobs g t
  due : ∀ j ∈ s.jobs, (t : Int) < dueJ j
  fit : Fit_ s.tasks P C
  len : s.leaves.length = s.tasks.length
  log : ∀ e ∈ s.log, kindE e ≠ 6
theorem Good.later {g : Nat → Bool} {P C : Nat} {s : St} {t : Nat} {hi hi' : Int} (G : Good g P C s t hi) (h : hi ≤ hi') : Good g P C s t hi' := { G with sound := G.sound.later h }
theorem added_kind {now : Int} {log log' : List En} (h : Added now (fun k => k ≠ 6) log log') (hl : ∀ e ∈ log, kindE e ≠ 6) : ∀ e ∈ log', kindE e ≠ 6 := by
  obtain ⟨x, rfl, hx, _⟩ := h
  intro e he
  rcases List.mem_append.1 he with he | he
  · exact hl e he
  · exact (hx e he).2
theorem may_zero {L : List Tsk} {lasts : List Int} {i t : Int} (h : mayE L lasts i t = 0) : 0 ≤ i ∧ i < L.length ∧ (at_ lasts i.toNat < 0 ∨ at_ lasts i.toNat + (at_ L i.toNat).2.2.1 ≤ t) := by
  unfold mayE at h
  split at h
  · rename_i h1
    refine ⟨h1.2.1, h1.2.2.1, ?_⟩
    split at h
    · cases h
    · omega
  · cases h
theorem rel_zero {s : St} {i want now : Int} (h : relE s i want now = 0) : relOk s i want now = true ∧ at_ s.leaves i.toNat = false ∧ mayE s.tasks s.lasts i now = 0 ∧ s.jobs.length ≤ 31 := by
  unfold relE at h
  split at h
  · rename_i h1
    split at h
    · cases h
    · rename_i h2
      split at h
      · cases h
      · rename_i h3
        split at h
        · cases h
        · refine ⟨h1, by simpa using h2, by omega, by omega⟩
  · cases h
theorem Good.release {g : Nat → Bool} {P C : Nat} {s : St} {t : Nat} (G : Good g P C s t (t + 1 : Nat)) (i want : Int) : Good g P C (relS s i want t) t (t + 1 : Nat) := by
  have hlog := added_kind (rel_added (s := s) (i := i) (want := want) (now := (t : Int)) (K := fun k => k ≠ 6) (by omega) (by omega) (by omega)) G.log
  have hd : ∀ {s'}, s' = relS s i want t → (relE s i want t ≠ 0) → s'.tasks = s.tasks ∧ s'.leaves = s.leaves ∧ s'.lasts = s.lasts ∧ s'.jobs = s.jobs := fun {s'} e h => by
    subst e
    unfold relS
    rw [if_neg h]
    split
    · exact ⟨rfl, rfl, rfl, rfl⟩
    · split <;> exact ⟨rfl, rfl, rfl, rfl⟩
  by_cases h : relE s i want t = 0
  · obtain ⟨_, _, h3, _⟩ := rel_zero h
    obtain ⟨h4, h5, h6⟩ := may_zero h3
    obtain ⟨n, rfl⟩ : ∃ n : Nat, i = n := ⟨i.toNat, by omega⟩
    rw [Int.toNat_natCast] at h6
    obtain ⟨I, S⟩ := G.inv.release (want := want) G.sound (i := n) (by omega) h6
    have e : relS s n want t = { s with lasts := s.lasts.set n t, jobs := s.jobs ++ [((n : Int), (t : Int), (t : Int) + (at_ s.tasks n).2.1, want, 0, false)], log := noted s.log (t, 1, n) } := by
      unfold relS
      rw [if_pos h, Int.toNat_natCast]
    have hx := right_T (all_right G.sound.all n (by omega))
    rw [e] at hlog ⊢
    refine ⟨S, I, fun j hj => ?_, G.fit, G.len, hlog⟩
    rcases List.mem_append.1 hj with hj | hj
    · exact G.due j hj
    · rw [List.mem_singleton] at hj
      subst hj
      show (t : Int) < (t : Int) + (at_ s.tasks n).2.1
      omega
  · obtain ⟨e1, e2, e3, e4⟩ := hd rfl h
    refine ⟨by rw [e1, e3, e4]; exact G.sound, by rw [e1, e3, e4]; exact G.inv, by rw [e4]; exact G.due, by rw [e1]; exact G.fit, by rw [e1, e2]; exact G.len, hlog⟩
theorem Good.leave {g : Nat → Bool} {P C : Nat} {s : St} {t : Nat} {hi : Int} (G : Good g P C s t hi) (i : Int) : Good g P C (leaveS s i) t hi := by
  unfold leaveS
  split
  · exact ⟨G.sound, G.inv, G.due, G.fit, by rw [List.length_set]; exact G.len, G.log⟩
  · exact G
theorem jobs1_all {s : St} {now : Int} (h : ∀ j ∈ s.jobs, now < dueJ j) : jobs1 s now = s.jobs := by
  unfold jobs1
  rw [List.filter_eq_self]
  intro j hj
  exact decide_eq_true (h j hj)
/-- the tick itself, ahead of who leaves -/
theorem Good.jobs {g : Nat → Bool} {P C : Nat} {s : St} {t : Nat} (G : Good g P C s t (t + 1 : Nat)) : Sound s.tasks s.lasts (jobs2 s (g t) t) (t + 1 : Nat) ∧ Inv s.tasks s.lasts (jobs2 s (g t) t) g (t + 1) := by
  unfold jobs2
  rw [jobs1_all G.due]
  cases hg : g t with
  | false => exact ⟨G.sound, G.inv.idle hg⟩
  | true =>
    rw [if_pos rfl]
    refine ⟨G.sound.tick, ?_⟩
    by_cases he : s.jobs = []
    · have S := G.sound
      rw [he, tickJ_nil]
      rw [he] at S
      exact Inv.none S
    · obtain ⟨i, hi⟩ := chooseI_some (L := s.tasks) he
      obtain ⟨h1, h2⟩ := chooseI_runs G.sound.apart hi
      have S := G.sound
      have I := G.inv
      rw [cut_at h1] at S I
      rw [tickJ_at hi]
      refine I.ran S h2 hg fun h0 => ?_
      have := (over_no h0).2
      have := (G.sound.job _ (at_mem h1)).had1
      omega
theorem Good.tick {g : Nat → Bool} {P C M : Nat} {s : St} {t : Nat} (G : Good g P C s t (t + 1 : Nat)) (hC : 1 ≤ C) (hCP : C ≤ P) (hg : ∀ j, j < M → Sp.cnt g (j * P) + C ≤ Sp.cnt g ((j + 1) * P)) (ht : t + 1 ≤ M * P) : Good g P C (tickS s (g t) t) (t + 1) (t + 1 : Nat) := by
  obtain ⟨S, I⟩ := G.jobs
  have hlog := added_kind (tick_added (s := s) (given := g t) (now := (t : Int)) (K := fun k => k ≠ 6) (by omega) (by omega) (by omega) (by rw [missed_none G.due]; exact Added.refl _)) G.log
  unfold tickS at hlog ⊢
  cases he : (jobs2 s (g t) t).isEmpty with
  | true =>
    rw [he] at hlog
    rw [if_pos rfl] at hlog ⊢
    have hsub := keepL_sub s.leaves s.tasks
    have S' : Sound (keepL s.leaves s.tasks) (keepL s.leaves s.lasts) [] (t + 1 : Nat) := Sound.none (all_sub G.sound.all hsub) (keepL_len _ _ _ G.sound.len) fun i hi => by
      have h1 : i < (keepL s.leaves s.lasts).length := by rw [keepL_len _ _ _ G.sound.len]; exact hi
      obtain ⟨k, hk, e⟩ := mem_at ((keepL_sub s.leaves s.lasts).subset (at_mem h1))
      rw [← e]
      exact G.sound.last k (by rw [← G.sound.len]; exact hk)
    exact ⟨S', Inv.none S', fun j hj => by simp at hj, fit_sub G.sound.all hsub G.fit, keepL_len _ _ _ G.len, hlog⟩
  | false =>
    rw [he] at hlog
    rw [if_neg (by simp)] at hlog ⊢
    obtain ⟨s0, R, b, B⟩ := I (t + 1) (Nat.le_refl _)
    exact ⟨S, I, B.meets S hC hCP hg ht G.fit, G.fit, G.len, hlog⟩
/-- how it begins -/
def newS (L : List Tsk) : St := ⟨L, List.replicate L.length false, List.replicate L.length (-1), [], []⟩
theorem Good.new {L : List Tsk} {g : Nat → Bool} {P C : Nat} (h : allB L = true) (hf : Fit_ L P C) : Good g P C (newS L) 0 0 := by
  have S : Sound L (List.replicate L.length (-1)) [] ((0 : Nat) : Int) := Sound.none h (by simp) fun i hi => by
    rw [at_get (by simpa using hi)]
    simp
  exact ⟨S, Inv.none S, fun j hj => by simp [newS] at hj, hf, by simp [newS], fun e he => by simp [newS] at he⟩

/-! ### the state stays right -/
theorem right_new {L : List Tsk} (h : allB L = true) : rightS (newS L) = true := rightS_iff.2 ⟨by simp [newS], by simp [newS], fun x hx => by
  have := (List.mem_replicate.1 hx).2
  omega, allJ_iff.2 ⟨h, by simp [newS], List.Pairwise.nil, fun j hj => by simp [newS] at hj⟩, by simp [newS]⟩
theorem right_release {s : St} {t : Nat} (hs : rightS s = true) (hS : ∀ j ∈ s.jobs, atJ j ≤ at_ s.lasts (tkJ j).toNat) (i want : Int) : rightS (relS s i want t) = true := by
  have hlog := (rel_added (s := s) (i := i) (want := want) (now := (t : Int)) (K := fun _ => True) trivial trivial trivial)
  obtain ⟨h1, h2, h3, h4, h5⟩ := rightS_iff.1 hs
  obtain ⟨x, _, _, hlen⟩ := hlog
  have hlen := hlen h5
  unfold relS at hlen ⊢
  by_cases h : relE s i want t = 0
  · rw [if_pos h] at hlen ⊢
    obtain ⟨g1, g2, g3, g4⟩ := rel_zero h
    obtain ⟨m1, m2, m3⟩ := may_zero g3
    unfold relOk at g1
    rw [Bool.and_eq_true, decide_eq_true_iff] at g1
    obtain ⟨a1, a2, a3, a4⟩ := allJ_iff.1 h4
    obtain ⟨n, rfl⟩ : ∃ n : Nat, i = n := ⟨i.toNat, by omega⟩
    rw [Int.toNat_natCast] at m3
    have hx := right_T (all_right a1 n (by omega))
    refine rightS_iff.2 ⟨h1, by rw [List.length_set]; exact h2, fun y hy => ?_, allJ_iff.2 ⟨a1, by rw [List.length_append]; simp; omega, ?_, fun j hj => ?_⟩, hlen⟩
    · rcases List.mem_or_eq_of_mem_set hy with e | e
      · exact h3 y e
      · subst e; omega
    · rw [List.pairwise_append]
      refine ⟨a3, List.pairwise_singleton _ _, fun a ha b hb => ?_⟩
      rw [List.mem_singleton] at hb
      subst hb
      rintro ⟨e1, e2⟩
      have e1' : tkJ a = (n : Int) := e1
      have e2' : atJ a = (t : Int) := e2
      have q1 := hS a ha
      rw [e1', Int.toNat_natCast] at q1
      have q2 := (rightJ_iff.1 (a4 a ha)).2.2.1
      omega
    · rcases List.mem_append.1 hj with hj | hj
      · exact a4 j hj
      · rw [List.mem_singleton] at hj
        subst hj
        refine rightJ_iff.2 ⟨?_, ?_, ?_, ?_, ?_, ?_, ?_, Int.le_refl _, ?_, ?_, .inr (by show (0 : Int) < 1; omega)⟩
        · show (0 : Int) ≤ (n : Int); omega
        · show (n : Int) < _; omega
        · show (0 : Int) ≤ (t : Int); omega
        · show (t : Int) ≤ _; omega
        · rfl
        · show (1 : Int) ≤ want; omega
        · show want ≤ 200; omega
        · show (0 : Int) < want; omega
        · show (0 : Int) < (at_ s.tasks ((n : Int)).toNat).1
          rw [Int.toNat_natCast]
          omega
  · rw [if_neg h] at hlen ⊢
    split
    · rw [if_pos (by assumption)] at hlen
      exact rightS_iff.2 ⟨h1, h2, h3, h4, hlen⟩
    · rw [if_neg (by assumption)] at hlen
      split
      · rw [if_pos (by assumption)] at hlen
        exact rightS_iff.2 ⟨h1, h2, h3, h4, hlen⟩
      · exact hs
theorem right_leave {s : St} (hs : rightS s = true) (i : Int) : rightS (leaveS s i) = true := by
  obtain ⟨h1, h2, h3, h4, h5⟩ := rightS_iff.1 hs
  unfold leaveS
  split
  · exact rightS_iff.2 ⟨by rw [List.length_set]; exact h1, h2, h3, h4, h5⟩
  · exact hs
theorem allJ_filter {L : List Tsk} {l : List Jb} (p : Jb → Bool) (h : allJ L l = true) : allJ L (l.filter p) = true := by
  obtain ⟨a1, a2, a3, a4⟩ := allJ_iff.1 h
  exact allJ_iff.2 ⟨a1, Nat.le_trans (List.length_filter_le _ _) a2, a3.filter _, fun j hj => a4 j (List.mem_filter.1 hj).1⟩
theorem right_tick {s : St} (hs : rightS s = true) (given : Bool) (now : Int) : rightS (tickS s given now) = true := by
  obtain ⟨h1, h2, h3, h4, h5⟩ := rightS_iff.1 hs
  obtain ⟨x, _, _, hlen⟩ := (tick_added (s := s) (given := given) (now := now) (K := fun _ => True) trivial trivial trivial (missed_added trivial _ _))
  have hlen := hlen h5
  have hj : allJ s.tasks (jobs2 s given now) = true := by
    unfold jobs2 jobs1
    cases given with
    | true => exact allJ_tick (allJ_filter _ h4)
    | false => exact allJ_filter _ h4
  unfold tickS at hlen ⊢
  cases he : (jobs2 s given now).isEmpty with
  | true =>
    rw [he, if_pos rfl] at hlen
    rw [if_pos rfl]
    exact rightS_iff.2 ⟨keepL_len _ _ _ h1, keepL_len _ _ _ h2, fun y hy => h3 y ((keepL_sub _ _).subset hy), allJ_iff.2 ⟨all_sub (allJ_iff.1 h4).1 (keepL_sub _ _), by simp, List.Pairwise.nil, fun j hj => by simp at hj⟩, hlen⟩
  | false =>
    rw [he, if_neg (by simp)] at hlen
    rw [if_neg (by simp)]
    exact rightS_iff.2 ⟨h1, h2, h3, hj, hlen⟩

end Pm
end Go.Proofs.Ytdjjdebnbaaihaa

/-
  Layer 17 (part): a state in memory; the block of a turn (a state, and its book).
-/
namespace Go.Proofs.Ytdjjdebnbaaihaa
open Go.RowKit Mm Tk
namespace Pm

/-- where a state's lists lie -/
structure Pl where
  A : Option Addr
  a : Nat
  B : Option Addr
  b : Nat
  C : Option Addr
  c : Nat
  D : Option Addr
  d : Nat
  E : Option Addr
  e : Nat
/-- a state reads so, within the blocks of S -/
structure StS (w : World) (S : Nat → Prop) (p : Pl) (s : St) : Prop where
  t : RdS w S p.A p.a s.tasks
  l : RdS w S p.B p.b s.leaves
  q : RdS w S p.C p.c s.lasts
  j : RdS w S p.D p.d s.jobs
  g : RdS w S p.E p.e s.log
theorem StS.keep {w w' : World} {S S' : Nat → Prop} {p : Pl} {s : St} (h : StS w S p s) (hk : ∀ b, b < w.heap.size → S b → S' b ∧ w'.heap[b]? = w.heap[b]?) : StS w' S' p s := ⟨h.t.keep hk, h.l.keep hk, h.q.keep hk, h.j.keep hk, h.g.keep hk⟩
theorem StS.below {w w' : World} {S : Nat → Prop} {p : Pl} {s : St} (h : StS w S p s) (b : Below w.heap.size w w') : StS w' S p s := h.keep fun k hk hs => ⟨hs, b.block k hk⟩
theorem StS.gb {w w' : World} {S : Nat → Prop} {p : Pl} {s : St} {row : Option Nat} (h : StS w S p s) (b : w.grownBy w' row) (hS : ∀ b, S b → some b ≠ row) : StS w' S p s := h.keep fun k hk hs => ⟨hs, b.block k hk (hS k hs)⟩
theorem StS.old {w : World} {S : Nat → Prop} {p : Pl} {s : St} (h : StS w S p s) : StS w (fun b => b < w.heap.size) p s := h.keep fun _ hk _ => ⟨hk, rfl⟩
/-- the sizes of a state -/
structure Sz (s : St) : Prop where
  t : s.tasks.length ≤ 100000
  ts : ∀ j, j < s.tasks.length → (at_ s.tasks j).2.2.2.length ≤ 100000
  l : s.leaves.length ≤ 100000
  q : s.lasts.length ≤ 100000
  j : s.jobs.length ≤ 100000
  g : s.log.length ≤ 100000
/-- a state as an argument -/
def SR (w : World) (p : Pl) (s : St) : Prop := Sz s ∧ StS w (fun _ => True) p s
theorem SR.below {w w' : World} {p : Pl} {s : St} (h : SR w p s) (b : Below w.heap.size w w') : SR w' p s := ⟨h.1, h.2.below b⟩
theorem SR.bw {w : World} {p : Pl} {s : St} (h : SR w p s) (q : BW w) : SR q.to p s := h.below q.low
theorem SR.tl {w : World} {p : Pl} {s : St} (h : SR w p s) : TL w p.A p.a s.tasks := ⟨by have := h.1.t; omega, fun j hj => by have := h.1.ts j hj; omega, h.2.t⟩
theorem SR.il {w : World} {p : Pl} {s : St} (h : SR w p s) : IL w p.C p.c s.lasts := ⟨by have := h.1.q; omega, h.2.q⟩
theorem SR.fl {w : World} {p : Pl} {s : St} (h : SR w p s) : FL w p.B p.b s.leaves := ⟨by have := h.1.l; omega, h.2.l⟩

/-- the cells of a state at block X -/
structure CS (w : World) (X : Nat) (p : Pl) (s : St) : Prop where
  c0 : w.cell? ⟨X, 0, none⟩ = some (.slice p.A s.tasks.length p.a)
  c1 : w.cell? ⟨X, 1, none⟩ = some (.slice p.B s.leaves.length p.b)
  c2 : w.cell? ⟨X, 2, none⟩ = some (.slice p.C s.lasts.length p.c)
  c3 : w.cell? ⟨X, 3, none⟩ = some (.slice p.D s.jobs.length p.d)
  c4 : w.cell? ⟨X, 4, none⟩ = some (.slice p.E s.log.length p.e)
theorem CS.below {w w' : World} {X : Nat} {p : Pl} {s : St} (h : CS w X p s) (b : Below w.heap.size w w') : CS w' X p s := ⟨cell_below b h.c0, cell_below b h.c1, cell_below b h.c2, cell_below b h.c3, cell_below b h.c4⟩
theorem cs_new (w : World) (p : Pl) (s : St) (X : Nat) (t : TypeId) (h : w.heap.size = X) : CS (w.alloc (.cells #[.slice p.A s.tasks.length p.a, .slice p.B s.leaves.length p.b, .slice p.C s.lasts.length p.c, .slice p.D s.jobs.length p.d, .slice p.E s.log.length p.e] t)) X p s := by
  subst h
  refine ⟨?_, ?_, ?_, ?_, ?_⟩ <;> simp

/-- the block of a turn: its state, whose log lies in the book; its lists within the blocks of S -/
structure TnS (w : World) (S : Nat → Prop) (X : Nat) (p : Pl) (s : St) (now : Int) : Prop where
  c0 : w.cell? ⟨X, 0, none⟩ = some (.slice p.A s.tasks.length p.a)
  c1 : w.cell? ⟨X, 1, none⟩ = some (.slice p.B s.leaves.length p.b)
  c2 : w.cell? ⟨X, 2, none⟩ = some (.slice p.C s.lasts.length p.c)
  c3 : w.cell? ⟨X, 3, none⟩ = some (.slice p.D s.jobs.length p.d)
  c4 : ∃ v, w.cell? ⟨X, 4, none⟩ = some v
  c5 : w.cell? ⟨X, 5, none⟩ = some (.slice p.E s.log.length p.e)
  c6 : w.cell? ⟨X, 6, none⟩ = some (.int .i64 now)
  fr : ∀ o, w.frozen? ⟨X, o, none⟩ = false
  nx : ¬ S X
  st : StS w S p s
/-- .. within whatever blocks but its own -/
abbrev Tn (w : World) (X : Nat) (p : Pl) (s : St) (now : Int) : Prop := TnS w (fun b => b ≠ X) X p s now
section
variable {w w' : World} {S S' : Nat → Prop} {X : Nat} {p : Pl} {s : St} {now : Int}
theorem TnS.lt (h : TnS w S X p s now) : X < w.heap.size := lt_of_cell h.c0
theorem TnS.keep (h : TnS w S X p s now) (hX : w'.heap[X]? = w.heap[X]?) (hn : ¬ S' X) (hk : ∀ b, b < w.heap.size → S b → S' b ∧ w'.heap[b]? = w.heap[b]?) : TnS w' S' X p s now :=
  have k : ∀ {o : Nat} {v : Value}, w.cell? ⟨X, o, none⟩ = some v → w'.cell? ⟨X, o, none⟩ = some v := fun {_ _} e => (World.cell?_of_block (w := w) hX).trans e
  ⟨k h.c0, k h.c1, k h.c2, k h.c3, h.c4.imp fun _ e => k e, k h.c5, k h.c6, fun o => (World.frozen?_of_block (w := w) (a := ⟨X, o, none⟩) hX).trans (h.fr o), hn, h.st.keep hk⟩
theorem TnS.below (h : TnS w S X p s now) (b : Below w.heap.size w w') : TnS w' S X p s now := h.keep (b.block X h.lt) h.nx fun k hk hs => ⟨hs, b.block k hk⟩
theorem TnS.sub (h : TnS w S X p s now) (hn : ¬ S' X) (hs : ∀ b, b < w.heap.size → S b → S' b) : TnS w S' X p s now := h.keep rfl hn fun b hb hS => ⟨hs b hb hS, rfl⟩
theorem TnS.tn (h : TnS w S X p s now) : Tn w X p s now := h.sub (fun e => e rfl) fun _ _ hS e => h.nx (e ▸ hS)
end
/-- those blocks, and all that are new since w -/
def Upw (S : Nat → Prop) (w : World) (b : Nat) : Prop := S b ∨ w.heap.size ≤ b
theorem TnS.nup {w w0 : World} {S : Nat → Prop} {X : Nat} {p : Pl} {s : St} {now : Int} (h : TnS w S X p s now) (hX : X < w0.heap.size) : ¬ Upw S w0 X := fun e => e.elim h.nx (fun e => by omega)
theorem TnS.up {w w0 : World} {S : Nat → Prop} {X : Nat} {p : Pl} {s : St} {now : Int} (h : TnS w S X p s now) (hX : X < w0.heap.size) : TnS w (Upw S w0) X p s now := h.sub (h.nup hX) fun _ _ hS => .inl hS
/-- from a later world to an earlier one -/
theorem TnS.since {w w0 w1 : World} {S : Nat → Prop} {X : Nat} {p : Pl} {s : St} {now : Int} (h : TnS w (Upw S w1) X p s now) (hS : ¬ S X) (hX : X < w0.heap.size) (hs : w0.heap.size ≤ w1.heap.size) : TnS w (Upw S w0) X p s now :=
  h.sub (fun e => e.elim hS (fun e => by omega)) fun _ _ hb => hb.elim .inl (fun hb => .inr (Nat.le_trans hs hb))
theorem TnS.upup {w w0 w1 : World} {S : Nat → Prop} {X : Nat} {p : Pl} {s : St} {now : Int} (h : TnS w (Upw (Upw S w0) w1) X p s now) (hS : ¬ S X) (hX : X < w0.heap.size) (hs : w0.heap.size ≤ w1.heap.size) : TnS w (Upw S w0) X p s now :=
  h.sub (fun e => e.elim hS (fun e => by omega)) fun _ _ hb => hb.elim id (fun hb => .inr (Nat.le_trans hs hb))
theorem gb_one (w : World) (X o : Nat) (v : Value) : w.grownBy (w.setCell ⟨X, o, none⟩ v) (some X) :=
  ⟨rfl, rfl, rfl, by simp [World.setCell], fun b _ hb => Below.heap_setCell w ⟨X, o, none⟩ v b (fun e => hb (by rw [e]))⟩
theorem cell_set {w : World} {X o o' : Nat} {v u : Value} (h : w.cell? ⟨X, o, none⟩ = some u) (hne : o ≠ o') : (w.setCell ⟨X, o', none⟩ v).cell? ⟨X, o, none⟩ = some u :=
  (World.cell?_setCell_other _ _ _ _ (fun e => hne (by injection e with _ e; exact e.symm))).trans h
theorem fr_set {w : World} {X o o' : Nat} {v : Value} (h : w.frozen? ⟨X, o, none⟩ = false) : (w.setCell ⟨X, o', none⟩ v).frozen? ⟨X, o, none⟩ = false := by rw [World.frozen?_setCell]; exact h
theorem rd_setS {α : Type} [Inhabited α] [Dat α] {w : World} {S : Nat → Prop} {X o : Nat} {v : Value} {A : Option Addr} {c : Nat} {l : List α} (h : RdS w S A c l) (hn : ¬ S X) : RdS (w.setCell ⟨X, o, none⟩ v) S A c l :=
  h.keep fun b _ hs => ⟨hs, Below.heap_setCell w ⟨X, o, none⟩ v b (fun e => hn (by have e : b = X := e; rwa [e] at hs))⟩
theorem rd_set {α : Type} [Inhabited α] [Dat α] {w : World} {X o : Nat} {v : Value} {A : Option Addr} {c : Nat} {l : List α} (h : RdS w (fun b => b ≠ X) A c l) : RdS (w.setCell ⟨X, o, none⟩ v) (fun b => b ≠ X) A c l := rd_setS h (fun e => e rfl)

end Pm
end Go.Proofs.Ytdjjdebnbaaihaa

/-
  Layer 17 (part): Right.
-/
namespace Go.Proofs.Ytdjjdebnbaaihaa
open Go.RowKit Mm Tk
namespace Pm

theorem rightS_parts (s : St) : rightS s = (allB s.tasks && (decide (s.leaves.length = s.tasks.length) && (Pc.lastsB s.tasks s.lasts && (allP s.tasks s.jobs && decide (s.log.length ≤ 2000))))) := by
  rw [Bool.eq_iff_iff, rightS_iff]
  simp only [Bool.and_eq_true, decide_eq_true_iff]
  constructor
  · rintro ⟨h1, h2, h3, h4, h5⟩
    have ha := (allJ_iff.1 h4).1
    exact ⟨ha, h1, Pc.lastsB_iff.2 ⟨ha, h2, fun i hi => h3 _ (at_mem hi)⟩, allJ_allP h4, h5⟩
  · rintro ⟨ha, h1, h2, h3, h4⟩
    obtain ⟨_, h5, h6⟩ := Pc.lastsB_iff.1 h2
    refine ⟨h1, h5, fun x hx => ?_, allP_allJ h3 (.inr ha), h4⟩
    obtain ⟨j, hj, rfl⟩ := mem_at hx
    exact h6 j hj

set_option maxRecDepth 20000 in
set_option maxHeartbeats 1600000 in
theorem right_s (p : Pl) (s : St) (v : Bool) (hv : rightS s = v) (w : World) (H : SR w p s) :
    Calls Try.prog 6 #[(.agg #[.slice p.A s.tasks.length p.a, .slice p.B s.leaves.length p.b, .slice p.C s.lasts.length p.c, .slice p.D s.jobs.length p.d, .slice p.E s.log.length p.e])] w fun e w' => e = .returned (.bool v) ∧ Below w.heap.size w w' := by
  have HA : Hid (∀ W, SR W p s → Calls Try.prog 14 #[.slice p.A s.tasks.length p.a] W fun e w' => e = .returned (.bool (allB s.tasks)) ∧ Below W.heap.size W w') := fun W h => all_any p.A p.a s.tasks W h.tl.1 h.tl.2.1 h.tl.2.2
  have HL : Hid (∀ W, SR W p s → Calls Try.prog 15 #[.slice p.A s.tasks.length p.a, .slice p.C s.lasts.length p.c] W fun e w' => e = .returned (.bool (Pc.lastsB s.tasks s.lasts)) ∧ Below W.heap.size W w') := fun W h => Pc.right_any p.A p.a s.tasks p.C p.c s.lasts W h.tl h.il
  have HP : Hid (∀ W, SR W p s → Calls Try.prog 16 #[.slice p.A s.tasks.length p.a, .slice p.D s.jobs.length p.d] W fun e w' => e = .returned (.bool (allP s.tasks s.jobs)) ∧ Below W.heap.size W w') := fun W h => allJobs_any p.A p.D p.a p.d s.tasks s.jobs W h.tl (by have := h.1.j; omega) h.2.j
  have hy := cs_new w p s _ 28 rfl
  have B0 := Lib.hid (below_one w (Obj.cells #[.slice p.A s.tasks.length p.a, .slice p.B s.leaves.length p.b, .slice p.C s.lasts.length p.c, .slice p.D s.jobs.length p.d, .slice p.E s.log.length p.e] 28))
  have HS := Lib.hid (H.below B0.out)
  rw [rightS_parts] at hv
  clear H
  go_enter Try.func6, Try.ntmps6
  go_wp2_with fail
  generalize w.alloc (Obj.cells #[.slice p.A s.tasks.length p.a, .slice p.B s.leaves.length p.b, .slice p.C s.lasts.length p.c, .slice p.D s.jobs.length p.d, .slice p.E s.log.length p.e] 28) = w0 at *
  have y0 := hy.c0
  have y0_1 := hy.c1
  have y0_2 := hy.c2
  have y0_3 := hy.c3
  have y0_4 := hy.c4
  clear hy
  generalize allB s.tasks = u1 at *
  generalize Pc.lastsB s.tasks s.lasts = u2 at *
  generalize allP s.tasks s.jobs = u3 at *
  cases u1 with
  | false =>
    rw [Bool.false_and] at hv
    subst hv
    go_wp2_with fail
    refine (HA.out _ HS.out).mono ?_
    rintro e w1 ⟨rfl, b1⟩
    replace y0 := cell_below b1 y0
    replace y0_1 := cell_below b1 y0_1
    replace y0_2 := cell_below b1 y0_2
    replace y0_3 := cell_below b1 y0_3
    replace y0_4 := cell_below b1 y0_4
    have B1 := Lib.hid (below_step B0.out b1)
    replace HS := Lib.hid (HS.out.below b1)
    clear b1
    go_wp2_with fail
    go_ret
    exact ⟨rfl, B1.out⟩
  | true =>
    rw [Bool.true_and] at hv
    by_cases h1 : s.leaves.length = s.tasks.length
    · have e1 : ((s.leaves.length : Int) == (s.tasks.length : Int)) = true := by simp [h1]
      rw [decide_eq_true h1, Bool.true_and] at hv
      clear h1
      cases u2 with
      | false =>
        rw [Bool.false_and] at hv
        subst hv
        go_wp2_with fail
        refine (HA.out _ HS.out).mono ?_
        rintro e w1 ⟨rfl, b1⟩
        replace y0 := cell_below b1 y0
        replace y0_1 := cell_below b1 y0_1
        replace y0_2 := cell_below b1 y0_2
        replace y0_3 := cell_below b1 y0_3
        replace y0_4 := cell_below b1 y0_4
        have B1 := Lib.hid (below_step B0.out b1)
        replace HS := Lib.hid (HS.out.below b1)
        clear b1
        go_wp2_with fail
        refine (HL.out _ HS.out).mono ?_
        rintro e w2 ⟨rfl, b2⟩
        replace y0 := cell_below b2 y0
        replace y0_1 := cell_below b2 y0_1
        replace y0_2 := cell_below b2 y0_2
        replace y0_3 := cell_below b2 y0_3
        replace y0_4 := cell_below b2 y0_4
        have B2 := Lib.hid (below_step B1.out b2)
        replace HS := Lib.hid (HS.out.below b2)
        clear b2
        go_wp2_with fail
        go_ret
        exact ⟨rfl, B2.out⟩
      | true =>
        rw [Bool.true_and] at hv
        cases u3 with
        | false =>
          rw [Bool.false_and] at hv
          subst hv
          go_wp2_with fail
          refine (HA.out _ HS.out).mono ?_
          rintro e w1 ⟨rfl, b1⟩
          replace y0 := cell_below b1 y0
          replace y0_1 := cell_below b1 y0_1
          replace y0_2 := cell_below b1 y0_2
          replace y0_3 := cell_below b1 y0_3
          replace y0_4 := cell_below b1 y0_4
          have B1 := Lib.hid (below_step B0.out b1)
          replace HS := Lib.hid (HS.out.below b1)
          clear b1
          go_wp2_with fail
          refine (HL.out _ HS.out).mono ?_
          rintro e w2 ⟨rfl, b2⟩
          replace y0 := cell_below b2 y0
          replace y0_1 := cell_below b2 y0_1
          replace y0_2 := cell_below b2 y0_2
          replace y0_3 := cell_below b2 y0_3
          replace y0_4 := cell_below b2 y0_4
          have B2 := Lib.hid (below_step B1.out b2)
          replace HS := Lib.hid (HS.out.below b2)
          clear b2
          go_wp2_with fail
          refine (HP.out _ HS.out).mono ?_
          rintro e w3 ⟨rfl, b3⟩
          replace y0 := cell_below b3 y0
          replace y0_1 := cell_below b3 y0_1
          replace y0_2 := cell_below b3 y0_2
          replace y0_3 := cell_below b3 y0_3
          replace y0_4 := cell_below b3 y0_4
          have B3 := Lib.hid (below_step B2.out b3)
          replace HS := Lib.hid (HS.out.below b3)
          clear b3
          go_wp2_with fail
          go_ret
          exact ⟨rfl, B3.out⟩
        | true =>
          rw [Bool.true_and] at hv
          by_cases h2 : s.log.length ≤ 2000
          · have e2 : decide ((s.log.length : Int) ≤ 2000) = true := decide_eq_true (by omega)
            rw [decide_eq_true h2] at hv
            clear h2
            subst hv
            go_wp2_with fail
            refine (HA.out _ HS.out).mono ?_
            rintro e w1 ⟨rfl, b1⟩
            replace y0 := cell_below b1 y0
            replace y0_1 := cell_below b1 y0_1
            replace y0_2 := cell_below b1 y0_2
            replace y0_3 := cell_below b1 y0_3
            replace y0_4 := cell_below b1 y0_4
            have B1 := Lib.hid (below_step B0.out b1)
            replace HS := Lib.hid (HS.out.below b1)
            clear b1
            go_wp2_with fail
            refine (HL.out _ HS.out).mono ?_
            rintro e w2 ⟨rfl, b2⟩
            replace y0 := cell_below b2 y0
            replace y0_1 := cell_below b2 y0_1
            replace y0_2 := cell_below b2 y0_2
            replace y0_3 := cell_below b2 y0_3
            replace y0_4 := cell_below b2 y0_4
            have B2 := Lib.hid (below_step B1.out b2)
            replace HS := Lib.hid (HS.out.below b2)
            clear b2
            go_wp2_with fail
            refine (HP.out _ HS.out).mono ?_
            rintro e w3 ⟨rfl, b3⟩
            replace y0 := cell_below b3 y0
            replace y0_1 := cell_below b3 y0_1
            replace y0_2 := cell_below b3 y0_2
            replace y0_3 := cell_below b3 y0_3
            replace y0_4 := cell_below b3 y0_4
            have B3 := Lib.hid (below_step B2.out b3)
            replace HS := Lib.hid (HS.out.below b3)
            clear b3
            go_wp2_with fail
            go_ret
            exact ⟨rfl, B3.out⟩
          · have e2 : decide ((s.log.length : Int) ≤ 2000) = false := decide_eq_false (by omega)
            rw [decide_eq_false h2] at hv
            clear h2
            subst hv
            go_wp2_with fail
            refine (HA.out _ HS.out).mono ?_
            rintro e w1 ⟨rfl, b1⟩
            replace y0 := cell_below b1 y0
            replace y0_1 := cell_below b1 y0_1
            replace y0_2 := cell_below b1 y0_2
            replace y0_3 := cell_below b1 y0_3
            replace y0_4 := cell_below b1 y0_4
            have B1 := Lib.hid (below_step B0.out b1)
            replace HS := Lib.hid (HS.out.below b1)
            clear b1
            go_wp2_with fail
            refine (HL.out _ HS.out).mono ?_
            rintro e w2 ⟨rfl, b2⟩
            replace y0 := cell_below b2 y0
            replace y0_1 := cell_below b2 y0_1
            replace y0_2 := cell_below b2 y0_2
            replace y0_3 := cell_below b2 y0_3
            replace y0_4 := cell_below b2 y0_4
            have B2 := Lib.hid (below_step B1.out b2)
            replace HS := Lib.hid (HS.out.below b2)
            clear b2
            go_wp2_with fail
            refine (HP.out _ HS.out).mono ?_
            rintro e w3 ⟨rfl, b3⟩
            replace y0 := cell_below b3 y0
            replace y0_1 := cell_below b3 y0_1
            replace y0_2 := cell_below b3 y0_2
            replace y0_3 := cell_below b3 y0_3
            replace y0_4 := cell_below b3 y0_4
            have B3 := Lib.hid (below_step B2.out b3)
            replace HS := Lib.hid (HS.out.below b3)
            clear b3
            go_wp2_with fail
            go_ret
            exact ⟨rfl, B3.out⟩
    · have e1 : ((s.leaves.length : Int) == (s.tasks.length : Int)) = false := beq_eq_false_iff_ne.2 (by omega)
      rw [decide_eq_false h1, Bool.false_and] at hv
      clear h1
      subst hv
      go_wp2_with fail
      refine (HA.out _ HS.out).mono ?_
      rintro e w1 ⟨rfl, b1⟩
      replace y0 := cell_below b1 y0
      replace y0_1 := cell_below b1 y0_1
      replace y0_2 := cell_below b1 y0_2
      replace y0_3 := cell_below b1 y0_3
      replace y0_4 := cell_below b1 y0_4
      have B1 := Lib.hid (below_step B0.out b1)
      replace HS := Lib.hid (HS.out.below b1)
      clear b1
      go_wp2_with fail
      go_ret
      exact ⟨rfl, B1.out⟩

/-- a state written into block Y -/
def putS (w : World) (Y : Nat) (p : Pl) (s : St) : World :=
  ((((w.setCell ⟨Y, 0, none⟩ (.slice p.A s.tasks.length p.a)).setCell ⟨Y, 1, none⟩ (.slice p.B s.leaves.length p.b)).setCell ⟨Y, 2, none⟩ (.slice p.C s.lasts.length p.c)).setCell ⟨Y, 3, none⟩ (.slice p.D s.jobs.length p.d)).setCell ⟨Y, 4, none⟩ (.slice p.E s.log.length p.e)
theorem cell_same {w : World} {X o : Nat} {u : Value} (v : Value) (h : w.cell? ⟨X, o, none⟩ = some u) : (w.setCell ⟨X, o, none⟩ v).cell? ⟨X, o, none⟩ = some v := World.cell?_setCell_same _ _ _ h
theorem cs_put {w : World} {Y : Nat} {q : Pl} {r : St} (h : CS w Y q r) (p : Pl) (s : St) : CS (putS w Y p s) Y p s := by
  unfold putS
  refine ⟨?_, ?_, ?_, ?_, ?_⟩
  · exact cell_set (cell_set (cell_set (cell_set (cell_same _ h.c0) (by omega)) (by omega)) (by omega)) (by omega)
  · exact cell_set (cell_set (cell_set (cell_same _ (cell_set h.c1 (by omega))) (by omega)) (by omega)) (by omega)
  · exact cell_set (cell_set (cell_same _ (cell_set (cell_set h.c2 (by omega)) (by omega))) (by omega)) (by omega)
  · exact cell_set (cell_same _ (cell_set (cell_set (cell_set h.c3 (by omega)) (by omega)) (by omega))) (by omega)
  · exact cell_same _ (cell_set (cell_set (cell_set (cell_set h.c4 (by omega)) (by omega)) (by omega)) (by omega))
/-- a cell written in a block that is new, or in the one that may turn -/
theorem gb_far {w a : World} {row : Option Nat} (h : w.grownBy a row) (Y o : Nat) (v : Value) (hY : w.heap.size ≤ Y ∨ some Y = row) : w.grownBy (a.setCell ⟨Y, o, none⟩ v) row :=
  ⟨h.os, h.tape, h.output, by rw [show (a.setCell ⟨Y, o, none⟩ v).heap.size = a.heap.size from by simp [World.setCell]]; exact h.size, fun i hi hne => (Below.heap_setCell _ _ _ _ (fun e => by
    rcases hY with hY | hY
    · simp only at e; omega
    · exact hne (by rw [← hY, e]))).trans (h.block i hi hne)⟩
theorem gb_putS {w a : World} {row : Option Nat} (h : w.grownBy a row) (Y : Nat) (p : Pl) (s : St) (hY : w.heap.size ≤ Y ∨ some Y = row) : w.grownBy (putS a Y p s) row :=
  gb_far (gb_far (gb_far (gb_far (gb_far h _ _ _ hY) _ _ _ hY) _ _ _ hY) _ _ _ hY) _ _ _ hY
def noPl : Pl := ⟨none, 0, none, 0, none, 0, none, 0, none, 0⟩
def noSt : St := ⟨[], [], [], [], []⟩
end Pm
end Go.Proofs.Ytdjjdebnbaaihaa

/-
  Layer 17 (part): what lies ready when a call has begun; a state and an error as the answer.
-/
namespace Go.Proofs.Ytdjjdebnbaaihaa
open Go.RowKit Mm Tk
namespace Pm

/-- a state and an error as the answer -/
def StOf (S : Nat → Prop) (r : St) (v : Int) (w : World) (e : Ending) (w' : World) : Prop :=
  ∃ p', e = .returned (.tuple #[(.agg #[.slice (p').A r.tasks.length (p').a, .slice (p').B r.leaves.length (p').b, .slice (p').C r.lasts.length (p').c, .slice (p').D r.jobs.length (p').d, .slice (p').E r.log.length (p').e]), .int .i64 v]) ∧ (Sz r ∧ StS w' (Upw S w) p' r) ∧ Below w.heap.size w w'
/-- what lies ready when a call of part has begun: the state in block Y, the result's block Z -/
structure Pre (w0 : World) (Y Z : Nat) (p : Pl) (s : St) : Prop where
  y : CS w0 Y p s
  z : CS w0 Z noPl noSt
  f : ∀ o, w0.frozen? ⟨Z, o, none⟩ = false
  fy : ∀ o, w0.frozen? ⟨Y, o, none⟩ = false
theorem Pre.below {w0 w1 : World} {Y Z : Nat} {p : Pl} {s : St} (h : Pre w0 Y Z p s) (b : Below w0.heap.size w0 w1) : Pre w1 Y Z p s :=
  ⟨h.y.below b, h.z.below b, fun o => (World.frozen?_of_block (w := w0) (a := ⟨Z, o, none⟩) (b.block Z (lt_of_cell h.z.c0))).trans (h.f o), fun o => (World.frozen?_of_block (w := w0) (a := ⟨Y, o, none⟩) (b.block Y (lt_of_cell h.y.c0))).trans (h.fy o)⟩
/-- the result's block alone -/
structure Res (w : World) (Z : Nat) : Prop where
  z : CS w Z noPl noSt
  f : ∀ o, w.frozen? ⟨Z, o, none⟩ = false
theorem Pre.res {w0 : World} {Y Z : Nat} {p : Pl} {s : St} (h : Pre w0 Y Z p s) : Res w0 Z := ⟨h.z, h.f⟩
theorem Res.lt {w : World} {Z : Nat} (h : Res w Z) : Z < w.heap.size := lt_of_cell h.z.c0
theorem Res.gb {w w' : World} {Z : Nat} {row : Option Nat} (h : Res w Z) (g : w.grownBy w' row) (hne : some Z ≠ row) : Res w' Z :=
  ⟨⟨gb_cell g h.z.c0 hne, gb_cell g h.z.c1 hne, gb_cell g h.z.c2 hne, gb_cell g h.z.c3 hne, gb_cell g h.z.c4 hne⟩, fun o => (World.frozen?_of_block (w := w) (a := ⟨Z, o, none⟩) (g.block Z h.lt hne)).trans (h.f o)⟩
theorem Res.below {w w' : World} {Z : Nat} (h : Res w Z) (b : Below w.heap.size w w') : Res w' Z := h.gb (gb_below b (Nat.le_refl _) none) (by simp)
theorem pre_new (w : World) (p : Pl) (s : St) : Pre ((w.alloc (.cells #[.slice p.A s.tasks.length p.a, .slice p.B s.leaves.length p.b, .slice p.C s.lasts.length p.c, .slice p.D s.jobs.length p.d, .slice p.E s.log.length p.e] 28)).alloc (.cells #[.slice none 0 0, .slice none 0 0, .slice none 0 0, .slice none 0 0, .slice none 0 0] 28)) w.heap.size (w.heap.size + 1) p s :=
  ⟨(cs_new w p s _ _ rfl).below (below_one _ _), cs_new (w.alloc (.cells #[.slice p.A s.tasks.length p.a, .slice p.B s.leaves.length p.b, .slice p.C s.lasts.length p.c, .slice p.D s.jobs.length p.d, .slice p.E s.log.length p.e] 28)) noPl noSt (w.heap.size + 1) _ (by simp), fun o => by simp, fun o => (World.frozen?_of_block (w := w.alloc (.cells #[.slice p.A s.tasks.length p.a, .slice p.B s.leaves.length p.b, .slice p.C s.lasts.length p.c, .slice p.D s.jobs.length p.d, .slice p.E s.log.length p.e] 28)) (a := ⟨w.heap.size, o, none⟩) ((below_one (w.alloc (.cells #[.slice p.A s.tasks.length p.a, .slice p.B s.leaves.length p.b, .slice p.C s.lasts.length p.c, .slice p.D s.jobs.length p.d, .slice p.E s.log.length p.e] 28)) _).block w.heap.size (by simp))).trans (by simp)⟩
/-- the state written into the result's block -/
theorem done_at {w wx : World} {S : Nat → Prop} {Z : Nat} {p q : Pl} {r r0 : St} {v : Int} (hz : CS wx Z q r0) (hr : StS wx (fun b => b ≠ Z ∧ Upw S w b) p r) (hs : Sz r) (hZ : w.heap.size ≤ Z) (hb : Below w.heap.size w wx) :
    StOf S r v w (.returned (.tuple #[(.agg #[.slice p.A r.tasks.length p.a, .slice p.B r.leaves.length p.b, .slice p.C r.lasts.length p.c, .slice p.D r.jobs.length p.d, .slice p.E r.log.length p.e]), .int .i64 v])) (putS wx Z p r) ∧ CS (putS wx Z p r) Z p r := by
  have hg := gb_putS (gb_refl wx (some Z)) Z p r (.inr rfl)
  exact ⟨⟨p, rfl, ⟨hs, (hr.gb hg (fun b hb e => hb.1 (by injection e))).keep fun b _ hb => ⟨hb.2, rfl⟩⟩, below_of_gb hb hg hb.size (fun k hk => by injection hk with hk; omega)⟩, cs_put hz p r⟩

end Pm
end Go.Proofs.Ytdjjdebnbaaihaa

/-
  Layer 17 (part): with.
-/
namespace Go.Proofs.Ytdjjdebnbaaihaa
open Go.RowKit Mm Tk
namespace Pm

/-- a state that is answered alone -/
def WithOf (S : Nat → Prop) (r : St) (w : World) (e : Ending) (w' : World) : Prop :=
  ∃ p', e = .returned (.agg #[.slice (p').A r.tasks.length (p').a, .slice (p').B r.leaves.length (p').b, .slice (p').C r.lasts.length (p').c, .slice (p').D r.jobs.length (p').d, .slice (p').E r.log.length (p').e]) ∧ StS w' (Upw S w) p' r ∧ Below w.heap.size w w'
/-- a state in block Y, that may be written -/
structure Ys (w : World) (Y : Nat) (p : Pl) (s : St) : Prop where
  c : CS w Y p s
  f : ∀ o, w.frozen? ⟨Y, o, none⟩ = false
theorem Ys.lt {w : World} {Y : Nat} {p : Pl} {s : St} (h : Ys w Y p s) : Y < w.heap.size := lt_of_cell h.c.c0
theorem Ys.gb {w w' : World} {Y : Nat} {p : Pl} {s : St} {row : Option Nat} (h : Ys w Y p s) (g : w.grownBy w' row) (hne : some Y ≠ row) : Ys w' Y p s :=
  ⟨⟨gb_cell g h.c.c0 hne, gb_cell g h.c.c1 hne, gb_cell g h.c.c2 hne, gb_cell g h.c.c3 hne, gb_cell g h.c.c4 hne⟩, fun o => (World.frozen?_of_block (w := w) (a := ⟨Y, o, none⟩) (g.block Y h.lt hne)).trans (h.f o)⟩
theorem Ys.below {w w' : World} {Y : Nat} {p : Pl} {s : St} (h : Ys w Y p s) (b : Below w.heap.size w w') : Ys w' Y p s := h.gb (gb_below b (Nat.le_refl _) none) (by simp)
section
variable {w : World} {Y : Nat} {p : Pl} {s r : St} {D : Option Addr} {d n : Nat}
theorem Ys.put0 (h : Ys w Y p s) {J : List Tsk} (hn : J.length = n) (e : { s with tasks := J } = r) : Ys (w.setCell ⟨Y, 0, none⟩ (.slice D n d)) Y { p with A := D, a := d } r := by
  subst e hn
  exact ⟨⟨cell_same _ h.c.c0, cell_set h.c.c1 (by omega), cell_set h.c.c2 (by omega), cell_set h.c.c3 (by omega), cell_set h.c.c4 (by omega)⟩, fun o => fr_set (h.f o)⟩
theorem Ys.put1 (h : Ys w Y p s) {J : List Bool} (hn : J.length = n) (e : { s with leaves := J } = r) : Ys (w.setCell ⟨Y, 1, none⟩ (.slice D n d)) Y { p with B := D, b := d } r := by
  subst e hn
  exact ⟨⟨cell_set h.c.c0 (by omega), cell_same _ h.c.c1, cell_set h.c.c2 (by omega), cell_set h.c.c3 (by omega), cell_set h.c.c4 (by omega)⟩, fun o => fr_set (h.f o)⟩
theorem Ys.put2 (h : Ys w Y p s) {J : List Int} (hn : J.length = n) (e : { s with lasts := J } = r) : Ys (w.setCell ⟨Y, 2, none⟩ (.slice D n d)) Y { p with C := D, c := d } r := by
  subst e hn
  exact ⟨⟨cell_set h.c.c0 (by omega), cell_set h.c.c1 (by omega), cell_same _ h.c.c2, cell_set h.c.c3 (by omega), cell_set h.c.c4 (by omega)⟩, fun o => fr_set (h.f o)⟩
theorem StS.set {S : Nat → Prop} {X o : Nat} {v : Value} (h : StS w S p s) (hn : ¬ S X) : StS (w.setCell ⟨X, o, none⟩ v) S p s := ⟨rd_setS h.t hn, rd_setS h.l hn, rd_setS h.q hn, rd_setS h.j hn, rd_setS h.g hn⟩
end

theorem fr_new (w : World) (cs : Array Value) (t : TypeId) (Y : Nat) (h : w.heap.size = Y) (o : Nat) : (w.alloc (.cells cs t)).frozen? ⟨Y, o, none⟩ = false := by
  subst h
  simp
theorem fr_below {w w' : World} {Y o : Nat} (b : Below w.heap.size w w') (h : Y < w.heap.size) (f : w.frozen? ⟨Y, o, none⟩ = false) : w'.frozen? ⟨Y, o, none⟩ = false := (World.frozen?_of_block (w := w) (a := ⟨Y, o, none⟩) (b.block Y h)).trans f
set_option maxRecDepth 20000 in
set_option maxHeartbeats 3200000 in
theorem with_s (S : Nat → Prop) (p : Pl) (s r : St) (x : Tsk) (B : Option Addr) (k d : Nat) (hk : x.2.2.2.length = k) (hkb : k ≤ 100000) (hz : Sz s) (fx : Fit x.1 ∧ Fit x.2.1 ∧ Fit x.2.2.1)
    (hr : { s with tasks := s.tasks ++ [x], leaves := s.leaves ++ [false], lasts := s.lasts ++ [-1] } = r) (w : World) (hS : ∀ b, S b → b < w.heap.size) (H : StS w S p s) (hx : Rd w B d x.2.2.2) :
    Calls Try.prog 54 #[(.agg #[.slice p.A s.tasks.length p.a, .slice p.B s.leaves.length p.b, .slice p.C s.lasts.length p.c, .slice p.D s.jobs.length p.d, .slice p.E s.log.length p.e]), .agg #[.int .i64 x.1, .int .i64 x.2.1, .int .i64 x.2.2.1, .slice B k d]] w (WithOf S r w) := by
  have B0 := Lib.hid (below_three w (Obj.cells #[.slice p.A s.tasks.length p.a, .slice p.B s.leaves.length p.b, .slice p.C s.lasts.length p.c, .slice p.D s.jobs.length p.d, .slice p.E s.log.length p.e] 28) (Obj.cells #[.int .i64 x.1, .int .i64 x.2.1, .int .i64 x.2.2.1, .slice B k d] 33) (Obj.cells #[.slice none 0 0, .slice none 0 0, .slice none 0 0, .slice none 0 0, .slice none 0 0] 28))
  have hy : Ys (w.alloc (Obj.cells #[.slice p.A s.tasks.length p.a, .slice p.B s.leaves.length p.b, .slice p.C s.lasts.length p.c, .slice p.D s.jobs.length p.d, .slice p.E s.log.length p.e] 28)) w.heap.size p s := ⟨cs_new w p s _ _ rfl, fun o => by simp⟩
  have HY := Lib.hid (hy.below (below_two _ (Obj.cells #[.int .i64 x.1, .int .i64 x.2.1, .int .i64 x.2.2.1, .slice B k d] 33) (Obj.cells #[.slice none 0 0, .slice none 0 0, .slice none 0 0, .slice none 0 0, .slice none 0 0] 28)))
  have HBX := Lib.hid ((box_at (w.alloc (Obj.cells #[.slice p.A s.tasks.length p.a, .slice p.B s.leaves.length p.b, .slice p.C s.lasts.length p.c, .slice p.D s.jobs.length p.d, .slice p.E s.log.length p.e] 28)) x.1 x.2.1 x.2.2.1 B k d (w.heap.size + 1) (by simp)).below (below_one _ (Obj.cells #[.slice none 0 0, .slice none 0 0, .slice none 0 0, .slice none 0 0, .slice none 0 0] 28)))
  have HBF : Hid (∀ o, (((w.alloc (Obj.cells #[.slice p.A s.tasks.length p.a, .slice p.B s.leaves.length p.b, .slice p.C s.lasts.length p.c, .slice p.D s.jobs.length p.d, .slice p.E s.log.length p.e] 28)).alloc (Obj.cells #[.int .i64 x.1, .int .i64 x.2.1, .int .i64 x.2.2.1, .slice B k d] 33)).alloc (Obj.cells #[.slice none 0 0, .slice none 0 0, .slice none 0 0, .slice none 0 0, .slice none 0 0] 28)).frozen? ⟨w.heap.size + 1, o, none⟩ = false) := fun o => fr_below (below_one _ _) (by simp) (fr_new (w.alloc (Obj.cells #[.slice p.A s.tasks.length p.a, .slice p.B s.leaves.length p.b, .slice p.C s.lasts.length p.c, .slice p.D s.jobs.length p.d, .slice p.E s.log.length p.e] 28)) _ _ _ (by simp) o)
  have HZ0 : Hid (Res (((w.alloc (Obj.cells #[.slice p.A s.tasks.length p.a, .slice p.B s.leaves.length p.b, .slice p.C s.lasts.length p.c, .slice p.D s.jobs.length p.d, .slice p.E s.log.length p.e] 28)).alloc (Obj.cells #[.int .i64 x.1, .int .i64 x.2.1, .int .i64 x.2.2.1, .slice B k d] 33)).alloc (Obj.cells #[.slice none 0 0, .slice none 0 0, .slice none 0 0, .slice none 0 0, .slice none 0 0] 28)) (w.heap.size + 2)) := ⟨cs_new _ noPl noSt _ _ (by simp), fun o => fr_new _ _ _ _ (by simp) o⟩
  have HS0 := Lib.hid (H.below B0.out)
  have HX0 := Lib.hid (hx.below B0.out)
  have HR := Lib.hid hr
  have HSZ := Lib.hid hz
  have HF := Lib.hid fx
  have HSS := Lib.hid hS
  have HK := Lib.hid hk
  have HKB := Lib.hid hkb
  clear hy H hx hr hz fx hS hk hkb
  obtain ⟨r1, hr1⟩ : ∃ r1, { s with tasks := s.tasks ++ [x] } = r1 := ⟨_, rfl⟩
  obtain ⟨r2, hr2⟩ : ∃ r2, { r1 with leaves := s.leaves ++ [false] } = r2 := ⟨_, rfl⟩
  obtain ⟨r3, hr3⟩ : ∃ r3, { r2 with lasts := s.lasts ++ [-1] } = r3 := ⟨_, rfl⟩
  have hr4 : r3 = r := by rw [← HR.out, ← hr3, ← hr2, ← hr1]
  have HR1S := Lib.hid hr1
  have HR2S := Lib.hid hr2
  have HR3S := Lib.hid hr3
  have HR4S := Lib.hid hr4
  clear hr1 hr2 hr3 hr4
  go_enter Try.func54, Try.ntmps54
  go_upto_region 1 with fail
  generalize ((w.alloc (Obj.cells #[.slice p.A s.tasks.length p.a, .slice p.B s.leaves.length p.b, .slice p.C s.lasts.length p.c, .slice p.D s.jobs.length p.d, .slice p.E s.log.length p.e] 28)).alloc (Obj.cells #[.int .i64 x.1, .int .i64 x.2.1, .int .i64 x.2.2.1, .slice B k d] 33)).alloc (Obj.cells #[.slice none 0 0, .slice none 0 0, .slice none 0 0, .slice none 0 0, .slice none 0 0] 28) = w0 at *
  obtain ⟨Y, hY⟩ : ∃ Y, w.heap.size = Y := ⟨_, rfl⟩
  obtain ⟨T, hT⟩ : ∃ T, w.heap.size + 1 = T := ⟨_, rfl⟩
  obtain ⟨Z, hZ⟩ : ∃ Z, w.heap.size + 1 + 1 = Z := ⟨_, rfl⟩
  have HO : Hid (w.heap.size ≤ Y ∧ w.heap.size ≤ T ∧ w.heap.size ≤ Z ∧ Y ≠ T ∧ Y ≠ Z ∧ T ≠ Z) := by show _ ∧ _; omega
  have HZ0' : Hid (Res w0 Z) := by show Res w0 Z; rw [← hZ]; exact HZ0.out
  rw [hY] at HY
  rw [hT] at HBX HBF
  clear HZ0
  rw [hZ, hT]
  try rw [hY]
  clear hY hT hZ
  have HLT : Hid (Y < w0.heap.size ∧ T < w0.heap.size ∧ Z < w0.heap.size) := ⟨HY.out.lt, lt_of_cell HBX.out.1, HZ0'.out.lt⟩
  have HNY : Hid (¬ Upw S w0 Y) := fun h => h.elim (fun h => by have := HSS.out _ h; have := HO.out.1; omega) (fun h => by have := HLT.out.1; omega)
  have HNT : Hid (¬ Upw S w0 T) := fun h => h.elim (fun h => by have := HSS.out _ h; have := HO.out.2.1; omega) (fun h => by have := HLT.out.2.1; omega)
  have nyt : Y ≠ T := HO.out.2.2.2.1
  have nty : T ≠ Y := fun e => nyt e.symm
  have HCL := Lib.hid (fun W h => clone_sec B d x.2.2.2 k HK.out (by have := HKB.out; omega) W h)
  obtain ⟨t0, t1, t2, t3⟩ := HBX.out
  have ft := HBF.out 3
  go_wp2_with fail
  refine (HCL.out _ HX0.out).mono ?_
  rintro e w1 ⟨A1, c1, rfl, k1, k2⟩
  have O1 := Lib.hid k1
  have B1 := Lib.hid k2
  have HY1 := Lib.hid (HY.out.below k2)
  have HZ1 := Lib.hid (HZ0'.out.below k2)
  have HS1 := Lib.hid ((HS0.out.below k2).keep (S' := Upw S w0) (w' := w1) fun b _ hb => ⟨.inl hb, rfl⟩)
  have HR1 : Hid (RdS w1 (Upw S w0) A1 c1 x.2.2.2) := O1.out.rdS (fun _ h => h.elim) fun g hg => .inr (OwS.new O1.out g hg).1
  replace t0 := (cell_below k2) t0
  replace t1 := (cell_below k2) t1
  replace t2 := (cell_below k2) t2
  replace t3 := (cell_below k2) t3
  replace ft := fr_below k2 HLT.out.2.1 ft
  clear k1 k2 HBX
  go_upto_region 2 with fail
  have G1 := Lib.hid (gb_one w1 T 3 (.slice A1 k c1))
  replace HY1 := Lib.hid (HY1.out.gb G1.out (fun e => nyt (by injection e)))
  replace HZ1 := Lib.hid (HZ1.out.gb G1.out (fun e => HO.out.2.2.2.2.2 (by injection e with e; exact e.symm)))
  replace HS1 := Lib.hid (HS1.out.set (X := T) (o := 3) (v := .slice A1 k c1) HNT.out)
  replace HR1 := Lib.hid (rd_setS (X := T) (o := 3) (v := .slice A1 k c1) HR1.out HNT.out)
  have s0 := cell_set (v := .slice A1 k c1) t0 (show 0 ≠ 3 by decide)
  have s1 := cell_set (v := .slice A1 k c1) t1 (show 1 ≠ 3 by decide)
  have s2 := cell_set (v := .slice A1 k c1) t2 (show 2 ≠ 3 by decide)
  have s3 := cell_same (.slice A1 k c1) t3
  have HB1 : Hid (Below w.heap.size w (w1.setCell ⟨T, 3, none⟩ (.slice A1 k c1))) := below_of_gb (below_step B0.out B1.out) G1.out (below_step B0.out B1.out).size (fun q hq => by injection hq with hq; have := HO.out.2.1; omega)
  have HSI1 : Hid (w0.heap.size ≤ (w1.setCell ⟨T, 3, none⟩ (.slice A1 k c1)).heap.size) := Nat.le_trans B1.out.size G1.out.size
  clear t0 t1 t2 t3 ft G1 O1
  generalize w1.setCell ⟨T, 3, none⟩ (.slice A1 k c1) = w2 at *
  have y0 := HY1.out.c.c0
  have y0_1 := HY1.out.c.c1
  have y0_2 := HY1.out.c.c2
  have y0_3 := HY1.out.c.c3
  have y0_4 := HY1.out.c.c4
  have g0 := HY1.out.f 0
  go_wp2_with fail
  refine (appended_task (S := Upw S w0) p.A p.a s.tasks _ rfl (by have := HSZ.out.t; omega) x _ A1 k c1 HK.out ⟨HF.out.1, HF.out.2.1, HF.out.2.2, HR1.out⟩ HS1.out.t).mono ?_
  rintro e w3 ⟨A3, c3, rfl, k1, k2⟩
  have HR3 : Hid (RdS w3 (Upw S w0) A3 c3 (s.tasks ++ [x])) := k1.rdS (fun _ h => h) fun g hg => .inr (Nat.le_trans HSI1.out (OwS.new k1 g hg).1)
  have HS3 := Lib.hid (HS1.out.below k2)
  have HY3 := Lib.hid (HY1.out.below k2)
  have HZ3 := Lib.hid (HZ1.out.below k2)
  have HB3 := Lib.hid (below_step HB1.out k2)
  have HSI3 : Hid (w0.heap.size ≤ w3.heap.size) := Nat.le_trans HSI1.out k2.size
  clear y0 y0_1 y0_2 y0_3 y0_4
  clear g0 k1 k2 s0 s1 s2 s3 HS1 HY1 HZ1 HB1 HR1 HSI1
  have y0 := HY3.out.c.c0
  have y0_1 := HY3.out.c.c1
  have y0_2 := HY3.out.c.c2
  have y0_3 := HY3.out.c.c3
  have y0_4 := HY3.out.c.c4
  have g0 := HY3.out.f 0
  go_upto_region 3 with fail
  have HY4 := Lib.hid (HY3.out.put0 (D := A3) (d := c3) (n := s.tasks.length + 1) (by rw [List.length_append]; rfl) HR1S.out)
  have HS4 := Lib.hid (HS3.out.set (X := Y) (o := 0) (v := .slice A3 (s.tasks.length + 1) c3) HNY.out)
  have HR4 := Lib.hid (rd_setS (X := Y) (o := 0) (v := .slice A3 (s.tasks.length + 1) c3) HR3.out HNY.out)
  have HZ4 := Lib.hid (HZ3.out.gb (gb_one w3 Y 0 (.slice A3 (s.tasks.length + 1) c3)) (fun e => HO.out.2.2.2.2.1 (by injection e with e; exact e.symm)))
  have HB4 : Hid (Below w.heap.size w (w3.setCell ⟨Y, 0, none⟩ (.slice A3 (s.tasks.length + 1) c3))) := below_of_gb HB3.out (gb_one w3 Y 0 (.slice A3 (s.tasks.length + 1) c3)) HB3.out.size (fun q hq => by injection hq with hq; have := HO.out.1; omega)
  have HSI4 : Hid (w0.heap.size ≤ (w3.setCell ⟨Y, 0, none⟩ (.slice A3 (s.tasks.length + 1) c3)).heap.size) := Nat.le_trans HSI3.out (gb_one w3 Y 0 (.slice A3 (s.tasks.length + 1) c3)).size
  clear y0 y0_1 y0_2 y0_3 y0_4
  clear g0 HR3 HS3 HY3 HZ3 HB3 HSI3
  generalize w3.setCell ⟨Y, 0, none⟩ (.slice A3 (s.tasks.length + 1) c3) = w4 at *
  have l1 : r1.leaves = s.leaves := by rw [← HR1S.out]
  have y1 : w4.cell? ⟨Y, 1, none⟩ = some (.slice p.B s.leaves.length p.b) := by have := HY4.out.c.c1; rw [l1] at this; exact this
  have g1 := HY4.out.f 1
  go_wp2_with fail
  refine (appended_bool p.B p.b s.leaves _ rfl (by have := HSZ.out.l; omega) false trivial _ HS4.out.l.rd).mono ?_
  rintro e w5 ⟨A5, c5, rfl, k1, k2⟩
  have HR5 : Hid (RdS w5 (Upw S w0) A5 c5 (s.leaves ++ [false])) := k1.rdS (fun _ h => h.elim) fun g hg => .inr (Nat.le_trans HSI4.out (OwS.new k1 g hg).1)
  have HT5 := Lib.hid (HR4.out.below k2)
  have HS5 := Lib.hid (HS4.out.below k2)
  have HY5 := Lib.hid (HY4.out.below k2)
  have HZ5 := Lib.hid (HZ4.out.below k2)
  have HB5 := Lib.hid (below_step HB4.out k2)
  have HSI5 : Hid (w0.heap.size ≤ w5.heap.size) := Nat.le_trans HSI4.out k2.size
  replace y1 := cell_below k2 y1
  clear g1 k1 k2 HS4 HY4 HZ4 HB4 HR4 HSI4
  have g1 := HY5.out.f 1
  go_upto_region 4 with fail
  have HY6 := Lib.hid (HY5.out.put1 (D := A5) (d := c5) (n := s.leaves.length + 1) (J := s.leaves ++ [false]) (by rw [List.length_append]; rfl) HR2S.out)
  have HS6 := Lib.hid (HS5.out.set (X := Y) (o := 1) (v := .slice A5 (s.leaves.length + 1) c5) HNY.out)
  have HR6 := Lib.hid (rd_setS (X := Y) (o := 1) (v := .slice A5 (s.leaves.length + 1) c5) HR5.out HNY.out)
  have HT6 := Lib.hid (rd_setS (X := Y) (o := 1) (v := .slice A5 (s.leaves.length + 1) c5) HT5.out HNY.out)
  have HZ6 := Lib.hid (HZ5.out.gb (gb_one w5 Y 1 (.slice A5 (s.leaves.length + 1) c5)) (fun e => HO.out.2.2.2.2.1 (by injection e with e; exact e.symm)))
  have HB6 : Hid (Below w.heap.size w (w5.setCell ⟨Y, 1, none⟩ (.slice A5 (s.leaves.length + 1) c5))) := below_of_gb HB5.out (gb_one w5 Y 1 (.slice A5 (s.leaves.length + 1) c5)) HB5.out.size (fun q hq => by injection hq with hq; have := HO.out.1; omega)
  have HSI6 : Hid (w0.heap.size ≤ (w5.setCell ⟨Y, 1, none⟩ (.slice A5 (s.leaves.length + 1) c5)).heap.size) := Nat.le_trans HSI5.out (gb_one w5 Y 1 (.slice A5 (s.leaves.length + 1) c5)).size
  clear y1 g1 HR5 HS5 HY5 HZ5 HB5 HT5 HSI5
  generalize w5.setCell ⟨Y, 1, none⟩ (.slice A5 (s.leaves.length + 1) c5) = w6 at *
  have l2 : r2.lasts = s.lasts := by rw [← HR2S.out, ← HR1S.out]
  have y2 : w6.cell? ⟨Y, 2, none⟩ = some (.slice p.C s.lasts.length p.c) := by have := HY6.out.c.c2; rw [l2] at this; exact this
  have g2 := HY6.out.f 2
  go_wp2_with fail
  refine (appended_int p.C p.c s.lasts _ rfl (by have := HSZ.out.q; omega) (-1) ⟨by decide, by decide⟩ _ HS6.out.q.rd).mono ?_
  rintro e w7 ⟨A7, c7, rfl, k1, k2⟩
  have HR7 : Hid (RdS w7 (Upw S w0) A7 c7 (s.lasts ++ [-1])) := k1.rdS (fun _ h => h.elim) fun g hg => .inr (Nat.le_trans HSI6.out (OwS.new k1 g hg).1)
  have HT7 := Lib.hid (HT6.out.below k2)
  have HU7 := Lib.hid (HR6.out.below k2)
  have HS7 := Lib.hid (HS6.out.below k2)
  have HY7 := Lib.hid (HY6.out.below k2)
  have HZ7 := Lib.hid (HZ6.out.below k2)
  have HB7 := Lib.hid (below_step HB6.out k2)
  replace y2 := cell_below k2 y2
  clear g2 k1 k2 HS6 HY6 HZ6 HB6 HR6 HT6 HSI6
  have g2 := HY7.out.f 2
  go_upto_region 5 with fail
  have HY8 := Lib.hid (HY7.out.put2 (D := A7) (d := c7) (n := s.lasts.length + 1) (J := s.lasts ++ [-1]) (by rw [List.length_append]; rfl) (HR3S.out.trans HR4S.out))
  have HZ8 := Lib.hid (HZ7.out.gb (gb_one w7 Y 2 (.slice A7 (s.lasts.length + 1) c7)) (fun e => HO.out.2.2.2.2.1 (by injection e with e; exact e.symm)))
  have HB8 : Hid (Below w.heap.size w (w7.setCell ⟨Y, 2, none⟩ (.slice A7 (s.lasts.length + 1) c7))) := below_of_gb HB7.out (gb_one w7 Y 2 (.slice A7 (s.lasts.length + 1) c7)) HB7.out.size (fun q hq => by injection hq with hq; have := HO.out.1; omega)
  obtain ⟨q, hq⟩ : ∃ q : Pl, ({ p with A := A3, a := c3, B := A5, b := c5, C := A7, c := c7 } : Pl) = q := ⟨_, rfl⟩
  have HS8 : Hid (StS (w7.setCell ⟨Y, 2, none⟩ (.slice A7 (s.lasts.length + 1) c7)) (Upw S w0) q r) := by
    show StS _ _ _ _
    rw [← hq, ← HR.out]
    exact ⟨rd_setS HT7.out HNY.out, rd_setS HU7.out HNY.out, rd_setS HR7.out HNY.out, rd_setS HS7.out.j HNY.out, rd_setS HS7.out.g HNY.out⟩
  rw [hq] at HY8
  clear y2 g2 HR7 HS7 HY7 HZ7 HB7 HT7 HU7 hq l1 l2
  generalize w7.setCell ⟨Y, 2, none⟩ (.slice A7 (s.lasts.length + 1) c7) = w8 at *
  have y0 := HY8.out.c.c0
  have y0_1 := HY8.out.c.c1
  have y0_2 := HY8.out.c.c2
  have y0_3 := HY8.out.c.c3
  have y0_4 := HY8.out.c.c4
  have z0 := HZ8.out.z.c0
  have z1 := HZ8.out.z.c1
  have z2 := HZ8.out.z.c2
  have z3 := HZ8.out.z.c3
  have z4 := HZ8.out.z.c4
  unfold noPl noSt at z0 z1 z2 z3 z4
  simp only [List.length_nil] at z0 z1 z2 z3 z4
  have g0 := HZ8.out.f 0
  have g1 := HZ8.out.f 1
  have g2 := HZ8.out.f 2
  have g3 := HZ8.out.f 3
  have g4 := HZ8.out.f 4
  go_wp2_with fail
  change bodyPost _ _ _ _ _ (putS w8 Z q r)
  have hg := gb_putS (gb_refl w8 (some Z)) Z q r (.inr rfl)
  have h1 : WithOf S r w (.returned (.agg #[.slice q.A r.tasks.length q.a, .slice q.B r.leaves.length q.b, .slice q.C r.lasts.length q.c, .slice q.D r.jobs.length q.d, .slice q.E r.log.length q.e])) (putS w8 Z q r) := ⟨q, rfl, (HS8.out.gb hg (fun b hb e => by
    injection e with e
    subst e
    exact hb.elim (fun h => by have := HSS.out _ h; have := HO.out.2.2.1; omega) (fun h => by have := HLT.out.2.2; omega))).keep fun b _ hb => ⟨hb.imp id (fun h => Nat.le_trans B0.out.size h), rfl⟩, below_of_gb HB8.out hg HB8.out.size (fun q hq => by injection hq with hq; have := HO.out.2.2.1; omega)⟩
  have h2 := cs_put HZ8.out.z q r
  generalize putS w8 Z q r = W at h1 h2 ⊢
  have k0 := h2.c0
  have k1 := h2.c1
  have k2 := h2.c2
  have k3 := h2.c3
  have k4 := h2.c4
  refine bodyPost_ret (v := (.agg #[.slice q.A r.tasks.length q.a, .slice q.B r.leaves.length q.b, .slice q.C r.lasts.length q.c, .slice q.D r.jobs.length q.d, .slice q.E r.log.length q.e])) (by simp [results, Try.results54, go_sem, k0, k1, k2, k3, k4]) rfl h1

end Pm
end Go.Proofs.Ytdjjdebnbaaihaa

/-
  Layer 17 (part): New.
-/
namespace Go.Proofs.Ytdjjdebnbaaihaa
open Go.RowKit Mm Tk
namespace Pm

theorem Ys.put {w : World} {Y : Nat} {q : Pl} {u : St} (h : Ys w Y q u) (p : Pl) (s : St) : Ys (putS w Y p s) Y p s :=
  ⟨cs_put h.c p s, fun o => by unfold putS; simp only [World.frozen?_setCell]; exact h.f o⟩
/-- how far the state has come -/
def newTo (L : List Tsk) (k : Nat) : St := ⟨L.take k, List.replicate k false, List.replicate k (-1), [], []⟩
theorem newTo_succ {L : List Tsk} {k : Nat} (h : k < L.length) : ({ newTo L k with tasks := (newTo L k).tasks ++ [at_ L k], leaves := (newTo L k).leaves ++ [false], lasts := (newTo L k).lasts ++ [-1] } : St) = newTo L (k + 1) := by
  unfold newTo
  rw [take_succ_at h, List.replicate_succ', List.replicate_succ']
theorem newTo_all (L : List Tsk) : newTo L L.length = newS L := by
  unfold newTo newS
  rw [List.take_length]
theorem buildState0 (w : World) : (Instr.build 28 #[]).run Try.prog w = .ok (.agg #[.slice none 0 0, .slice none 0 0, .slice none 0 0, .slice none 0 0, .slice none 0 0]) w := by kernel_rfl

section
attribute [local go_sem ↓] buildState0
set_option maxRecDepth 20000 in
set_option maxHeartbeats 3200000 in
theorem new_s (A : Option Addr) (c : Nat) (L : List Tsk) (n : Nat) (hn : L.length = n) (r : St) (v : Int) (hr : (if allB L then newS L else noSt) = r) (hv : (if allB L then 0 else 1 : Int) = v) (h1 : n ≤ 100000) (h2 : ∀ j, j < L.length → (at_ L j).2.2.2.length ≤ 100000) (w : World) (H : Rd w A c L) :
    Calls Try.prog 34 #[.slice A n c] w (StOf (fun _ => False) r v w) := by
  have B0 := Lib.hid (below_one w (Obj.cells #[.slice none 0 0, .slice none 0 0, .slice none 0 0, .slice none 0 0, .slice none 0 0] 28))
  have HZ0 : Hid (Res (w.alloc (Obj.cells #[.slice none 0 0, .slice none 0 0, .slice none 0 0, .slice none 0 0, .slice none 0 0] 28)) w.heap.size) := ⟨cs_new _ noPl noSt _ _ rfl, fun o => fr_new _ _ _ _ rfl o⟩
  have HA := Lib.hid (fun W h => all_any A c L W (by omega) (fun j hj => by have := h2 j hj; omega) h)
  have HL0 := Lib.hid (H.below B0.out)
  have HLO := Lib.hid H.old
  have HN := Lib.hid hn
  have HS2 := Lib.hid h2
  rw [hn] at HA
  obtain ⟨Z, hZ⟩ : ∃ Z, w.heap.size = Z := ⟨_, rfl⟩
  have HZ : Hid (w.heap.size ≤ Z) := Nat.le_of_eq hZ
  rw [hZ] at HZ0
  clear H hn h2
  go_enter Try.func34, Try.ntmps34
  go_wp2_with fail
  try rw [hZ]
  clear hZ
  generalize w.alloc (Obj.cells #[.slice none 0 0, .slice none 0 0, .slice none 0 0, .slice none 0 0, .slice none 0 0] 28) = w0 at *
  refine (HA.out _ HL0.out).mono ?_
  rintro e w1 ⟨rfl, b1⟩
  have HZ1 := Lib.hid (HZ0.out.below b1)
  have BW1 := Lib.hid (below_step B0.out b1)
  clear b1 HA HL0
  cases ha : allB L with
  | false =>
    rw [ha, if_neg (by simp)] at hr hv
    subst hr hv
    clear ha
    have z0 := HZ1.out.z.c0
    have z1 := HZ1.out.z.c1
    have z2 := HZ1.out.z.c2
    have z3 := HZ1.out.z.c3
    have z4 := HZ1.out.z.c4
    unfold noPl noSt at z0 z1 z2 z3 z4
    simp only [List.length_nil] at z0 z1 z2 z3 z4
    have g0 := HZ1.out.f 0
    have g1 := HZ1.out.f 1
    have g2 := HZ1.out.f 2
    have g3 := HZ1.out.f 3
    have g4 := HZ1.out.f 4
    go_wp2_with fail
    have hs : StS w1 (fun b => b ≠ Z ∧ Upw (fun _ => False) w b) noPl noSt := ⟨rd_nil (fun _ => rfl) (Nat.zero_le _), rd_nil (fun _ => rfl) (Nat.zero_le _), rd_nil (fun _ => rfl) (Nat.zero_le _), rd_nil (fun _ => rfl) (Nat.zero_le _), rd_nil (fun _ => rfl) (Nat.zero_le _)⟩
    have hsz : Sz noSt := ⟨Nat.zero_le _, fun j hj => by simp [noSt] at hj, Nat.zero_le _, Nat.zero_le _, Nat.zero_le _, Nat.zero_le _⟩
    change bodyPost _ _ _ _ _ (putS w1 Z noPl noSt)
    obtain ⟨h1, h2⟩ := done_at (S := fun _ => False) (w := w) (v := 1) HZ1.out.z hs hsz HZ.out BW1.out
    generalize putS w1 Z noPl noSt = W at h1 h2 ⊢
    have k0 := h2.c0
    have k1 := h2.c1
    have k2 := h2.c2
    have k3 := h2.c3
    have k4 := h2.c4
    refine bodyPost_ret (v := .tuple #[(.agg #[.slice noPl.A noSt.tasks.length noPl.a, .slice noPl.B noSt.leaves.length noPl.b, .slice noPl.C noSt.lasts.length noPl.c, .slice noPl.D noSt.jobs.length noPl.d, .slice noPl.E noSt.log.length noPl.e]), .int .i64 1]) (by simp [results, Try.results34, go_sem, k0, k1, k2, k3, k4]) rfl h1
  | true =>
    rw [ha, if_pos rfl] at hr hv
    subst hv
    have HR := Lib.hid hr
    have HALL := Lib.hid ha
    have B2 := Lib.hid (below_one w1 (Obj.cells #[.slice none 0 0, .slice none 0 0, .slice none 0 0, .slice none 0 0, .slice none 0 0] 28))
    have HV0 : Hid (Ys (w1.alloc (Obj.cells #[.slice none 0 0, .slice none 0 0, .slice none 0 0, .slice none 0 0, .slice none 0 0] 28)) w1.heap.size noPl (newTo L 0)) := by
      have : newTo L 0 = noSt := by unfold newTo noSt; simp
      show Ys _ _ _ _
      rw [this]
      exact ⟨cs_new _ noPl noSt _ _ rfl, fun o => fr_new _ _ _ _ rfl o⟩
    have HZ2 := Lib.hid (HZ1.out.below B2.out)
    have BW2 := Lib.hid (below_step BW1.out B2.out)
    obtain ⟨V, hV⟩ : ∃ V, w1.heap.size = V := ⟨_, rfl⟩
    have HVZ : Hid (Z < V ∧ w.heap.size ≤ V) := by show _ ∧ _; have := HZ1.out.lt; have := BW1.out.size; omega
    rw [hV] at HV0
    clear hr ha
    go_wp2_with fail
    try rw [hV]
    clear hV
    generalize w1.alloc (Obj.cells #[.slice none 0 0, .slice none 0 0, .slice none 0 0, .slice none 0 0, .slice none 0 0] 28) = w2 at *
    go_loopw [13] (fun s13 wr => ∃ (k : Nat) (q : Pl) (u : St), s13 = .int .i64 k ∧ k ≤ n ∧ Hid (newTo L k = u) ∧ Hid (Ys wr V q u) ∧ Hid (StS wr (fun b => b ≠ V ∧ b ≠ Z ∧ w.heap.size ≤ b) q u) ∧ Hid (Res wr Z) ∧ Hid (Below w.heap.size w wr)) (fun s13 _ => n - (intOf s13).toNat)
    case atStart => exact ⟨0, noPl, newTo L 0, rfl, Nat.zero_le _, rfl, HV0.out, ⟨rd_nil (fun _ => rfl) (Nat.zero_le _), rd_nil (fun _ => rfl) (Nat.zero_le _), rd_nil (fun _ => rfl) (Nat.zero_le _), rd_nil (fun _ => rfl) (Nat.zero_le _), rd_nil (fun _ => rfl) (Nat.zero_le _)⟩, HZ2.out, BW2.out⟩
    case round =>
      obtain ⟨k, q, u, rfl, hk, HU, HV, HS, HZR, HB⟩ := hrel
      by_cases hlt : k < n
      · have hkl : k < L.length := by have := HN.out; omega
        obtain ⟨b, off, rfl, hc⟩ := task_at (HLO.out.below HB.out) (by omega)
        obtain ⟨B, d, t0, t1, t2, t3, f1, f2, f3, hsec⟩ := hc k hkl
        have hxl : (at_ L k).2.2.2.length ≤ 100000 := HS2.out k hkl
        have HNX := Lib.hid (newTo_succ hkl)
        clear hc hkl
        generalize at_ L k = x at *
        obtain ⟨m, hm⟩ : ∃ m, x.2.2.2.length = m := ⟨_, rfl⟩
        rw [hm] at t3 hxl
        have HM := Lib.hid hm
        have HF : Hid (Fit x.1 ∧ Fit x.2.1 ∧ Fit x.2.2.1) := ⟨f1, f2, f3⟩
        have HSEC := Lib.hid hsec
        have i1 : (0 : Int) ≤ (k : Int) := by omega
        have i2 : (k : Int) < (n : Int) := by omega
        have b3 := below_one wr (Obj.cells #[.int .i64 x.1, .int .i64 x.2.1, .int .i64 x.2.2.1, .slice B m d] 33)
        have HBX := Lib.hid (box_at wr x.1 x.2.1 x.2.2.1 B m d _ rfl)
        have HV3 := Lib.hid (HV.out.below b3)
        have HS3 := Lib.hid (HS.out.below b3)
        have HZ3 := Lib.hid (HZR.out.below b3)
        have HB3 := Lib.hid (below_step HB.out b3)
        have HSEC3 := Lib.hid (HSEC.out.below b3)
        clear hm f1 f2 f3 hsec b3 HSEC
        go_upto_region 7 with fail
        obtain ⟨X, hX⟩ : ∃ X, wr.heap.size = X := ⟨_, rfl⟩
        rw [hX] at HBX
        rw [hX]
        clear hX t0 t1 t2 t3
        generalize wr.alloc (Obj.cells #[.int .i64 x.1, .int .i64 x.2.1, .int .i64 x.2.2.1, .slice B m d] 33) = w3 at *
        obtain ⟨t0, t1, t2, t3⟩ := HBX.out
        have y0 := HV3.out.c.c0
        have y0_1 := HV3.out.c.c1
        have y0_2 := HV3.out.c.c2
        have y0_3 := HV3.out.c.c3
        have y0_4 := HV3.out.c.c4
        have HSZ : Hid (Sz u) := by
          show Sz u
          rw [← HU.out]
          exact ⟨by show (L.take k).length ≤ _; rw [List.length_take]; omega, fun j hj => by
            have hj : j < (L.take k).length := hj
            rw [List.length_take] at hj
            have := HS2.out j (by omega)
            show (at_ (L.take k) j).2.2.2.length ≤ _
            rw [at_take (by omega)]
            exact this, by show (List.replicate k false).length ≤ _; simp; omega, by show (List.replicate k (-1 : Int)).length ≤ _; simp; omega, Nat.zero_le _, Nat.zero_le _⟩
        obtain ⟨u2, hu2⟩ : ∃ u2, newTo L (k + 1) = u2 := ⟨_, rfl⟩
        have HU2 := Lib.hid hu2
        have hu3 : { u with tasks := u.tasks ++ [x], leaves := u.leaves ++ [false], lasts := u.lasts ++ [-1] } = u2 := by rw [← hu2, ← HNX.out, HU.out]
        have HW := Lib.hid (with_s (fun b => b < w3.heap.size ∧ b ≠ V ∧ b ≠ Z ∧ w.heap.size ≤ b) q u u2 x B m d HM.out hxl HSZ.out HF.out hu3 w3 (fun b h => h.1) (HS3.out.keep fun b hb h => ⟨⟨hb, h⟩, rfl⟩) HSEC3.out.rd)
        clear hu2 hu3
        go_wp2_with fail
        refine HW.out.mono ?_
        rintro e w4 ⟨q4, rfl, h4, b4⟩
        have HV4 := Lib.hid (HV3.out.below b4)
        have HZ4 := Lib.hid (HZ3.out.below b4)
        have HS4 : Hid (StS w4 (fun b => b ≠ V ∧ b ≠ Z ∧ w.heap.size ≤ b) q4 u2) := h4.keep fun b _ h => ⟨h.elim (fun h => h.2) (fun h => ⟨by have := HV3.out.lt; omega, by have := HZ3.out.lt; omega, Nat.le_trans HB3.out.size h⟩), rfl⟩
        have HB4 := Lib.hid (below_step HB3.out b4)
        clear y0 y0_1 y0_2 y0_3 y0_4
        clear t0 t1 t2 t3 h4 b4 HW
        have y0 := HV4.out.c.c0
        have y0_1 := HV4.out.c.c1
        have y0_2 := HV4.out.c.c2
        have y0_3 := HV4.out.c.c3
        have y0_4 := HV4.out.c.c4
        have g0 := HV4.out.f 0
        have g1 := HV4.out.f 1
        have g2 := HV4.out.f 2
        have g3 := HV4.out.f 3
        have g4 := HV4.out.f 4
        have HG := Lib.hid (gb_putS (gb_refl w4 (some V)) V q4 u2 (.inr rfl))
        have HV5 := Lib.hid (HV4.out.put q4 u2)
        have HS5 : Hid (StS (putS w4 V q4 u2) (fun b => b ≠ V ∧ b ≠ Z ∧ w.heap.size ≤ b) q4 u2) := HS4.out.gb HG.out fun b hb e => hb.1 (by injection e)
        have HZ5 := Lib.hid (HZ4.out.gb HG.out (fun e => by injection e with e; have := HVZ.out; omega))
        have HB5 : Hid (Below w.heap.size w (putS w4 V q4 u2)) := below_of_gb HB4.out HG.out HB4.out.size (fun k hk => by injection hk with hk; have := HVZ.out; omega)
        go_wp2_with fail
        go_roundw
        case rel => exact ⟨k + 1, q4, u2, by go_num, hlt, HU2, HV5, HS5, HZ5, HB5⟩
        case measure => (simp [intOf] <;> omega)
      · have hkn : k = n := by omega
        subst hkn
        have hur : u = r := by
          rw [← HU.out, ← HR.out, ← HN.out]
          exact newTo_all L
        have y0 := HV.out.c.c0
        have y0_1 := HV.out.c.c1
        have y0_2 := HV.out.c.c2
        have y0_3 := HV.out.c.c3
        have y0_4 := HV.out.c.c4
        have z0 := HZR.out.z.c0
        have z1 := HZR.out.z.c1
        have z2 := HZR.out.z.c2
        have z3 := HZR.out.z.c3
        have z4 := HZR.out.z.c4
        unfold noPl noSt at z0 z1 z2 z3 z4
        simp only [List.length_nil] at z0 z1 z2 z3 z4
        have g0 := HZR.out.f 0
        have g1 := HZR.out.f 1
        have g2 := HZR.out.f 2
        have g3 := HZR.out.f 3
        have g4 := HZR.out.f 4
        go_wp2_with fail
        have hsz : Sz u := by
          rw [← HU.out]
          exact ⟨by show (L.take k).length ≤ _; rw [List.length_take]; omega, fun j hj => by
            have hj : j < (L.take k).length := hj
            rw [List.length_take] at hj
            have := HS2.out j (by omega)
            show (at_ (L.take k) j).2.2.2.length ≤ _
            rw [at_take (by omega)]
            exact this, by show (List.replicate k false).length ≤ _; simp; omega, by show (List.replicate k (-1 : Int)).length ≤ _; simp; omega, Nat.zero_le _, Nat.zero_le _⟩
        rw [← hur]
        have hs9 : StS wr (fun b => b ≠ Z ∧ Upw (fun _ => False) w b) q u := HS.out.keep fun b _ h => ⟨⟨h.2.1, .inr h.2.2⟩, rfl⟩
        change bodyPost _ _ _ _ _ (putS wr Z q u)
        obtain ⟨h1, h2⟩ := done_at (S := fun _ => False) (w := w) (v := 0) HZR.out.z hs9 hsz HZ.out HB.out
        generalize putS wr Z q u = W at h1 h2 ⊢
        have k0 := h2.c0
        have k1 := h2.c1
        have k2 := h2.c2
        have k3 := h2.c3
        have k4 := h2.c4
        refine bodyPost_ret (v := .tuple #[(.agg #[.slice q.A u.tasks.length q.a, .slice q.B u.leaves.length q.b, .slice q.C u.lasts.length q.c, .slice q.D u.jobs.length q.d, .slice q.E u.log.length q.e]), .int .i64 0]) (by simp [results, Try.results34, go_sem, k0, k1, k2, k3, k4]) rfl h1
end

end Pm
end Go.Proofs.Ytdjjdebnbaaihaa

/-
  Layer 17 (part): the library's Grow and Concat, at tasks.
-/
namespace Go.Proofs.Ytdjjdebnbaaihaa
open Go.RowKit Mm Tk
namespace Pm

section
variable {α : Type} [Inhabited α] [Dat α]
/-- append of another slice to one of the call's own, the lengths named -/
theorem list_appS_n {P : Program} {t e : TypeId} (hT : SlT P t e (Dat.k α)) {w : World} {ops : Array Oper} {rest : List Oper} {o : Oper} {a : Act} {Q : Exit → Act → World → Prop} (hg : o.guard = none) (s x : Operand) (ho : o.op = .call { callee := .builtin .append, args := #[s, x], argTypes := #[t, t] })
    {S : Nat → Prop} {base : Nat} {A B : Option Addr} {c d : Nat} {l r : List α} {n m : Nat} (hn : l.length = n) (hm : r.length = m) (h1 : a.eval s = .slice A n c) (h2 : a.eval x = .slice B m d) (h : OwS w S base e A c l) (hr : RdS w S B d r) (hS : ∀ b, S b → b < base) (hbig : n + m ≤ 1000000) (hbase : base ≤ w.heap.size)
    (hK : ∀ A' c' w', OwS w' S base e A' c' (l ++ r) → Below base w w' → wpList P ops Q rest (a.put o.dst (.slice A' (n + m) c')) w') :
    wpList P ops Q (o :: rest) a w := by
  subst hn; subst hm
  obtain ⟨A', c', w', hrun, k1, k2, k3⟩ := run_app o.type hT h hr (fun _ h => h) (fun g hA => .inl (fun hs => by have := hS g hs; have := (OwS.new h g hA).1; omega)) hbig hbase
  exact wpList_plain hg fun _ hK' => wp_app_run s x t ho _ _ _ _ h1 h2 hrun (hK' _ _ (hK A' c' w' k1 ((Below.refl _ _).grown k2 hbase (OwS.row h))))
end
/-- room for n elements, in new memory -/
theorem grow_room {α : Type} [Dat α] {P : Program} {t tn e : TypeId} (ty : TypeId) (hT : SlT P t e (Dat.k α)) (htn : P.underlying tn = some (.int .i64)) (w : World) (S : Nat → Prop) (n : Nat) (h0 : 0 < n) (hb : n ≤ 1000000) :
    ∃ (A : Option Addr) (c : Nat) (w' : World), (Builtin.append_ #[t, tn] ty #[.slice none 0 0, .int .i64 n]).run P w = .ok (.slice A n c) w' ∧ n ≤ c ∧ c ≤ maxLen ∧ OwS w' S w.heap.size e A c ([] : List α) ∧ Below w.heap.size w w' := by
  obtain ⟨ht, i, z, hi, hz, hs, hzs, hby⟩ := hT
  have hpos := Dat.pos (α := α)
  have h1 := grownCap_ge w n 0 e
  have h2 := grownCap_le_maxLen w n 0 e (by unfold maxLen; omega)
  have hr := Lib.run_append_nil_zeros (P := P) w t tn ty e i z .i64 .i64 ht htn hi hz n h0 (by omega) (by omega) (by have := Nat.mul_le_mul hb hby; omega)
  refine ⟨_, _, _, hr, h1, h2, ⟨[], ⟨by simp, .inr ⟨w.heap.size, grownCap w n 0 e, _, rfl, Nat.le_refl _, heap_alloc_new w.drew _, Nat.zero_le _, h2, ?_, by simp⟩⟩, rfl⟩, (Below.refl _ _).drew.alloc (Nat.le_refl _) _⟩
  rw [Array.size_append, size_zeroCells, size_zeroCells, hzs, ← Nat.add_mul]
  congr 1
  omega

set_option maxHeartbeats 800000 in
theorem grow_task (S : Nat → Prop) (n : Nat) (hb : n ≤ 1000000) (w : World) :
    Calls Try.prog 53 #[.slice none 0 0, .int .i64 n] w fun e w' => ∃ A' c', e = .returned (.slice A' 0 c') ∧ OwS w' S w.heap.size 33 A' c' ([] : List Tsk) ∧ Below w.heap.size w w' := by
  have i1 : ¬ (n : Int) < 0 := by omega
  have e1 : IntKind.i64.wrap (n : Int) = n := IntWalk.i64_in _ (by omega)
  rcases Nat.eq_zero_or_pos n with rfl | h0
  · go_enter Try.func53, Try.ntmps53
    go_wp2_with fail
    go_ret
    exact ⟨none, 0, rfl, ow_nil _ _ _ _, Below.refl _ _⟩
  · have i2 : (0 : Int) < (n : Int) := by omega
    obtain ⟨A, c, w', hrun, h1, h2, h3, h4⟩ := grow_room (α := Tsk) (ty := 22) slTask (tn := 3) Try.underlying3 w S n h0 hb
    have HRUN := Lib.hid hrun
    have O1 := Lib.hid h3
    have B1 := Lib.hid h4
    have hform : ∃ g, A = some ⟨g, 0, none⟩ := by
      obtain ⟨cs, h5, _⟩ := h3
      rcases h5.2 with ⟨h', _⟩ | ⟨g, _, _, h', _⟩
      · injection h' with _ _ h'
        omega
      · injection h' with h'
        exact ⟨g, h'⟩
    obtain ⟨g, rfl⟩ := hform
    have i3 : (n : Int) ≤ (c : Int) := by omega
    have i4 : (0 : Int) ≤ (c : Int) := by omega
    clear hrun h3 h4
    go_enter Try.func53, Try.ntmps53
    go_wp2_with (at_builtin
                 refine Lib.wpList_append_run _ rfl _ _ _ _ rfl _ _ rfl rfl _ _ HRUN.out ?_)
    go_ret
    exact ⟨_, c, rfl, O1.out, B1.out⟩

set_option maxRecDepth 20000 in
set_option maxHeartbeats 1600000 in
theorem concat_task (S : Nat → Prop) (L : Nat) (A B : Option Addr) (c d : Nat) (l r : List Tsk) (n m : Nat) (hn : l.length = n) (hm : r.length = m) (hb : n + m ≤ 900000) (w : World) (hc0 : w.cell? ⟨L, 0, none⟩ = some (.slice A n c)) (hc1 : w.cell? ⟨L, 1, none⟩ = some (.slice B m d)) (hl : RdS w S A c l) (hr : RdS w S B d r) :
    Calls Try.prog 29 #[.slice (some ⟨L, 0, none⟩) 2 2] w fun e w' => ∃ A' c', e = .returned (.slice A' (n + m) c') ∧ OwS w' (fun b => b < w.heap.size ∧ S b) w.heap.size 33 A' c' (l ++ r) ∧ Below w.heap.size w w' := by
  have HN := Lib.hid hn
  have HM := Lib.hid hm
  have HL := Lib.hid (hl.keep (S' := fun b => b < w.heap.size ∧ S b) (w' := w) fun b h1 h2 => ⟨⟨h1, h2⟩, rfl⟩)
  have HR := Lib.hid (hr.keep (S' := fun b => b < w.heap.size ∧ S b) (w' := w) fun b h1 h2 => ⟨⟨h1, h2⟩, rfl⟩)
  have e1 : IntKind.i64.wrap (n : Int) = n := IntWalk.i64_in _ (by omega)
  have e2 : IntKind.i64.wrap ((n : Int) + (m : Int)) = (n : Int) + (m : Int) := IntWalk.i64_in _ (by omega)
  have i1 : ¬ (n : Int) < 0 := by omega
  have i2 : ¬ (n : Int) + (m : Int) < 0 := by omega
  have HG := Lib.hid (fun W => grow_task (fun b => b < w.heap.size ∧ S b) (n + m) (by omega) W)
  simp only [Int.natCast_add] at HG
  have HLT : Hid (L < w.heap.size) := lt_of_cell hc0
  clear hl hr hn hm
  go_enter Try.func29, Try.ntmps29
  go_wp2_with fail
  refine wp_loop_rounds 3 ?_
  rw [rounds_succ]
  go_wp2_with fail
  rw [rounds_succ]
  go_wp2_with fail
  rw [rounds_succ]
  go_wp2_with fail
  refine (HG.out _).mono ?_
  rintro e w1 ⟨A1, c1, rfl, k1, k2⟩
  have O1 := Lib.hid k1
  have B1 := Lib.hid k2
  replace hc0 := cell_below k2 hc0
  replace hc1 := cell_below k2 hc1
  replace HL := Lib.hid (HL.out.below k2)
  replace HR := Lib.hid (HR.out.below k2)
  clear k1 k2 HG
  go_wp2_with fail
  refine wp_loop_rounds 3 ?_
  rw [rounds_succ]
  go_wp2_with (at_builtin
               refine list_appS_n slTask rfl _ _ rfl (base := w.heap.size) (l := ([] : List Tsk)) (r := l) (n := 0) (m := n) rfl HN.out rfl rfl O1.out HL.out (fun b h => h.1) (by omega) B1.out.size ?_
               intro A2 c2 w2 k1 k2
               have O2 := Lib.hid k1
               have B2 := Lib.hid (B1.out.trans k2)
               replace hc1 := (k2.cell (show (⟨L, 1, none⟩ : Addr).block < w.heap.size from HLT.out)).trans hc1
               replace HR := Lib.hid (HR.out.keep fun b _ hs => ⟨hs, k2.block b hs.1⟩)
               clear k1 k2)
  rw [List.nil_append] at O2
  try simp only [Nat.zero_add]
  rw [rounds_succ]
  go_wp2_with (at_builtin
               refine list_appS_n slTask rfl _ _ rfl (base := w.heap.size) (l := l) (r := r) (n := n) (m := m) HN.out HM.out rfl rfl O2.out HR.out (fun b h => h.1) (by omega) B2.out.size ?_
               intro A3 c3 w3 k1 k2
               have O3 := Lib.hid k1
               have B3 := Lib.hid (B2.out.trans k2)
               clear k1 k2)
  rw [rounds_succ]
  go_wp2_with fail
  go_ret
  exact ⟨A3, c3, rfl, O3.out, B3.out⟩

end Pm
end Go.Proofs.Ytdjjdebnbaaihaa

/-
  Layer 17 (part): Add.
-/
namespace Go.Proofs.Ytdjjdebnbaaihaa
open Go.RowKit Mm Tk
namespace Pm

def addE (s : St) (x : Tsk) : Nat := if rightS s = true ∧ rightT x = true then (if s.tasks.length = 8 then 3 else 0) else 1
def addS (s : St) (x : Tsk) : St := if addE s x = 0 then { s with tasks := s.tasks ++ [x], leaves := s.leaves ++ [false], lasts := s.lasts ++ [-1] } else s
theorem addE_bad {s : St} {x : Tsk} (h : ¬ (rightS s = true ∧ rightT x = true)) : addE s x = 1 ∧ addS s x = s := by
  have : addE s x = 1 := by unfold addE; rw [if_neg h]
  exact ⟨this, by unfold addS; rw [if_neg (by omega)]⟩
set_option maxRecDepth 20000 in
set_option maxHeartbeats 3200000 in
theorem add_s (S : Nat → Prop) (p : Pl) (s r : St) (x : Tsk) (B : Option Addr) (k d : Nat) (hk : x.2.2.2.length = k) (hkb : k ≤ 100000) (fx : Fit x.1 ∧ Fit x.2.1 ∧ Fit x.2.2.1) (v : Int) (hr : addS s x = r) (hv : (addE s x : Int) = v) (w : World) (hS : ∀ b, S b → b < w.heap.size) (hz : Sz s) (HST : StS w S p s) (hx : Rd w B d x.2.2.2) :
    Calls Try.prog 30 #[(.agg #[.slice p.A s.tasks.length p.a, .slice p.B s.leaves.length p.b, .slice p.C s.lasts.length p.c, .slice p.D s.jobs.length p.d, .slice p.E s.log.length p.e]), .agg #[.int .i64 x.1, .int .i64 x.2.1, .int .i64 x.2.2.1, .slice B k d]] w (StOf S r v w) := by
  have H : SR w p s := ⟨hz, HST.keep fun b _ _ => ⟨trivial, rfl⟩⟩
  have HH := Lib.hid HST
  have HSS := Lib.hid hS
  have HSZ := Lib.hid hz
  clear HST hS hz
  obtain ⟨u1, hs⟩ : ∃ u1, rightS s = u1 := ⟨_, rfl⟩
  obtain ⟨u2, ht⟩ : ∃ u2, rightT x = u2 := ⟨_, rfl⟩
  have HRI := Lib.hid (fun W h => right_s p s u1 hs W h)
  have HTR : Hid (∀ W, Rd W B d x.2.2.2 → Calls Try.prog 23 #[.agg #[.int .i64 x.1, .int .i64 x.2.1, .int .i64 x.2.2.1, .slice B k d]] W fun e w' => e = .returned (.bool u2) ∧ Below W.heap.size W w') := fun W h => by
    have := Tk.right_any x.1 x.2.1 x.2.2.1 B d x.2.2.2 W (by omega) h
    rw [hk] at this
    rw [← ht]
    exact this
  have B0 := Lib.hid (below_three w (Obj.cells #[.slice p.A s.tasks.length p.a, .slice p.B s.leaves.length p.b, .slice p.C s.lasts.length p.c, .slice p.D s.jobs.length p.d, .slice p.E s.log.length p.e] 28) (Obj.cells #[.int .i64 x.1, .int .i64 x.2.1, .int .i64 x.2.2.1, .slice B k d] 33) (Obj.cells #[.slice none 0 0, .slice none 0 0, .slice none 0 0, .slice none 0 0, .slice none 0 0] 28))
  have hy : Ys (w.alloc (Obj.cells #[.slice p.A s.tasks.length p.a, .slice p.B s.leaves.length p.b, .slice p.C s.lasts.length p.c, .slice p.D s.jobs.length p.d, .slice p.E s.log.length p.e] 28)) w.heap.size p s := ⟨cs_new w p s _ _ rfl, fun o => by simp⟩
  have HY := Lib.hid (hy.below (below_two _ (Obj.cells #[.int .i64 x.1, .int .i64 x.2.1, .int .i64 x.2.2.1, .slice B k d] 33) (Obj.cells #[.slice none 0 0, .slice none 0 0, .slice none 0 0, .slice none 0 0, .slice none 0 0] 28)))
  have HBX := Lib.hid ((box_at (w.alloc (Obj.cells #[.slice p.A s.tasks.length p.a, .slice p.B s.leaves.length p.b, .slice p.C s.lasts.length p.c, .slice p.D s.jobs.length p.d, .slice p.E s.log.length p.e] 28)) x.1 x.2.1 x.2.2.1 B k d (w.heap.size + 1) (by simp)).below (below_one _ (Obj.cells #[.slice none 0 0, .slice none 0 0, .slice none 0 0, .slice none 0 0, .slice none 0 0] 28)))
  have HZ0 : Hid (Res (((w.alloc (Obj.cells #[.slice p.A s.tasks.length p.a, .slice p.B s.leaves.length p.b, .slice p.C s.lasts.length p.c, .slice p.D s.jobs.length p.d, .slice p.E s.log.length p.e] 28)).alloc (Obj.cells #[.int .i64 x.1, .int .i64 x.2.1, .int .i64 x.2.2.1, .slice B k d] 33)).alloc (Obj.cells #[.slice none 0 0, .slice none 0 0, .slice none 0 0, .slice none 0 0, .slice none 0 0] 28)) (w.heap.size + 2)) := ⟨cs_new _ noPl noSt _ _ (by simp), fun o => fr_new _ _ _ _ (by simp) o⟩
  have HS0 := Lib.hid (H.below B0.out)
  have HX0 := Lib.hid (hx.below B0.out)
  have HK := Lib.hid hk
  have HKB := Lib.hid hkb
  have HFX := Lib.hid fx
  clear H hy hx hk hkb fx
  cases u1 with
  | false =>
    obtain ⟨e1, e2⟩ := addE_bad (s := s) (x := x) (fun h => by rw [hs] at h; cases h.1)
    have hv2 : v = 1 := by rw [← hv, e1]; rfl
    have hr2 : s = r := by rw [← hr, e2]
    subst hv2 hr2
    clear e1 e2 hr hv hs ht
    go_enter Try.func30, Try.ntmps30
    go_upto_region 1 with fail
    generalize ((w.alloc (Obj.cells #[.slice p.A s.tasks.length p.a, .slice p.B s.leaves.length p.b, .slice p.C s.lasts.length p.c, .slice p.D s.jobs.length p.d, .slice p.E s.log.length p.e] 28)).alloc (Obj.cells #[.int .i64 x.1, .int .i64 x.2.1, .int .i64 x.2.2.1, .slice B k d] 33)).alloc (Obj.cells #[.slice none 0 0, .slice none 0 0, .slice none 0 0, .slice none 0 0, .slice none 0 0] 28) = w0 at *
    obtain ⟨Y, hY⟩ : ∃ Y, w.heap.size = Y := ⟨_, rfl⟩
    obtain ⟨X, hX⟩ : ∃ X, Y + 1 = X := ⟨_, rfl⟩
    obtain ⟨Z, hZ⟩ : ∃ Z, Y + 1 + 1 = Z := ⟨_, rfl⟩
    have HZ : Hid (w.heap.size ≤ Z) := by show _ ≤ _; omega
    rw [hY] at HY HBX HZ0
    rw [show Y + 2 = Z from hZ] at HZ0
    rw [hX] at HBX
    rw [hX] at hZ
    rw [hY, hX, hZ]
    clear hX hZ hY
    have HZN : Hid (∀ W, Below w.heap.size w W → StS W (fun b => b ≠ Z ∧ Upw S w b) p s) := fun W h => (HH.out.below h).keep fun b _ hb => ⟨⟨fun e => by have := HSS.out _ hb; have := HZ.out; omega, .inl hb⟩, rfl⟩
    have y0 := HY.out.c.c0
    have y0_1 := HY.out.c.c1
    have y0_2 := HY.out.c.c2
    have y0_3 := HY.out.c.c3
    have y0_4 := HY.out.c.c4
    go_wp2_with fail
    refine (HRI.out _ HS0.out).mono ?_
    rintro e w1 ⟨rfl, b1⟩
    clear y0 y0_1 y0_2 y0_3 y0_4
    have HY1 := Lib.hid (HY.out.below b1)
    have HBX1 := Lib.hid (HBX.out.below b1)
    have HX1 := Lib.hid (HX0.out.below b1)
    have HZ1 := Lib.hid (HZ0.out.below b1)
    have BW := Lib.hid (below_step B0.out b1)
    clear b1
    have y0 := HY1.out.c.c0
    have y0_1 := HY1.out.c.c1
    have y0_2 := HY1.out.c.c2
    have y0_3 := HY1.out.c.c3
    have y0_4 := HY1.out.c.c4
    have z0 := HZ1.out.z.c0
    have z1 := HZ1.out.z.c1
    have z2 := HZ1.out.z.c2
    have z3 := HZ1.out.z.c3
    have z4 := HZ1.out.z.c4
    unfold noPl noSt at z0 z1 z2 z3 z4
    simp only [List.length_nil] at z0 z1 z2 z3 z4
    have g0 := HZ1.out.f 0
    have g1 := HZ1.out.f 1
    have g2 := HZ1.out.f 2
    have g3 := HZ1.out.f 3
    have g4 := HZ1.out.f 4
    go_wp2_with fail
    change bodyPost _ _ _ _ _ (putS w1 Z p s)
    obtain ⟨h1, h2⟩ := done_at (S := S) (w := w) (v := 1) HZ1.out.z (HZN.out _ BW.out) HSZ.out HZ.out BW.out
    generalize putS w1 Z p s = W at h1 h2 ⊢
    have k0 := h2.c0
    have k1 := h2.c1
    have k2 := h2.c2
    have k3 := h2.c3
    have k4 := h2.c4
    refine bodyPost_ret (v := .tuple #[(.agg #[.slice p.A s.tasks.length p.a, .slice p.B s.leaves.length p.b, .slice p.C s.lasts.length p.c, .slice p.D s.jobs.length p.d, .slice p.E s.log.length p.e]), .int .i64 1]) (by simp [results, Try.results30, go_sem, k0, k1, k2, k3, k4]) rfl h1
  | true =>
    cases u2 with
    | false =>
      obtain ⟨e1, e2⟩ := addE_bad (s := s) (x := x) (fun h => by rw [ht] at h; cases h.2)
      have hv2 : v = 1 := by rw [← hv, e1]; rfl
      have hr2 : s = r := by rw [← hr, e2]
      subst hv2 hr2
      clear e1 e2 hr hv hs ht
      go_enter Try.func30, Try.ntmps30
      go_upto_region 1 with fail
      generalize ((w.alloc (Obj.cells #[.slice p.A s.tasks.length p.a, .slice p.B s.leaves.length p.b, .slice p.C s.lasts.length p.c, .slice p.D s.jobs.length p.d, .slice p.E s.log.length p.e] 28)).alloc (Obj.cells #[.int .i64 x.1, .int .i64 x.2.1, .int .i64 x.2.2.1, .slice B k d] 33)).alloc (Obj.cells #[.slice none 0 0, .slice none 0 0, .slice none 0 0, .slice none 0 0, .slice none 0 0] 28) = w0 at *
      obtain ⟨Y, hY⟩ : ∃ Y, w.heap.size = Y := ⟨_, rfl⟩
      obtain ⟨X, hX⟩ : ∃ X, Y + 1 = X := ⟨_, rfl⟩
      obtain ⟨Z, hZ⟩ : ∃ Z, Y + 1 + 1 = Z := ⟨_, rfl⟩
      have HZ : Hid (w.heap.size ≤ Z) := by show _ ≤ _; omega
      rw [hY] at HY HBX HZ0
      rw [show Y + 2 = Z from hZ] at HZ0
      rw [hX] at HBX
      rw [hX] at hZ
      rw [hY, hX, hZ]
      clear hX hZ hY
      have HZN : Hid (∀ W, Below w.heap.size w W → StS W (fun b => b ≠ Z ∧ Upw S w b) p s) := fun W h => (HH.out.below h).keep fun b _ hb => ⟨⟨fun e => by have := HSS.out _ hb; have := HZ.out; omega, .inl hb⟩, rfl⟩
      have y0 := HY.out.c.c0
      have y0_1 := HY.out.c.c1
      have y0_2 := HY.out.c.c2
      have y0_3 := HY.out.c.c3
      have y0_4 := HY.out.c.c4
      go_wp2_with fail
      refine (HRI.out _ HS0.out).mono ?_
      rintro e w1 ⟨rfl, b1⟩
      clear y0 y0_1 y0_2 y0_3 y0_4
      have HY1 := Lib.hid (HY.out.below b1)
      have HBX1 := Lib.hid (HBX.out.below b1)
      have HX1 := Lib.hid (HX0.out.below b1)
      have HZ1 := Lib.hid (HZ0.out.below b1)
      have BW := Lib.hid (below_step B0.out b1)
      clear b1
      have y0 := HY1.out.c.c0
      have y0_1 := HY1.out.c.c1
      have y0_2 := HY1.out.c.c2
      have y0_3 := HY1.out.c.c3
      have y0_4 := HY1.out.c.c4
      obtain ⟨t0, t1, t2, t3⟩ := HBX1.out
      go_wp2_with fail
      refine (HTR.out _ HX1.out).mono ?_
      rintro e w2 ⟨rfl, b2⟩
      clear y0 y0_1 y0_2 y0_3 y0_4
      clear t0 t1 t2 t3
      have HY2 := Lib.hid (HY1.out.below b2)
      have HBX2 := Lib.hid (HBX1.out.below b2)
      have HX2 := Lib.hid (HX1.out.below b2)
      have HZ2 := Lib.hid (HZ1.out.below b2)
      have BW2 := Lib.hid (below_step BW.out b2)
      clear b2
      have y0 := HY2.out.c.c0
      have y0_1 := HY2.out.c.c1
      have y0_2 := HY2.out.c.c2
      have y0_3 := HY2.out.c.c3
      have y0_4 := HY2.out.c.c4
      have z0 := HZ2.out.z.c0
      have z1 := HZ2.out.z.c1
      have z2 := HZ2.out.z.c2
      have z3 := HZ2.out.z.c3
      have z4 := HZ2.out.z.c4
      unfold noPl noSt at z0 z1 z2 z3 z4
      simp only [List.length_nil] at z0 z1 z2 z3 z4
      have g0 := HZ2.out.f 0
      have g1 := HZ2.out.f 1
      have g2 := HZ2.out.f 2
      have g3 := HZ2.out.f 3
      have g4 := HZ2.out.f 4
      go_wp2_with fail
      change bodyPost _ _ _ _ _ (putS w2 Z p s)
      obtain ⟨h1, h2⟩ := done_at (S := S) (w := w) (v := 1) HZ2.out.z (HZN.out _ BW2.out) HSZ.out HZ.out BW2.out
      generalize putS w2 Z p s = W at h1 h2 ⊢
      have k0 := h2.c0
      have k1 := h2.c1
      have k2 := h2.c2
      have k3 := h2.c3
      have k4 := h2.c4
      refine bodyPost_ret (v := .tuple #[(.agg #[.slice p.A s.tasks.length p.a, .slice p.B s.leaves.length p.b, .slice p.C s.lasts.length p.c, .slice p.D s.jobs.length p.d, .slice p.E s.log.length p.e]), .int .i64 1]) (by simp [results, Try.results30, go_sem, k0, k1, k2, k3, k4]) rfl h1
    | true =>
      by_cases h8 : s.tasks.length = 8
      · have e1 : addE s x = 3 := by unfold addE; rw [if_pos ⟨hs, ht⟩, if_pos h8]
        have e2 : addS s x = s := by unfold addS; rw [if_neg (by omega)]
        have hv2 : v = 3 := by rw [← hv, e1]; rfl
        have hr2 : s = r := by rw [← hr, e2]
        subst hv2 hr2
        have i1 : ((s.tasks.length : Int) == 8) = true := by rw [h8]; rfl
        have i2 : (s.tasks.length : Int) = 8 := by omega
        clear e1 e2 hr hv hs ht h8
        have HI := Lib.hid i2
        clear i2
        go_enter Try.func30, Try.ntmps30
        go_upto_region 1 with fail
        generalize ((w.alloc (Obj.cells #[.slice p.A s.tasks.length p.a, .slice p.B s.leaves.length p.b, .slice p.C s.lasts.length p.c, .slice p.D s.jobs.length p.d, .slice p.E s.log.length p.e] 28)).alloc (Obj.cells #[.int .i64 x.1, .int .i64 x.2.1, .int .i64 x.2.2.1, .slice B k d] 33)).alloc (Obj.cells #[.slice none 0 0, .slice none 0 0, .slice none 0 0, .slice none 0 0, .slice none 0 0] 28) = w0 at *
        obtain ⟨Y, hY⟩ : ∃ Y, w.heap.size = Y := ⟨_, rfl⟩
        obtain ⟨X, hX⟩ : ∃ X, Y + 1 = X := ⟨_, rfl⟩
        obtain ⟨Z, hZ⟩ : ∃ Z, Y + 1 + 1 = Z := ⟨_, rfl⟩
        have HZ : Hid (w.heap.size ≤ Z) := by show _ ≤ _; omega
        rw [hY] at HY HBX HZ0
        rw [show Y + 2 = Z from hZ] at HZ0
        rw [hX] at HBX
        rw [hX] at hZ
        rw [hY, hX, hZ]
        clear hX hZ hY
        have HZN : Hid (∀ W, Below w.heap.size w W → StS W (fun b => b ≠ Z ∧ Upw S w b) p s) := fun W h => (HH.out.below h).keep fun b _ hb => ⟨⟨fun e => by have := HSS.out _ hb; have := HZ.out; omega, .inl hb⟩, rfl⟩
        have y0 := HY.out.c.c0
        have y0_1 := HY.out.c.c1
        have y0_2 := HY.out.c.c2
        have y0_3 := HY.out.c.c3
        have y0_4 := HY.out.c.c4
        go_wp2_with fail
        refine (HRI.out _ HS0.out).mono ?_
        rintro e w1 ⟨rfl, b1⟩
        clear y0 y0_1 y0_2 y0_3 y0_4
        have HY1 := Lib.hid (HY.out.below b1)
        have HBX1 := Lib.hid (HBX.out.below b1)
        have HX1 := Lib.hid (HX0.out.below b1)
        have HZ1 := Lib.hid (HZ0.out.below b1)
        have BW := Lib.hid (below_step B0.out b1)
        clear b1
        have y0 := HY1.out.c.c0
        have y0_1 := HY1.out.c.c1
        have y0_2 := HY1.out.c.c2
        have y0_3 := HY1.out.c.c3
        have y0_4 := HY1.out.c.c4
        obtain ⟨t0, t1, t2, t3⟩ := HBX1.out
        go_wp2_with fail
        refine (HTR.out _ HX1.out).mono ?_
        rintro e w2 ⟨rfl, b2⟩
        clear y0 y0_1 y0_2 y0_3 y0_4
        clear t0 t1 t2 t3
        have HY2 := Lib.hid (HY1.out.below b2)
        have HBX2 := Lib.hid (HBX1.out.below b2)
        have HX2 := Lib.hid (HX1.out.below b2)
        have HZ2 := Lib.hid (HZ1.out.below b2)
        have BW2 := Lib.hid (below_step BW.out b2)
        clear b2
        have y0 := HY2.out.c.c0
        have y0_1 := HY2.out.c.c1
        have y0_2 := HY2.out.c.c2
        have y0_3 := HY2.out.c.c3
        have y0_4 := HY2.out.c.c4
        have z0 := HZ2.out.z.c0
        have z1 := HZ2.out.z.c1
        have z2 := HZ2.out.z.c2
        have z3 := HZ2.out.z.c3
        have z4 := HZ2.out.z.c4
        unfold noPl noSt at z0 z1 z2 z3 z4
        simp only [List.length_nil] at z0 z1 z2 z3 z4
        have g0 := HZ2.out.f 0
        have g1 := HZ2.out.f 1
        have g2 := HZ2.out.f 2
        have g3 := HZ2.out.f 3
        have g4 := HZ2.out.f 4
        go_wp2_with fail
        change bodyPost _ _ _ _ _ (putS w2 Z p s)
        obtain ⟨h1, h2⟩ := done_at (S := S) (w := w) (v := 3) HZ2.out.z (HZN.out _ BW2.out) HSZ.out HZ.out BW2.out
        generalize putS w2 Z p s = W at h1 h2 ⊢
        have k0 := h2.c0
        have k1 := h2.c1
        have k2 := h2.c2
        have k3 := h2.c3
        have k4 := h2.c4
        refine bodyPost_ret (v := .tuple #[(.agg #[.slice p.A s.tasks.length p.a, .slice p.B s.leaves.length p.b, .slice p.C s.lasts.length p.c, .slice p.D s.jobs.length p.d, .slice p.E s.log.length p.e]), .int .i64 3]) (by simp [results, Try.results30, go_sem, k0, k1, k2, k3, k4]) rfl h1
      · have e1 : addE s x = 0 := by unfold addE; rw [if_pos ⟨hs, ht⟩, if_neg h8]
        have e2 : addS s x = { s with tasks := s.tasks ++ [x], leaves := s.leaves ++ [false], lasts := s.lasts ++ [-1] } := by unfold addS; rw [if_pos e1]
        have hv2 : v = 0 := by rw [← hv, e1]; rfl
        have hr2 : { s with tasks := s.tasks ++ [x], leaves := s.leaves ++ [false], lasts := s.lasts ++ [-1] } = r := by rw [← hr, e2]
        subst hv2
        have i1 : ((s.tasks.length : Int) == 8) = false := beq_eq_false_iff_ne.2 (by omega)
        have i2 : decide ((s.tasks.length : Int) = 8) = false := decide_eq_false (by omega)
        have hR := rightS_iff.1 hs
        have hlen8 : s.tasks.length ≤ 8 := (by
          have := (allJ_iff.1 hR.2.2.2.1).1
          unfold allB at this
          rw [Bool.and_eq_true, decide_eq_true_iff] at this
          exact this.1)
        have HR8 : Hid (Sz r) := by
          show Sz r
          rw [← hr2]
          have := HSZ.out
          exact ⟨by simp; omega, fun j hj => by
            simp only [List.length_append, List.length_singleton] at hj
            by_cases hj2 : j < s.tasks.length
            · show (at_ (s.tasks ++ [x]) j).2.2.2.length ≤ _
              rw [at_left hj2]
              exact this.ts j hj2
            · have : j = s.tasks.length := by omega
              subst this
              show (at_ (s.tasks ++ [x]) _).2.2.2.length ≤ _
              rw [at_right (Nat.le_refl _), Nat.sub_self]
              show x.2.2.2.length ≤ _
              have := HK.out
              have := HKB.out
              omega, by simp; omega, by simp; omega, this.j, this.g⟩
        have HWI := Lib.hid (fun W hS h hx => with_s S p s r x B k d HK.out HKB.out HSZ.out HFX.out hr2 W hS h hx)
        clear e1 e2 hr hv hs ht h8 hR hr2
        go_enter Try.func30, Try.ntmps30
        go_upto_region 1 with fail
        generalize ((w.alloc (Obj.cells #[.slice p.A s.tasks.length p.a, .slice p.B s.leaves.length p.b, .slice p.C s.lasts.length p.c, .slice p.D s.jobs.length p.d, .slice p.E s.log.length p.e] 28)).alloc (Obj.cells #[.int .i64 x.1, .int .i64 x.2.1, .int .i64 x.2.2.1, .slice B k d] 33)).alloc (Obj.cells #[.slice none 0 0, .slice none 0 0, .slice none 0 0, .slice none 0 0, .slice none 0 0] 28) = w0 at *
        obtain ⟨Y, hY⟩ : ∃ Y, w.heap.size = Y := ⟨_, rfl⟩
        obtain ⟨X, hX⟩ : ∃ X, Y + 1 = X := ⟨_, rfl⟩
        obtain ⟨Z, hZ⟩ : ∃ Z, Y + 1 + 1 = Z := ⟨_, rfl⟩
        have HZ : Hid (w.heap.size ≤ Z) := by show _ ≤ _; omega
        rw [hY] at HY HBX HZ0
        rw [show Y + 2 = Z from hZ] at HZ0
        rw [hX] at HBX
        rw [hX] at hZ
        rw [hY, hX, hZ]
        clear hX hZ hY
        have HZN : Hid (∀ W, Below w.heap.size w W → StS W (fun b => b ≠ Z ∧ Upw S w b) p s) := fun W h => (HH.out.below h).keep fun b _ hb => ⟨⟨fun e => by have := HSS.out _ hb; have := HZ.out; omega, .inl hb⟩, rfl⟩
        have y0 := HY.out.c.c0
        have y0_1 := HY.out.c.c1
        have y0_2 := HY.out.c.c2
        have y0_3 := HY.out.c.c3
        have y0_4 := HY.out.c.c4
        go_wp2_with fail
        refine (HRI.out _ HS0.out).mono ?_
        rintro e w1 ⟨rfl, b1⟩
        clear y0 y0_1 y0_2 y0_3 y0_4
        have HY1 := Lib.hid (HY.out.below b1)
        have HBX1 := Lib.hid (HBX.out.below b1)
        have HX1 := Lib.hid (HX0.out.below b1)
        have HZ1 := Lib.hid (HZ0.out.below b1)
        have BW := Lib.hid (below_step B0.out b1)
        clear b1
        have y0 := HY1.out.c.c0
        have y0_1 := HY1.out.c.c1
        have y0_2 := HY1.out.c.c2
        have y0_3 := HY1.out.c.c3
        have y0_4 := HY1.out.c.c4
        obtain ⟨t0, t1, t2, t3⟩ := HBX1.out
        go_wp2_with fail
        refine (HTR.out _ HX1.out).mono ?_
        rintro e w2 ⟨rfl, b2⟩
        clear y0 y0_1 y0_2 y0_3 y0_4
        clear t0 t1 t2 t3
        have HY2 := Lib.hid (HY1.out.below b2)
        have HBX2 := Lib.hid (HBX1.out.below b2)
        have HX2 := Lib.hid (HX1.out.below b2)
        have HZ2 := Lib.hid (HZ1.out.below b2)
        have BW2 := Lib.hid (below_step BW.out b2)
        clear b2
        have y0 := HY2.out.c.c0
        have y0_1 := HY2.out.c.c1
        have y0_2 := HY2.out.c.c2
        have y0_3 := HY2.out.c.c3
        have y0_4 := HY2.out.c.c4
        obtain ⟨t0, t1, t2, t3⟩ := HBX2.out
        go_wp2_with fail
        refine (HWI.out _ (fun b h => Nat.lt_of_lt_of_le (HSS.out _ h) BW2.out.size) (HH.out.below BW2.out) HX2.out).mono ?_
        rintro e w3 ⟨q, rfl, h3, b3⟩
        have HZ3 := Lib.hid (HZ2.out.below b3)
        have BW3 := Lib.hid (below_step BW2.out b3)
        have HS3 : Hid (StS w3 (fun b => b ≠ Z ∧ Upw S w b) q r) := h3.keep fun b _ h => ⟨⟨fun e => by
          have := HZ2.out.lt
          have := HZ.out
          exact h.elim (fun h => by have := HSS.out _ h; omega) (fun h => by omega), h.imp id (fun h => Nat.le_trans BW2.out.size h)⟩, rfl⟩
        clear y0 y0_1 y0_2 y0_3 y0_4
        clear t0 t1 t2 t3 h3 b3
        have z0 := HZ3.out.z.c0
        have z1 := HZ3.out.z.c1
        have z2 := HZ3.out.z.c2
        have z3 := HZ3.out.z.c3
        have z4 := HZ3.out.z.c4
        unfold noPl noSt at z0 z1 z2 z3 z4
        simp only [List.length_nil] at z0 z1 z2 z3 z4
        have g0 := HZ3.out.f 0
        have g1 := HZ3.out.f 1
        have g2 := HZ3.out.f 2
        have g3 := HZ3.out.f 3
        have g4 := HZ3.out.f 4
        go_wp2_with fail
        change bodyPost _ _ _ _ _ (putS w3 Z q r)
        obtain ⟨h1, h2⟩ := done_at (S := S) (w := w) (v := 0) HZ3.out.z HS3.out HR8.out HZ.out BW3.out
        generalize putS w3 Z q r = W at h1 h2 ⊢
        have k0 := h2.c0
        have k1 := h2.c1
        have k2 := h2.c2
        have k3 := h2.c3
        have k4 := h2.c4
        refine bodyPost_ret (v := .tuple #[(.agg #[.slice q.A r.tasks.length q.a, .slice q.B r.leaves.length q.b, .slice q.C r.lasts.length q.c, .slice q.D r.jobs.length q.d, .slice q.E r.log.length q.e]), .int .i64 0]) (by simp [results, Try.results30, go_sem, k0, k1, k2, k3, k4]) rfl h1

end Pm
end Go.Proofs.Ytdjjdebnbaaihaa

