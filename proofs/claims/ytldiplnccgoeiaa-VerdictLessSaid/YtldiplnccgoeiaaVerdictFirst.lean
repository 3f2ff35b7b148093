/-
  Layer 10 (verdict): whether there is too little for t; the range's making; First.
-/
import Derived.Test.YtldiplnccgoeiaaVerdictRange
import Derived.Test.YtldiplnccgoeiaaVerdictNeed
import Derived.Test.YtldiplnccgoeiaaVerdictCycle
namespace Go.Proofs.Ytldiplnccgoeiaa
open Go.RowKit Mm Tk
attribute [local go_sem] Oper.semAt_some
namespace Vd

set_option maxHeartbeats 800000 in
theorem exceeds_n (A : Option Addr) (c : Nat) (L : List Tsk) (p b t : Nat) (v : Bool) (hv : badB L p b t = v) (hL : allB L = true) (h1 : 1 ≤ b) (h2 : b ≤ p) (h3 : p ≤ 200) (ht : t ≤ 3000) (n : Nat) (hn : L.length = n) (w : World) (H : TL w A c L) :
    Calls Try.prog 32 #[.slice A n c, .agg #[.int .i64 p, .int .i64 b], .int .i64 t] w fun e w' => e = .returned (.bool v) ∧ Below w.heap.size w w' := by
  subst hn
  obtain ⟨t1, t2⟩ := Sp.fc_new w (p : Int) (b : Int)
  have b0 := below_one w (Obj.cells #[.int .i64 p, .int .i64 b] 31)
  have HT := Lib.hid (H.below b0)
  obtain ⟨n1, n2⟩ := need_of hL (t := t) (by omega)
  have hb := need_small hL (t := t) (m := 3000) (by omega)
  have hsb := Sp.sbf_le h1 h2 t
  have HB := Lib.hid (Sp.bound_ok p b t h1 h2 h3 (by omega))
  obtain ⟨z, hz⟩ : ∃ z, need L t = z := ⟨_, rfl⟩
  obtain ⟨s, hs⟩ : ∃ s, Sp.sbf p b t = s := ⟨_, rfl⟩
  rw [hz] at n1 hb
  rw [hs] at hsb HB
  have hv2 : decide ((s : Int) < z) = v := by rw [← hv, ← hz, ← hs]; rfl
  have B0 := Lib.hid b0
  have N1 := Lib.hid n1
  have N2 := Lib.hid n2
  clear b0 n1 n2
  clear H hv hz hs hL
  cases v with
  | true =>
    have i1 := of_decide_eq_true hv2
    clear hv2
    go_enter Try.func32, Try.ntmps32
    go_wp2_with fail
    refine (need_v A c L t z 0 N1.out N2.out _ rfl _ HT.out).mono ?_
    rintro e w1 ⟨rfl, b1⟩
    replace t1 := cell_below b1 t1
    replace t2 := cell_below b1 t2
    have B1 := Lib.hid (below_step B0.out b1)
    clear b1
    go_wp2_with fail
    refine (HB.out _).mono ?_
    rintro e w2 ⟨rfl, b2⟩
    have B2 := Lib.hid (below_step B1.out b2)
    clear b2
    go_wp2_with fail
    go_ret
    exact ⟨rfl, B2.out⟩
  | false =>
    have i1 := of_decide_eq_false hv2
    clear hv2
    go_enter Try.func32, Try.ntmps32
    go_wp2_with fail
    refine (need_v A c L t z 0 N1.out N2.out _ rfl _ HT.out).mono ?_
    rintro e w1 ⟨rfl, b1⟩
    replace t1 := cell_below b1 t1
    replace t2 := cell_below b1 t2
    have B1 := Lib.hid (below_step B0.out b1)
    clear b1
    go_wp2_with fail
    refine (HB.out _).mono ?_
    rintro e w2 ⟨rfl, b2⟩
    have B2 := Lib.hid (below_step B1.out b2)
    clear b2
    go_wp2_with fail
    go_ret
    exact ⟨ret_bool (decide_eq_false (by omega)), B2.out⟩

theorem dl_make (A : Option Addr) (c n : Nat) (E : Int) (w : World) :
    Calls Try.prog 31 #[.slice A n c, .int .i64 E] w fun e w' => e = .returned (.func (.func 46) #[] #[.pointer (some ⟨w.heap.size + 1, 0, none⟩), .pointer (some ⟨w.heap.size, 0, none⟩)]) ∧ w' = (w.alloc (.cells #[.slice A n c] 22)).alloc (.cells #[.int .i64 E] 3) := by
  go_enter Try.func31, Try.ntmps31
  go_wp2_with fail
  go_ret
  exact ⟨rfl, rfl⟩

theorem dlEnters : ∀ args w, (callFunc 46 args).run Try.prog w = .ok (.enter 46 args) w := enters_of Try.func46 (by kernel_rfl) rfl

/-- an answer of First -/
def firV (L : List Tsk) (P B : Int) : Value := .tuple #[.int .i64 (firstT L P B : Nat), .bool (firstB L P B), .int .i64 (cycE L P B : Nat)]
theorem cycle_n (A : Option Addr) (c : Nat) (L : List Tsk) (P B : Int) (h z e : Nat) (hh : cycZ L P B = h) (hz : endZ L P B = z) (he : cycE L P B = e) (n : Nat) (hn : L.length = n) (w : World) (H : TL w A c L) :
    Calls Try.prog 14 #[.slice A n c, .agg #[.int .i64 P, .int .i64 B]] w fun x w' => x = .returned (.tuple #[.int .i64 h, .int .i64 z, .int .i64 e]) ∧ Below w.heap.size w w' := by
  subst hh; subst hz; subst he; subst hn
  exact cycle_any P B A c L w H

/-- the boxes of First -/
def w5 (w : World) (A : Option Addr) (n c : Nat) (P B : Int) : World := ((((w.alloc (.cells #[.slice A n c] 22)).alloc (.cells #[.int .i64 P, .int .i64 B] 31)).alloc (.cells #[.int .i64 0] 3)).alloc (.cells #[.bool false] 4)).alloc (.cells #[.int .i64 0] 25)
/-- what lies in them -/
structure In5 (w w' : World) (X : Nat) (A : Option Addr) (n c : Nat) (P B : Int) : Prop where
  low : Below w.heap.size w w'
  size : X + 1 + 1 + 1 + 1 < w'.heap.size
  l : w'.cell? ⟨X, 0, none⟩ = some (.slice A n c)
  f0 : w'.cell? ⟨X + 1, 0, none⟩ = some (.int .i64 P)
  f1 : w'.cell? ⟨X + 1, 1, none⟩ = some (.int .i64 B)
  r0 : w'.cell? ⟨X + 1 + 1, 0, none⟩ = some (.int .i64 0)
  r1 : w'.cell? ⟨X + 1 + 1 + 1, 0, none⟩ = some (.bool false)
  r2 : w'.cell? ⟨X + 1 + 1 + 1 + 1, 0, none⟩ = some (.int .i64 0)
  z0 : w'.frozen? ⟨X + 1 + 1, 0, none⟩ = false
  z1 : w'.frozen? ⟨X + 1 + 1 + 1, 0, none⟩ = false
  z2 : w'.frozen? ⟨X + 1 + 1 + 1 + 1, 0, none⟩ = false
theorem In5.below {w w' w'' : World} {X : Nat} {A : Option Addr} {n c : Nat} {P B : Int} (h : In5 w w' X A n c P B) (b : Below w'.heap.size w' w'') : In5 w w'' X A n c P B where
  low := below_step h.low b
  size := Nat.lt_of_lt_of_le h.size b.size
  l := cell_below b h.l
  f0 := cell_below b h.f0
  f1 := cell_below b h.f1
  r0 := cell_below b h.r0
  r1 := cell_below b h.r1
  r2 := cell_below b h.r2
  z0 := frozen_below b h.r0 h.z0
  z1 := frozen_below b h.r1 h.z1
  z2 := frozen_below b h.r2 h.z2
theorem new_box (w : World) (v : Value) (t : TypeId) (X : Nat) (hX : w.heap.size = X) : (w.alloc (.cells #[v] t)).cell? ⟨X, 0, none⟩ = some v ∧ (w.alloc (.cells #[v] t)).frozen? ⟨X, 0, none⟩ = false := by
  subst hX
  constructor <;> simp
theorem in5 (w : World) (A : Option Addr) (n c : Nat) (P B : Int) : In5 w (w5 w A n c P B) w.heap.size A n c P B := by
  unfold w5
  have a1 := new_box w (.slice A n c) 22 w.heap.size rfl
  obtain ⟨s1, hs1⟩ : ∃ s1, w.alloc (.cells #[.slice A n c] 22) = s1 := ⟨_, rfl⟩
  have z1 : s1.heap.size = w.heap.size + 1 := by rw [← hs1]; exact World.size_alloc _ _
  have d1 : Below w.heap.size w s1 := by rw [← hs1]; exact below_one _ _
  rw [hs1] at a1 ⊢
  have a2 := Sp.fc_new s1 P B
  obtain ⟨s2, hs2⟩ : ∃ s2, s1.alloc (.cells #[.int .i64 P, .int .i64 B] 31) = s2 := ⟨_, rfl⟩
  have z2 : s2.heap.size = w.heap.size + 1 + 1 := by rw [← hs2, World.size_alloc, z1]
  have d2 : Below s1.heap.size s1 s2 := by rw [← hs2]; exact below_one _ _
  rw [hs2] at a2 ⊢
  rw [z1] at a2
  have a3 := new_box s2 (.int .i64 0) 3 _ z2
  obtain ⟨s3, hs3⟩ : ∃ s3, s2.alloc (.cells #[.int .i64 0] 3) = s3 := ⟨_, rfl⟩
  have z3 : s3.heap.size = w.heap.size + 1 + 1 + 1 := by rw [← hs3, World.size_alloc, z2]
  have d3 : Below s2.heap.size s2 s3 := by rw [← hs3]; exact below_one _ _
  rw [hs3] at a3 ⊢
  have a4 := new_box s3 (.bool false) 4 _ z3
  obtain ⟨s4, hs4⟩ : ∃ s4, s3.alloc (.cells #[.bool false] 4) = s4 := ⟨_, rfl⟩
  have z4 : s4.heap.size = w.heap.size + 1 + 1 + 1 + 1 := by rw [← hs4, World.size_alloc, z3]
  have d4 : Below s3.heap.size s3 s4 := by rw [← hs4]; exact below_one _ _
  rw [hs4] at a4 ⊢
  have a5 := new_box s4 (.int .i64 0) 25 _ z4
  obtain ⟨s5, hs5⟩ : ∃ s5, s4.alloc (.cells #[.int .i64 0] 25) = s5 := ⟨_, rfl⟩
  have z5 : s5.heap.size = w.heap.size + 1 + 1 + 1 + 1 + 1 := by rw [← hs5, World.size_alloc, z4]
  have d5 : Below s4.heap.size s4 s5 := by rw [← hs5]; exact below_one _ _
  rw [hs5] at a5 ⊢
  have d45 := below_step d4 d5
  have d35 := below_step d3 d45
  have d25 := below_step d2 d35
  exact ⟨below_step d1 d25, by omega, cell_below d25 a1.1, cell_below d35 a2.1, cell_below d35 a2.2, cell_below d45 a3.1, cell_below d5 a4.1, a5.1, frozen_below d45 a3.1 a3.2, frozen_below d5 a4.1 a4.2, a5.2⟩

/-- the three results, written -/
def set3 (W : World) (X : Nat) (u v x : Value) : World := ((W.setCell ⟨X + 1 + 1, 0, none⟩ u).setCell ⟨X + 1 + 1 + 1, 0, none⟩ v).setCell ⟨X + 1 + 1 + 1 + 1, 0, none⟩ x
theorem set3_cells {w W : World} {X : Nat} {A : Option Addr} {n c : Nat} {P B : Int} (h : In5 w W X A n c P B) (u v x : Value) :
    (set3 W X u v x).cell? ⟨X + 1 + 1, 0, none⟩ = some u ∧ (set3 W X u v x).cell? ⟨X + 1 + 1 + 1, 0, none⟩ = some v ∧ (set3 W X u v x).cell? ⟨X + 1 + 1 + 1 + 1, 0, none⟩ = some x := by
  have n1 : (⟨X + 1 + 1, 0, none⟩ : Addr) ≠ ⟨X + 1 + 1 + 1, 0, none⟩ := fun e => by injection e with e; omega
  have n2 : (⟨X + 1 + 1, 0, none⟩ : Addr) ≠ ⟨X + 1 + 1 + 1 + 1, 0, none⟩ := fun e => by injection e with e; omega
  have n3 : (⟨X + 1 + 1 + 1, 0, none⟩ : Addr) ≠ ⟨X + 1 + 1 + 1 + 1, 0, none⟩ := fun e => by injection e with e; omega
  have n4 := n1.symm
  have n5 := n2.symm
  have n6 := n3.symm
  unfold set3
  refine ⟨?_, ?_, ?_⟩
  · rw [World.cell?_setCell_other _ _ _ _ n5, World.cell?_setCell_other _ _ _ _ n4]
    exact World.cell?_setCell_same _ _ _ h.r0
  · rw [World.cell?_setCell_other _ _ _ _ n6]
    exact World.cell?_setCell_same _ _ _ ((World.cell?_setCell_other _ _ _ _ n1).trans h.r1)
  · exact World.cell?_setCell_same _ _ _ (((World.cell?_setCell_other _ _ _ _ n3).trans (World.cell?_setCell_other _ _ _ _ n2)).trans h.r2)
theorem set3_below {B : Nat} {w W : World} {X : Nat} (h : Below B w W) (hX : B ≤ X) (u v x : Value) : Below B w (set3 W X u v x) := ((h.setCell (p := ⟨X + 1 + 1, 0, none⟩) (by show B ≤ X + 1 + 1; omega) _).setCell (p := ⟨X + 1 + 1 + 1, 0, none⟩) (by show B ≤ X + 1 + 1 + 1; omega) _).setCell (p := ⟨X + 1 + 1 + 1 + 1, 0, none⟩) (by show B ≤ X + 1 + 1 + 1 + 1; omega) _
theorem set3_keeps (W : World) (X : Nat) (u v x : Value) : KeepsOthers W (set3 W X u v x) := ((KeepsOthers.setCell _ _ _).trans (KeepsOthers.setCell _ _ _)).trans (KeepsOthers.setCell _ _ _)

theorem keeps_of {W W' : World} (b : Below W.heap.size W W') : KeepsOthers W W' := KeepsOthers.of_grownBy (grown_of_below b) (fun j o e => by cases e)
/-- the invariant of the rounds; how one is left -/
def Inv (L : List Tsk) (p b : Nat) (W0 : World) (pre : List Tick) (W : World) : Prop := Below W0.heap.size W0 W ∧ ∀ x ∈ pre, badB L p b x.1 = false
def Out (L : List Tsk) (p b : Nat) (w : World) (X : Nat) (cd : Code) (pre : List Tick) (W : World) : Prop :=
  (cd = .ret ∧ ∃ ys x, pre = ys ++ [x] ∧ badB L p b x.1 = true ∧ (∀ y ∈ ys, badB L p b y.1 = false) ∧
    W.cell? ⟨X + 1 + 1, 0, none⟩ = some (.int .i64 x.1) ∧ W.cell? ⟨X + 1 + 1 + 1, 0, none⟩ = some (.bool true) ∧ W.cell? ⟨X + 1 + 1 + 1 + 1, 0, none⟩ = some (.int .i64 0)) ∧ Below w.heap.size w W
theorem inv_own (L : List Tsk) (p b : Nat) (W0 : World) : OwnFrom W0.heap.size (Inv L p b W0) := OwnFrom.and (ownFrom_below (Nat.le_refl _) (Nat.le_refl _)) (ownFrom_pure _ _)
theorem out_own (L : List Tsk) (p b : Nat) (w W0 : World) (X : Nat) (h : w.heap.size ≤ W0.heap.size) (cd : Code) : OwnFrom W0.heap.size (Out L p b w X cd) := OwnFrom.and (fun s A B row hs hg hr => by
  obtain ⟨h0, ys, x, h1, h2, h3, h4, h5, h6⟩ := hs
  exact ⟨h0, ys, x, h1, h2, h3, cell_kept h4 hg (fun r e => (hr r e).2), cell_kept h5 hg (fun r e => (hr r e).2), cell_kept h6 hg (fun r e => (hr r e).2)⟩) (ownFrom_below (Nat.le_refl _) h)

/-- what has come tells the answer -/
theorem first_none {L : List Tsk} {p b E : Nat} (hL : allB L = true) (h1 : 1 ≤ b) (h2 : b ≤ p) {xs : List Tick} (hA : AllOf L E xs) (hg : ∀ x ∈ xs, badB L p b x.1 = false) : FirstOf L p b E 0 false := .inl ⟨rfl, rfl, bad_none hL h1 h2 fun t ht hd => by
  obtain ⟨x, hx, e⟩ := hA t ht hd
  rw [← e]
  exact hg x hx⟩
theorem first_some {L : List Tsk} {p b E : Nat} (hL : allB L = true) (h1 : 1 ≤ b) (h2 : b ≤ p) {pre : List Tick} (hA : LeftAt L E pre) {ys : List Tick} {x : Tick} (he : pre = ys ++ [x]) (hx : badB L p b x.1 = true) (hg : ∀ y ∈ ys, badB L p b y.1 = false) : FirstOf L p b E x.1 true := by
  obtain ⟨ys', x', e', hE, hs⟩ := hA
  rw [he] at e'
  obtain ⟨e1, e2⟩ := List.append_inj' e' rfl
  obtain rfl : x = x' := by simpa using e2
  subst e1
  refine .inr ⟨rfl, hE, hx, fun u hu => ?_⟩
  by_cases h0 : x.1 = 0
  · omega
  · exact bad_none (E := x.1 - 1) hL h1 h2 (fun t ht hd => by
      obtain ⟨y, hy, e⟩ := hs t (by omega) hd
      rw [← e]
      exact hg y hy) u (by omega)

set_option maxRecDepth 100000 in
set_option maxHeartbeats 4000000 in
theorem first_any (P B : Int) (A : Option Addr) (c : Nat) (L : List Tsk) (w : World) (H : TL w A c L) :
    Calls Try.prog 17 #[.slice A L.length c, .agg #[.int .i64 P, .int .i64 B]] w fun e w' => e = .returned (firV L P B) ∧ Below w.heap.size w w' := by
  obtain ⟨h, hh⟩ : ∃ h, cycZ L P B = h := ⟨_, rfl⟩
  obtain ⟨z, hz⟩ : ∃ z, endZ L P B = z := ⟨_, rfl⟩
  obtain ⟨e, he⟩ : ∃ e, cycE L P B = e := ⟨_, rfl⟩
  have HC := Lib.hid (cycle_n A c L P B h z e hh hz he L.length rfl)
  have HT := Lib.hid H
  clear H
  refine (callsIn_wide (n := 4)).1 ?_
  refine callsIn_of_wp_marks Try.func17 rfl trivial ?_ rfl
  simp only [Try.ntmps17, List.size_toArray, List.length_cons, List.length_nil, Nat.reduceAdd, Nat.reduceSub, Array.replicate_succ, Array.replicate_zero, List.push_toArray, List.append_toArray, List.nil_append, List.cons_append]
  gi_wp2_with fail
  have h5 := in5 w A L.length c P B
  rw [← w5]
  generalize w5 w A L.length c P B = w0 at *
  refine ⟨trivial, (callsIn_wide.2 (HC.out _ (HT.out.below h5.low))).mono ?_⟩
  rintro x w1 ⟨rfl, b1⟩
  replace h5 := h5.below b1
  replace HT := Lib.hid (HT.out.below h5.low)
  clear b1
  cases hok : cycOk L P B with
  | false =>
    have he0 : ¬ e = 0 := fun h => by rw [← he, cycE_zero, hok] at h; cases h
    have i1 : ¬ (e : Int) = 0 := by omega
    have i2 : ((e : Int) == 0) = false := beq_eq_false_iff_ne.2 i1
    have HV : Hid (firV L P B = .tuple #[.int .i64 0, .bool false, .int .i64 e]) := by
      show _ = _
      unfold firV firstT firstB
      rw [hok, he]
      rfl
    have q0 := h5.r0
    have q1 := h5.r1
    have q2 := h5.r2
    have p0 := h5.z0
    have p1 := h5.z1
    have p2 := h5.z2
    have H5 := Lib.hid h5
    clear h5
    have HH := Lib.hid hh
    have HZ := Lib.hid hz
    have HE := Lib.hid he
    have HOK := Lib.hid hok
    have HE0 := Lib.hid he0
    clear hh hz he hok he0
    gi_wp2_with fail
    obtain ⟨k0, k1, k2⟩ := set3_cells H5.out (.int .i64 0) (.bool false) (.int .i64 e)
    have B3 := Lib.hid (set3_below H5.out.low (Nat.le_refl _) (.int .i64 0) (.bool false) (.int .i64 e))
    rw [← set3]
    generalize set3 w1 w.heap.size (.int .i64 0) (.bool false) (.int .i64 e) = w3 at *
    refine ⟨.tuple #[.int .i64 0, .bool false, .int .i64 e], ?_, by rw [HV.out], B3.out⟩
    simp [results, Try.results17, go_sem, k0, k1, k2]
  | true =>
    obtain ⟨g0, g4⟩ := cycOk_iff.1 hok
    obtain ⟨hL, hr⟩ := in_iff.1 g0
    obtain ⟨p, b, rfl, rfl, g1, g2, g3⟩ := Sp.right_nat hr
    rw [Int.toNat_natCast] at g4
    obtain ⟨_, e2, e3⟩ := cyc_fine hok
    rw [Int.toNat_natCast] at e2
    have he0 : e = 0 := by rw [← he]; exact e3
    have hz3 : z ≤ 3000 := by rw [← hz, e2]; exact g4
    subst he0
    have HF : Hid (∀ t v, FirstOf L p b z t v → firV L (p : Int) (b : Int) = .tuple #[.int .i64 t, .bool v, .int .i64 0]) := fun t v hf => by
      obtain ⟨f1, f2⟩ := hf.same (firstOf L p b z)
      unfold firV firstT firstB
      rw [hok, hz, e3, f1, f2]
      rfl
    have t1 := h5.l
    have hXs := h5.low.size
    have H5 := Lib.hid h5
    have HL := Lib.hid hL
    clear h5 hh hz he hok e2 e3 g0 g4 hr hL HC
    gi_wp2_with fail
    refine ⟨trivial, (callsIn_wide.2 (dl_make A c L.length z _)).mono ?_⟩
    rintro x w2 ⟨rfl, rfl⟩
    gi_wp2_with fail
    have bb := below_two w1 (Obj.cells #[.slice A L.length c] 22) (Obj.cells #[.int .i64 z] 3)
    have y1 : ((w1.alloc (Obj.cells #[.slice A L.length c] 22)).alloc (Obj.cells #[.int .i64 z] 3)).cell? ⟨w1.heap.size, 0, none⟩ = some (.slice A L.length c) := cell_new (by simp) _
    have y2 : ((w1.alloc (Obj.cells #[.slice A L.length c] 22)).alloc (Obj.cells #[.int .i64 z] 3)).cell? ⟨w1.heap.size + 1, 0, none⟩ = some (.int .i64 z) := (new_box _ _ _ _ (World.size_alloc _ _)).1
    have hT := HT.out.below bb
    have h5 := H5.out.below bb
    clear HT H5 t1
    generalize (w1.alloc (Obj.cells #[.slice A L.length c] 22)).alloc (Obj.cells #[.int .i64 z] 3) = W0 at *
    have hX0 : w.heap.size ≤ W0.heap.size := h5.low.size
    have HT := Lib.hid hT
    have H5 := Lib.hid h5
    have HS := Lib.hid (dl_stops 3 (by omega) (w1.heap.size + 1) w1.heap.size z hz3 A c L HL.out W0 y2 y1 hT)
    clear hT h5 bb y1 y2
    refine wpIn_rangeFunc_ownF rfl (by omega) (gf := 46) (lb := #[.pointer (some ⟨w1.heap.size + 1, 0, none⟩), .pointer (some ⟨w1.heap.size, 0, none⟩)]) rfl trivial dlEnters HS.out belowK_t (belowK_b (Nat.le_refl _)) (Below.refl _ _) (fun _ => rfl)
      (Inv L p b W0) (Out L p b w w.heap.size) (inv_own L p b W0) (out_own L p b w W0 w.heap.size hX0) ⟨Below.refl _ _, fun x hx => by cases hx⟩
      (fun x => { tmps := #[.slice A L.length c, .agg #[.int .i64 p, .int .i64 b], .pointer (some ⟨w.heap.size, 0, none⟩), .pointer (some ⟨w.heap.size + 1, 0, none⟩), .pointer (some ⟨w.heap.size + 1 + 1, 0, none⟩), .pointer (some ⟨w.heap.size + 1 + 1 + 1, 0, none⟩), .pointer (some ⟨w.heap.size + 1 + 1 + 1 + 1, 0, none⟩), .int .i64 h, .int .i64 z, .int .i64 0, .int .i64 x.1, .tuple #[.int .i64 h, .int .i64 z, .int .i64 0], .slice A L.length c, .agg #[.int .i64 p, .int .i64 b], .tuple #[.int .i64 h, .int .i64 z, .int .i64 0], .int .i64 h, .int .i64 z, .int .i64 0, .int .i64 0, .bool false, undef, .slice A L.length c, .int .i64 z, .func (.func 46) #[] #[.pointer (some ⟨w1.heap.size + 1, 0, none⟩), .pointer (some ⟨w1.heap.size, 0, none⟩)], .int .i64 x.1, undef, undef, undef, undef, undef], defers := [] }) ?assign ?body ?done ?stop
    case assign =>
      intro l x W K hK
      gi_wp2_with fail
      exact hK
    case body =>
      rintro l pre x W ⟨hb, hp⟩ _
      have h5 := H5.out.below hb
      have hT := HT.out.below hb
      have hW0 := hb.size
      have t1 := h5.l
      have t2 := h5.f0
      have t3 := h5.f1
      have HH5 := Lib.hid h5
      have HTT := Lib.hid hT
      have HB := Lib.hid hb
      have HP := Lib.hid hp
      clear h5 hT hb hp
      cases hv : badB L p b x.1 with
      | true =>
        have HV := Lib.hid hv
        clear hv
        gi_wp2_with fail
        refine ⟨trivial, (CallsIn.inRound l (callsIn_wide.2 (exceeds_n A c L p b x.1 true HV.out HL.out g1 g2 g3 x.2 L.length rfl _ HTT.out))).mono ?_⟩
        rintro e W1 ⟨rfl, b1⟩
        have h5 := HH5.out.below b1
        have q0 := h5.r0
        have q1 := h5.r1
        have q2 := h5.r2
        have p0 := h5.z0
        have p1 := h5.z1
        have p2 := h5.z2
        have H6 := Lib.hid h5
        have B1 := Lib.hid b1
        clear h5 b1 t1 t2 t3
        gi_wp2_with fail
        obtain ⟨k0, k1, k2⟩ := set3_cells H6.out (.int .i64 x.1) (.bool true) (.int .i64 0)
        rw [← set3]
        exact ⟨(keeps_of B1.out).trans (set3_keeps _ _ _ _ _), ⟨rfl, pre, x, rfl, HV.out, HP.out, k0, k1, k2⟩, set3_below H6.out.low (Nat.le_refl _) _ _ _⟩
      | false =>
        have HV := Lib.hid hv
        clear hv
        gi_wp2_with fail
        refine ⟨trivial, (CallsIn.inRound l (callsIn_wide.2 (exceeds_n A c L p b x.1 false HV.out HL.out g1 g2 g3 x.2 L.length rfl _ HTT.out))).mono ?_⟩
        rintro e W1 ⟨rfl, b1⟩
        have B1 := Lib.hid b1
        clear b1 t1 t2 t3
        gi_wp2_with fail
        exact ⟨keeps_of B1.out, B1.out.mono hW0, HB.out.trans (B1.out.mono hW0), fun y hy => by
          rcases List.mem_append.1 hy with h | h
          · exact HP.out y h
          · obtain rfl : y = x := by simpa using h
            exact HV.out⟩
    case done =>
      rintro D xs W hD hS ⟨hb, hp⟩ hK
      have hV := HF.out _ _ (first_none HL.out g1 g2 hS hp)
      have h5 := H5.out.below hb
      have q0 := h5.r0
      have q1 := h5.r1
      have q2 := h5.r2
      have p0 := h5.z0
      have p1 := h5.z1
      have p2 := h5.z2
      have HH5 := Lib.hid h5
      have HB := Lib.hid hb
      have HV := Lib.hid hV
      have HK := Lib.hid hK
      clear h5 hb hp hS hV hK
      gi_wp2_with fail
      obtain ⟨k0, k1, k2⟩ := set3_cells HH5.out (.int .i64 0) (.bool false) (.int .i64 0)
      have hK3 := (set3_keeps W w.heap.size (.int .i64 0) (.bool false) (.int .i64 0)).same D _ HK.out rfl
      have B3 := set3_below HH5.out.low (Nat.le_refl _) (.int .i64 0) (.bool false) (.int .i64 0)
      rw [← set3]
      generalize set3 W w.heap.size (.int .i64 0) (.bool false) (.int .i64 0) = W3 at *
      have hrow : ∀ r, (some D : Option Nat) = some r → ∃ o : Obj, W3.heap[r]? = some o ∧ o.isCells = false := fun r e => by cases e; exact ⟨_, hK3, rfl⟩
      replace k0 := cell_kept k0 (grownBy_putObj' W3 D (.deferred none)) hrow
      replace k1 := cell_kept k1 (grownBy_putObj' W3 D (.deferred none)) hrow
      replace k2 := cell_kept k2 (grownBy_putObj' W3 D (.deferred none)) hrow
      refine ⟨by simp, .inl ⟨_, _, rfl, run_takeDeferred hK3, ?_⟩⟩
      refine ⟨.tuple #[.int .i64 0, .bool false, .int .i64 0], ?_, by rw [HV.out]; rfl, B3.trans (belowK_b (w := w) (Nat.le_refl _) W3 D _ _ (by omega) hK3 rfl rfl)⟩
      simp [results, Try.results17, go_sem, k0, k1, k2]
    case stop =>
      rintro D cd pre W hD hS ⟨⟨rfl, ys, x, e, hx, hg, k0, k1, k2⟩, hb⟩ hK
      have HV := Lib.hid (HF.out _ _ (first_some HL.out g1 g2 hS e hx hg))
      have HK := Lib.hid hK
      have HB := Lib.hid hb
      clear hS hx hg e hK hb
      gi_wp2_with fail
      have hrow : ∀ r, (some D : Option Nat) = some r → ∃ o : Obj, W.heap[r]? = some o ∧ o.isCells = false := fun r e => by cases e; exact ⟨_, HK.out, rfl⟩
      replace k0 := cell_kept k0 (grownBy_putObj' W D (.deferred none)) hrow
      replace k1 := cell_kept k1 (grownBy_putObj' W D (.deferred none)) hrow
      replace k2 := cell_kept k2 (grownBy_putObj' W D (.deferred none)) hrow
      refine ⟨by simp, .inl ⟨_, _, rfl, run_takeDeferred HK.out, ?_⟩⟩
      refine ⟨.tuple #[.int .i64 x.1, .bool true, .int .i64 0], ?_, by rw [HV.out], HB.out.trans (belowK_b (w := w) (Nat.le_refl _) W D _ _ (by omega) HK.out rfl rfl)⟩
      simp [results, Try.results17, go_sem, k0, k1, k2]

end Vd
end Go.Proofs.Ytldiplnccgoeiaa
