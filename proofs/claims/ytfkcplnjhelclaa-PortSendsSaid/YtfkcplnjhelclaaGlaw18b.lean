/-
  Merged texts: Law18Acts.
-/
import Derived.Test.YtfkcplnjhelclaaGlaw18
import Derived.Test.YtfkcplnjhelclaaGport
import Derived.Deep.DeepCutAuto
import Derived.Deep.CutBlock
/-
  Layer 18: the references' Send, Read, With.
-/
namespace Go.Proofs.Ytfkcplnjhelclaa
open Go.RowKit Mm
namespace Po

/-- a document's line and an error; with a message ahead -/
def RowE (w : World) (y : Rw) (E : Int) (e : Ending) (w' : World) : Prop :=
  ∃ P p Q q, e = .returned (.tuple #[(.agg #[.int .i64 y.1.1, .int .i64 y.1.2.1, .int .i64 y.1.2.2, .slice P y.2.1.length p, .slice Q y.2.2.length q]), .int .i64 E]) ∧ Rd w' P p y.2.1 ∧ Rd w' Q q y.2.2 ∧ Below w.heap.size w w'
def RowM (w : World) (m : Int) (y : Rw) (E : Int) (e : Ending) (w' : World) : Prop :=
  ∃ P p Q q, e = .returned (.tuple #[.int .i64 m, (.agg #[.int .i64 y.1.1, .int .i64 y.1.2.1, .int .i64 y.1.2.2, .slice P y.2.1.length p, .slice Q y.2.2.length q]), .int .i64 E]) ∧ Rd w' P p y.2.1 ∧ Rd w' Q q y.2.2 ∧ Below w.heap.size w w'
theorem buildRowZ (w : World) : (Instr.build 37 #[]).run Try.prog w = .ok (.agg #[.int .i64 0, .int .i64 0, .int .i64 0, .slice none 0 0, .slice none 0 0]) w := by kernel_rfl
theorem list_app_j {w : World} {ops : Array Oper} {rest : List Oper} {o : Oper} {a : Act} {Q : Exit → Act → World → Prop} (hg : o.guard = none) (s x : Operand) (ho : o.op = .call { callee := .builtin .append, args := #[s, x], argTypes := #[35, 35] })
    {base : Nat} {A B : Option Addr} {c d : Nat} {l r : List Int} {n m N : Nat} (hn : l.length = n) (hm : r.length = m) (hN : n + m = N) (h1 : a.eval s = .slice A n c) (h2 : a.eval x = .slice B m d) (h : Ow w base 3 A c l) (hr : Rd w B d r) (hbig : n + m ≤ 1000000) (hbase : base ≤ w.heap.size)
    (hK : ∀ A' c' w', Ow w' base 3 A' c' (l ++ r) → Below base w w' → wpList Try.prog ops Q rest (a.put o.dst (.slice A' N c')) w') :
    wpList Try.prog ops Q (o :: rest) a w := by
  subst hn; subst hm; subst hN
  exact list_app_flat slI hg s x ho h1 h2 h hr hbig hbase fun A' c' w' k1 k2 _ => hK A' c' w' k1 k2
abbrev rz : Obj := .cells #[.int .i64 0, .int .i64 0, .int .i64 0, .slice none 0 0, .slice none 0 0] 37

section
attribute [local go_sem ↓] buildRowZ
variable {A : Option Addr} {c : Nat} {R : List Rw}
set_option maxHeartbeats 800000 in
theorem refSend_none (who i v : Int) (w : World) (hi : i < 0 ∨ (R.length : Int) ≤ i) :
    Calls Try.prog 14 #[.slice A R.length c, .int .i64 who, .int .i64 i, .int .i64 v] w (RowE w noW 4) := by
  have B0 := Lib.hid (below_one w rz)
  have HY : Hid (Bw (w.alloc (.cells #[.int .i64 0, .int .i64 0, .int .i64 0, .slice none 0 0, .slice none 0 0] 37)) w.heap.size none 0 none 0 noW) := bw_new w none 0 none 0 noW _ rfl
  have HE := Lib.hid (below_SW B0.out (Nat.le_refl _) none 0 none 0 noW)
  obtain ⟨y0, y1, y2, y3, y4⟩ := HY.out.cells
  have f0 := HY.out.f 0
  have f1 := HY.out.f 1
  have f2 := HY.out.f 2
  have f3 := HY.out.f 3
  have f4 := HY.out.f 4
  by_cases h0 : i < 0
  · clear hi
    go_enter Try.func14, Try.ntmps14
    go_wp2_with fail
    refine bodyPost_ret (v := .tuple #[.agg #[.int .i64 0, .int .i64 0, .int .i64 0, .slice none 0 0, .slice none 0 0], .int .i64 4]) (by simp [results, Try.results14, go_sem, y0, y1, y2, y3, y4, noW]) rfl ?_
    exact ⟨none, 0, none, 0, rfl, rd_nil (fun _ => rfl) (Nat.zero_le _), rd_nil (fun _ => rfl) (Nat.zero_le _), by first | exact B0.out | exact HE.out⟩
  · have h1 : (R.length : Int) ≤ i := by omega
    have h2 : (0 : Int) ≤ i := by omega
    clear hi h0
    go_enter Try.func14, Try.ntmps14
    go_wp2_with fail
    refine bodyPost_ret (v := .tuple #[.agg #[.int .i64 0, .int .i64 0, .int .i64 0, .slice none 0 0, .slice none 0 0], .int .i64 4]) (by simp [results, Try.results14, go_sem, y0, y1, y2, y3, y4, noW]) rfl ?_
    exact ⟨none, 0, none, 0, rfl, rd_nil (fun _ => rfl) (Nat.zero_le _), rd_nil (fun _ => rfl) (Nat.zero_le _), by first | exact B0.out | exact HE.out⟩
set_option maxHeartbeats 800000 in
theorem refRead_none (who i : Int) (w : World) (hi : i < 0 ∨ (R.length : Int) ≤ i) :
    Calls Try.prog 15 #[.slice A R.length c, .int .i64 who, .int .i64 i] w (RowM w 0 noW 4) := by
  have B0 := Lib.hid (below_one w rz)
  have HY : Hid (Bw (w.alloc (.cells #[.int .i64 0, .int .i64 0, .int .i64 0, .slice none 0 0, .slice none 0 0] 37)) w.heap.size none 0 none 0 noW) := bw_new w none 0 none 0 noW _ rfl
  have HE := Lib.hid (below_SW B0.out (Nat.le_refl _) none 0 none 0 noW)
  obtain ⟨y0, y1, y2, y3, y4⟩ := HY.out.cells
  have f0 := HY.out.f 0
  have f1 := HY.out.f 1
  have f2 := HY.out.f 2
  have f3 := HY.out.f 3
  have f4 := HY.out.f 4
  by_cases h0 : i < 0
  · clear hi
    go_enter Try.func15, Try.ntmps15
    go_wp2_with fail
    refine bodyPost_ret (v := .tuple #[.int .i64 0, .agg #[.int .i64 0, .int .i64 0, .int .i64 0, .slice none 0 0, .slice none 0 0], .int .i64 4]) (by simp [results, Try.results15, go_sem, y0, y1, y2, y3, y4, noW]) rfl ?_
    exact ⟨none, 0, none, 0, rfl, rd_nil (fun _ => rfl) (Nat.zero_le _), rd_nil (fun _ => rfl) (Nat.zero_le _), by first | exact B0.out | exact HE.out⟩
  · have h1 : (R.length : Int) ≤ i := by omega
    have h2 : (0 : Int) ≤ i := by omega
    clear hi h0
    go_enter Try.func15, Try.ntmps15
    go_wp2_with fail
    refine bodyPost_ret (v := .tuple #[.int .i64 0, .agg #[.int .i64 0, .int .i64 0, .int .i64 0, .slice none 0 0, .slice none 0 0], .int .i64 4]) (by simp [results, Try.results15, go_sem, y0, y1, y2, y3, y4, noW]) rfl ?_
    exact ⟨none, 0, none, 0, rfl, rd_nil (fun _ => rfl) (Nat.zero_le _), rd_nil (fun _ => rfl) (Nat.zero_le _), by first | exact B0.out | exact HE.out⟩

theorem row_end {w w2 : World} {P Q : Option Addr} {p q : Nat} {y : Rw} (E : Int) (hb : Below w.heap.size w w2) (r1 : RdS w2 (fun b => b ≠ w.heap.size) P p y.2.1) (r2 : RdS w2 (fun b => b ≠ w.heap.size) Q q y.2.2) : RowE w y E (.returned (.tuple #[(.agg #[.int .i64 y.1.1, .int .i64 y.1.2.1, .int .i64 y.1.2.2, .slice P y.2.1.length p, .slice Q y.2.2.length q]), .int .i64 E])) (((((w2.setCell ⟨(w.heap.size), 0, none⟩ (.int .i64 y.1.1)).setCell ⟨(w.heap.size), 1, none⟩ (.int .i64 y.1.2.1)).setCell ⟨(w.heap.size), 2, none⟩ (.int .i64 y.1.2.2)).setCell ⟨(w.heap.size), 3, none⟩ (.slice P y.2.1.length p)).setCell ⟨(w.heap.size), 4, none⟩ (.slice Q y.2.2.length q)) := by
  rw [put5]
  exact ⟨P, p, Q, q, rfl, (rd_putC r1 (fun h => h rfl) _ _).rd, (rd_putC r2 (fun h => h rfl) _ _).rd, below_putC (Nat.le_refl _) _ _ _ hb⟩
theorem row_endM {w w2 : World} {P Q : Option Addr} {p q : Nat} {y : Rw} (m E : Int) (hb : Below w.heap.size w w2) (r1 : RdS w2 (fun b => b ≠ w.heap.size) P p y.2.1) (r2 : RdS w2 (fun b => b ≠ w.heap.size) Q q y.2.2) : RowM w m y E (.returned (.tuple #[.int .i64 m, (.agg #[.int .i64 y.1.1, .int .i64 y.1.2.1, .int .i64 y.1.2.2, .slice P y.2.1.length p, .slice Q y.2.2.length q]), .int .i64 E])) (((((w2.setCell ⟨(w.heap.size), 0, none⟩ (.int .i64 y.1.1)).setCell ⟨(w.heap.size), 1, none⟩ (.int .i64 y.1.2.1)).setCell ⟨(w.heap.size), 2, none⟩ (.int .i64 y.1.2.2)).setCell ⟨(w.heap.size), 3, none⟩ (.slice P y.2.1.length p)).setCell ⟨(w.heap.size), 4, none⟩ (.slice Q y.2.2.length q)) := by
  rw [put5]
  exact ⟨P, p, Q, q, rfl, (rd_putC r1 (fun h => h rfl) _ _).rd, (rd_putC r2 (fun h => h rfl) _ _).rd, below_putC (Nat.le_refl _) _ _ _ hb⟩
theorem row_end2 {w w2 : World} {P Q : Option Addr} {p q k : Nat} {t : Pt} {U G : List Int} (E : Int) (hl : U.length = k) (hb : Below w.heap.size w w2) (r1 : RdS w2 (fun b => b ≠ w.heap.size) P p U) (r2 : RdS w2 (fun b => b ≠ w.heap.size) Q q G) : RowE w (t, U, G) E (.returned (.tuple #[.agg #[.int .i64 t.1, .int .i64 t.2.1, .int .i64 t.2.2, .slice P k p, .slice Q G.length q], .int .i64 E]))
    (((((w2.setCell ⟨w.heap.size, 0, none⟩ (.int .i64 t.1)).setCell ⟨w.heap.size, 1, none⟩ (.int .i64 t.2.1)).setCell ⟨w.heap.size, 2, none⟩ (.int .i64 t.2.2)).setCell ⟨w.heap.size, 3, none⟩ (.slice P k p)).setCell ⟨w.heap.size, 4, none⟩ (.slice Q G.length q)) := by
  subst hl
  rw [put5]
  exact ⟨P, p, Q, q, rfl, (rd_putC r1 (fun h => h rfl) _ _).rd, (rd_putC r2 (fun h => h rfl) _ _).rd, below_putC (Nat.le_refl _) _ _ _ hb⟩
theorem row_endM2 {w w2 : World} {P Q : Option Addr} {p q k : Nat} {t : Pt} {U G : List Int} (m E : Int) (hl : G.length = k) (hb : Below w.heap.size w w2) (r1 : RdS w2 (fun b => b ≠ w.heap.size) P p U) (r2 : RdS w2 (fun b => b ≠ w.heap.size) Q q G) : RowM w m (t, U, G) E (.returned (.tuple #[.int .i64 m, .agg #[.int .i64 t.1, .int .i64 t.2.1, .int .i64 t.2.2, .slice P U.length p, .slice Q k q], .int .i64 E]))
    (((((w2.setCell ⟨w.heap.size, 0, none⟩ (.int .i64 t.1)).setCell ⟨w.heap.size, 1, none⟩ (.int .i64 t.2.1)).setCell ⟨w.heap.size, 2, none⟩ (.int .i64 t.2.2)).setCell ⟨w.heap.size, 3, none⟩ (.slice P U.length p)).setCell ⟨w.heap.size, 4, none⟩ (.slice Q k q)) := by
  subst hl
  rw [put5]
  exact ⟨P, p, Q, q, rfl, (rd_putC r1 (fun h => h rfl) _ _).rd, (rd_putC r2 (fun h => h rfl) _ _).rd, below_putC (Nat.le_refl _) _ _ _ hb⟩
theorem RowM.drew {w w2 : World} {m E : Int} {y : Rw} {e : Ending} (h : RowM w m y E e w2) : RowM w m y E e w2.drew := by
  obtain ⟨P, p, Q, q, e, r1, r2, b⟩ := h
  exact ⟨P, p, Q, q, e, r1.below (Below.refl _ _).drew, r2.below (Below.refl _ _).drew, b.drew⟩
theorem oldY {α : Type} [Inhabited α] [Dat α] {w w2 : World} {A : Option Addr} {c : Nat} {l : List α} (h : Rd w A c l) (b : Below w.heap.size w w2) : RdS w2 (fun b => b ≠ w.heap.size) A c l := (RdS.below h.old b).sub fun _ _ hb => Nat.ne_of_lt hb
set_option maxHeartbeats 800000 in
theorem refSend_deny (k : Nat) (x : Rw) (who i v : Int) (w : World) (hr : Rd w A c R) (hi : i = (k : Int)) (hk : k < R.length) (hx : at_ R k = x) (hw : x.1.1 ≠ who) :
    Calls Try.prog 14 #[.slice A R.length c, .int .i64 who, .int .i64 i, .int .i64 v] w (RowE w x 7) := by
  have hw2 : (x.1.1 != who) = true := by simp [hw]
  subst hi
  have i1 : (0 : Int) ≤ (k : Int) := by omega
  have i2 : (k : Int) < (R.length : Int) := by omega
  obtain ⟨b, off, rfl, _, hc⟩ := row_at hr (by omega)
  obtain ⟨P, p, Q, q, h5, hf, r1, r2⟩ := hc k hk
  rw [hx] at h5 hf r1 r2
  have HR1 := Lib.hid r1
  have HR2 := Lib.hid r2
  obtain ⟨x0, x1, x2, x3, x4⟩ := h5.below (below_one w rz)
  have HY : Hid (Bw ((w.alloc (.cells #[.int .i64 0, .int .i64 0, .int .i64 0, .slice none 0 0, .slice none 0 0] 37)).alloc (.cells #[.int .i64 x.1.1, .int .i64 x.1.2.1, .int .i64 x.1.2.2, .slice P x.2.1.length p, .slice Q x.2.2.length q] 37)) w.heap.size none 0 none 0 noW) := (bw_new w none 0 none 0 noW _ rfl).below (below_one _ _)
  have HX : Hid (Bw ((w.alloc (.cells #[.int .i64 0, .int .i64 0, .int .i64 0, .slice none 0 0, .slice none 0 0] 37)).alloc (.cells #[.int .i64 x.1.1, .int .i64 x.1.2.1, .int .i64 x.1.2.2, .slice P x.2.1.length p, .slice Q x.2.2.length q] 37)) (w.heap.size + 1) P p Q q x) := bw_new _ P p Q q x _ (by simp)
  have B0 := Lib.hid (below_two w rz (.cells #[.int .i64 x.1.1, .int .i64 x.1.2.1, .int .i64 x.1.2.2, .slice P x.2.1.length p, .slice Q x.2.2.length q] 37))
  clear hc h5 hx r1 r2 hf
  go_enter Try.func14, Try.ntmps14
  go_upto_region 5 with fail
  generalize (w.alloc (.cells #[.int .i64 0, .int .i64 0, .int .i64 0, .slice none 0 0, .slice none 0 0] 37)).alloc (.cells #[.int .i64 x.1.1, .int .i64 x.1.2.1, .int .i64 x.1.2.2, .slice P x.2.1.length p, .slice Q x.2.2.length q] 37) = w3 at *
  obtain ⟨y0, y1, y2, y3, y4⟩ := HY.out.cells
  obtain ⟨z0, z1, z2, z3, z4⟩ := HX.out.cells
  have f0 := HY.out.f 0
  have f1 := HY.out.f 1
  have f2 := HY.out.f 2
  have f3 := HY.out.f 3
  have f4 := HY.out.f 4
  have HE := Lib.hid (row_end 7 B0.out (oldY HR1.out B0.out) (oldY HR2.out B0.out))
  go_wp2_with fail
  refine bodyPost_ret (v := .tuple #[(.agg #[.int .i64 x.1.1, .int .i64 x.1.2.1, .int .i64 x.1.2.2, .slice P x.2.1.length p, .slice Q x.2.2.length q]), .int .i64 7]) (by simp [results, Try.results14, go_sem, y0, y1, y2, y3, y4]) rfl ?_
  exact HE.out
set_option maxHeartbeats 800000 in
theorem refSend_full (k : Nat) (x : Rw) (who i v : Int) (w : World) (hr : Rd w A c R) (hi : i = (k : Int)) (hk : k < R.length) (hx : at_ R k = x) (hw : x.1.1 = who) (hf : x.1.2.2 ≤ (x.2.1.length : Int)) :
    Calls Try.prog 14 #[.slice A R.length c, .int .i64 who, .int .i64 i, .int .i64 v] w (RowE w x 3) := by
  have hw2 : (x.1.1 != who) = false := by simp [hw]
  have HW := Lib.hid hw
  clear hw
  subst hi
  have i1 : (0 : Int) ≤ (k : Int) := by omega
  have i2 : (k : Int) < (R.length : Int) := by omega
  obtain ⟨b, off, rfl, _, hc⟩ := row_at hr (by omega)
  obtain ⟨P, p, Q, q, h5, hf, r1, r2⟩ := hc k hk
  rw [hx] at h5 hf r1 r2
  have HR1 := Lib.hid r1
  have HR2 := Lib.hid r2
  obtain ⟨x0, x1, x2, x3, x4⟩ := h5.below (below_one w rz)
  have HY : Hid (Bw ((w.alloc (.cells #[.int .i64 0, .int .i64 0, .int .i64 0, .slice none 0 0, .slice none 0 0] 37)).alloc (.cells #[.int .i64 x.1.1, .int .i64 x.1.2.1, .int .i64 x.1.2.2, .slice P x.2.1.length p, .slice Q x.2.2.length q] 37)) w.heap.size none 0 none 0 noW) := (bw_new w none 0 none 0 noW _ rfl).below (below_one _ _)
  have HX : Hid (Bw ((w.alloc (.cells #[.int .i64 0, .int .i64 0, .int .i64 0, .slice none 0 0, .slice none 0 0] 37)).alloc (.cells #[.int .i64 x.1.1, .int .i64 x.1.2.1, .int .i64 x.1.2.2, .slice P x.2.1.length p, .slice Q x.2.2.length q] 37)) (w.heap.size + 1) P p Q q x) := bw_new _ P p Q q x _ (by simp)
  have B0 := Lib.hid (below_two w rz (.cells #[.int .i64 x.1.1, .int .i64 x.1.2.1, .int .i64 x.1.2.2, .slice P x.2.1.length p, .slice Q x.2.2.length q] 37))
  clear hc h5 hx r1 r2 hf
  go_enter Try.func14, Try.ntmps14
  go_upto_region 7 with fail
  generalize (w.alloc (.cells #[.int .i64 0, .int .i64 0, .int .i64 0, .slice none 0 0, .slice none 0 0] 37)).alloc (.cells #[.int .i64 x.1.1, .int .i64 x.1.2.1, .int .i64 x.1.2.2, .slice P x.2.1.length p, .slice Q x.2.2.length q] 37) = w3 at *
  obtain ⟨y0, y1, y2, y3, y4⟩ := HY.out.cells
  obtain ⟨z0, z1, z2, z3, z4⟩ := HX.out.cells
  have f0 := HY.out.f 0
  have f1 := HY.out.f 1
  have f2 := HY.out.f 2
  have f3 := HY.out.f 3
  have f4 := HY.out.f 4
  have HE := Lib.hid (row_end 3 B0.out (oldY HR1.out B0.out) (oldY HR2.out B0.out))
  go_wp2_with fail
  refine bodyPost_ret (v := .tuple #[(.agg #[.int .i64 x.1.1, .int .i64 x.1.2.1, .int .i64 x.1.2.2, .slice P x.2.1.length p, .slice Q x.2.2.length q]), .int .i64 3]) (by simp [results, Try.results14, go_sem, y0, y1, y2, y3, y4]) rfl ?_
  exact HE.out
set_option maxRecDepth 20000 in
set_option maxHeartbeats 1600000 in
theorem refSend_ok (k : Nat) (x : Rw) (who i v : Int) (w : World) (hr : Rd w A c R) (hi : i = (k : Int)) (hk : k < R.length) (hx : at_ R k = x) (hw : x.1.1 = who) (hf : (x.2.1.length : Int) < x.1.2.2) (hl : x.2.1.length ≤ 1000) (hv : Fit v) :
    Calls Try.prog 14 #[.slice A R.length c, .int .i64 who, .int .i64 i, .int .i64 v] w (RowE w (x.1, x.2.1 ++ [v], x.2.2) 0) := by
  have hw2 : (x.1.1 != who) = false := by simp [hw]
  have hff := hf
  have HW := Lib.hid hw
  have HV := Lib.hid hv
  clear hw hv
  subst hi
  have i1 : (0 : Int) ≤ (k : Int) := by omega
  have i2 : (k : Int) < (R.length : Int) := by omega
  obtain ⟨b, off, rfl, _, hc⟩ := row_at hr (by omega)
  obtain ⟨P, p, Q, q, h5, hf, r1, r2⟩ := hc k hk
  rw [hx] at h5 hf r1 r2
  have HR1 := Lib.hid r1
  have HR2 := Lib.hid r2
  obtain ⟨x0, x1, x2, x3, x4⟩ := h5.below (below_one w rz)
  have HY : Hid (Bw ((w.alloc (.cells #[.int .i64 0, .int .i64 0, .int .i64 0, .slice none 0 0, .slice none 0 0] 37)).alloc (.cells #[.int .i64 x.1.1, .int .i64 x.1.2.1, .int .i64 x.1.2.2, .slice P x.2.1.length p, .slice Q x.2.2.length q] 37)) w.heap.size none 0 none 0 noW) := (bw_new w none 0 none 0 noW _ rfl).below (below_one _ _)
  have HX : Hid (Bw ((w.alloc (.cells #[.int .i64 0, .int .i64 0, .int .i64 0, .slice none 0 0, .slice none 0 0] 37)).alloc (.cells #[.int .i64 x.1.1, .int .i64 x.1.2.1, .int .i64 x.1.2.2, .slice P x.2.1.length p, .slice Q x.2.2.length q] 37)) (w.heap.size + 1) P p Q q x) := bw_new _ P p Q q x _ (by simp)
  have B0 := Lib.hid (below_two w rz (.cells #[.int .i64 x.1.1, .int .i64 x.1.2.1, .int .i64 x.1.2.2, .slice P x.2.1.length p, .slice Q x.2.2.length q] 37))
  clear hc h5 hx r1 r2 hf
  go_enter Try.func14, Try.ntmps14
  go_upto_region 8 with fail
  generalize (w.alloc (.cells #[.int .i64 0, .int .i64 0, .int .i64 0, .slice none 0 0, .slice none 0 0] 37)).alloc (.cells #[.int .i64 x.1.1, .int .i64 x.1.2.1, .int .i64 x.1.2.2, .slice P x.2.1.length p, .slice Q x.2.2.length q] 37) = w3 at *
  obtain ⟨z0, z1, z2, z3, z4⟩ := HX.out.cells
  have za3 := cell_new z3 (.cells #[] 3)
  have HXL := Lib.hid HX.out.lt
  have HP := Lib.hid (HR1.out.below B0.out)
  have HQ := Lib.hid (HR2.out.below B0.out)
  have BA := Lib.hid (below_one w3 (.cells #[] 3))
  have O1 := Lib.hid (ow_empty w3 w3.heap.size 3 (Nat.le_refl _))
  have HP2 := Lib.hid (HP.out.below BA.out)
  go_wp2_with (at_builtin
               first
                 | (refine list_app_j rfl _ _ rfl (base := w3.heap.size) (l := ([] : List Int)) (r := x.2.1) (n := 0) (m := x.2.1.length) (N := x.2.1.length) rfl rfl (by omega) rfl rfl O1.out HP2.out (by omega) BA.out.size ?_
                    intro A4 c4 w4 k1 k2
                    have O4 : Hid (Ow w4 w3.heap.size 3 A4 c4 x.2.1) := k1
                    have B4 := Lib.hid (BA.out.trans k2)
                    have O6 := Lib.hid (Ow.alloc O4.out (.cells #[.int .i64 v] 3))
                    have B6 := Lib.hid (B4.out.alloc B4.out.size (.cells #[.int .i64 v] 3))
                    have R6 := Lib.hid (rd_new1 w4 3 v HV.out)
                    clear k1 k2)
                 | (refine list_app_j rfl _ _ rfl (base := w3.heap.size) (l := x.2.1) (r := [v]) (n := x.2.1.length) (m := 1) (N := x.2.1.length + 1) rfl rfl rfl rfl rfl O6.out R6.out (by omega) B6.out.size ?_
                    intro A7 c7 w7 k1 k2
                    have O7 := Lib.hid k1
                    have B7 := Lib.hid (B6.out.trans k2)
                    have HX7 := Lib.hid (HX.out.below B7.out)
                    have HY7 := Lib.hid (HY.out.below B7.out)
                    obtain ⟨u0, u1, u2, u3, u4⟩ := HX7.out.cells
                    obtain ⟨y0, y1, y2, y3, y4⟩ := HY7.out.cells
                    have f0 := HY7.out.f 0
                    have f1 := HY7.out.f 1
                    have f2 := HY7.out.f 2
                    have f3 := HY7.out.f 3
                    have f4 := HY7.out.f 4
                    have g3 := HX7.out.f 3
                    clear k1 k2))
  have B8 := below_putC (B := w.heap.size) (g := w.heap.size + 1) (by omega) [.slice A7 (x.2.1.length + 1) c7] 3 w7 (below_step B0.out B7.out)
  have K1 : RdS (putC w7 (w.heap.size + 1) 3 [.slice A7 (x.2.1.length + 1) c7]) (fun b => b ≠ w.heap.size) A7 c7 (x.2.1 ++ [v]) :=
    (rd_putC (S := fun b => w3.heap.size ≤ b) (OwS.rdS O7.out (fun _ h => h.elim) (fun g hg' => (OwS.new O7.out g hg').1)) (fun h : w3.heap.size ≤ w.heap.size + 1 => by have := HXL.out; omega) _ _).sub fun b _ (hb : w3.heap.size ≤ b) => by have := HXL.out; omega
  have K2 : RdS (putC w7 (w.heap.size + 1) 3 [.slice A7 (x.2.1.length + 1) c7]) (fun b => b ≠ w.heap.size) Q q x.2.2 :=
    (rd_putC (S := fun b => b < w.heap.size) (RdS.below (HR2.out.old) (below_step B0.out B7.out)) (fun h : w.heap.size + 1 < w.heap.size => by omega) _ _).sub fun b _ (hb : b < w.heap.size) => by omega
  have HE : Hid _ := row_end2 (t := x.1) (U := x.2.1 ++ [v]) (k := x.2.1.length + 1) 0 (by simp) B8 K1 K2
  refine bodyPost_ret (v := .tuple #[.agg #[.int .i64 x.1.1, .int .i64 x.1.2.1, .int .i64 x.1.2.2, .slice A7 (x.2.1.length + 1) c7, .slice Q x.2.2.length q], .int .i64 0]) (by simp [results, Try.results14, go_sem, y0, y1, y2, y3, y4]) rfl ?_
  exact HE.out

set_option maxHeartbeats 1600000 in
theorem refRead_deny (k : Nat) (x : Rw) (who i : Int) (w : World) (hr : Rd w A c R) (hi : i = (k : Int)) (hk : k < R.length) (hx : at_ R k = x) (hw : x.1.2.1 ≠ who) :
    Calls Try.prog 15 #[.slice A R.length c, .int .i64 who, .int .i64 i] w (RowM w 0 x 7) := by
  have hw2 : (x.1.2.1 != who) = true := by simp [hw]
  subst hi
  have i1 : (0 : Int) ≤ (k : Int) := by omega
  have i2 : (k : Int) < (R.length : Int) := by omega
  obtain ⟨b, off, rfl, _, hc⟩ := row_at hr (by omega)
  obtain ⟨P, p, Q, q, h5, hf, r1, r2⟩ := hc k hk
  rw [hx] at h5 hf r1 r2
  have HR1 := Lib.hid r1
  have HR2 := Lib.hid r2
  obtain ⟨x0, x1, x2, x3, x4⟩ := h5.below (below_one w rz)
  have HY : Hid (Bw ((w.alloc (.cells #[.int .i64 0, .int .i64 0, .int .i64 0, .slice none 0 0, .slice none 0 0] 37)).alloc (.cells #[.int .i64 x.1.1, .int .i64 x.1.2.1, .int .i64 x.1.2.2, .slice P x.2.1.length p, .slice Q x.2.2.length q] 37)) w.heap.size none 0 none 0 noW) := (bw_new w none 0 none 0 noW _ rfl).below (below_one _ _)
  have HX : Hid (Bw ((w.alloc (.cells #[.int .i64 0, .int .i64 0, .int .i64 0, .slice none 0 0, .slice none 0 0] 37)).alloc (.cells #[.int .i64 x.1.1, .int .i64 x.1.2.1, .int .i64 x.1.2.2, .slice P x.2.1.length p, .slice Q x.2.2.length q] 37)) (w.heap.size + 1) P p Q q x) := bw_new _ P p Q q x _ (by simp)
  have B0 := Lib.hid (below_two w rz (.cells #[.int .i64 x.1.1, .int .i64 x.1.2.1, .int .i64 x.1.2.2, .slice P x.2.1.length p, .slice Q x.2.2.length q] 37))
  clear hc h5 hx r1 r2 hf
  go_enter Try.func15, Try.ntmps15
  go_upto_region 5 with fail
  generalize (w.alloc (.cells #[.int .i64 0, .int .i64 0, .int .i64 0, .slice none 0 0, .slice none 0 0] 37)).alloc (.cells #[.int .i64 x.1.1, .int .i64 x.1.2.1, .int .i64 x.1.2.2, .slice P x.2.1.length p, .slice Q x.2.2.length q] 37) = w3 at *
  obtain ⟨y0, y1, y2, y3, y4⟩ := HY.out.cells
  obtain ⟨z0, z1, z2, z3, z4⟩ := HX.out.cells
  have f0 := HY.out.f 0
  have f1 := HY.out.f 1
  have f2 := HY.out.f 2
  have f3 := HY.out.f 3
  have f4 := HY.out.f 4
  have HE := Lib.hid (row_endM 0 7 B0.out (oldY HR1.out B0.out) (oldY HR2.out B0.out))
  go_region
  all_goals
    go_wp2_with fail
    refine bodyPost_ret (v := .tuple #[.int .i64 0, (.agg #[.int .i64 x.1.1, .int .i64 x.1.2.1, .int .i64 x.1.2.2, .slice P x.2.1.length p, .slice Q x.2.2.length q]), .int .i64 7]) (by simp [results, Try.results15, go_sem, y0, y1, y2, y3, y4]) rfl ?_
    exact HE.out.drew
set_option maxHeartbeats 1600000 in
theorem refRead_zero (k : Nat) (x : Rw) (who i : Int) (w : World) (hr : Rd w A c R) (hi : i = (k : Int)) (hk : k < R.length) (hx : at_ R k = x) (hw : x.1.2.1 = who) (hz : x.2.2.length = 0) :
    Calls Try.prog 15 #[.slice A R.length c, .int .i64 who, .int .i64 i] w (RowM w 0 x 4) := by
  have hw2 : (x.1.2.1 != who) = false := by simp [hw]
  have hz2 : (((x.2.2.length : Nat) : Int) == 0) = true := by simp [hz]
  have HW := Lib.hid hw
  have HZ := Lib.hid hz
  clear hw hz
  subst hi
  have i1 : (0 : Int) ≤ (k : Int) := by omega
  have i2 : (k : Int) < (R.length : Int) := by omega
  obtain ⟨b, off, rfl, _, hc⟩ := row_at hr (by omega)
  obtain ⟨P, p, Q, q, h5, hf, r1, r2⟩ := hc k hk
  rw [hx] at h5 hf r1 r2
  have HR1 := Lib.hid r1
  have HR2 := Lib.hid r2
  obtain ⟨x0, x1, x2, x3, x4⟩ := h5.below (below_one w rz)
  have HY : Hid (Bw ((w.alloc (.cells #[.int .i64 0, .int .i64 0, .int .i64 0, .slice none 0 0, .slice none 0 0] 37)).alloc (.cells #[.int .i64 x.1.1, .int .i64 x.1.2.1, .int .i64 x.1.2.2, .slice P x.2.1.length p, .slice Q x.2.2.length q] 37)) w.heap.size none 0 none 0 noW) := (bw_new w none 0 none 0 noW _ rfl).below (below_one _ _)
  have HX : Hid (Bw ((w.alloc (.cells #[.int .i64 0, .int .i64 0, .int .i64 0, .slice none 0 0, .slice none 0 0] 37)).alloc (.cells #[.int .i64 x.1.1, .int .i64 x.1.2.1, .int .i64 x.1.2.2, .slice P x.2.1.length p, .slice Q x.2.2.length q] 37)) (w.heap.size + 1) P p Q q x) := bw_new _ P p Q q x _ (by simp)
  have B0 := Lib.hid (below_two w rz (.cells #[.int .i64 x.1.1, .int .i64 x.1.2.1, .int .i64 x.1.2.2, .slice P x.2.1.length p, .slice Q x.2.2.length q] 37))
  clear hc h5 hx r1 r2 hf
  go_enter Try.func15, Try.ntmps15
  go_upto_region 7 with fail
  generalize (w.alloc (.cells #[.int .i64 0, .int .i64 0, .int .i64 0, .slice none 0 0, .slice none 0 0] 37)).alloc (.cells #[.int .i64 x.1.1, .int .i64 x.1.2.1, .int .i64 x.1.2.2, .slice P x.2.1.length p, .slice Q x.2.2.length q] 37) = w3 at *
  obtain ⟨y0, y1, y2, y3, y4⟩ := HY.out.cells
  obtain ⟨z0, z1, z2, z3, z4⟩ := HX.out.cells
  have f0 := HY.out.f 0
  have f1 := HY.out.f 1
  have f2 := HY.out.f 2
  have f3 := HY.out.f 3
  have f4 := HY.out.f 4
  have HE := Lib.hid (row_endM 0 4 B0.out (oldY HR1.out B0.out) (oldY HR2.out B0.out))
  go_region
  all_goals
    go_wp2_with fail
    refine bodyPost_ret (v := .tuple #[.int .i64 0, (.agg #[.int .i64 x.1.1, .int .i64 x.1.2.1, .int .i64 x.1.2.2, .slice P x.2.1.length p, .slice Q x.2.2.length q]), .int .i64 4]) (by simp [results, Try.results15, go_sem, y0, y1, y2, y3, y4]) rfl ?_
    exact HE.out.drew
theorem put5q (w : World) (X o : Nat) (v0 v1 v2 v3 v4 : Value) : (((((w.setCell ⟨X, o, none⟩ v0).setCell ⟨X, o + 1, none⟩ v1).setCell ⟨X, o + 2, none⟩ v2).setCell ⟨X, o + 3, none⟩ v3).setCell ⟨X, o + 4, none⟩ v4) = putC w X o [v0, v1, v2, v3, v4] := by simp only [putC, Nat.add_assoc, Nat.reduceAdd]
theorem bw_gotP {w : World} {X : Nat} {P Q : Option Addr} {p q : Nat} {x : Rw} {l : List Int} (h : Bw w X P p Q q x) (Q' : Option Addr) (k : Nat) (q' : Nat) (hl : l.length = k) : Bw (w.setCell ⟨X, 4, none⟩ (.slice Q' k q')) X P p Q' q' (x.1, x.2.1, l) := by
  subst hl
  have s : ∀ {o : Nat} {u : Value}, w.cell? ⟨X, o, none⟩ = some u → o ≠ 4 → (w.setCell ⟨X, 4, none⟩ (.slice Q' l.length q')).cell? ⟨X, o, none⟩ = some u := fun h hne => (World.cell?_setCell_other _ _ _ _ (fun e => hne (by injection e with _ e; exact e.symm))).trans h
  obtain ⟨y0, y1, y2, y3, y4⟩ := h.c
  exact ⟨⟨s y0 (by decide), s y1 (by decide), s y2 (by decide), s y3 (by decide), World.cell?_setCell_same _ _ _ y4⟩, fun o => by rw [World.frozen?_setCell]; exact h.f o⟩
theorem bw_keepP {w w' : World} {X : Nat} {P Q : Option Addr} {p q : Nat} {x : Rw} (h : Bw w X P p Q q x) (e : w'.heap[X]? = w.heap[X]?) : Bw w' X P p Q q x := by
  have k : ∀ {o v}, w.cell? ⟨X, o, none⟩ = some v → w'.cell? ⟨X, o, none⟩ = some v := fun {o v} h => (World.cell?_of_block (w := w) e).trans h
  exact ⟨⟨k h.c.c0, k h.c.c1, k h.c.c2, k h.c.c3, k h.c.c4⟩, fun o => (World.frozen?_of_block (w := w) (a := ⟨X, o, none⟩) e).trans (h.f o)⟩
set_option maxRecDepth 20000 in
set_option maxHeartbeats 1600000 in
theorem refRead_ok (k : Nat) (x : Rw) (m : Int) (rest : List Int) (who i : Int) (w : World) (hr : Rd w A c R) (hi : i = (k : Int)) (hk : k < R.length) (hx : at_ R k = x) (hw : x.1.2.1 = who) (hm : x.2.2 = m :: rest) :
    Calls Try.prog 15 #[.slice A R.length c, .int .i64 who, .int .i64 i] w (RowM w m (x.1, x.2.1, rest) 0) := by
  have hw2 : (x.1.2.1 != who) = false := by simp [hw]
  obtain ⟨G, hG⟩ : ∃ G, x.2.2.length = G := ⟨_, rfl⟩
  have hG0 : 1 ≤ G := by rw [← hG, hm]; simp
  have hlr1 : rest.length = G - 1 := by rw [← hG, hm]; simp
  have hz2 : (((x.2.2.length : Nat) : Int) == 0) = false := by rw [hG]; exact beq_eq_false_iff_ne.2 (by omega)
  have HW := Lib.hid hw
  clear hw
  subst hi
  have i1 : (0 : Int) ≤ (k : Int) := by omega
  have i2 : (k : Int) < (R.length : Int) := by omega
  obtain ⟨b, off, rfl, _, hc⟩ := row_at hr (by omega)
  obtain ⟨P, p, Q, q, h5, hf, r1, r2⟩ := hc k hk
  rw [hx] at h5 hf r1 r2
  have HR1 := Lib.hid r1
  have HR2 := Lib.hid r2
  obtain ⟨x0, x1, x2, x3, x4⟩ := h5.below (below_one w rz)
  have HY : Hid (Bw ((w.alloc (.cells #[.int .i64 0, .int .i64 0, .int .i64 0, .slice none 0 0, .slice none 0 0] 37)).alloc (.cells #[.int .i64 x.1.1, .int .i64 x.1.2.1, .int .i64 x.1.2.2, .slice P x.2.1.length p, .slice Q x.2.2.length q] 37)) w.heap.size none 0 none 0 noW) := (bw_new w none 0 none 0 noW _ rfl).below (below_one _ _)
  have HX : Hid (Bw ((w.alloc (.cells #[.int .i64 0, .int .i64 0, .int .i64 0, .slice none 0 0, .slice none 0 0] 37)).alloc (.cells #[.int .i64 x.1.1, .int .i64 x.1.2.1, .int .i64 x.1.2.2, .slice P x.2.1.length p, .slice Q x.2.2.length q] 37)) (w.heap.size + 1) P p Q q x) := bw_new _ P p Q q x _ (by simp)
  have B0 := Lib.hid (below_two w rz (.cells #[.int .i64 x.1.1, .int .i64 x.1.2.1, .int .i64 x.1.2.2, .slice P x.2.1.length p, .slice Q x.2.2.length q] 37))
  clear hc h5 hx r1 r2 hf
  have hr2 := HR2.out
  obtain ⟨b2, off2, rfl, hc2⟩ := RdS.int hr2 (by rw [hG]; omega)
  have c0w := (hc2 0 (by rw [hG]; omega)).1
  have hGq : G ≤ q := by rw [← hG]; exact RdS.le hr2
  have hqm := RdS.max hr2
  rw [hm, at_zero, Nat.add_zero] at c0w
  have ht : Rd w (some ⟨b2, off2 + 1, none⟩) (q - 1) rest := by
    have h := hr2
    rw [hm] at h
    exact RdS.tail h
  clear hc2 hr2
  have HM := Lib.hid hm
  have HG := Lib.hid hG
  clear hm hG
  go_enter Try.func15, Try.ntmps15
  go_upto_region 8 with fail
  generalize (w.alloc (.cells #[.int .i64 0, .int .i64 0, .int .i64 0, .slice none 0 0, .slice none 0 0] 37)).alloc (.cells #[.int .i64 x.1.1, .int .i64 x.1.2.1, .int .i64 x.1.2.2, .slice P x.2.1.length p, .slice (some ⟨b2, off2, none⟩) x.2.2.length q] 37) = w3 at *
  have c0 := cell_below B0.out c0w
  have hG := HG.out
  obtain ⟨y0, y1, y2, y3, y4⟩ := HY.out.cells
  obtain ⟨z0, z1, z2, z3, z4⟩ := HX.out.cells
  have f0 := HY.out.f 0
  have f1 := HY.out.f 1
  have f2 := HY.out.f 2
  have f3 := HY.out.f 3
  have f4 := HY.out.f 4
  replace z4 : w3.cell? ⟨w.heap.size + 1, 4, none⟩ = some (.slice (some ⟨b2, off2, none⟩) G q) := by
    have h : w3.cell? ⟨w.heap.size + 1, 4, none⟩ = some (.slice (some ⟨b2, off2, none⟩) x.2.2.length q) := z4
    rwa [hG] at h
  have g4 := HX.out.f 4
  have n1 : (0 : Int) < (G : Int) := by omega
  have n2 : (1 : Int) ≤ (G : Int) := by omega
  clear x0 x1 x2 x3 x4 hG hz2 c0w
  by_cases hq1 : q = 1
  · have hGe : G = 1 := by omega
    subst hq1
    subst hGe
    have hlr : rest.length = 0 := hlr1
    have hrr : Rd w (some ⟨b2, off2, none⟩) 0 rest := by
      have : rest = [] := List.eq_nil_of_length_eq_zero hlr
      rw [this]
      exact rd_nil (fun h => by cases h) (Nat.zero_le _)
    clear ht hlr1
    have hg := gb_putC (w.heap.size + 1) [.slice (some ⟨b2, off2, none⟩) 0 0] 4 w3
    have HX4 := Lib.hid (bw_gotP (l := rest) HX.out (some ⟨b2, off2, none⟩) 0 0 hlr)
    have HY4 : Hid (Bw (w3.setCell ⟨w.heap.size + 1, 4, none⟩ (.slice (some ⟨b2, off2, none⟩) 0 0)) w.heap.size none 0 none 0 noW) := bw_keepP HY.out (hg.block w.heap.size HY.out.lt (fun e => by injection e with e; omega))
    have BE : Hid (Below w.heap.size w (w3.setCell ⟨w.heap.size + 1, 4, none⟩ (.slice (some ⟨b2, off2, none⟩) 0 0))) := below_putC (B := w.heap.size) (g := w.heap.size + 1) (by omega) [.slice (some ⟨b2, off2, none⟩) 0 0] 4 w3 B0.out
    have K1 : Hid (RdS (w3.setCell ⟨w.heap.size + 1, 4, none⟩ (.slice (some ⟨b2, off2, none⟩) 0 0)) (fun b => b ≠ w.heap.size) P p x.2.1) := oldY HR1.out BE.out
    have K2 : Hid (RdS (w3.setCell ⟨w.heap.size + 1, 4, none⟩ (.slice (some ⟨b2, off2, none⟩) 0 0)) (fun b => b ≠ w.heap.size) (some ⟨b2, off2, none⟩) 0 rest) := oldY hrr BE.out
    go_wp2_with fail
    generalize w3.setCell ⟨w.heap.size + 1, 4, none⟩ (.slice (some ⟨b2, off2, none⟩) 0 0) = w4 at *
    clear z0 z1 z2 z3 z4 y0 y1 y2 y3 y4 f0 f1 f2 f3 f4 c0 g4
    obtain ⟨y0, y1, y2, y3, y4⟩ := HY4.out.cells
    obtain ⟨z0, z1, z2, z3, z4⟩ := HX4.out.cells
    replace z4 : w4.cell? ⟨w.heap.size + 1, 4, none⟩ = some (.slice (some ⟨b2, off2, none⟩) 0 0) := by
      have h : w4.cell? ⟨w.heap.size + 1, 4, none⟩ = some (.slice (some ⟨b2, off2, none⟩) rest.length 0) := z4
      rwa [hlr] at h
    have f0 := HY4.out.f 0
    have f1 := HY4.out.f 1
    have f2 := HY4.out.f 2
    have f3 := HY4.out.f 3
    have f4 := HY4.out.f 4
    have HE := Lib.hid (row_endM2 (t := x.1) m 0 hlr BE.out K1.out K2.out)
    go_region
    all_goals
      go_wp2_with fail
      refine bodyPost_ret (v := .tuple #[.int .i64 m, .agg #[.int .i64 x.1.1, .int .i64 x.1.2.1, .int .i64 x.1.2.2, .slice P x.2.1.length p, .slice (some ⟨b2, off2, none⟩) 0 0], .int .i64 0]) (by simp [results, Try.results15, go_sem, y0, y1, y2, y3, y4]) rfl ?_
      exact HE.out.drew
  · have hlr := hlr1
    have hrr := ht
    have q1 : ¬ (q : Int) = 1 := by omega
    clear ht hlr1
    have hg := gb_putC (w.heap.size + 1) [.slice (some ⟨b2, off2 + 1, none⟩) (G - 1) (q - 1)] 4 w3
    have HX4 := Lib.hid (bw_gotP (l := rest) HX.out (some ⟨b2, off2 + 1, none⟩) (G - 1) (q - 1) hlr)
    have HY4 : Hid (Bw (w3.setCell ⟨w.heap.size + 1, 4, none⟩ (.slice (some ⟨b2, off2 + 1, none⟩) (G - 1) (q - 1))) w.heap.size none 0 none 0 noW) := bw_keepP HY.out (hg.block w.heap.size HY.out.lt (fun e => by injection e with e; omega))
    have BE : Hid (Below w.heap.size w (w3.setCell ⟨w.heap.size + 1, 4, none⟩ (.slice (some ⟨b2, off2 + 1, none⟩) (G - 1) (q - 1)))) := below_putC (B := w.heap.size) (g := w.heap.size + 1) (by omega) [.slice (some ⟨b2, off2 + 1, none⟩) (G - 1) (q - 1)] 4 w3 B0.out
    have K1 : Hid (RdS (w3.setCell ⟨w.heap.size + 1, 4, none⟩ (.slice (some ⟨b2, off2 + 1, none⟩) (G - 1) (q - 1))) (fun b => b ≠ w.heap.size) P p x.2.1) := oldY HR1.out BE.out
    have K2 : Hid (RdS (w3.setCell ⟨w.heap.size + 1, 4, none⟩ (.slice (some ⟨b2, off2 + 1, none⟩) (G - 1) (q - 1))) (fun b => b ≠ w.heap.size) (some ⟨b2, off2 + 1, none⟩) (q - 1) rest) := oldY hrr BE.out
    go_wp2_with fail
    generalize w3.setCell ⟨w.heap.size + 1, 4, none⟩ (.slice (some ⟨b2, off2 + 1, none⟩) (G - 1) (q - 1)) = w4 at *
    clear z0 z1 z2 z3 z4 y0 y1 y2 y3 y4 f0 f1 f2 f3 f4 c0 g4
    obtain ⟨y0, y1, y2, y3, y4⟩ := HY4.out.cells
    obtain ⟨z0, z1, z2, z3, z4⟩ := HX4.out.cells
    replace z4 : w4.cell? ⟨w.heap.size + 1, 4, none⟩ = some (.slice (some ⟨b2, off2 + 1, none⟩) (G - 1) (q - 1)) := by
      have h : w4.cell? ⟨w.heap.size + 1, 4, none⟩ = some (.slice (some ⟨b2, off2 + 1, none⟩) rest.length (q - 1)) := z4
      rwa [hlr] at h
    have f0 := HY4.out.f 0
    have f1 := HY4.out.f 1
    have f2 := HY4.out.f 2
    have f3 := HY4.out.f 3
    have f4 := HY4.out.f 4
    have HE := Lib.hid (row_endM2 (t := x.1) m 0 hlr BE.out K1.out K2.out)
    go_region
    all_goals
      go_wp2_with fail
      refine bodyPost_ret (v := .tuple #[.int .i64 m, .agg #[.int .i64 x.1.1, .int .i64 x.1.2.1, .int .i64 x.1.2.2, .slice P x.2.1.length p, .slice (some ⟨b2, off2 + 1, none⟩) (G - 1) (q - 1)], .int .i64 0]) (by simp [results, Try.results15, go_sem, y0, y1, y2, y3, y4]) rfl ?_
      exact HE.out.drew

set_option maxHeartbeats 1600000 in
theorem refWith_any (k : Nat) (i : Int) (hi : i = (k : Int)) (hk : k < R.length) (hb : R.length ≤ 900000) (P : Option Addr) (p : Nat) (Q : Option Addr) (q : Nat) (y : Rw) (w : World) (hr : Rd w A c R) (hf : FitP y.1) (h1 : Rd w P p y.2.1) (h2 : Rd w Q q y.2.2) :
    Calls Try.prog 17 #[.slice A R.length c, .int .i64 i, (.agg #[.int .i64 y.1.1, .int .i64 y.1.2.1, .int .i64 y.1.2.2, .slice P y.2.1.length p, .slice Q y.2.2.length q])] w fun e w' => ∃ A' c', e = .returned (.slice A' R.length c') ∧ Rd w' A' c' (R.set k y) ∧ Below w.heap.size w w' := by
  subst hi
  have i1 : (0 : Int) ≤ (k : Int) := by omega
  have i2 : (k : Int) < (R.length : Int) := by omega
  have B0 := Lib.hid (below_two w (.cells #[.int .i64 y.1.1, .int .i64 y.1.2.1, .int .i64 y.1.2.2, .slice P y.2.1.length p, .slice Q y.2.2.length q] 37) (.cells #[] 37))
  have HX : Hid (Bw ((w.alloc (.cells #[.int .i64 y.1.1, .int .i64 y.1.2.1, .int .i64 y.1.2.2, .slice P y.2.1.length p, .slice Q y.2.2.length q] 37)).alloc (.cells #[] 37)) w.heap.size P p Q q y) := (bw_new w P p Q q y _ rfl).below (below_one _ _)
  have O1 : Hid (OwN ((w.alloc (.cells #[.int .i64 y.1.1, .int .i64 y.1.2.1, .int .i64 y.1.2.2, .slice P y.2.1.length p, .slice Q y.2.2.length q] 37)).alloc (.cells #[] 37)) (w.heap.size + 1) 37 (some ⟨w.heap.size + 1, 0, none⟩) 0 ([] : List Rw)) := by
    have h := ow_lit (l := ([] : List Rw)) (w.alloc (.cells #[.int .i64 y.1.1, .int .i64 y.1.2.1, .int .i64 y.1.2.2, .slice P y.2.1.length p, .slice Q y.2.2.length q] 37)) (Else ((w.alloc (.cells #[.int .i64 y.1.1, .int .i64 y.1.2.1, .int .i64 y.1.2.2, .slice P y.2.1.length p, .slice Q y.2.2.length q] 37)).alloc (.cells #[] 37)) (some ⟨w.heap.size + 1, 0, none⟩)) (w.heap.size + 1) 37 #[] (by simp) (by simp) rfl
    rw [show (w.alloc (.cells #[.int .i64 y.1.1, .int .i64 y.1.2.1, .int .i64 y.1.2.2, .slice P y.2.1.length p, .slice Q y.2.2.length q] 37)).heap.size = w.heap.size + 1 by simp] at h
    exact h
  have HRR : Hid (RdS ((w.alloc (.cells #[.int .i64 y.1.1, .int .i64 y.1.2.1, .int .i64 y.1.2.2, .slice P y.2.1.length p, .slice Q y.2.2.length q] 37)).alloc (.cells #[] 37)) (Else ((w.alloc (.cells #[.int .i64 y.1.1, .int .i64 y.1.2.1, .int .i64 y.1.2.2, .slice P y.2.1.length p, .slice Q y.2.2.length q] 37)).alloc (.cells #[] 37)) (some ⟨w.heap.size + 1, 0, none⟩)) A c R) := (RdS.below hr.old B0.out).sub fun b hlt (hb : b < w.heap.size) => ⟨hlt, fun e => by injection e with e; injection e with e; omega⟩
  have H1 := Lib.hid h1
  have H2 := Lib.hid h2
  have HF := Lib.hid hf
  clear hf
  have Z0 : Hid (w.heap.size + 1 ≤ ((w.alloc (.cells #[.int .i64 y.1.1, .int .i64 y.1.2.1, .int .i64 y.1.2.2, .slice P y.2.1.length p, .slice Q y.2.2.length q] 37)).alloc (.cells #[] 37)).heap.size) := by show _ ≤ _; simp
  clear hr h1 h2
  go_enter Try.func17, Try.ntmps17
  go_wp2_with (at_builtin
               refine list_own_n slW rfl _ _ rfl (base := w.heap.size + 1) (l := ([] : List Rw)) (r := R) (n := 0) (m := R.length) rfl rfl rfl rfl O1.out HRR.out (by omega) Z0.out ?_
               intro A2 c2 w2 k1 k2
               have O2 : Hid (OwN w2 (w.heap.size + 1) 37 A2 c2 R) := k1
               obtain ⟨g, rfl, hg1, hg2, hg3⟩ := OwS.form O2.out (by omega)
               have HX2 := Lib.hid (bw_keepP HX.out (k2.block w.heap.size (by omega)))
               have BW2 := Lib.hid ((B0.out.mono (Nat.le_refl _)).trans (k2.mono (by omega)))
               obtain ⟨b5, off5, e5, _, hc5⟩ := row_at (OwN.rd O2.out) (by omega)
               injection e5 with e5
               injection e5 with e51 e52
               subst e51
               subst e52
               obtain ⟨P5, p5, Q5, q5, h5, _, _, _⟩ := hc5 k hk
               rw [Nat.zero_add] at h5
               obtain ⟨o0, o1, o2, o3, o4⟩ := h5
               obtain ⟨x0, x1, x2, x3, x4⟩ := HX2.out.cells
               have hfz := own_free O2.out
               have f0 := hfz (k * 5)
               have f1 := hfz (k * 5 + 1)
               have f2 := hfz (k * 5 + 2)
               have f3 := hfz (k * 5 + 3)
               have f4 := hfz (k * 5 + 4)
               have HG1 := Lib.hid hg1
               have hgX : g ≠ w.heap.size := by omega
               clear k1 k2 hc5 hfz hg1 hg2 hg3
               try simp only [Nat.zero_add])
  go_ret
  obtain ⟨k1, k2⟩ := own_puts O2.out (fun h => h.2 rfl) hk (rd_row.2 ⟨P, p, Q, q, rfl, HF.out, (RdS.below H1.out.old BW2.out).sub fun b hlt (hb : b < w.heap.size) => ⟨hlt, fun e => by injection e with e; injection e with e; have := HG1.out; omega⟩, (RdS.below H2.out.old BW2.out).sub fun b hlt (hb : b < w.heap.size) => ⟨hlt, fun e => by injection e with e; injection e with e; have := HG1.out; omega⟩⟩)
  have hl : (R.set k y).length = R.length := List.length_set
  refine ⟨some ⟨g, 0, none⟩, c2, by first | rfl | (rw [hl]; rfl), ?_, ?_⟩
  · rw [put5q]; exact OwS.rd k1
  · rw [put5q]; exact below_of_gb BW2.out k2 BW2.out.size (fun i hi => by injection hi with hi; have := HG1.out; omega)
end

/-- the references' answers are the program's, of lines that are right -/
theorem rows_at {L : List Lin} {k : Nat} (hk : k < L.length) : at_ (L.map rowOf) k = rowOf (at_ L k) := by
  rw [at_get (l := L.map rowOf) (by rw [List.length_map]; omega), List.getElem_map, at_get (by omega)]
theorem row_fit {x : Lin} (h : okL x = true) : FitP x.1 := by
  obtain ⟨n, e, n1, n4, hp, g1, g2⟩ := okL_good h
  have hc := of_decide_eq_true hp
  refine ⟨⟨?_, ?_⟩, ⟨?_, ?_⟩, ⟨?_, ?_⟩⟩ <;> omega
def SendAns (w : World) (L : List Lin) (who i v : Int) (e : Ending) (w' : World) : Prop :=
  ∃ y P p Q q, e = .returned (.tuple #[(.agg #[.int .i64 y.1.1, .int .i64 y.1.2.1, .int .i64 y.1.2.2, .slice P y.2.1.length p, .slice Q y.2.2.length q]), .int .i64 (sendE L who i)]) ∧ (sendE L who i = 0 → y = rowOf (sentL (at_ L i.toNat) v)) ∧ Rd w' P p y.2.1 ∧ Rd w' Q q y.2.2 ∧ Below w.heap.size w w'
def ReadAns (w : World) (L : List Lin) (who i : Int) (e : Ending) (w' : World) : Prop :=
  ∃ y P p Q q, e = .returned (.tuple #[.int .i64 (readV L who i), (.agg #[.int .i64 y.1.1, .int .i64 y.1.2.1, .int .i64 y.1.2.2, .slice P y.2.1.length p, .slice Q y.2.2.length q]), .int .i64 (readE L who i)]) ∧ (readE L who i = 0 → y = rowOf (gotL (at_ L i.toNat))) ∧ Rd w' P p y.2.1 ∧ Rd w' Q q y.2.2 ∧ Below w.heap.size w w'
theorem refSend_v {L : List Lin} {A : Option Addr} {c n : Nat} (hn : L.length = n) (who i v : Int) (w : World) (hok : okS L = true) (hr : Rd w A c (L.map rowOf)) (hv : Fit v) :
    Calls Try.prog 14 #[.slice A n c, .int .i64 who, .int .i64 i, .int .i64 v] w (SendAns w L who i v) := by
  have hlm : (L.map rowOf).length = n := by rw [List.length_map]; exact hn
  have h1 : ¬ okS L = false := by rw [hok]; simp
  rw [← hlm]
  by_cases hi : i < 0 ∨ (L.length : Int) ≤ i
  · have e : sendE L who i = 4 := by unfold sendE; rw [if_neg h1, if_pos hi]
    refine (refSend_none (R := L.map rowOf) who i v w (by rw [List.length_map]; exact hi)).mono ?_
    rintro e' w' ⟨P, p, Q, q, rfl, r1, r2, b⟩
    exact ⟨noW, P, p, Q, q, (by rw [e]), (fun h => by rw [e] at h; cases h), r1, r2, b⟩
  · have hk : i.toNat < L.length := by omega
    have ei : i = (i.toNat : Int) := by omega
    have hokk := okS_at hok hk
    have hat := rows_at hk
    have hx := full_iff hokk
    by_cases hw : who = (at_ L i.toNat).1.1
    · by_cases hm : (at_ L i.toNat).2.1.2.2 = ((at_ L i.toNat).2.1.1.length : Int)
      · have e : sendE L who i = 3 := by unfold sendE; rw [if_neg h1, if_neg hi, if_neg (fun h => h hw), if_pos hm]
        refine (refSend_full (R := L.map rowOf) i.toNat _ who i v w hr ei (by rw [List.length_map]; exact hk) hat hw.symm (by have := hx.1 hm; show (at_ L i.toNat).1.2.2 ≤ ((msgR (at_ L i.toNat).2.1).length : Int); omega)).mono ?_
        rintro e' w' ⟨P, p, Q, q, rfl, r1, r2, b⟩
        exact ⟨_, P, p, Q, q, (by rw [e]), (fun h => by rw [e] at h; cases h), r1, r2, b⟩
      · have e : sendE L who i = 0 := by unfold sendE; rw [if_neg h1, if_neg hi, if_neg (fun h => h hw), if_neg hm]
        have hlt : ((msgR (at_ L i.toNat).2.1).length : Int) < (at_ L i.toNat).1.2.2 := by
          rcases Int.lt_or_le ((msgR (at_ L i.toNat).2.1).length : Int) (at_ L i.toNat).1.2.2 with h | h
          · exact h
          · exact absurd (hx.2 (by omega)) hm
        have hl4 : (msgR (at_ L i.toNat).2.1).length ≤ 1000 := by
          obtain ⟨N, eN, n1, n4, hp, g1, g2⟩ := okL_good hokk
          omega
        refine (refSend_ok (R := L.map rowOf) i.toNat _ who i v w hr ei (by rw [List.length_map]; exact hk) hat hw.symm hlt hl4 hv).mono ?_
        rintro e' w' ⟨P, p, Q, q, rfl, r1, r2, b⟩
        refine ⟨_, P, p, Q, q, (by rw [e]), fun _ => ?_, r1, r2, b⟩
        rcases row_send (v := v) hokk with h | h
        · exact h.symm
        · exact absurd h hm
    · have e : sendE L who i = 7 := by unfold sendE; rw [if_neg h1, if_neg hi, if_pos hw]
      refine (refSend_deny (R := L.map rowOf) i.toNat _ who i v w hr ei (by rw [List.length_map]; exact hk) hat (fun h => hw h.symm)).mono ?_
      rintro e' w' ⟨P, p, Q, q, rfl, r1, r2, b⟩
      exact ⟨_, P, p, Q, q, (by rw [e]), (fun h => by rw [e] at h; cases h), r1, r2, b⟩
theorem refRead_v {L : List Lin} {A : Option Addr} {c n : Nat} (hn : L.length = n) (who i : Int) (w : World) (hok : okS L = true) (hr : Rd w A c (L.map rowOf)) :
    Calls Try.prog 15 #[.slice A n c, .int .i64 who, .int .i64 i] w (ReadAns w L who i) := by
  have hlm : (L.map rowOf).length = n := by rw [List.length_map]; exact hn
  have h1 : ¬ okS L = false := by rw [hok]; simp
  rw [← hlm]
  by_cases hi : i < 0 ∨ (L.length : Int) ≤ i
  · have e : readE L who i = 4 := by unfold readE; rw [if_neg h1, if_pos hi]
    have ev : readV L who i = 0 := by unfold readV; rw [e]; rfl
    refine (refRead_none (R := L.map rowOf) who i w (by rw [List.length_map]; exact hi)).mono ?_
    rintro e' w' ⟨P, p, Q, q, rfl, r1, r2, b⟩
    exact ⟨noW, P, p, Q, q, (by rw [e, ev]), (fun h => by rw [e] at h; cases h), r1, r2, b⟩
  · have hk : i.toNat < L.length := by omega
    have ei : i = (i.toNat : Int) := by omega
    have hokk := okS_at hok hk
    have hat := rows_at hk
    have hx := none_iff hokk
    by_cases hw : who = (at_ L i.toNat).1.2.1
    · by_cases hm : (at_ L i.toNat).2.2.2.2 = 0
      · have e : readE L who i = 4 := by unfold readE; rw [if_neg h1, if_neg hi, if_neg (fun h => h hw), if_pos hm]
        have ev : readV L who i = 0 := by unfold readV; rw [e]; rfl
        refine (refRead_zero (R := L.map rowOf) i.toNat _ who i w hr ei (by rw [List.length_map]; exact hk) hat hw.symm (by have := hx.1 hm; show (msgR (at_ L i.toNat).2.2).length = 0; omega)).mono ?_
        rintro e' w' ⟨P, p, Q, q, rfl, r1, r2, b⟩
        exact ⟨_, P, p, Q, q, (by rw [e, ev]), (fun h => by rw [e] at h; cases h), r1, r2, b⟩
      · have e : readE L who i = 0 := by unfold readE; rw [if_neg h1, if_neg hi, if_neg (fun h => h hw), if_neg hm]
        have ev : readV L who i = fstR (at_ L i.toNat).2.2 := by unfold readV; rw [e]; rfl
        refine (refRead_ok (R := L.map rowOf) i.toNat _ (fstR (at_ L i.toNat).2.2) (msgR (popR (at_ L i.toNat).2.2)) who i w hr ei (by rw [List.length_map]; exact hk) hat hw.symm (row_got hokk hm)).mono ?_
        rintro e' w' ⟨P, p, Q, q, rfl, r1, r2, b⟩
        exact ⟨_, P, p, Q, q, (by rw [e, ev]; rfl), fun _ => rfl, r1, r2, b⟩
    · have e : readE L who i = 7 := by unfold readE; rw [if_neg h1, if_neg hi, if_pos hw]
      have ev : readV L who i = 0 := by unfold readV; rw [e]; rfl
      refine (refRead_deny (R := L.map rowOf) i.toNat _ who i w hr ei (by rw [List.length_map]; exact hk) hat (fun h => hw h.symm)).mono ?_
      rintro e' w' ⟨P, p, Q, q, rfl, r1, r2, b⟩
      exact ⟨_, P, p, Q, q, (by rw [e, ev]), (fun h => by rw [e] at h; cases h), r1, r2, b⟩
/-- the lines after a send, a read, are right, and the document's -/
theorem send_in {L : List Lin} {who i : Int} (v : Int) (hok : okS L = true) (he : sendE L who i = 0) : i.toNat < L.length ∧ i = (i.toNat : Int) ∧ sendL L who i v = L.set i.toNat (sentL (at_ L i.toNat) v) ∧ okS (sendL L who i v) = true ∧ (sendL L who i v).map rowOf = (L.map rowOf).set i.toNat (rowOf (sentL (at_ L i.toNat) v)) ∧ FitP (rowOf (sentL (at_ L i.toNat) v)).1 := by
  have h1 : ¬ okS L = false := by rw [hok]; simp
  have e := he
  unfold sendE at e
  rw [if_neg h1] at e
  by_cases hi : i < 0 ∨ (L.length : Int) ≤ i
  · rw [if_pos hi] at e; cases e
  · rw [if_neg hi] at e
    have hk : i.toNat < L.length := by omega
    have hokk := okS_at hok hk
    have hl : sendL L who i v = L.set i.toNat (sentL (at_ L i.toNat) v) := by unfold sendL; rw [if_pos he]
    have hm : (at_ L i.toNat).2.1.2.2 ≠ ((at_ L i.toNat).2.1.1.length : Int) := fun hm => by
      rw [if_pos hm] at e
      split at e <;> cases e
    exact ⟨hk, by omega, hl, by rw [hl]; exact okS_set hok _ (sent_ok hokk hm), by rw [hl, List.map_set], row_fit (sent_ok hokk hm)⟩
theorem read_in {L : List Lin} {who i : Int} (hok : okS L = true) (he : readE L who i = 0) : i.toNat < L.length ∧ i = (i.toNat : Int) ∧ readL L who i = L.set i.toNat (gotL (at_ L i.toNat)) ∧ okS (readL L who i) = true ∧ (readL L who i).map rowOf = (L.map rowOf).set i.toNat (rowOf (gotL (at_ L i.toNat))) ∧ FitP (rowOf (gotL (at_ L i.toNat))).1 := by
  have h1 : ¬ okS L = false := by rw [hok]; simp
  have e := he
  unfold readE at e
  rw [if_neg h1] at e
  by_cases hi : i < 0 ∨ (L.length : Int) ≤ i
  · rw [if_pos hi] at e; cases e
  · rw [if_neg hi] at e
    have hk : i.toNat < L.length := by omega
    have hokk := okS_at hok hk
    have hl : readL L who i = L.set i.toNat (gotL (at_ L i.toNat)) := by unfold readL; rw [if_pos he]
    have hm : (at_ L i.toNat).2.2.2.2 ≠ 0 := fun hm => by
      rw [if_pos hm] at e
      split at e <;> cases e
    exact ⟨hk, by omega, hl, by rw [hl]; exact okS_set hok _ (got_ok hokk hm), by rw [hl, List.map_set], row_fit (got_ok hokk hm)⟩

end Po
end Go.Proofs.Ytfkcplnjhelclaa

