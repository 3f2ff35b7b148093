/-
  Layer 18: the statements' helper right.
-/
import Derived.Test.YtfkcplnjhelclaaGlaw18
import Derived.Test.YtfkcplnjhelclaaGport
import Derived.Deep.DeepCutAuto
import Derived.Deep.CutBlock
namespace Go.Proofs.Ytfkcplnjhelclaa
open Go.RowKit Mm
namespace Po

/-- the cells of a ring at a block -/
structure CR (w : World) (X : Nat) (P : Option Addr) (p : Nat) (r : Rg) : Prop where
  c0 : w.cell? ⟨X, 0, none⟩ = some (.slice P r.1.length p)
  c1 : w.cell? ⟨X, 1, none⟩ = some (.int .i64 r.2.1)
  c2 : w.cell? ⟨X, 2, none⟩ = some (.int .i64 r.2.2)
theorem CR.below {w w' : World} {X : Nat} {P : Option Addr} {p : Nat} {r : Rg} (h : CR w X P p r) (b : Below w.heap.size w w') : CR w' X P p r := ⟨cell_below b h.c0, cell_below b h.c1, cell_below b h.c2⟩
theorem cr_new (w : World) (P : Option Addr) (p : Nat) (r : Rg) (t : TypeId) (X : Nat) (h : w.heap.size = X) : CR (w.alloc (.cells #[.slice P r.1.length p, .int .i64 r.2.1, .int .i64 r.2.2] t)) X P p r := by
  subst h
  refine ⟨?_, ?_, ?_⟩ <;> simp

theorem put3y (w : World) (X : Nat) (v0 v1 v2 : Value) : (((w.setCell ⟨X, 0, none⟩ v0).setCell ⟨X, 1, none⟩ v1).setCell ⟨X, 2, none⟩ v2) = putC w X 0 [v0, v1, v2] := by simp only [putC, Nat.zero_add, Nat.reduceAdd]
theorem cell_fars {w : World} {p q : Addr} {v : Value} (hne : q.block ≠ p.block) (h : w.cell? q = some v) (u : Value) : (w.setCell p u).cell? q = some v :=
  (World.cell?_of_block (w := w) (Below.heap_setCell w p u q.block hne)).trans h
/-- a ring of zeros at a block, that may be written -/
structure ZR (w : World) (X : Nat) : Prop where
  c0 : w.cell? ⟨X, 0, none⟩ = some (.slice none 0 0)
  c1 : w.cell? ⟨X, 1, none⟩ = some (.int .i64 0)
  c2 : w.cell? ⟨X, 2, none⟩ = some (.int .i64 0)
  f0 : w.frozen? ⟨X, 0, none⟩ = false
  f1 : w.frozen? ⟨X, 1, none⟩ = false
  f2 : w.frozen? ⟨X, 2, none⟩ = false
abbrev zr : Obj := .cells #[.slice none 0 0, .int .i64 0, .int .i64 0] 62
theorem ZR.below {w w' : World} {X : Nat} (h : ZR w X) (b : Below w.heap.size w w') : ZR w' X :=
  ⟨cell_below b h.c0, cell_below b h.c1, cell_below b h.c2, frozen_below b h.c0 h.f0, frozen_below b h.c1 h.f1, frozen_below b h.c2 h.f2⟩
theorem ZR.alloc {w : World} {X : Nat} (h : ZR w X) (o : Obj) : ZR (w.alloc o) X := h.below (below_one w o)
theorem zr_new (w : World) (X : Nat) (h : w.heap.size = X) : ZR (w.alloc (.cells #[.slice none 0 0, .int .i64 0, .int .i64 0] 62)) X := by
  subst h
  refine ⟨?_, ?_, ?_, ?_, ?_, ?_⟩ <;> simp
theorem ZR.all {w : World} {X : Nat} (h : ZR w X) : w.cell? ⟨X, 0, none⟩ = some (.slice none 0 0) ∧ w.cell? ⟨X, 1, none⟩ = some (.int .i64 0) ∧ w.cell? ⟨X, 2, none⟩ = some (.int .i64 0) ∧ w.frozen? ⟨X, 0, none⟩ = false ∧ w.frozen? ⟨X, 1, none⟩ = false ∧ w.frozen? ⟨X, 2, none⟩ = false := ⟨h.c0, h.c1, h.c2, h.f0, h.f1, h.f2⟩
theorem ZR.lt {w : World} {X : Nat} (h : ZR w X) : X < w.heap.size := lt_of_cell h.c0
theorem zr_fin {w0 w : World} {X Y : Nat} {P Q : Option Addr} {p q : Nat} {r s : Rg} (hX : ZR w X) (hY : ZR w Y) (hne : X ≠ Y) (hb : Below w0.heap.size w0 w) (h1 : w0.heap.size ≤ X) (h2 : w0.heap.size ≤ Y) :
    Hid (CR ((((((w.setCell ⟨X, 0, none⟩ (.slice P r.1.length p)).setCell ⟨X, 1, none⟩ (.int .i64 r.2.1)).setCell ⟨X, 2, none⟩ (.int .i64 r.2.2)).setCell ⟨Y, 0, none⟩ (.slice Q s.1.length q)).setCell ⟨Y, 1, none⟩ (.int .i64 s.2.1)).setCell ⟨Y, 2, none⟩ (.int .i64 s.2.2)) X P p r) ∧ Hid (CR ((((((w.setCell ⟨X, 0, none⟩ (.slice P r.1.length p)).setCell ⟨X, 1, none⟩ (.int .i64 r.2.1)).setCell ⟨X, 2, none⟩ (.int .i64 r.2.2)).setCell ⟨Y, 0, none⟩ (.slice Q s.1.length q)).setCell ⟨Y, 1, none⟩ (.int .i64 s.2.1)).setCell ⟨Y, 2, none⟩ (.int .i64 s.2.2)) Y Q q s) ∧ Hid (Below w0.heap.size w0 ((((((w.setCell ⟨X, 0, none⟩ (.slice P r.1.length p)).setCell ⟨X, 1, none⟩ (.int .i64 r.2.1)).setCell ⟨X, 2, none⟩ (.int .i64 r.2.2)).setCell ⟨Y, 0, none⟩ (.slice Q s.1.length q)).setCell ⟨Y, 1, none⟩ (.int .i64 s.2.1)).setCell ⟨Y, 2, none⟩ (.int .i64 s.2.2))) := by
  have z : ∀ {W : World} {Z : Nat}, W.heap[Z]? = w.heap[Z]? → ZR w Z → ∀ j, j < 3 → ∃ u, W.cell? ⟨Z, 0 + j, none⟩ = some u := fun {W Z} e h j hj => by
    match j, hj with
    | 0, _ => exact ⟨_, (World.cell?_of_block (w := w) e).trans h.c0⟩
    | 1, _ => exact ⟨_, (World.cell?_of_block (w := w) e).trans h.c1⟩
    | 2, _ => exact ⟨_, (World.cell?_of_block (w := w) e).trans h.c2⟩
  rw [put3y, put3y]
  have g1 := gb_putC X [.slice P r.1.length p, .int .i64 r.2.1, .int .i64 r.2.2] 0 w
  have k1 := cell_put [.slice P r.1.length p, .int .i64 r.2.1, .int .i64 r.2.2] 0 w (z rfl hX)
  have b1 := below_putC (B := w0.heap.size) h1 [.slice P r.1.length p, .int .i64 r.2.1, .int .i64 r.2.2] 0 w hb
  have e1 : (putC w X 0 [.slice P r.1.length p, .int .i64 r.2.1, .int .i64 r.2.2]).heap[Y]? = w.heap[Y]? := g1.block Y hY.lt (fun e => hne (by injection e with e; exact e.symm))
  have hl : X < (putC w X 0 [.slice P r.1.length p, .int .i64 r.2.1, .int .i64 r.2.2]).heap.size := Nat.lt_of_lt_of_le hX.lt g1.size
  have zy := z e1 hY
  generalize putC w X 0 [.slice P r.1.length p, .int .i64 r.2.1, .int .i64 r.2.2] = w1 at *
  have g2 := gb_putC Y [.slice Q s.1.length q, .int .i64 s.2.1, .int .i64 s.2.2] 0 w1
  have k2 := cell_put [.slice Q s.1.length q, .int .i64 s.2.1, .int .i64 s.2.2] 0 w1 zy
  have e2 := g2.block X hl (fun e => hne (by injection e))
  exact ⟨⟨(World.cell?_of_block (w := w1) e2).trans (k1 0 _ rfl), (World.cell?_of_block (w := w1) e2).trans (k1 1 _ rfl), (World.cell?_of_block (w := w1) e2).trans (k1 2 _ rfl)⟩, ⟨k2 0 _ rfl, k2 1 _ rfl, k2 2 _ rfl⟩, below_putC h2 _ 0 _ b1⟩

section
variable {w0 w : World} {P Q : Option Addr} {p q : Nat} {r s : Rg}
theorem zr_a (hb : Below w0.heap.size w0 w) : Hid (CR ((w.alloc (.cells #[.slice P r.1.length p, .int .i64 r.2.1, .int .i64 r.2.2] 62)).alloc (.cells #[.slice Q s.1.length q, .int .i64 s.2.1, .int .i64 s.2.2] 62)) w.heap.size P p r) ∧ Hid (CR ((w.alloc (.cells #[.slice P r.1.length p, .int .i64 r.2.1, .int .i64 r.2.2] 62)).alloc (.cells #[.slice Q s.1.length q, .int .i64 s.2.1, .int .i64 s.2.2] 62)) (w.heap.size + 1) Q q s) ∧ Hid (Below w0.heap.size w0 ((w.alloc (.cells #[.slice P r.1.length p, .int .i64 r.2.1, .int .i64 r.2.2] 62)).alloc (.cells #[.slice Q s.1.length q, .int .i64 s.2.1, .int .i64 s.2.2] 62))) :=
  ⟨(cr_new w P p r _ _ rfl).below (below_one _ _), cr_new _ Q q s _ _ (by simp), (hb.alloc hb.size _).alloc (by have := hb.size; simp; omega) _⟩
theorem zr_b (hb : Below w0.heap.size w0 w) : Hid (CR ((w.alloc (.cells #[.slice Q s.1.length q, .int .i64 s.2.1, .int .i64 s.2.2] 62)).alloc (.cells #[.slice P r.1.length p, .int .i64 r.2.1, .int .i64 r.2.2] 62)) (w.heap.size + 1) P p r) ∧ Hid (CR ((w.alloc (.cells #[.slice Q s.1.length q, .int .i64 s.2.1, .int .i64 s.2.2] 62)).alloc (.cells #[.slice P r.1.length p, .int .i64 r.2.1, .int .i64 r.2.2] 62)) w.heap.size Q q s) ∧ Hid (Below w0.heap.size w0 ((w.alloc (.cells #[.slice Q s.1.length q, .int .i64 s.2.1, .int .i64 s.2.2] 62)).alloc (.cells #[.slice P r.1.length p, .int .i64 r.2.1, .int .i64 r.2.2] 62))) :=
  ⟨cr_new _ P p r _ _ (by simp), (cr_new w Q q s _ _ rfl).below (below_one _ _), (hb.alloc hb.size _).alloc (by have := hb.size; simp; omega) _⟩
theorem zr_c {Y : Nat} (hY : ZR w Y) (hb : Below w0.heap.size w0 w) (h2 : w0.heap.size ≤ Y) : Hid (CR ((((w.alloc (.cells #[.slice P r.1.length p, .int .i64 r.2.1, .int .i64 r.2.2] 62)).setCell ⟨Y, 0, none⟩ (.slice Q s.1.length q)).setCell ⟨Y, 1, none⟩ (.int .i64 s.2.1)).setCell ⟨Y, 2, none⟩ (.int .i64 s.2.2)) w.heap.size P p r) ∧ Hid (CR ((((w.alloc (.cells #[.slice P r.1.length p, .int .i64 r.2.1, .int .i64 r.2.2] 62)).setCell ⟨Y, 0, none⟩ (.slice Q s.1.length q)).setCell ⟨Y, 1, none⟩ (.int .i64 s.2.1)).setCell ⟨Y, 2, none⟩ (.int .i64 s.2.2)) Y Q q s) ∧ Hid (Below w0.heap.size w0 ((((w.alloc (.cells #[.slice P r.1.length p, .int .i64 r.2.1, .int .i64 r.2.2] 62)).setCell ⟨Y, 0, none⟩ (.slice Q s.1.length q)).setCell ⟨Y, 1, none⟩ (.int .i64 s.2.1)).setCell ⟨Y, 2, none⟩ (.int .i64 s.2.2))) := by
  have hl := hY.lt
  have hY1 := hY.alloc (.cells #[.slice P r.1.length p, .int .i64 r.2.1, .int .i64 r.2.2] 62)
  have hc := cr_new w P p r 62 _ rfl
  have hb1 := hb.alloc hb.size (.cells #[.slice P r.1.length p, .int .i64 r.2.1, .int .i64 r.2.2] 62)
  generalize w.alloc (.cells #[.slice P r.1.length p, .int .i64 r.2.1, .int .i64 r.2.2] 62) = w1 at *
  rw [put3y]
  have g2 := gb_putC Y [.slice Q s.1.length q, .int .i64 s.2.1, .int .i64 s.2.2] 0 w1
  have k2 := cell_put [.slice Q s.1.length q, .int .i64 s.2.1, .int .i64 s.2.2] 0 w1 (fun j hj => by
    match j, hj with
    | 0, _ => exact ⟨_, hY1.c0⟩
    | 1, _ => exact ⟨_, hY1.c1⟩
    | 2, _ => exact ⟨_, hY1.c2⟩)
  have e2 := g2.block w.heap.size (lt_of_cell hc.c0) (fun e => by injection e with e; omega)
  exact ⟨⟨(World.cell?_of_block (w := w1) e2).trans hc.c0, (World.cell?_of_block (w := w1) e2).trans hc.c1, (World.cell?_of_block (w := w1) e2).trans hc.c2⟩, ⟨k2 0 _ rfl, k2 1 _ rfl, k2 2 _ rfl⟩, below_putC h2 _ 0 _ hb1⟩
end
/-- the cells of both rings of a line -/
abbrev K6 (w : World) (b o : Nat) (P : Option Addr) (p : Nat) (Q : Option Addr) (q : Nat) (x : Lin) : Prop :=
  w.cell? ⟨b, o + 3, none⟩ = some (.slice P x.2.1.1.length p) ∧ w.cell? ⟨b, o + 4, none⟩ = some (.int .i64 x.2.1.2.1) ∧ w.cell? ⟨b, o + 5, none⟩ = some (.int .i64 x.2.1.2.2) ∧
    w.cell? ⟨b, o + 6, none⟩ = some (.slice Q x.2.2.1.length q) ∧ w.cell? ⟨b, o + 7, none⟩ = some (.int .i64 x.2.2.2.1) ∧ w.cell? ⟨b, o + 8, none⟩ = some (.int .i64 x.2.2.2.2)
section
variable {w w' : World} {b o : Nat} {P Q : Option Addr} {p q : Nat} {x : Lin}
theorem K6.below (h : K6 w b o P p Q q x) (hb : Below w.heap.size w w') : K6 w' b o P p Q q x :=
  ⟨cell_below hb h.1, cell_below hb h.2.1, cell_below hb h.2.2.1, cell_below hb h.2.2.2.1, cell_below hb h.2.2.2.2.1, cell_below hb h.2.2.2.2.2⟩
theorem K6.alloc (h : K6 w b o P p Q q x) (ob : Obj) : K6 (w.alloc ob) b o P p Q q x := h.below (below_one w ob)
theorem K6.drew (h : K6 w b o P p Q q x) : K6 w.drew b o P p Q q x := h
theorem K6.set {X c : Nat} (hne : b ≠ X) (h : K6 w b o P p Q q x) (v : Value) : K6 (w.setCell ⟨X, c, none⟩ v) b o P p Q q x :=
  ⟨cell_fars (p := ⟨X, c, none⟩) hne h.1 v, cell_fars (p := ⟨X, c, none⟩) hne h.2.1 v, cell_fars (p := ⟨X, c, none⟩) hne h.2.2.1 v, cell_fars (p := ⟨X, c, none⟩) hne h.2.2.2.1 v, cell_fars (p := ⟨X, c, none⟩) hne h.2.2.2.2.1 v, cell_fars (p := ⟨X, c, none⟩) hne h.2.2.2.2.2 v⟩
end
theorem may_v (x : Pt) (b : Bool) (h : okP x = b) (w : World) : Calls Try.prog 27 #[.agg #[.int .i64 x.1, .int .i64 x.2.1, .int .i64 x.2.2]] w fun e w' => e = .returned (.bool b) ∧ Below w.heap.size w w' := h ▸ may_any x w
theorem refRight_v (A : Option Addr) (n c : Nat) (f m : Int) (b : Bool) (hb : n ≤ 1000000) (h : Rn.rightB n f m = b) (w : World) : Calls Try.prog 28 #[(.agg #[.slice A n c, .int .i64 f, .int .i64 m])] w fun e w' => e = .returned (.bool b) ∧ Below w.heap.size w w' := h ▸ Rn.refRight_any A n c f m w hb
set_option maxHeartbeats 3200000 in
theorem rightS_any (A : Option Addr) (c : Nat) (L : List Lin) (w : World) (hb : L.length ≤ 1000000) (hin : ∀ j, j < L.length → (at_ L j).2.1.1.length ≤ 20 ∧ (at_ L j).2.2.1.length ≤ 20) (hr : Rd w A c L) :
    Calls Try.prog 11 #[.slice A L.length c] w fun e w' => e = .returned (.bool (okS L)) ∧ Below w.heap.size w w' := by
  have HR := Lib.hid hr
  have HIN := Lib.hid hin
  clear hr hin
  go_enter Try.func11, Try.ntmps11
  go_wp2_with fail
  go_loopw [3] (fun i wr => ∃ k : Nat, i = .int .i64 (k : Int) ∧ k ≤ L.length ∧ Hid (∀ j, j < k → okL (at_ L j) = true) ∧ Hid (Below w.heap.size w wr)) (fun i _ => L.length - (intOf i).toNat)
  case atStart => exact ⟨0, rfl, Nat.zero_le _, (fun j h => by omega), Below.refl _ _⟩
  case round =>
    obtain ⟨k, rfl, hk, HH, HB⟩ := hrel
    by_cases hlt : k < L.length
    · obtain ⟨b, off, rfl, _, hc⟩ := line_at (HR.out.below HB.out) (by omega)
      obtain ⟨P, p, Q, q, h9, -, -, -⟩ := hc k hlt
      have i1 : (k : Int) < (L.length : Int) := by omega
      have i0 : (0 : Int) ≤ (k : Int) := by omega
      have i2 : IntKind.i64.wrap ((k : Int) + 1) = (k : Int) + 1 := IntWalk.i64_in _ (by omega)
      have hl := HIN.out k hlt
      have hno : okL (at_ L k) = false → okS L = false := fun h => by
        unfold okS
        rw [Bool.and_eq_false_iff]
        right
        rw [List.all_eq_false]
        exact ⟨_, at_mem hlt, by rw [h]; simp⟩
      have HNX : Hid (okL (at_ L k) = true → ∀ j, j < k + 1 → okL (at_ L j) = true) := fun h j hj => by
        by_cases e : j = k
        · subst e; exact h
        · exact HH.out j (by omega)
      clear hc
      generalize at_ L k = x at *
      have H9 := Lib.hid h9
      have HL := Lib.hid hl
      have HNO := Lib.hid hno
      clear hl hno
      obtain ⟨x0, x1, x2, x3, x4, x5, x6, x7, x8⟩ := h9
      have BD := Lib.hid ((Below.refl wr.heap.size wr).drew)
      go_upto_region 4 with fail
      go_cut [4, 5] (fun s4 s5 wx => ∃ b4 b5, s4 = .pointer (some ⟨b4, 0, none⟩) ∧ s5 = .pointer (some ⟨b5, 0, none⟩) ∧ Hid (CR wx b4 P p x.2.1) ∧ Hid (CR wx b5 Q q x.2.2) ∧ Hid (Below wr.heap.size wr wx))
      case first =>
        have hbl := lt_of_cell x0
        have hbl : b < wr.heap.size := hbl
        have hk0 : K6 wr b (off + k * 9) P p Q q x := ⟨x3, x4, x5, x6, x7, x8⟩
        have v1 : b ≠ wr.heap.size := by omega
        have v2 : b ≠ wr.heap.size + 1 := by omega
        go_region_held3 (fun w' => w'.cell? ⟨b, off + k * 9 + 3, none⟩ = some (.slice P x.2.1.1.length p) ∧ w'.cell? ⟨b, off + k * 9 + 4, none⟩ = some (.int .i64 x.2.1.2.1) ∧ w'.cell? ⟨b, off + k * 9 + 5, none⟩ = some (.int .i64 x.2.1.2.2) ∧ w'.cell? ⟨b, off + k * 9 + 6, none⟩ = some (.slice Q x.2.2.1.length q) ∧ w'.cell? ⟨b, off + k * 9 + 7, none⟩ = some (.int .i64 x.2.2.2.1) ∧ w'.cell? ⟨b, off + k * 9 + 8, none⟩ = some (.int .i64 x.2.2.2.2))
                        ((show K6 _ b (off + k * 9) P p Q q x
                          repeat (first
                            | (with_reducible exact hk5)
                            | (with_reducible exact hk4)
                            | (with_reducible exact hk0)
                            | (with_reducible refine K6.alloc ?_ _)
                            | (with_reducible refine K6.drew ?_)
                            | (with_reducible refine K6.set ?_ ?_ _
                               focus (with_reducible assumption)))))
                        (first
                        | (go_at_call 26
                           with_reducible refine (Rn.as_any P x.2.1.1.length p x.2.1.2.1 x.2.1.2.2 _).mono ?_
                           rintro e w4 ⟨rfl, b4⟩
                           try (have q1 := (zr_new wr.drew wr.heap.size rfl).below b4
                                obtain ⟨za0, za1, za2, zf0, zf1, zf2⟩ := ZR.all q1)
                           try (have q1 := ((zr_new wr.drew wr.heap.size rfl).alloc zr).below b4
                                have q2 := (zr_new (wr.drew.alloc zr) (wr.heap.size + 1) (by simp)).below b4
                                obtain ⟨za0, za1, za2, zf0, zf1, zf2⟩ := ZR.all q1
                                obtain ⟨zb0, zb1, zb2, zg0, zg1, zg2⟩ := ZR.all q2)
                           first
                             | have bX : Below wr.heap.size wr w4 := (Below.refl _ wr).drew.trans b4
                             | have bX : Below wr.heap.size wr w4 := ((Below.refl _ wr).drew.alloc (Nat.le_refl _) zr).trans (b4.mono (by simp))
                             | have bX : Below wr.heap.size wr w4 := (((Below.refl _ wr).drew.alloc (Nat.le_refl _) zr).alloc (by simp) zr).trans (b4.mono (by simp; omega))
                           have hk4 := hk0.below bX
                           have v3 : b ≠ w4.heap.size := by have := bX.size; omega
                           have v4 : b ≠ w4.heap.size + 1 := by have := bX.size; omega
                           skip)
                        | (go_at_call 26
                           with_reducible refine (Rn.as_any Q x.2.2.1.length q x.2.2.2.1 x.2.2.2.2 _).mono ?_
                           rintro e w5 ⟨rfl, b5⟩
                           have m5 := b5.size
                           have m4 := b4.size
                           simp only [World.size_alloc, World.size_drew] at m4 m5
                           try (have u1 : w4.heap.size ≠ w5.heap.size := by omega
                                have u2 : w5.heap.size ≠ w4.heap.size := by omega)
                           try (have u3 : wr.heap.size ≠ w4.heap.size := by omega
                                have u4 : w4.heap.size ≠ wr.heap.size := by omega)
                           try (have u5 : wr.heap.size ≠ w5.heap.size := by omega
                                have u6 : w5.heap.size ≠ wr.heap.size := by omega)
                           clear m4 m5
                           -- n0 = 2, n0 = 1 and n1 = 0
                           try (have r1 := ZR.below q1 b5
                                obtain ⟨zc0, zc1, zc2, zh0, zh1, zh2⟩ := ZR.all r1)
                           try (have r2 := ZR.below q2 b5
                                obtain ⟨zd0, zd1, zd2, zi0, zi1, zi2⟩ := ZR.all r2)
                           -- n0 = 1, n1 = 1
                           try (have r1 := (ZR.alloc q1 zr).below b5
                                obtain ⟨zc0, zc1, zc2, zh0, zh1, zh2⟩ := ZR.all r1)
                           -- n1 = 1
                           try (have r2 := (zr_new w4 w4.heap.size rfl).below b5
                                obtain ⟨zd0, zd1, zd2, zi0, zi1, zi2⟩ := ZR.all r2)
                           -- n1 = 2
                           try (have r1 := ((zr_new w4 w4.heap.size rfl).alloc zr).below b5
                                have r2 := (zr_new (w4.alloc zr) (w4.heap.size + 1) (by simp)).below b5
                                obtain ⟨zc0, zc1, zc2, zh0, zh1, zh2⟩ := ZR.all r1
                                obtain ⟨zd0, zd1, zd2, zi0, zi1, zi2⟩ := ZR.all r2)
                           -- n2 = 1
                           try (have t1 := ZR.alloc r1 zr
                                obtain ⟨ze0, ze1, ze2, zj0, zj1, zj2⟩ := ZR.all t1)
                           try (have t2 := ZR.alloc r2 zr
                                obtain ⟨zl0, zl1, zl2, zm0, zm1, zm2⟩ := ZR.all t2)
                           try (have t3 := ZR.alloc r1 (.cells #[.slice P x.2.1.1.length p, .int .i64 x.2.1.2.1, .int .i64 x.2.1.2.2] 62)
                                obtain ⟨zs0, zs1, zs2, zt0, zt1, zt2⟩ := ZR.all t3)
                           try (have t4 := ZR.alloc r2 (.cells #[.slice P x.2.1.1.length p, .int .i64 x.2.1.2.1, .int .i64 x.2.1.2.2] 62)
                                obtain ⟨zu0, zu1, zu2, zv0, zv1, zv2⟩ := ZR.all t4)
                           -- n2 = 2
                           have s1 := (zr_new w5 w5.heap.size rfl).alloc zr
                           have s2 := zr_new (w5.alloc zr) (w5.heap.size + 1) (by simp)
                           have s3 := zr_new w5 w5.heap.size rfl
                           obtain ⟨zn0, zn1, zn2, zo0, zo1, zo2⟩ := ZR.all s1
                           obtain ⟨zp0, zp1, zp2, zq0, zq1, zq2⟩ := ZR.all s2
                           first
                             | have b45 : Below wr.heap.size wr w5 := below_step bX b5
                             | have b45 : Below wr.heap.size wr w5 := (bX.alloc bX.size zr).trans (b5.mono (by have := bX.size; simp; omega))
                             | have b45 : Below wr.heap.size wr w5 := ((bX.alloc bX.size zr).alloc (by have := bX.size; simp; omega) zr).trans (b5.mono (by have := bX.size; simp; omega))
                           have hk5 := hk0.below b45
                           have v5 : b ≠ w5.heap.size := by have := b45.size; omega
                           have v6 : b ≠ w5.heap.size + 1 := by have := b45.size; omega
                           skip))
        all_goals
          have m5 := b45.size
          have m4 := bX.size
          have bz := b45.alloc b45.size zr
          go_wp2_with fail
          go_meet
          case rel =>
            first
              | with_reducible exact ⟨_, _, rfl, rfl, zr_a b45⟩
              | with_reducible exact ⟨_, _, rfl, rfl, zr_b b45⟩
              | with_reducible exact ⟨_, _, rfl, rfl, zr_c (by assumption) b45 (by omega)⟩
              | with_reducible exact ⟨_, _, rfl, rfl, zr_fin (by assumption) (by assumption) (by omega) b45 (by omega) (by omega)⟩
              | with_reducible exact ⟨_, _, rfl, rfl, zr_fin (by assumption) (by assumption) (by omega) bz (by omega) (by omega)⟩
      case rest =>
        obtain ⟨b4, b5, rfl, rfl, HC4, HC5, HBX⟩ := hcut
        replace H9 := Lib.hid (H9.out.below HBX.out)
        have HB2 := Lib.hid (below_step HB.out HBX.out)
        clear x0 x1 x2 x3 x4 x5 x6 x7 x8 HB HBX
        obtain ⟨x0, x1, x2, x3, x4, x5, x6, x7, x8⟩ := H9.out
        obtain ⟨y0, y1, y2⟩ := HC4.out
        obtain ⟨z0, z1, z2⟩ := HC5.out
        have hla : x.2.1.1.length ≤ 1000000 := Nat.le_trans HL.out.1 (by decide)
        have hlb : x.2.2.1.length ≤ 1000000 := Nat.le_trans HL.out.2 (by decide)
        have hokx := okL_eq x
        unfold okR at hokx
        cases h1 : okP x.1 with
        | false =>
          have HY := Lib.hid (HNO.out (by rw [hokx, h1]; rfl))
          clear hokx
          go_wp2_with fail
          replace x0 := cell_bw x0
          replace x1 := cell_bw x1
          replace x2 := cell_bw x2
          replace x3 := cell_bw x3
          replace x6 := cell_bw x6
          replace y0 := cell_bw y0
          replace y1 := cell_bw y1
          replace y2 := cell_bw y2
          replace z0 := cell_bw z0
          replace z1 := cell_bw z1
          replace z2 := cell_bw z2
          refine wp_region_bw (by kernel_rfl) (by kernel_rfl) ?_
          repeat
            (with_reducible refine wpQuiet_step (fun K hK => ?_)
             go_simp
             first
               | (with_reducible refine hK _ ?_
                  clear hK K)
               | (rw [if_neg]
                  rotate_left
                  focus (intro h; cases h; done)
                  with_reducible refine hK _ ?_
                  clear hK K)
               | (apply Exists.intro
                  refine ⟨fun _ => ?_, hK _ ?_⟩
                  (first | (with_reducible exact Calls.bw (may_v x.1 _ h1 _)) | (with_reducible exact Calls.bw (refRight_v P x.2.1.1.length p x.2.1.2.1 x.2.1.2.2 _ hla h2 _)) | (with_reducible exact Calls.bw (refRight_v Q x.2.2.1.length q x.2.2.2.1 x.2.2.2.2 _ hlb h3 _)))
                  clear hK K))
          with_reducible refine wpQuiet_nil ?_
          intro wb hw'
          obtain ⟨⟨wb', lb⟩, hw''⟩ := hw'
          subst hw''
          have HB3 := Lib.hid (below_step HB2.out lb)
          clear lb
          go_wp2_with fail
          go_ret
          exact ⟨ret_bool HY.out.symm, HB3.out⟩
        | true =>
          cases h2 : Rn.rightB x.2.1.1.length x.2.1.2.1 x.2.1.2.2 with
          | false =>
            have HY := Lib.hid (HNO.out (by rw [hokx, h1, h2]; rfl))
            clear hokx
            go_wp2_with fail
            replace x0 := cell_bw x0
            replace x1 := cell_bw x1
            replace x2 := cell_bw x2
            replace x3 := cell_bw x3
            replace x6 := cell_bw x6
            replace y0 := cell_bw y0
            replace y1 := cell_bw y1
            replace y2 := cell_bw y2
            replace z0 := cell_bw z0
            replace z1 := cell_bw z1
            replace z2 := cell_bw z2
            refine wp_region_bw (by kernel_rfl) (by kernel_rfl) ?_
            repeat
              (with_reducible refine wpQuiet_step (fun K hK => ?_)
               go_simp
               first
                 | (with_reducible refine hK _ ?_
                    clear hK K)
                 | (rw [if_neg]
                    rotate_left
                    focus (intro h; cases h; done)
                    with_reducible refine hK _ ?_
                    clear hK K)
                 | (apply Exists.intro
                    refine ⟨fun _ => ?_, hK _ ?_⟩
                    (first | (with_reducible exact Calls.bw (may_v x.1 _ h1 _)) | (with_reducible exact Calls.bw (refRight_v P x.2.1.1.length p x.2.1.2.1 x.2.1.2.2 _ hla h2 _)) | (with_reducible exact Calls.bw (refRight_v Q x.2.2.1.length q x.2.2.2.1 x.2.2.2.2 _ hlb h3 _)))
                    clear hK K))
            with_reducible refine wpQuiet_nil ?_
            intro wb hw'
            obtain ⟨⟨wb', lb⟩, hw''⟩ := hw'
            subst hw''
            have HB3 := Lib.hid (below_step HB2.out lb)
            clear lb
            go_wp2_with fail
            go_ret
            exact ⟨ret_bool HY.out.symm, HB3.out⟩
          | true =>
            cases h3 : Rn.rightB x.2.2.1.length x.2.2.2.1 x.2.2.2.2 with
            | false =>
              have HY := Lib.hid (HNO.out (by rw [hokx, h1, h2, h3]; simp))
              clear hokx
              go_wp2_with fail
              replace x0 := cell_bw x0
              replace x1 := cell_bw x1
              replace x2 := cell_bw x2
              replace x3 := cell_bw x3
              replace x6 := cell_bw x6
              replace y0 := cell_bw y0
              replace y1 := cell_bw y1
              replace y2 := cell_bw y2
              replace z0 := cell_bw z0
              replace z1 := cell_bw z1
              replace z2 := cell_bw z2
              refine wp_region_bw (by kernel_rfl) (by kernel_rfl) ?_
              repeat
                (with_reducible refine wpQuiet_step (fun K hK => ?_)
                 go_simp
                 first
                   | (with_reducible refine hK _ ?_
                      clear hK K)
                   | (rw [if_neg]
                      rotate_left
                      focus (intro h; cases h; done)
                      with_reducible refine hK _ ?_
                      clear hK K)
                   | (apply Exists.intro
                      refine ⟨fun _ => ?_, hK _ ?_⟩
                      (first | (with_reducible exact Calls.bw (may_v x.1 _ h1 _)) | (with_reducible exact Calls.bw (refRight_v P x.2.1.1.length p x.2.1.2.1 x.2.1.2.2 _ hla h2 _)) | (with_reducible exact Calls.bw (refRight_v Q x.2.2.1.length q x.2.2.2.1 x.2.2.2.2 _ hlb h3 _)))
                      clear hK K))
              with_reducible refine wpQuiet_nil ?_
              intro wb hw'
              obtain ⟨⟨wb', lb⟩, hw''⟩ := hw'
              subst hw''
              have HB3 := Lib.hid (below_step HB2.out lb)
              clear lb
              go_wp2_with fail
              go_ret
              exact ⟨ret_bool HY.out.symm, HB3.out⟩
            | true =>
              by_cases h4 : (x.2.1.1.length : Int) = x.1.2.2
              · have e4 : ((x.2.1.1.length : Int) != x.1.2.2) = false := by simp [h4]
                by_cases h5 : (x.2.2.1.length : Int) = x.1.2.2
                · have e5 : ((x.2.2.1.length : Int) != x.1.2.2) = false := by simp [h5]
                  have HN := Lib.hid (HNX.out (by rw [hokx, h1, h2, h3, decide_eq_true h4, decide_eq_true h5]; rfl))
                  clear hokx h4 h5
                  go_wp2_with fail
                  replace x0 := cell_bw x0
                  replace x1 := cell_bw x1
                  replace x2 := cell_bw x2
                  replace x3 := cell_bw x3
                  replace x6 := cell_bw x6
                  replace y0 := cell_bw y0
                  replace y1 := cell_bw y1
                  replace y2 := cell_bw y2
                  replace z0 := cell_bw z0
                  replace z1 := cell_bw z1
                  replace z2 := cell_bw z2
                  refine wp_region_bw (by kernel_rfl) (by kernel_rfl) ?_
                  repeat
                    (with_reducible refine wpQuiet_step (fun K hK => ?_)
                     go_simp
                     first
                       | (with_reducible refine hK _ ?_
                          clear hK K)
                       | (rw [if_neg]
                          rotate_left
                          focus (intro h; cases h; done)
                          with_reducible refine hK _ ?_
                          clear hK K)
                       | (apply Exists.intro
                          refine ⟨fun _ => ?_, hK _ ?_⟩
                          (first | (with_reducible exact Calls.bw (may_v x.1 _ h1 _)) | (with_reducible exact Calls.bw (refRight_v P x.2.1.1.length p x.2.1.2.1 x.2.1.2.2 _ hla h2 _)) | (with_reducible exact Calls.bw (refRight_v Q x.2.2.1.length q x.2.2.2.1 x.2.2.2.2 _ hlb h3 _)))
                          clear hK K))
                  with_reducible refine wpQuiet_nil ?_
                  intro wb hw'
                  obtain ⟨⟨wb', lb⟩, hw''⟩ := hw'
                  subst hw''
                  have HB3 := Lib.hid (below_step HB2.out lb)
                  clear lb
                  go_wp2_with fail
                  go_roundw
                  case rel => exact ⟨k + 1, by go_num, hlt, HN, HB3⟩
                  case measure => simp [intOf]; omega
                · have e5 : ((x.2.2.1.length : Int) != x.1.2.2) = true := by simp [h5]
                  have HY := Lib.hid (HNO.out (by rw [hokx, h1, h2, h3, decide_eq_true h4, decide_eq_false h5]; rfl))
                  clear hokx h4 h5
                  go_wp2_with fail
                  replace x0 := cell_bw x0
                  replace x1 := cell_bw x1
                  replace x2 := cell_bw x2
                  replace x3 := cell_bw x3
                  replace x6 := cell_bw x6
                  replace y0 := cell_bw y0
                  replace y1 := cell_bw y1
                  replace y2 := cell_bw y2
                  replace z0 := cell_bw z0
                  replace z1 := cell_bw z1
                  replace z2 := cell_bw z2
                  refine wp_region_bw (by kernel_rfl) (by kernel_rfl) ?_
                  repeat
                    (with_reducible refine wpQuiet_step (fun K hK => ?_)
                     go_simp
                     first
                       | (with_reducible refine hK _ ?_
                          clear hK K)
                       | (rw [if_neg]
                          rotate_left
                          focus (intro h; cases h; done)
                          with_reducible refine hK _ ?_
                          clear hK K)
                       | (apply Exists.intro
                          refine ⟨fun _ => ?_, hK _ ?_⟩
                          (first | (with_reducible exact Calls.bw (may_v x.1 _ h1 _)) | (with_reducible exact Calls.bw (refRight_v P x.2.1.1.length p x.2.1.2.1 x.2.1.2.2 _ hla h2 _)) | (with_reducible exact Calls.bw (refRight_v Q x.2.2.1.length q x.2.2.2.1 x.2.2.2.2 _ hlb h3 _)))
                          clear hK K))
                  with_reducible refine wpQuiet_nil ?_
                  intro wb hw'
                  obtain ⟨⟨wb', lb⟩, hw''⟩ := hw'
                  subst hw''
                  have HB3 := Lib.hid (below_step HB2.out lb)
                  clear lb
                  go_wp2_with fail
                  go_ret
                  exact ⟨ret_bool HY.out.symm, HB3.out⟩
              · have e4 : ((x.2.1.1.length : Int) != x.1.2.2) = true := by simp [h4]
                have HY := Lib.hid (HNO.out (by rw [hokx, h1, h2, h3, decide_eq_false h4]; rfl))
                clear hokx h4
                go_wp2_with fail
                replace x0 := cell_bw x0
                replace x1 := cell_bw x1
                replace x2 := cell_bw x2
                replace x3 := cell_bw x3
                replace x6 := cell_bw x6
                replace y0 := cell_bw y0
                replace y1 := cell_bw y1
                replace y2 := cell_bw y2
                replace z0 := cell_bw z0
                replace z1 := cell_bw z1
                replace z2 := cell_bw z2
                refine wp_region_bw (by kernel_rfl) (by kernel_rfl) ?_
                repeat
                  (with_reducible refine wpQuiet_step (fun K hK => ?_)
                   go_simp
                   first
                     | (with_reducible refine hK _ ?_
                        clear hK K)
                     | (rw [if_neg]
                        rotate_left
                        focus (intro h; cases h; done)
                        with_reducible refine hK _ ?_
                        clear hK K)
                     | (apply Exists.intro
                        refine ⟨fun _ => ?_, hK _ ?_⟩
                        (first | (with_reducible exact Calls.bw (may_v x.1 _ h1 _)) | (with_reducible exact Calls.bw (refRight_v P x.2.1.1.length p x.2.1.2.1 x.2.1.2.2 _ hla h2 _)) | (with_reducible exact Calls.bw (refRight_v Q x.2.2.1.length q x.2.2.2.1 x.2.2.2.2 _ hlb h3 _)))
                        clear hK K))
                with_reducible refine wpQuiet_nil ?_
                intro wb hw'
                obtain ⟨⟨wb', lb⟩, hw''⟩ := hw'
                subst hw''
                have HB3 := Lib.hid (below_step HB2.out lb)
                clear lb
                go_wp2_with fail
                go_ret
                exact ⟨ret_bool HY.out.symm, HB3.out⟩
    · have ek : k = L.length := by omega
      subst ek
      have HF : Hid (okS L = decide ((L.length : Int) ≤ 4)) := by
        show _ = _
        unfold okS
        rw [List.all_eq_true.2 (fun x hx => by obtain ⟨j, hj, rfl⟩ := mem_at hx; exact HH.out j hj), Bool.and_true, decide_eq_decide]
        omega
      go_wp2_with fail
      go_ret
      exact ⟨ret_bool HF.out.symm, HB.out⟩

end Po
end Go.Proofs.Ytfkcplnjhelclaa
