/-
  Layer 4 (span): the three closures that add pieces.
-/
import Derived.Test.YtdgemmhaddnbdaaSpanCombine
namespace Go.Proofs.Ytdgemmhaddnbdaa
open Go.Shelf Go.RowKit Go.Lib Go.Sort
namespace Hp

theorem KeptBut.cell {w w' : World} {X : Nat} {A : Option Addr} (h : KeptBut w w' X A) {p : Addr} {v : Value} (hc : w.cell? p = some v) (h1 : p.block ≠ X) (h2 : ∀ g, A = some ⟨g, 0, none⟩ → p.block ≠ g) : w'.cell? p = some v :=
  (World.cell?_of_block (w := w) (h.block p.block (lt_of_cell hc) h1 h2)).trans hc

set_option maxHeartbeats 800000 in
theorem pieceN (w : World) : Piece 24 #[] pcN w := fun W l A c s hb hX ho hl => by
  show Calls Try.prog 24 #[.agg #[.int .i64 s.1, .int .i64 s.2], addV w.heap.size] W _
  have HO := Lib.hid ho
  have HB := Lib.hid hb
  clear ho hb
  generalize w.heap.size = X at *
  go_enter Try.func24, Try.ntmps24
  go_wp2_with fail
  refine (add_any X s.1 s.2 l A c _ (by omega) (HO.out.alloc _)).mono ?_
  rintro e w1 ⟨rfl, A1, c1, o1, k1⟩
  have O1 := Lib.hid o1
  have K1 := Lib.hid (((Below.refl X W).alloc (by omega) (.cells #[.int .i64 s.1, .int .i64 s.2] 29)).trans (k1.below (HO.out.alloc _)))
  clear o1 k1
  go_wp2_with fail
  go_end0
  exact ⟨rfl, A1, c1, O1.out, K1.out⟩

set_option maxHeartbeats 800000 in
theorem pieceC (f t : Int) (F T : Nat) (w : World) (hF : w.cell? ⟨F, 0, none⟩ = some (.int .i64 f)) (hT : w.cell? ⟨T, 0, none⟩ = some (.int .i64 t)) :
    Piece 28 #[.pointer (some ⟨F, 0, none⟩), .pointer (some ⟨T, 0, none⟩)] (pcC f t) w := fun W l A c s hb hX ho hl => by
  show Calls Try.prog 28 #[.agg #[.int .i64 s.1, .int .i64 s.2], addV w.heap.size, .pointer (some ⟨F, 0, none⟩), .pointer (some ⟨T, 0, none⟩)] W _
  have yF := cell_new (cell_below hb hF) (.cells #[.int .i64 s.1, .int .i64 s.2] 29)
  have yT := cell_new (cell_below hb hT) (.cells #[.int .i64 s.1, .int .i64 s.2] 29)
  have HO := Lib.hid ho
  clear ho hb hF hT
  generalize w.heap.size = X at *
  go_enter Try.func28, Try.ntmps28
  go_wp2_with fail
  refine (add_any X (max s.1 f) (min s.2 t) l A c _ (by omega) (HO.out.alloc _)).mono ?_
  rintro e w1 ⟨rfl, A1, c1, o1, k1⟩
  have O1 := Lib.hid o1
  have K1 := Lib.hid (((Below.refl X W).alloc (by omega) (.cells #[.int .i64 s.1, .int .i64 s.2] 29)).trans (k1.below (HO.out.alloc _)))
  clear o1 k1
  go_wp2_with fail
  go_end0
  exact ⟨rfl, A1, c1, O1.out, K1.out⟩

set_option maxHeartbeats 800000 in
theorem pieceW (x : It) (Z : Nat) (w : World) (h1 : w.cell? ⟨Z, 0, none⟩ = some (.int .i64 x.1)) (h2 : w.cell? ⟨Z, 1, none⟩ = some (.int .i64 x.2)) :
    Piece 29 #[.pointer (some ⟨Z, 0, none⟩)] (pcW x) w := fun W l A c s hb hX ho hl => by
  show Calls Try.prog 29 #[.agg #[.int .i64 s.1, .int .i64 s.2], addV w.heap.size, .pointer (some ⟨Z, 0, none⟩)] W _
  have z1 := cell_new (cell_below hb h1) (.cells #[.int .i64 s.1, .int .i64 s.2] 29)
  have z2 := cell_new (cell_below hb h2) (.cells #[.int .i64 s.1, .int .i64 s.2] 29)
  have hZ := lt_of_cell h1
  have HO := Lib.hid ho
  have HN := Lib.hid (ho.2.2.new)
  have s1 : (W.alloc (.cells #[.int .i64 s.1, .int .i64 s.2] 29)).cell? ⟨W.heap.size, 0, none⟩ = some (.int .i64 s.1) := by simp
  have s2 : (W.alloc (.cells #[.int .i64 s.1, .int .i64 s.2] 29)).cell? ⟨W.heap.size, 1, none⟩ = some (.int .i64 s.2) := by simp
  have HOg := Lib.hid (fun g (e : A = some ⟨g, 0, none⟩) => (World.ownsRow.lt ho.2.2 g (by rw [e]; rfl)).1)
  clear ho hb h1 h2
  generalize w.heap.size = X at *
  simp only at hZ
  go_enter Try.func29, Try.ntmps29
  go_wp2_with fail
  refine (add_any X s.1 (min s.2 x.1) l A c _ (by omega) (HO.out.alloc _)).mono ?_
  rintro e w1 ⟨rfl, A1, c1, o1, k1⟩
  have O1 := Lib.hid o1
  have K1 := Lib.hid (((Below.refl X W).alloc (by omega) (.cells #[.int .i64 s.1, .int .i64 s.2] 29)).trans (k1.below (HO.out.alloc _)))
  have u1 := k1.cell s1 (by simp only; omega) (fun g e => by have := HN.out g e; simp only; omega)
  have u2 := k1.cell s2 (by simp only; omega) (fun g e => by have := HN.out g e; simp only; omega)
  have v1 := k1.cell z1 (by simp only; omega) (fun g e => by have := HOg.out g e; simp only; omega)
  have v2 := k1.cell z2 (by simp only; omega) (fun g e => by have := HOg.out g e; simp only; omega)
  have hA1 := addP_length l s.1 (min s.2 x.1)
  clear o1 k1 s1 s2 z1 z2
  go_wp2_with fail
  refine (add_any X (max s.1 x.2) s.2 _ A1 c1 _ (by omega) O1.out).mono ?_
  rintro e w2 ⟨rfl, A2, c2, o2, k2⟩
  have O2 := Lib.hid o2
  have K2 := Lib.hid (K1.out.trans (k2.below O1.out))
  clear o2 k2
  go_wp2_with fail
  go_end0
  exact ⟨rfl, A2, c2, O2.out, K2.out⟩

end Hp
end Go.Proofs.Ytdgemmhaddnbdaa
