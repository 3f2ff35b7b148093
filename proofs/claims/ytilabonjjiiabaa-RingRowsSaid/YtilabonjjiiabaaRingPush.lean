/-
  Layer 3 (ring): Push, Put.
-/
import Derived.Test.YtilabonjjiiabaaRingWith
namespace Go.Proofs.Ytilabonjjiiabaa
open Go.RowKit
namespace Rn
attribute [local go_sem ↓] Go.wp_at_zero Go.wp_at_succ
attribute [local go_sem ↓] build_ring build_some build_none build_ref build_refSome

/-- a ring in a block of its own, and behind it a ring of zeros -/
def Two (w w0 : World) (A : Option Addr) (n c : Nat) (f m : Int) : Prop :=
  (w0.cell? ⟨w.heap.size, 0, none⟩ = some (.slice A n c) ∧ w0.cell? ⟨w.heap.size, 1, none⟩ = some (.int .i64 f) ∧ w0.cell? ⟨w.heap.size, 2, none⟩ = some (.int .i64 m)) ∧
  (w0.cell? ⟨w.heap.size + 1, 0, none⟩ = some (.slice none 0 0) ∧ w0.cell? ⟨w.heap.size + 1, 1, none⟩ = some (.int .i64 0) ∧ w0.cell? ⟨w.heap.size + 1, 2, none⟩ = some (.int .i64 0)) ∧
  (w0.frozen? ⟨w.heap.size + 1, 0, none⟩ = false ∧ w0.frozen? ⟨w.heap.size + 1, 1, none⟩ = false ∧ w0.frozen? ⟨w.heap.size + 1, 2, none⟩ = false) ∧
  (w0.frozen? ⟨w.heap.size, 0, none⟩ = false ∧ w0.frozen? ⟨w.heap.size, 1, none⟩ = false ∧ w0.frozen? ⟨w.heap.size, 2, none⟩ = false) ∧
  Below w.heap.size w w0 ∧ w.heap.size + 2 ≤ w0.heap.size
theorem two_new (w : World) (A : Option Addr) (n c : Nat) (f m : Int) : Two w ((w.alloc (.cells #[.slice A n c, .int .i64 f, .int .i64 m] 24)).alloc (.cells #[.slice none 0 0, .int .i64 0, .int .i64 0] 24)) A n c f m := by
  refine ⟨⟨?_, ?_, ?_⟩, ⟨?_, ?_, ?_⟩, ⟨?_, ?_, ?_⟩, ⟨?_, ?_, ?_⟩, below_two _ _ _, by simp⟩ <;> go_simp
theorem Two.step {w w0 w1 : World} {A : Option Addr} {n c : Nat} {f m : Int} (h : Two w w0 A n c f m) (b : Below w0.heap.size w0 w1) : Two w w1 A n c f m := by
  obtain ⟨⟨x0, x1, x2⟩, ⟨y0, y1, y2⟩, ⟨f0, f1, f2⟩, ⟨g0, g1, g2⟩, hb, hz⟩ := h
  exact ⟨⟨cell_below b x0, cell_below b x1, cell_below b x2⟩, ⟨cell_below b y0, cell_below b y1, cell_below b y2⟩, ⟨frozen_below b y0 f0, frozen_below b y1 f1, frozen_below b y2 f2⟩, ⟨frozen_below b x0 g0, frozen_below b x1 g1, frozen_below b x2 g2⟩, below_step hb b, Nat.le_trans hz b.size⟩
/-- the result written -/
theorem Two.out {w w0 : World} {A : Option Addr} {n c : Nat} {f m : Int} (h : Two w w0 A n c f m) (u0 u1 u2 : Value) :
    Below w.heap.size w (((w0.setCell ⟨w.heap.size + 1, 0, none⟩ u0).setCell ⟨w.heap.size + 1, 1, none⟩ u1).setCell ⟨w.heap.size + 1, 2, none⟩ u2) :=
  ((h.2.2.2.2.1.setCell (by simp) _).setCell (by simp) _).setCell (by simp) _
/-- a slice of the call's own, where the result is written elsewhere -/
theorem Ow.out {w1 : World} {base : Nat} {A : Option Addr} {c B : Nat} {l : List Int} (h : Ow w1 base A c l) (hB : B < base) (u0 u1 u2 : Value) :
    Ow (((w1.setCell ⟨B, 0, none⟩ u0).setCell ⟨B, 1, none⟩ u1).setCell ⟨B, 2, none⟩ u2) base A c l := by
  have hn : ∀ g, A = some ⟨g, 0, none⟩ → B ≠ g := fun g hg => by
    rcases h.cases with ⟨h1, _⟩ | ⟨g', h1, h2, _⟩
    · rw [hg] at h1; cases h1
    · rw [hg] at h1; injection h1 with h1; injection h1 with h1; omega
  exact ((h.farAny hn _).farAny hn _).farAny hn _

theorem push_no (A : Option Addr) (n c : Nat) (f m v : Int) (w : World) (h : rightB n f m = false) :
    Calls Try.prog 17 #[.agg #[.slice A n c, .int .i64 f, .int .i64 m], .int .i64 v] w fun e w' => e = .returned (.tuple #[.agg #[.slice A n c, .int .i64 f, .int .i64 m], .int .i64 1]) ∧ Below w.heap.size w w' := by
  have H := Lib.hid h
  clear h
  have T0 := Lib.hid (two_new w A n c f m)
  go_enter Try.func17, Try.ntmps17
  go_wp2_with fail
  generalize ((w.alloc (.cells #[.slice A n c, .int .i64 f, .int .i64 m] 24)).alloc (.cells #[.slice none 0 0, .int .i64 0, .int .i64 0] 24)) = w0 at *
  refine (right_any A n c f m _).mono ?_
  rintro e w1 ⟨rfl, b1⟩
  rw [H.out]
  have T1 := Lib.hid (T0.out.step b1)
  obtain ⟨⟨x0, x1, x2⟩, ⟨y0, y1, y2⟩, ⟨f0, f1, f2⟩, _, _, _⟩ := T1.out
  clear b1
  go_wp2_with fail
  refine bodyPost_ret (v := .tuple #[.agg #[.slice A n c, .int .i64 f, .int .i64 m], .int .i64 1]) (by simp [results, Try.results17, go_sem, y0, y1, y2]) rfl ?_
  exact ⟨rfl, T1.out.out _ _ _⟩

theorem push_full (A : Option Addr) (n c f : Nat) (m v : Int) (w : World) (hf : f < n) (hm : m = (n : Int)) :
    Calls Try.prog 17 #[.agg #[.slice A n c, .int .i64 (f : Int), .int .i64 m], .int .i64 v] w fun e w' => e = .returned (.tuple #[.agg #[.slice A n c, .int .i64 (f : Int), .int .i64 m], .int .i64 3]) ∧ Below w.heap.size w w' := by
  subst hm
  have H := Lib.hid (rightB_of hf (Nat.le_refl n))
  have T0 := Lib.hid (two_new w A n c (f : Int) (n : Int))
  go_enter Try.func17, Try.ntmps17
  go_wp2_with fail
  generalize ((w.alloc (.cells #[.slice A n c, .int .i64 (f : Int), .int .i64 (n : Int)] 24)).alloc (.cells #[.slice none 0 0, .int .i64 0, .int .i64 0] 24)) = w0 at *
  refine (right_any A n c (f : Int) (n : Int) _).mono ?_
  rintro e w1 ⟨rfl, b1⟩
  rw [H.out]
  have T1 := Lib.hid (T0.out.step b1)
  obtain ⟨⟨x0, x1, x2⟩, _, _, _, _, _⟩ := T1.out
  clear b1
  go_wp2_with fail
  refine (full_any A n c (f : Int) (n : Int) _).mono ?_
  rintro e w2 ⟨rfl, b2⟩
  have T2 := Lib.hid (T1.out.step b2)
  clear x0 x1 x2
  obtain ⟨⟨x0, x1, x2⟩, ⟨y0, y1, y2⟩, ⟨f0, f1, f2⟩, _, _, _⟩ := T2.out
  clear b2
  go_wp2_with fail
  refine bodyPost_ret (v := .tuple #[.agg #[.slice A n c, .int .i64 (f : Int), .int .i64 (n : Int)], .int .i64 3]) (by simp [results, Try.results17, go_sem, y0, y1, y2]) rfl ?_
  exact ⟨rfl, T2.out.out _ _ _⟩

/-- a ring with a message more, and OK -/
def PushOf (w : World) (b : List Int) (f m : Nat) (v : Int) (e : Ending) (w' : World) : Prop :=
  ∃ (A : Option Addr) (c : Nat), e = .returned (.tuple #[.agg #[.slice A b.length c, .int .i64 (f : Int), .int .i64 ((m : Int) + 1)], .int .i64 0]) ∧ Ow w' w.heap.size A c (b.set ((f + m) % b.length) v) ∧ Below w.heap.size w w'

set_option maxHeartbeats 800000 in
theorem push_some (A : Option Addr) (c : Nat) (b : List Int) (f m : Nat) (v : Int) (w : World) (hbig : b.length ≤ 100000) (hf : f < b.length) (hm : m < b.length) (hr : Rd w A c b) :
    Calls Try.prog 17 #[.agg #[.slice A b.length c, .int .i64 (f : Int), .int .i64 (m : Int)], .int .i64 v] w (PushOf w b f m v) := by
  have H := Lib.hid (rightB_of hf (Nat.le_of_lt hm))
  have T0 := Lib.hid (two_new w A b.length c (f : Int) (m : Int))
  have HR := Lib.hid hr
  have hne : ((m : Int) == (b.length : Int)) = false := beq_eq_false_iff_ne.2 (by omega)
  clear hr
  go_enter Try.func17, Try.ntmps17
  go_wp2_with fail
  generalize ((w.alloc (.cells #[.slice A b.length c, .int .i64 (f : Int), .int .i64 (m : Int)] 24)).alloc (.cells #[.slice none 0 0, .int .i64 0, .int .i64 0] 24)) = w0 at *
  refine (right_any A b.length c (f : Int) (m : Int) _).mono ?_
  rintro e w1 ⟨rfl, b1⟩
  rw [H.out]
  have T1 := Lib.hid (T0.out.step b1)
  obtain ⟨⟨x0, x1, x2⟩, _, _, _, _, _⟩ := T1.out
  clear b1
  go_wp2_with fail
  refine (full_any A b.length c (f : Int) (m : Int) _).mono ?_
  rintro e w2 ⟨rfl, b2⟩
  have T2 := Lib.hid (T1.out.step b2)
  clear x0 x1 x2
  obtain ⟨⟨x0, x1, x2⟩, _, _, _, HBw, HZ⟩ := T2.out
  have HR2 := Lib.hid (HR.out.below HBw)
  have HZ2 := Lib.hid HZ
  clear b2 HBw HZ
  rw [hne]
  go_wp2_with fail
  refine (more_any A c b f m v _ hbig hf hm HR2.out).mono ?_
  rintro e w3 ⟨A3, c3, rfl, o3, b3⟩
  have T3 := Lib.hid (T2.out.step b3)
  have O3 := Lib.hid o3
  clear x0 x1 x2 b3 o3
  obtain ⟨⟨x0, x1, x2⟩, ⟨y0, y1, y2⟩, ⟨f0, f1, f2⟩, _, HBw, HZ⟩ := T3.out
  clear HBw HZ
  go_wp2_with fail
  refine bodyPost_ret (v := .tuple #[.agg #[.slice A3 b.length c3, .int .i64 (f : Int), .int .i64 ((m : Int) + 1)], .int .i64 0]) (by simp [results, Try.results17, go_sem, y0, y1, y2]) rfl ?_
  exact ⟨A3, c3, rfl, (O3.out.out (by have := HZ2.out; omega) _ _ _).rebase (by have := HZ2.out; omega), T3.out.out _ _ _⟩

theorem put_no (A : Option Addr) (n c : Nat) (f m v : Int) (w : World) (h : rightB n f m = false) :
    Calls Try.prog 21 #[.agg #[.slice A n c, .int .i64 f, .int .i64 m], .int .i64 v] w fun e w' => e = .returned (.agg #[.slice A n c, .int .i64 f, .int .i64 m]) ∧ Below w.heap.size w w' := by
  have H := Lib.hid h
  clear h
  have T0 := Lib.hid (two_new w A n c f m)
  go_enter Try.func21, Try.ntmps21
  go_wp2_with fail
  generalize ((w.alloc (.cells #[.slice A n c, .int .i64 f, .int .i64 m] 24)).alloc (.cells #[.slice none 0 0, .int .i64 0, .int .i64 0] 24)) = w0 at *
  refine (right_any A n c f m _).mono ?_
  rintro e w1 ⟨rfl, b1⟩
  rw [H.out]
  have T1 := Lib.hid (T0.out.step b1)
  obtain ⟨⟨x0, x1, x2⟩, ⟨y0, y1, y2⟩, ⟨f0, f1, f2⟩, _, _, _⟩ := T1.out
  clear b1
  go_wp2_with fail
  refine bodyPost_ret (v := .agg #[.slice A n c, .int .i64 f, .int .i64 m]) (by simp [results, Try.results21, go_sem, y0, y1, y2]) rfl ?_
  exact ⟨rfl, T1.out.out _ _ _⟩

set_option maxHeartbeats 800000 in
theorem put_some (A : Option Addr) (c : Nat) (b : List Int) (f m : Nat) (v : Int) (w : World) (hbig : b.length ≤ 100000) (hf : f < b.length) (hm : m < b.length) (hr : Rd w A c b) :
    Calls Try.prog 21 #[.agg #[.slice A b.length c, .int .i64 (f : Int), .int .i64 (m : Int)], .int .i64 v] w (MoreOf w b f m v) := by
  have H := Lib.hid (rightB_of hf (Nat.le_of_lt hm))
  have T0 := Lib.hid (two_new w A b.length c (f : Int) (m : Int))
  have HR := Lib.hid hr
  have hne : ((m : Int) == (b.length : Int)) = false := beq_eq_false_iff_ne.2 (by omega)
  clear hr
  go_enter Try.func21, Try.ntmps21
  go_wp2_with fail
  generalize ((w.alloc (.cells #[.slice A b.length c, .int .i64 (f : Int), .int .i64 (m : Int)] 24)).alloc (.cells #[.slice none 0 0, .int .i64 0, .int .i64 0] 24)) = w0 at *
  refine (right_any A b.length c (f : Int) (m : Int) _).mono ?_
  rintro e w1 ⟨rfl, b1⟩
  rw [H.out]
  have T1 := Lib.hid (T0.out.step b1)
  obtain ⟨⟨x0, x1, x2⟩, _, _, _, _, _⟩ := T1.out
  clear b1
  go_wp2_with fail
  refine (full_any A b.length c (f : Int) (m : Int) _).mono ?_
  rintro e w2 ⟨rfl, b2⟩
  have T2 := Lib.hid (T1.out.step b2)
  clear x0 x1 x2
  obtain ⟨⟨x0, x1, x2⟩, _, _, _, HBw, HZ⟩ := T2.out
  have HR2 := Lib.hid (HR.out.below HBw)
  have HZ2 := Lib.hid HZ
  clear b2 HBw HZ
  rw [hne]
  go_wp2_with fail
  refine (more_any A c b f m v _ hbig hf hm HR2.out).mono ?_
  rintro e w3 ⟨A3, c3, rfl, o3, b3⟩
  have T3 := Lib.hid (T2.out.step b3)
  have O3 := Lib.hid o3
  clear x0 x1 x2 b3 o3
  obtain ⟨⟨x0, x1, x2⟩, ⟨y0, y1, y2⟩, ⟨f0, f1, f2⟩, _, HBw, HZ⟩ := T3.out
  clear HBw HZ
  go_wp2_with fail
  refine bodyPost_ret (v := .agg #[.slice A3 b.length c3, .int .i64 (f : Int), .int .i64 ((m : Int) + 1)]) (by simp [results, Try.results21, go_sem, y0, y1, y2]) rfl ?_
  exact ⟨A3, c3, rfl, (O3.out.out (by have := HZ2.out; omega) _ _ _).rebase (by have := HZ2.out; omega), T3.out.out _ _ _⟩

end Rn
end Go.Proofs.Ytilabonjjiiabaa
