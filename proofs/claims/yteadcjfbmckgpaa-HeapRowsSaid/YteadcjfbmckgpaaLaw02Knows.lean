/-
  Layer 2, the helpers of the statements: alike, knows.
-/
import Derived.Test.YteadcjfbmckgpaaLaw02Sort
import Derived.Test.YteadcjfbmckgpaaLaw02Right
namespace Go.Proofs.Yteadcjfbmckgpaa
open Go.RowKit
namespace Hp

theorem cell_new {w : World} {p : Addr} {v : Value} (h : w.cell? p = some v) (o : Obj) : (w.alloc o).cell? p = some v :=
  (((Below.refl w.heap.size w).alloc (Nat.le_refl _) o).cell (lt_of_cell h)).trans h

theorem cell_below {W w1 : World} {p : Addr} {v : Value} (b : Below W.heap.size W w1) (h : W.cell? p = some v) : w1.cell? p = some v := (b.cell (lt_of_cell h)).trans h
theorem below_step {a W w1 : World} (h : Below a.heap.size a W) (b : Below W.heap.size W w1) : Below a.heap.size a w1 := h.trans (b.mono h.size)

/-- an empty slice that was just made; with a block made behind it; with a block made ahead of it -/
theorem own_lit (w : World) (base : Nat) (e : TypeId) (hb : base ≤ w.heap.size) : Ow (w.alloc (.cells #[] e)) base e (some ⟨w.heap.size, 0, none⟩) 0 [] :=
  World.ownsRow_lit w #[] 0 hb (by unfold maxLen; omega) rfl
theorem own_lit2 (w : World) (o : Obj) (base : Nat) (e : TypeId) (hb : base ≤ w.heap.size) : Ow ((w.alloc o).alloc (.cells #[] e)) base e (some ⟨w.heap.size + 1, 0, none⟩) 0 [] := by
  have h : (w.alloc o).heap.size = w.heap.size + 1 := by simp
  rw [← h]
  exact own_lit (w.alloc o) base e (by omega)
theorem below_one (w : World) (o : Obj) : Below w.heap.size w (w.alloc o) := (Below.refl _ _).alloc (Nat.le_refl _) _
theorem below_two (w : World) (o o' : Obj) : Below w.heap.size w ((w.alloc o).alloc o') := (below_one w o).alloc (by simp) _

theorem same_n (n m : Nat) (A B : Option Addr) (c d : Nat) (a b : List It) (w : World) (hn : a.length = n) (hm : b.length = m) (h1 : a.length ≤ 1000000) (ha : Rd w A c a) (hb : Rd w B d b) :
    Calls Try.prog 18 #[.slice A n c, .slice B m d] w fun e w' => e = .returned (.bool (decide (a = b))) ∧ Below w.heap.size w w' := by
  subst hn
  subst hm
  exact same_any A B c d a b w h1 ha hb

set_option maxHeartbeats 800000 in
theorem alike_any (A B : Option Addr) (c d : Nat) (a b : List It) (w : World) (ha : a.length ≤ 900000) (hb : b.length ≤ 900000) (hra : Rd w A c a) (hrb : Rd w B d b) :
    Calls Try.prog 14 #[.slice A a.length c, .slice B b.length d] w fun e w' => e = .returned (.bool (decide (srt a = srt b))) ∧ Below w.heap.size w w' := by
  have HA := Lib.hid hra
  have HB := Lib.hid hrb
  clear hra hrb
  go_enter Try.func14, Try.ntmps14
  go_wp2_with fail
  refine (as_any A c a _ ha HA.out).mono ?_
  rintro e w1 ⟨A1, c1, rfl, o1, b1⟩
  have O1 := Lib.hid o1
  have B1 := Lib.hid b1
  clear o1 b1
  go_wp2_with fail
  refine (refSort_any A1 c1 a _ ha O1.out.rd).mono ?_
  rintro e w2 ⟨A2, c2, rfl, o2, b2⟩
  have O2 := Lib.hid o2
  have B2 := Lib.hid (B1.out.trans (b2.mono B1.out.size))
  clear o2 b2 O1
  go_wp2_with fail
  refine (as_any B d b _ hb (HB.out.below B2.out)).mono ?_
  rintro e w3 ⟨A3, c3, rfl, o3, b3⟩
  have O2' := Lib.hid (O2.out.rd.below b3)
  have O3 := Lib.hid o3
  have B3 := Lib.hid (B2.out.trans (b3.mono B2.out.size))
  clear o3 b3 O2
  go_wp2_with fail
  refine (refSort_any A3 c3 b _ hb O3.out.rd).mono ?_
  rintro e w4 ⟨A4, c4, rfl, o4, b4⟩
  have O4 := Lib.hid o4
  have O2'' := Lib.hid (O2'.out.below b4)
  have B4 := Lib.hid (B3.out.trans (b4.mono B3.out.size))
  clear o4 b4 O2' O3
  go_wp2_with fail
  refine (same_n a.length b.length A2 A4 c2 c4 (srt a) (srt b) _ (srt_length _) (srt_length _) (by rw [srt_length]; omega) O2''.out O4.out.rd).mono ?_
  rintro e w5 ⟨rfl, b5⟩
  have B5 := Lib.hid (B4.out.trans (b5.mono B4.out.size))
  clear b5
  go_wp2_with fail
  go_ret
  exact ⟨rfl, B5.out⟩

set_option maxHeartbeats 1600000 in
theorem knows_any (w : World) :
    Calls Try.prog 8 #[] w fun e w' => e = .returned (.bool true) ∧ Below w.heap.size w w' := by
  go_enter Try.func8, Try.ntmps8
  go_wp2_with fail
  refine (push_any none 0 [] (5, 0) _ (by simp) (Rd.nil _)).mono ?_
  rintro e w1 ⟨A1, c1, l1, rfl, p1, i1, o1, b1⟩
  have O1 := Lib.hid o1
  have B1 := Lib.hid b1
  have P1 := Lib.hid p1
  have n1 : l1.length ≤ 1 := by have := p1.length_eq; simp at this; omega
  clear o1 b1 p1 i1
  go_wp2_with fail
  refine (push_any A1 c1 l1 (3, 0) _ (by omega) O1.out.rd).mono ?_
  rintro e w2 ⟨A2, c2, l2, rfl, p2, i2, o2, b2⟩
  have O2 := Lib.hid o2
  have B2 := Lib.hid (B1.out.trans (b2.mono B1.out.size))
  have P2 := Lib.hid (p2.trans (P1.out.append_right [(3, 0)]))
  have n2 : l2.length ≤ 2 := by have := p2.length_eq; simp at this; omega
  clear o2 b2 p2 i2
  go_wp2_with fail
  refine (push_any A2 c2 l2 (4, 0) _ (by omega) O2.out.rd).mono ?_
  rintro e w3 ⟨A3, c3, l3, rfl, p3, i3, o3, b3⟩
  have O3 := Lib.hid o3
  have B3 := Lib.hid (B2.out.trans (b3.mono B2.out.size))
  have P3 : Hid (srt l3 = [(3, 0), (4, 0), (5, 0)]) := (srt_of_perm (p3.trans (P2.out.append_right [(4, 0)]))).trans (by decide)
  have I3 := Lib.hid i3
  have n3 : Hid (l3.length = 3) := by show l3.length = 3; have := srt_length l3; rw [P3.out] at this; exact this.symm
  clear o3 b3 p3 i3 P1 P2 O1 O2
  go_wp2_with fail
  refine (pop_some A3 c3 l3 _ (by have := n3.out; omega) (by have := n3.out; omega) O3.out.rd).mono ?_
  rintro e w4 ⟨x, A4, c4, m, rfl, q1, q2, q3, o4, b4⟩
  have hx : x = (3, 0) := by have := P3.out; rw [q1] at this; injection this
  subst hx
  have B4 := Lib.hid (B3.out.trans (b4.mono B3.out.size))
  have O34 := Lib.hid (O3.out.rd.below b4)
  have hm : m.length = 2 := by have := n3.out; omega
  clear o4 b4 q1 q2 q3 O3
  rw [hm]
  clear hm
  go_wp2_with fail
  refine (min_none none 0 _).mono ?_
  rintro e w5 ⟨rfl, b5⟩
  have k1 : w5.cell? ⟨w4.heap.size, 0, none⟩ = some (.int .i64 3) := (b5.cell (p := ⟨w4.heap.size, 0, none⟩) (by simp)).trans (by go_simp)
  have k2 : w5.cell? ⟨w4.heap.size, 1, none⟩ = some (.int .i64 0) := (b5.cell (p := ⟨w4.heap.size, 1, none⟩) (by simp)).trans (by go_simp)
  have c1' := cell_new k1 (.cells #[.int .i64 0, .int .i64 0] 24)
  have c2' := cell_new k2 (.cells #[.int .i64 0, .int .i64 0] 24)
  have B5 := Lib.hid ((B4.out.alloc B4.out.size (.cells #[.int .i64 3, .int .i64 0] 24)).trans (b5.mono (by have := B4.out.size; simp; omega)))
  have O35 := Lib.hid ((O34.out.alloc _).below b5)
  have HT : Hid (rightB l3 = true) := rightB_iff.2 I3.out
  clear b5 O34 B4 B3 B2 B1
  go_wp2_with fail
  refine (right_any A3 c3 l3 _ (by have := n3.out; omega) (O35.out.alloc _)).mono ?_
  rintro e w6 ⟨rfl, b6⟩
  have B6 := Lib.hid ((B5.out.alloc B5.out.size _).trans (b6.mono (by have := B5.out.size; simp; omega)))
  clear b6 k1 k2 c1' c2'
  rw [HT.out]
  go_wp2_with fail
  refine (right_any (some ⟨w6.heap.size, 0, none⟩) 2 [(2, 0), (1, 0)] _ (by simp) ⟨fun h => (by cases h), fun _ => ⟨w6.heap.size, 0, rfl, fun j hj => ?_⟩⟩).mono ?_
  · have : j = 0 ∨ j = 1 := by have : j < 2 := by simpa using hj
                               omega
    rcases this with rfl | rfl <;> (refine ⟨?_, ?_⟩ <;> go_simp <;> rfl)
  rintro e w7 ⟨rfl, b7⟩
  have B7 := Lib.hid ((B6.out.alloc B6.out.size _).trans (b7.mono (by have := B6.out.size; simp; omega)))
  clear b7
  rw [show rightB [((2 : Int), (0 : Int)), (1, 0)] = false from by decide]
  go_wp2_with fail
  go_ret
  exact ⟨rfl, B7.out⟩

end Hp
end Go.Proofs.Yteadcjfbmckgpaa
