/-
  Layer 4, the helpers of the statements: great, knows.
-/
import Derived.Test.YtdgemmhaddnbdaaSpanIn
import Derived.Test.YtdgemmhaddnbdaaLaw04Refs2
namespace Go.Proofs.Ytdgemmhaddnbdaa
open Go.RowKit
namespace Hp
attribute [local go_sem ↓] buildS

theorem great_no (A : Option Addr) (n c : Nat) (w : World) (h : n ≤ 40) :
    Calls Try.prog 8 #[.slice A n c] w fun e w' => e = .returned (.bool false) ∧ w = w' := by
  have h1 : (n : Int) ≤ 40 := by omega
  go_enter Try.func8, Try.ntmps8
  go_wp2
  go_ret
  exact ⟨ret_bool (by simp <;> omega), rfl⟩
theorem great_yes (A : Option Addr) (n c : Nat) (w : World) (h : 40 < n) :
    Calls Try.prog 8 #[.slice A n c] w fun e w' => e = .returned (.bool true) ∧ w = w' := by
  have h1 : (40 : Int) < (n : Int) := by omega
  go_enter Try.func8, Try.ntmps8
  go_wp2
  go_ret
  exact ⟨ret_bool (by simp <;> omega), rfl⟩

theorem total_n (n : Nat) (A : Option Addr) (c : Nat) (l : List It) (w : World) (hn : l.length = n) (hbig : l.length ≤ 100000) (hr : Rd w A c l) :
    Calls Try.prog 19 #[.slice A n c] w (TotalOf w l) := by
  subst hn
  exact total_any A c l w hbig hr
theorem right_n (n : Nat) (A : Option Addr) (c : Nat) (l : List It) (w : World) (hn : l.length = n) (hbig : l.length ≤ 1000000) (hr : Rd w A c l) :
    Calls Try.prog 10 #[.slice A n c] w fun e w' => e = .returned (.bool (rightB l)) ∧ Below w.heap.size w w' := by
  subst hn
  exact right_any A c l w hbig hr
theorem in_n (n : Nat) (A : Option Addr) (c : Nat) (l : List It) (t : Int) (w : World) (hn : l.length = n) (hbig : l.length ≤ 100000) (hr : Rd w A c l) :
    Calls Try.prog 15 #[.slice A n c, .int .i64 t] w fun e w' => e = .returned (.bool (inn l t)) ∧ Below w.heap.size w w' := by
  subst hn
  exact in_any A c l t w hbig hr

/-- the document's example -/
def exL : List It := [(5, 9), (1, 3), (3, 4), (8, 12)]
def exN : List It := [(1, 4), (5, 12)]
theorem exN_nm : Nm exN := by
  simp [exN, Nm.cons_iff, ok, Nm.nil]
theorem ex_eqv : Eqv exN exL := fun t => by
  rw [Bool.eq_iff_iff]
  simp [exN, exL, inn, hasT, ok]
  omega
theorem exL_not : rightB exL = false := rightB_not (k := 1) (by simp [exL]) (.inr ⟨by omega, by simp [exL, at_]⟩)
theorem ex_of {n : List It} (h : Nm n) (he : Eqv n exL) : n = exN := h.unique exN_nm (he.trans ex_eqv.symm)

set_option maxHeartbeats 1600000 in
theorem knows_any (w : World) :
    Calls Try.prog 9 #[] w fun e w' => e = .returned (.bool true) ∧ Below w.heap.size w w' := by
  go_enter Try.func9, Try.ntmps9
  go_wp2_with fail
  have r0 : Rd (w.alloc (.cells #[.int .i64 5, .int .i64 9, .int .i64 1, .int .i64 3, .int .i64 3, .int .i64 4, .int .i64 8, .int .i64 12] 29)) (some ⟨w.heap.size, 0, none⟩) 4 exL :=
    Ow.rd (base := w.heap.size) (e := 29) (World.ownsRow_lit w #[.int .i64 5, .int .i64 9, .int .i64 1, .int .i64 3, .int .i64 3, .int .i64 4, .int .i64 8, .int .i64 12] 4 (Nat.le_refl _) (by unfold maxLen; omega) rfl)
  have R0 := Lib.hid r0
  have B0 := Lib.hid (below_one w (.cells #[.int .i64 5, .int .i64 9, .int .i64 1, .int .i64 3, .int .i64 3, .int .i64 4, .int .i64 8, .int .i64 12] 29))
  clear r0
  generalize w.alloc (.cells #[.int .i64 5, .int .i64 9, .int .i64 1, .int .i64 3, .int .i64 3, .int .i64 4, .int .i64 8, .int .i64 12] 29) = w0 at *
  generalize w.heap.size = S at R0 ⊢
  refine (norm_n 4 (some ⟨S, 0, none⟩) 4 exL w0 rfl (by simp [exL]) R0.out).mono ?_
  rintro e w1 ⟨A1, c1, n, rfl, n1, n2, n3, o1, b1⟩
  have hn := ex_of n1 n2
  subst hn
  obtain ⟨g, rfl, _, _, _⟩ := o1.form (by simp [exN])
  have k1 : w1.cell? ⟨g, 0, none⟩ = some (.int .i64 1) := (o1.cell 0 (by simp [exN])).1
  have k2 : w1.cell? ⟨g, 1, none⟩ = some (.int .i64 4) := (o1.cell 0 (by simp [exN])).2
  have k3 : w1.cell? ⟨g, 2, none⟩ = some (.int .i64 5) := (o1.cell 1 (by simp [exN])).1
  have k4 : w1.cell? ⟨g, 3, none⟩ = some (.int .i64 12) := (o1.cell 1 (by simp [exN])).2
  have O1 := Lib.hid o1.rd
  have R1 := Lib.hid (R0.out.below b1)
  have B1 := Lib.hid (B0.out.trans (b1.mono B0.out.size))
  clear n1 n2 n3 o1 b1 R0 B0
  rw [show exN.length = 2 from rfl]
  go_wp2_with fail
  refine (total_n 4 (some ⟨S, 0, none⟩) 4 exL _ rfl (by simp [exL]) R1.out).mono ?_
  rintro e w2 ⟨n', rfl, n1, n2, b2⟩
  have hn' := ex_of n1 n2
  subst hn'
  have R2 := Lib.hid (R1.out.below b2)
  have O2 := Lib.hid (O1.out.below b2)
  have B2 := Lib.hid (B1.out.trans (b2.mono B1.out.size))
  clear n1 n2 b2 R1 B1 O1 k1 k2 k3 k4
  rw [show tot exN = 10 from by decide]
  go_wp2_with fail
  refine (right_n 2 (some ⟨g, 0, none⟩) c1 exN _ rfl (by simp [exN]) O2.out).mono ?_
  rintro e w3 ⟨rfl, b3⟩
  have R3 := Lib.hid (R2.out.below b3)
  have B3 := Lib.hid (B2.out.trans (b3.mono B2.out.size))
  clear b3 R2 B2 O2
  rw [rightB_true.2 exN_nm]
  go_wp2_with fail
  refine (right_n 4 (some ⟨S, 0, none⟩) 4 exL _ rfl (by simp [exL]) R3.out).mono ?_
  rintro e w4 ⟨rfl, b4⟩
  have R4 := Lib.hid (R3.out.below b4)
  have B4 := Lib.hid (B3.out.trans (b4.mono B3.out.size))
  clear b4 R3 B3
  rw [exL_not]
  go_wp2_with fail
  refine (in_n 4 (some ⟨S, 0, none⟩) 4 exL 3 _ rfl (by simp [exL]) R4.out).mono ?_
  rintro e w5 ⟨rfl, b5⟩
  have R5 := Lib.hid (R4.out.below b5)
  have B5 := Lib.hid (B4.out.trans (b5.mono B4.out.size))
  clear b5 R4 B4
  rw [show inn exL 3 = true from by decide]
  go_wp2_with fail
  refine (in_n 4 (some ⟨S, 0, none⟩) 4 exL 4 _ rfl (by simp [exL]) R5.out).mono ?_
  rintro e w6 ⟨rfl, b6⟩
  have B6 := Lib.hid (B5.out.trans (b6.mono B5.out.size))
  clear b6 R5 B5
  rw [show inn exL 4 = false from by decide]
  go_wp2_with fail
  go_ret
  exact ⟨rfl, B6.out⟩

end Hp
end Go.Proofs.Ytdgemmhaddnbdaa
