/-
  Layer 4 (span): Norm, Cut, Without, Total, In.
-/
import Derived.Test.YtdgemmhaddnbdaaSpanPieces
namespace Go.Proofs.Ytdgemmhaddnbdaa
open Go.Shelf Go.RowKit Go.Lib Go.Sort
namespace Hp

/-- normal spans with the ticks that p tells, in new memory -/
def NormOf (w : World) (l : List It) (e : Ending) (w' : World) : Prop :=
  ∃ (A : Option Addr) (c : Nat) (n : List It), e = .returned (.slice A n.length c) ∧ Nm n ∧ Eqv n l ∧ n.length ≤ l.length ∧ Ow w' w.heap.size 29 A c n ∧ Below w.heap.size w w'
def CutOf (w : World) (l : List It) (f t : Int) (e : Ending) (w' : World) : Prop :=
  ∃ (A : Option Addr) (c : Nat) (n : List It), e = .returned (.slice A n.length c) ∧ Nm n ∧ (∀ u, inn n u = (inn l u && decide (f ≤ u) && decide (u < t))) ∧ n.length ≤ l.length ∧ Ow w' w.heap.size 29 A c n ∧ Below w.heap.size w w'
def WithoutOf (w : World) (l : List It) (x : It) (e : Ending) (w' : World) : Prop :=
  ∃ (A : Option Addr) (c : Nat) (n : List It), e = .returned (.slice A n.length c) ∧ Nm n ∧ (∀ u, inn n u = (inn l u && !hasT x u)) ∧ n.length ≤ 2 * l.length ∧ Ow w' w.heap.size 29 A c n ∧ Below w.heap.size w w'

theorem nEnters : ∀ args w, (callFunc 24 args).run Try.prog w = .ok (.enter 24 args) w := enters_of Try.func24 (by kernel_rfl) rfl
theorem cEnters : ∀ args w, (callFunc 28 args).run Try.prog w = .ok (.enter 28 args) w := enters_of Try.func28 (by kernel_rfl) rfl
theorem wEnters : ∀ args w, (callFunc 29 args).run Try.prog w = .ok (.enter 29 args) w := enters_of Try.func29 (by kernel_rfl) rfl

theorem norm_math {l m : List It} (h : m.Perm (l.filter ok)) (hp : m.Pairwise fun a b => a.1 ≤ b.1) : Nm (m.foldl pcN []) ∧ Eqv (m.foldl pcN []) l ∧ (m.foldl pcN []).length ≤ l.length := by
  have hk : ∀ y ∈ m, ok y = true := fun y hy => (List.mem_filter.1 (h.mem_iff.1 hy)).2
  obtain ⟨h1, h2⟩ := foldN m [] Nm.nil (fun x hx => by simp at hx) hk hp
  refine ⟨h1, fun u => ?_, ?_⟩
  · rw [h2 u, inn_nil, Bool.false_or, inn_perm h, inn_filter]
  · have := foldN_length m []
    have e := h.length_eq
    have f := List.length_filter_le ok l
    simp only [List.length_nil] at this
    omega
theorem lenN (d : List It) (hd : d.length ≤ 100000) (k : Nat) : ((d.take k).foldl pcN []).length ≤ 800000 := by
  have := foldN_length (d.take k) []
  have h2 : (d.take k).length ≤ d.length := by simp; omega
  simp only [List.length_nil] at this; omega
theorem lenC (f t : Int) (d : List It) (hd : d.length ≤ 100000) (k : Nat) : ((d.take k).foldl (pcC f t) []).length ≤ 800000 := by
  have := foldC_length f t (d.take k) []
  have h2 : (d.take k).length ≤ d.length := by simp; omega
  simp only [List.length_nil] at this; omega
theorem lenW (x : It) (d : List It) (hd : d.length ≤ 100000) (k : Nat) : ((d.take k).foldl (pcW x) []).length ≤ 800000 := by
  have := foldW_length x (d.take k) []
  have h2 : (d.take k).length ≤ d.length := by simp; omega
  simp only [List.length_nil] at this; omega

set_option maxHeartbeats 400000 in
theorem norm_any (A : Option Addr) (c : Nat) (l : List It) (w : World) (hbig : l.length ≤ 100000) (hr : Rd w A c l) :
    Calls Try.prog 13 #[.slice A l.length c] w (NormOf w l) := by
  have HR := Lib.hid hr
  clear hr
  go_enter Try.func13, Try.ntmps13
  go_wp2_with fail
  refine (sorted_any A c l _ (by omega) HR.out).mono ?_
  rintro e w1 ⟨A1, c1, m, rfl, p1, p2, o1, b1⟩
  have hm : m.length ≤ l.length := by rw [p1.length_eq]; exact List.length_filter_le _ _
  have HM := Lib.hid (norm_math p1 p2)
  have O1 := Lib.hid o1
  have B1 := Lib.hid b1
  clear p1 p2 o1 b1
  go_wp2_with fail
  refine (combine_any 24 #[] pcN nEnters A1 c1 m w1 (by omega) (lenN m (by omega)) (pieceN w1) O1.out.rd).mono ?_
  rintro e w2 ⟨A2, c2, rfl, o2, b2⟩
  have O2 := Lib.hid (o2.rebase B1.out.size)
  have B2 := Lib.hid (below_step B1.out b2)
  clear o2 b2
  generalize m.foldl pcN [] = n at *
  go_wp2_with fail
  go_ret
  exact ⟨A2, c2, n, rfl, HM.out.1, HM.out.2.1, HM.out.2.2, O2.out, B2.out⟩

theorem norm_n (n : Nat) (A : Option Addr) (c : Nat) (l : List It) (w : World) (hn : l.length = n) (hbig : l.length ≤ 100000) (hr : Rd w A c l) :
    Calls Try.prog 13 #[.slice A n c] w (NormOf w l) := by
  subst hn
  exact norm_any A c l w hbig hr

set_option maxHeartbeats 800000 in
theorem cut_any (A : Option Addr) (c : Nat) (l : List It) (f t : Int) (w : World) (hbig : l.length ≤ 100000) (hr : Rd w A c l) :
    Calls Try.prog 17 #[.slice A l.length c, .int .i64 f, .int .i64 t] w (CutOf w l f t) := by
  have HR := Lib.hid hr
  clear hr
  go_enter Try.func17, Try.ntmps17
  go_wp2_with fail
  have y1 : ((w.alloc (.cells #[.int .i64 f] 3)).alloc (.cells #[.int .i64 t] 3)).cell? ⟨w.heap.size, 0, none⟩ = some (.int .i64 f) := by go_simp
  have y2 : ((w.alloc (.cells #[.int .i64 f] 3)).alloc (.cells #[.int .i64 t] 3)).cell? ⟨w.heap.size + 1, 0, none⟩ = some (.int .i64 t) := by go_simp
  have B0 := Lib.hid (below_two w (.cells #[.int .i64 f] 3) (.cells #[.int .i64 t] 3))
  generalize (w.alloc (.cells #[.int .i64 f] 3)).alloc (.cells #[.int .i64 t] 3) = w0 at *
  refine (norm_any A c l _ hbig (HR.out.below B0.out)).mono ?_
  rintro e w1 ⟨A1, c1, n, rfl, n1, n2, n3, o1, b1⟩
  have z1 := cell_below b1 y1
  have z2 := cell_below b1 y2
  have HC := Lib.hid (foldC f t n [] Nm.nil (fun x hx => by simp at hx) n1)
  have HL := Lib.hid (foldC_length f t n [])
  have HN2 := Lib.hid n2
  have O1 := Lib.hid o1
  have B1 := Lib.hid (below_step B0.out b1)
  clear n1 n2 o1 b1 y1 y2
  go_wp2_with fail
  refine (combine_any 28 _ (pcC f t) cEnters A1 c1 n w1 (by omega) (lenC f t n (by omega)) (pieceC f t _ _ w1 z1 z2) O1.out.rd).mono ?_
  rintro e w2 ⟨A2, c2, rfl, o2, b2⟩
  have O2 := Lib.hid (o2.rebase B1.out.size)
  have B2 := Lib.hid (below_step B1.out b2)
  clear o2 b2
  generalize n.foldl (pcC f t) [] = r at *
  go_wp2_with fail
  go_ret
  exact ⟨A2, c2, r, rfl, HC.out.1, fun u => by rw [HC.out.2 u, inn_nil, Bool.false_or, HN2.out u], by have := HL.out; simp only [List.length_nil] at this; omega, O2.out, B2.out⟩

set_option maxHeartbeats 800000 in
theorem without_any (A : Option Addr) (c : Nat) (l : List It) (x : It) (w : World) (hbig : l.length ≤ 100000) (hr : Rd w A c l) :
    Calls Try.prog 18 #[.slice A l.length c, .agg #[.int .i64 x.1, .int .i64 x.2]] w (WithoutOf w l x) := by
  have HR := Lib.hid hr
  clear hr
  cases hv : ok x with
  | false =>
    have HV := Lib.hid hv
    clear hv
    go_enter Try.func18, Try.ntmps18
    go_wp2_with fail
    refine (valid_r x false HV.out _).mono ?_
    rintro e w1 ⟨rfl, b1⟩
    have B1 := Lib.hid (below_step (below_one w _) b1)
    clear b1
    go_wp2_with fail
    refine (norm_any A c l _ hbig (HR.out.below B1.out)).mono ?_
    rintro e w2 ⟨A1, c1, n, rfl, n1, n2, n3, o1, b1⟩
    have HN1 := Lib.hid n1
    have HN2 := Lib.hid n2
    have O1 := Lib.hid (o1.rebase B1.out.size)
    have B2 := Lib.hid (below_step B1.out b1)
    clear n1 n2 o1 b1
    go_wp2_with fail
    go_ret
    exact ⟨A1, c1, n, rfl, HN1.out, fun u => by rw [HN2.out u]; simp [hasT, HV.out], by omega, O1.out, B2.out⟩
  | true =>
    have HV := Lib.hid hv
    clear hv
    go_enter Try.func18, Try.ntmps18
    go_wp2_with fail
    have y1 : (w.alloc (.cells #[.int .i64 x.1, .int .i64 x.2] 29)).cell? ⟨w.heap.size, 0, none⟩ = some (.int .i64 x.1) := by simp
    have y2 : (w.alloc (.cells #[.int .i64 x.1, .int .i64 x.2] 29)).cell? ⟨w.heap.size, 1, none⟩ = some (.int .i64 x.2) := by simp
    refine (valid_r x true HV.out _).mono ?_
    rintro e w1 ⟨rfl, b1⟩
    have B1 := Lib.hid (below_step (below_one w _) b1)
    have z1 := cell_below b1 y1
    have z2 := cell_below b1 y2
    clear b1 y1 y2
    generalize w.heap.size = Z at z1 z2 ⊢
    go_wp2_with fail
    refine (norm_any A c l _ hbig (HR.out.below B1.out)).mono ?_
    rintro e w2 ⟨A1, c1, n, rfl, n1, n2, n3, o1, b1⟩
    have u1 := cell_below b1 z1
    have u2 := cell_below b1 z2
    have HC := Lib.hid (foldW x HV.out n [] Nm.nil (fun x hx => by simp at hx) n1)
    have HL := Lib.hid (foldW_length x n [])
    have HN2 := Lib.hid n2
    have O1 := Lib.hid o1
    have B2 := Lib.hid (below_step B1.out b1)
    clear n1 n2 o1 b1 z1 z2
    go_wp2_with fail
    refine (combine_any 29 _ (pcW x) wEnters A1 c1 n w2 (by omega) (lenW x n (by omega)) (pieceW x _ w2 u1 u2) O1.out.rd).mono ?_
    rintro e w3 ⟨A2, c2, rfl, o2, b2⟩
    have O2 := Lib.hid (o2.rebase B2.out.size)
    have B3 := Lib.hid (below_step B2.out b2)
    clear o2 b2
    generalize n.foldl (pcW x) [] = r at *
    go_wp2_with fail
    go_ret
    exact ⟨A2, c2, r, rfl, HC.out.1, fun u => by rw [HC.out.2 u, inn_nil, Bool.false_or, HN2.out u], by have := HL.out; simp only [List.length_nil] at this; omega, O2.out, B3.out⟩

/-- the number of ticks -/
def TotalOf (w : World) (l : List It) (e : Ending) (w' : World) : Prop :=
  ∃ n : List It, e = .returned (.int .i64 (tot n)) ∧ Nm n ∧ Eqv n l ∧ Below w.heap.size w w'
theorem tot_snoc (l : List It) (k : Nat) (h : k < l.length) : tot (l.take (k + 1)) = tot (l.take k) + ((at_ l k).2 - (at_ l k).1) := by
  rw [take_snoc l k h, tot_append]
  simp [tot]

set_option maxHeartbeats 800000 in
theorem total_any (A : Option Addr) (c : Nat) (l : List It) (w : World) (hbig : l.length ≤ 100000) (hr : Rd w A c l) :
    Calls Try.prog 19 #[.slice A l.length c] w (TotalOf w l) := by
  have HR := Lib.hid hr
  clear hr
  go_enter Try.func19, Try.ntmps19
  go_wp2_with fail
  refine (norm_any A c l _ hbig HR.out).mono ?_
  rintro e w1 ⟨A1, c1, n, rfl, n1, n2, n3, o1, b1⟩
  have HN1 := Lib.hid n1
  have HN2 := Lib.hid n2
  have O1 := Lib.hid o1.rd
  have B1 := Lib.hid b1
  clear n1 n2 o1 b1
  go_wp2_with fail
  go_loopw [3, 9] (fun s i wr => ∃ k : Nat, k ≤ n.length ∧ i = .int .i64 k ∧ s = .int .i64 (tot (n.take k)) ∧ Hid (Below w1.heap.size w1 wr)) (fun _ i _ => n.length - (intOf i).toNat)
  case atStart => exact ⟨0, Nat.zero_le _, rfl, rfl, Below.refl _ _⟩
  case round =>
    obtain ⟨k, hk, rfl, rfl, HB⟩ := hrel
    by_cases hlt : k < n.length
    · obtain ⟨b, off, rfl, hc⟩ := (O1.out.below HB.out).2 (by omega)
      obtain ⟨x1, x2⟩ := hc k hlt
      have HT := Lib.hid (tot_snoc n k hlt)
      have t1 := tot_take_bound HN1.out k
      have t2 := tot_take_bound HN1.out (k + 1)
      have t3 := ok_iff.1 (HN1.out.1 _ (at_mem hlt))
      rw [HT.out] at t2
      clear hc
      generalize at_ n k = x at x1 x2 HT t2 t3
      generalize tot (n.take k) = T at HT t1 t2 ⊢
      obtain ⟨t1a, t1b⟩ := t1
      obtain ⟨t2a, t2b⟩ := t2
      obtain ⟨t3a, t3b, t3c⟩ := t3
      go_wp2_with fail
      go_roundw
      case rel => exact ⟨k + 1, by omega, by go_num, by rw [HT.out], HB.out.trans ((below_one wr _).mono HB.out.size)⟩
      case measure => simp [intOf]; omega
    · have hkl : k = n.length := by omega
      subst hkl
      rw [List.take_length]
      go_wp2_with fail
      go_ret
      exact ⟨n, rfl, HN1.out, HN2.out, below_step B1.out HB.out⟩

end Hp
end Go.Proofs.Ytdgemmhaddnbdaa
