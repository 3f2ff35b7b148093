/-
  Layer 4 (span): In.
-/
import Derived.Test.YtdgemmhaddnbdaaSpanCalls
namespace Go.Proofs.Ytdgemmhaddnbdaa
open Go.Shelf Go.RowKit Go.Lib Go.Sort
namespace Hp

def hasB (t : Int) (x : It) : Bool := decide (x.1 ≤ t) && decide (t < x.2)
theorem any_inn {n : List It} (h : Nm n) (t : Int) : n.any (hasB t) = inn n t := by
  rw [Bool.eq_iff_iff, inn_iff, List.any_eq_true]
  constructor
  · rintro ⟨x, hx, hb⟩
    refine ⟨x, hx, h.1 x hx, ?_⟩
    simpa [hasB] using hb
  · rintro ⟨x, hx, _, h1, h2⟩
    exact ⟨x, hx, by simp [hasB, h1, h2]⟩

/-- the closure of In -/
theorem in_closure (t : Int) (T : Nat) (w : World) (hT : w.cell? ⟨T, 0, none⟩ = some (.int .i64 t)) :
    PredBelow Try.prog 27 #[.pointer (some ⟨T, 0, none⟩)] (fun x => .agg (encS x).toArray) (hasB t) w := fun W x hb => by
  have hc := cell_below hb hT
  have hc' := cell_new hc (.cells #[.int .i64 x.1, .int .i64 x.2] 29)
  show Calls Try.prog 27 #[.agg #[.int .i64 x.1, .int .i64 x.2], .pointer (some ⟨T, 0, none⟩)] W _
  have HB := Lib.hid (hb.alloc hb.size (.cells #[.int .i64 x.1, .int .i64 x.2] 29))
  clear hc hT hb
  go_enter Try.func27, Try.ntmps27
  go_wp2
  all_goals (go_ret; exact ⟨ret_bool (by simp [hasB]; omega), HB.out⟩)

theorem index_none (p : Option Addr) (c : Nat) (fv : Value) (w : World) :
    Calls Try.prog 34 #[.slice p 0 c, fv] w fun e w' => e = .returned (.int .i64 (-1)) ∧ w = w' := by
  go_enter Try.func34, Try.ntmps34
  go_wp2
  refine wp_loop_rounds 1 ?_
  rw [rounds_succ]
  go_wp2
  go_ret
  exact ⟨rfl, rfl⟩
theorem has_none (p : Option Addr) (c : Nat) (fv : Value) (w : World) :
    Calls Try.prog 26 #[.slice p 0 c, fv] w fun e w' => e = .returned (.bool false) ∧ w = w' := by
  go_enter Try.func26, Try.ntmps26
  go_wp2_with fail
  refine (index_none p c fv _).mono ?_
  rintro e w1 ⟨rfl, rfl⟩
  go_wp2_with fail
  go_ret
  exact ⟨rfl, rfl⟩

theorem has_some (t : Int) (T g off c : Nat) (n : List It) (w : World) (hbig : n.length ≤ 1000000) (hT : w.cell? ⟨T, 0, none⟩ = some (.int .i64 t)) (h0 : 0 < n.length)
    (hc : ∀ j, j < n.length → w.cell? ⟨g, off + j * 2, none⟩ = some (.int .i64 (at_ n j).1) ∧ w.cell? ⟨g, off + j * 2 + 1, none⟩ = some (.int .i64 (at_ n j).2)) :
    Calls Try.prog 26 #[.slice (some ⟨g, off, none⟩) n.length c, .func (.func 27) #[] #[.pointer (some ⟨T, 0, none⟩)]] w fun e w' => e = .returned (.bool (n.any (hasB t))) ∧ Below w.heap.size w w' := by
  have eg : ∀ args w, (callFunc 27 args).run Try.prog w = .ok (.enter 27 args) w := enters_of Try.func27 (by kernel_rfl) rfl
  have hcon := AnyQ.slices_ContainsFunc hasLaid 2 Try.isAgg29 Try.sizeOf29 encS (fun _ => rfl) (hasB t) 27 #[.pointer (some ⟨T, 0, none⟩)] eg g off n.length c n w
    (in_closure t T w hT) (Nat.le_refl _) (by omega) (lt_of_cell (hc 0 h0).1) (fun j hj i v hi => by
      obtain ⟨c1, c2⟩ := hc j hj
      have e1 : n[j]! = at_ n j := by simp [at_, List.getD_eq_getElem?_getD, getElem!_pos, hj]
      rw [e1] at hi
      match i, hi with
      | 0, hi => simp [encS] at hi; rw [← hi]; exact c1
      | 1, hi => simp [encS] at hi; rw [← hi]; exact c2
      | i + 2, hi => simp [encS] at hi)
  rw [List.take_length] at hcon
  exact hcon

set_option maxHeartbeats 800000 in
theorem in_any (A : Option Addr) (c : Nat) (l : List It) (t : Int) (w : World) (hbig : l.length ≤ 100000) (hr : Rd w A c l) :
    Calls Try.prog 15 #[.slice A l.length c, .int .i64 t] w fun e w' => e = .returned (.bool (inn l t)) ∧ Below w.heap.size w w' := by
  have HR := Lib.hid hr
  clear hr
  go_enter Try.func15, Try.ntmps15
  go_wp2_with fail
  have y1 : (w.alloc (.cells #[.int .i64 t] 3)).cell? ⟨w.heap.size, 0, none⟩ = some (.int .i64 t) := by simp
  have B0 := Lib.hid (below_one w (.cells #[.int .i64 t] 3))
  generalize w.alloc (.cells #[.int .i64 t] 3) = w0 at *
  refine (norm_any A c l _ hbig (HR.out.below B0.out)).mono ?_
  rintro e w1 ⟨A1, c1, n, rfl, n1, n2, n3, o1, b1⟩
  have z1 := cell_below b1 y1
  have HE : Hid (n.any (hasB t) = inn l t) := (any_inn n1 t).trans (n2 t)
  have O1 := Lib.hid o1
  have B1 := Lib.hid (below_step B0.out b1)
  clear n1 n2 o1 b1 y1
  rcases Nat.eq_zero_or_pos n.length with h0 | h0
  · have hn := List.eq_nil_of_length_eq_zero h0
    subst hn
    go_wp2_with fail
    refine (has_none A1 c1 _ _).mono ?_
    rintro e w2 ⟨rfl, rfl⟩
    go_wp2_with fail
    go_ret
    exact ⟨ret_bool HE.out, B1.out⟩
  · obtain ⟨g, off, rfl, hc⟩ := O1.out.rd.2 h0
    have HC := Lib.hid hc
    clear hc
    go_wp2_with fail
    refine (has_some t _ g off c1 n _ (by omega) z1 h0 HC.out).mono ?_
    rintro e w2 ⟨rfl, b2⟩
    have B2 := Lib.hid (below_step B1.out b2)
    clear b2
    rw [HE.out]
    generalize hq : inn l t = q
    have HQ := Lib.hid hq
    clear hq
    go_wp2_with fail
    go_ret
    exact ⟨ret_bool HQ.out.symm, B2.out⟩

end Hp
end Go.Proofs.Ytdgemmhaddnbdaa
