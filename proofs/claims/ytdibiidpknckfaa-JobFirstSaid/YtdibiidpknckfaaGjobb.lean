/-
  Merged texts: JobStable, JobSorted.
-/
import Derived.Test.YtdibiidpknckfaaOJobSym
import Derived.Test.YtdibiidpknckfaaGmem
/-
  Layer 14 (job): the library's stableCmpFunc and SortStableFunc at jobs; sorted; Sort.
-/
namespace Go.Proofs.Ytdibiidpknckfaa
open Go.RowKit Mm Tk
namespace Pm

theorem sym_i (base g c Y N a m b : Nat) (x : Int) (hx : x = (m : Int)) (l : List Jb) (w : World) (hbig : N ≤ 1000000) (hYg : Y ≠ g) (hN : l.length = N) (h1 : a < m) (h2 : m < b) (h3 : b ≤ N) (hA : Srt l a m) (hB : Srt l m b) (hy : At w Y) (H : Oj w base g c l) :
    Calls Try.prog 49 #[.slice (some ⟨g, 0, none⟩) N c, .int .i64 a, .int .i64 x, .int .i64 b, cmpV Y] w (LeftOf w base g c N (fun r => Stays a b l r ∧ Srt r a b)) := by
  subst hx
  exact sym_all base g c Y N hbig hYg (b - a) a m b l w (Nat.le_refl _) hN h1 h2 h3 hA hB hy H


set_option maxRecDepth 20000 in
set_option maxHeartbeats 6400000 in
theorem stable_any (base g c Y N : Nat) (l : List Jb) (w : World) (hN : l.length = N) (hbig : N ≤ 1000000) (hYg : Y ≠ g) (hy : At w Y) (H : Oj w base g c l) :
    Calls Try.prog 43 #[.slice (some ⟨g, 0, none⟩) N c, .int .i64 N, cmpV Y] w (LeftOf w base g c N (fun r => Stays 0 N l r ∧ Srt r 0 N)) := by
  have HO := Lib.hid H
  have HN := Lib.hid hN
  have HY := Lib.hid hy
  clear H hN hy
  go_enter Try.func43, Try.ntmps43
  go_wp2_with fail
  go_loopw [7, 8] (fun s7 s8 wr => ∃ (t a b : Nat) (r : List Jb), s7 = .int .i64 a ∧ s8 = .int .i64 b ∧ a ≤ N ∧ a ≤ b ∧ b ≤ N + 20 ∧ Hid (a = t * 20) ∧ Hid (b = a + 20) ∧ Hid (Oj wr base g c r) ∧ Hid (r.length = N) ∧ Hid (Ph1 r t) ∧ Hid (Stays 0 N l r) ∧ Hid (w.grownBy wr (some g))) (fun s7 _ _ => N - (intOf s7).toNat)
  case atStart => exact ⟨0, 0, 20, l, rfl, rfl, Nat.zero_le _, by omega, by omega, by show 0 = 0 * 20; rfl, rfl, HO.out, HN.out, ph1_start _, Stays.refl _ _ _, gb_refl _ _⟩
  case round =>
    obtain ⟨t, a, b, r, rfl, rfl, ha, hab, hb, HA, HB, HR, HL, HP, HS, HG⟩ := hrel
    have hat := HY.out.gb HG.out hYg
    by_cases hlt : b ≤ N
    · have i1 : (b : Int) ≤ (N : Int) := by omega
      have HI := Lib.hid (insertion_any base g c Y a b N r wr HL.out hbig hab hlt hYg hat HR.out)
      clear hat
      go_wp2_with fail
      refine HI.out.mono ?_
      rintro e w1 ⟨rfl, r1, q1, q2, ⟨q3, q4⟩, q5⟩
      have Q1 := Lib.hid q1
      have Q2 := Lib.hid q2
      have Q3 := Lib.hid q3
      have Q4 := Lib.hid q4
      have Q5 := Lib.hid (gb_trans HG.out q5)
      clear q1 q2 q3 q4 q5
      have HP2 : Hid (Ph1 r1 (t + 1)) := HP.out.step (by rw [← HA.out, ← HB.out]; exact Q3.out) (by rw [← HA.out, ← HB.out]; exact Q4.out)
      have HS2 := Lib.hid (HS.out.trans (Q3.out.wide (Nat.zero_le _) hlt))
      go_wp2_with fail
      go_roundw
      case rel => exact ⟨t + 1, b, b + 20, r1, rfl, by go_num, hlt, by omega, by omega, by have := HA.out; have := HB.out; show b = _; omega, rfl, Q1, Q2, HP2, HS2, Q5⟩
      case measure => have := HB.out; simp [intOf]; omega
    · have i1 : ¬ (b : Int) ≤ (N : Int) := by omega
      have HI := Lib.hid (insertion_any base g c Y a N N r wr HL.out hbig ha (Nat.le_refl _) hYg hat HR.out)
      clear hat
      go_wp2_with fail
      refine HI.out.mono ?_
      rintro e w1 ⟨rfl, r1, q1, q2, ⟨q3, q4⟩, q5⟩
      have Q1 := Lib.hid q1
      have Q2 := Lib.hid q2
      have Q3 := Lib.hid q3
      have Q4 := Lib.hid q4
      have Q5 := Lib.hid (gb_trans HG.out q5)
      clear q1 q2 q3 q4 q5
      have HP2 : Hid (Blk r1 20 N) := HP.out.done (by rw [← HA.out, ← HB.out]; omega) (by rw [← HA.out]; exact Q3.out) (by rw [← HA.out]; exact Q4.out) (by rw [← HA.out]; exact ha)
      have HS2 := Lib.hid (HS.out.trans (Q3.out.wide (Nat.zero_le _) (Nat.le_refl _)))
      clear Q3 Q4 HI HS HP HL HR HG HA HB ha hab hb hlt i1
      go_wp2_with fail
      go_loopw [6] (fun s6 wr => ∃ (s : Nat) (r : List Jb), s6 = .int .i64 s ∧ 0 < s ∧ s ≤ 2000000 ∧ Hid (Oj wr base g c r) ∧ Hid (r.length = N) ∧ Hid (Blk r s N) ∧ Hid (Stays 0 N l r) ∧ Hid (w.grownBy wr (some g))) (fun s6 _ => N - (intOf s6).toNat)
      case atStart => exact ⟨20, r1, rfl, by omega, by omega, Q1, Q2, HP2, HS2, Q5⟩
      case round =>
        obtain ⟨s, r, rfl, hs0, hs, HR, HL, HP, HS, HG⟩ := hrel
        clear Q1 Q2 HP2 HS2 Q5
        by_cases hlt : s < N
        · have i1 : (s : Int) < (N : Int) := by omega
          generalize wr = wi at *
          go_wp2_with fail
          go_loopw [7, 8] (fun s7 s8 wr => ∃ (t a b : Nat) (r : List Jb), s7 = .int .i64 a ∧ s8 = .int .i64 b ∧ a ≤ N ∧ b ≤ N + 2 * s ∧ Hid (a = t * (2 * s)) ∧ Hid (b = a + 2 * s) ∧ Hid (Oj wr base g c r) ∧ Hid (r.length = N) ∧ Hid (Ph2 r s t N) ∧ Hid (Stays 0 N l r) ∧ Hid (w.grownBy wr (some g))) (fun s7 _ _ => N - (intOf s7).toNat)
          case atStart => exact ⟨0, 0, 2 * s, r, rfl, by go_num, Nat.zero_le _, by omega, by show 0 = 0 * _; rw [Nat.zero_mul], by show _ = _; omega, HR, HL, HP.out.start, HS, HG⟩
          case round =>
            obtain ⟨t, a, b, r, rfl, rfl, ha, hb, HA, HB, HR, HL, HP, HS, HG⟩ := hrel
            have hat := HY.out.gb HG.out hYg
            have HAB : Hid (a + s < b ∧ b ≤ a + 2 * s) := by have := HB.out; show _ ∧ _; omega
            by_cases hbn : b ≤ N
            · have i2 : (b : Int) ≤ (N : Int) := by omega
              have HI := Lib.hid (sym_i base g c Y N a (a + s) b ((a : Int) + (s : Int)) (by omega) r wr hbig hYg HL.out (by omega) HAB.out.1 hbn (by have := HP.out.one (by rw [← HA.out]; have := HB.out; omega); rwa [← HA.out] at this) (by have := HP.out.two; rw [← HA.out, ← HB.out, Nat.min_eq_left hbn] at this; exact this) hat HR.out)
              clear hat
              go_wp2_with fail
              refine HI.out.mono ?_
              rintro e w1 ⟨rfl, r1, q1, q2, ⟨q3, q4⟩, q5⟩
              have Q1 := Lib.hid q1
              have Q2 := Lib.hid q2
              have Q3 := Lib.hid q3
              have Q4 := Lib.hid q4
              have Q5 := Lib.hid (gb_trans HG.out q5)
              clear q1 q2 q3 q4 q5
              have HP2 : Hid (Ph2 r1 s (t + 1) N) := HP.out.step (by rw [← HA.out, ← HB.out]; exact Q3.out) (by rw [← HA.out, ← HB.out]; exact Q4.out)
              have HS2 := Lib.hid (HS.out.trans (Q3.out.wide (Nat.zero_le _) hbn))
              have HA2 : Hid (b = (t + 1) * (2 * s)) := by show _ = _; rw [Nat.add_mul, Nat.one_mul, ← HA.out]; exact HB.out
              go_wp2_with fail
              go_roundw
              case rel => exact ⟨t + 1, b, b + 2 * s, r1, rfl, by go_num, hbn, by omega, HA2, rfl, Q1, Q2, HP2, HS2, Q5⟩
              case measure => have := HB.out; simp [intOf]; omega
            · have i2 : ¬ (b : Int) ≤ (N : Int) := by omega
              by_cases hm : a + s < N
              · have i3 : (a : Int) + (s : Int) < (N : Int) := by omega
                have HI := Lib.hid (sym_i base g c Y N a (a + s) N ((a : Int) + (s : Int)) (by omega) r wr hbig hYg HL.out (by omega) hm (Nat.le_refl _) (by have := HP.out.one (by rw [← HA.out]; omega); rwa [← HA.out] at this) (by have := HP.out.two; rw [← HA.out, ← HB.out, Nat.min_eq_right (by omega)] at this; exact this) hat HR.out)
                clear hat
                go_wp2_with fail
                refine HI.out.mono ?_
                rintro e w1 ⟨rfl, r1, q1, q2, ⟨q3, q4⟩, q5⟩
                have Q1 := Lib.hid q1
                have Q2 := Lib.hid q2
                have Q3 := Lib.hid q3
                have Q4 := Lib.hid q4
                have Q5 := Lib.hid (gb_trans HG.out q5)
                clear q1 q2 q3 q4 q5
                have HP2 : Hid (Blk r1 (s * 2) N) := HP.out.done (by rw [← HA.out, ← HB.out]; omega) (by rw [← HA.out]; exact Q3.out) (by rw [← HA.out]; exact Q4.out)
                have HS2 := Lib.hid (HS.out.trans (Q3.out.wide (Nat.zero_le _) (Nat.le_refl _)))
                go_wp2_with fail
                go_roundw
                case rel => exact ⟨s * 2, r1, by go_num, by omega, by omega, Q1, Q2, HP2, HS2, Q5⟩
                case measure => simp [intOf]; omega
              · have i3 : ¬ (a : Int) + (s : Int) < (N : Int) := by omega
                have HP2 : Hid (Blk r (s * 2) N) := HP.out.done (by rw [← HA.out, ← HB.out]; omega) (Stays.refl _ _ _) (HP.out.skip (by rw [← HA.out]; omega))
                clear hat
                go_wp2_with fail
                go_roundw
                case rel => exact ⟨s * 2, r, by go_num, by omega, by omega, HR, HL, HP2, HS, HG⟩
                case measure => simp [intOf]; omega
        · have i1 : ¬ (s : Int) < (N : Int) := by omega
          have HF : Hid (LeftOf w base g c N (fun r => Stays 0 N l r ∧ Srt r 0 N) (.returned (.tuple #[])) wr) := ⟨rfl, r, HR.out, HL.out, ⟨HS.out, HP.out.all (by omega)⟩, HG.out⟩
          go_wp2_with fail
          go_end0
          exact HF.out

set_option maxHeartbeats 1600000 in
theorem sortStable_any (base g c Y N : Nat) (l : List Jb) (w : World) (hN : l.length = N) (hbig : N ≤ 1000000) (hYg : Y ≠ g) (hy : At w Y) (H : Oj w base g c l) :
    Calls Try.prog 35 #[.slice (some ⟨g, 0, none⟩) N c, cmpV Y] w (LeftOf w base g c N (fun r => Stays 0 N l r ∧ Srt r 0 N)) := by
  have HI := Lib.hid (stable_any base g c Y N l w hN hbig hYg hy H)
  clear H hN hy
  go_enter Try.func35, Try.ntmps35
  go_wp2_with fail
  refine HI.out.mono ?_
  rintro e w1 ⟨rfl, h⟩
  have HF : Hid (LeftOf w base g c N (fun r => Stays 0 N l r ∧ Srt r 0 N) (.returned (.tuple #[])) w1) := ⟨rfl, h⟩
  clear h
  go_wp2_with fail
  go_end0
  exact HF.out

end Pm
end Go.Proofs.Ytdibiidpknckfaa

/-
  Layer 14 (job): sorted; Sort.
-/
namespace Go.Proofs.Ytdibiidpknckfaa
open Go.RowKit Mm Tk
namespace Pm

theorem slJ : SlT Try.prog 23 30 (Dat.k Jb) := slT_of Try.underlying23 (show _ = some (some (.agg #[.int .i64 0, .int .i64 0, .int .i64 0, .int .i64 0, .int .i64 0, .bool false]), 6, 48) by kernel_rfl) rfl (by omega)

/-! ### no jobs -/
theorem insertion_nil (A : Option Addr) (c : Nat) (cv : Value) (w : World) :
    Calls Try.prog 48 #[.slice A 0 c, .int .i64 0, .int .i64 0, cv] w fun e w' => e = .returned (.tuple #[]) ∧ Below w.heap.size w w' := by
  go_enter Try.func48, Try.ntmps48
  go_wp2_with fail
  go_loopw [8] (fun i wr => i = .int .i64 1 ∧ wr = w) (fun _ _ => 0)
  case atStart => exact ⟨rfl, rfl⟩
  case round =>
    obtain ⟨rfl, rfl⟩ := hrel
    go_wp2_with fail
    go_end0
    exact ⟨rfl, Below.refl _ _⟩
theorem stable_nil (A : Option Addr) (c : Nat) (cv : Value) (w : World) :
    Calls Try.prog 43 #[.slice A 0 c, .int .i64 0, cv] w fun e w' => e = .returned (.tuple #[]) ∧ Below w.heap.size w w' := by
  go_enter Try.func43, Try.ntmps43
  go_wp2_with fail
  go_loopw [7, 8] (fun s7 s8 wr => s7 = .int .i64 0 ∧ s8 = .int .i64 20 ∧ wr = w) (fun _ _ _ => 0)
  case atStart => exact ⟨rfl, rfl, rfl⟩
  case round =>
    obtain ⟨rfl, rfl, rfl⟩ := hrel
    go_wp2_with fail
    refine (insertion_nil A c cv wr).mono ?_
    rintro e w1 ⟨rfl, b1⟩
    have B1 := Lib.hid b1
    clear b1
    go_wp2_with fail
    go_loopw [6] (fun s6 wx => s6 = .int .i64 20 ∧ wx = w1) (fun _ _ => 0)
    case atStart => exact ⟨rfl, rfl⟩
    case round =>
      obtain ⟨rfl, rfl⟩ := hrel
      go_wp2_with fail
      go_end0
      exact ⟨rfl, B1.out⟩
theorem sortStable_nil (A : Option Addr) (c : Nat) (cv : Value) (w : World) :
    Calls Try.prog 35 #[.slice A 0 c, cv] w fun e w' => e = .returned (.tuple #[]) ∧ Below w.heap.size w w' := by
  go_enter Try.func35, Try.ntmps35
  go_wp2_with fail
  refine (stable_nil A c cv w).mono ?_
  rintro e w1 ⟨rfl, b1⟩
  have B1 := Lib.hid b1
  clear b1
  go_wp2_with fail
  go_end0
  exact ⟨rfl, B1.out⟩

/-- jobs in order, in new memory -/
def SortedOf (w : World) (l : List Jb) (e : Ending) (w' : World) : Prop :=
  ∃ A c r, e = .returned (.slice A l.length c) ∧ l.Perm r ∧ r.Pairwise (fun x y => aheadB y x = false) ∧ Ow w' w.heap.size 30 A c r ∧ Below w.heap.size w w'

set_option maxHeartbeats 1600000 in
theorem sorted_any (A : Option Addr) (c : Nat) (l : List Jb) (w : World) (hbig : l.length ≤ 1000000) (hr : Rd w A c l) :
    Calls Try.prog 23 #[.slice A l.length c, .func (.func 12) #[] #[]] w (SortedOf w l) := by
  have HB0 := Lib.hid (below_one w (Obj.cells #[.func (.func 12) #[] #[]] 31))
  have HR := Lib.hid (hr.below HB0.out)
  have HY : Hid (At (w.alloc (Obj.cells #[.func (.func 12) #[] #[]] 31)) w.heap.size) := by show World.cell? _ _ = _; simp
  have HS : Hid ((w.alloc (Obj.cells #[.func (.func 12) #[] #[]] 31)).heap.size = w.heap.size + 1) := by show _ = _; simp
  clear hr
  obtain ⟨n, hn⟩ : ∃ n, l.length = n := ⟨_, rfl⟩
  have HN := Lib.hid hn
  rw [hn] at hbig
  rw [hn]
  clear hn
  go_enter Try.func23, Try.ntmps23
  go_wp2_with (at_builtin
               generalize w.alloc (Obj.cells #[.func (.func 12) #[] #[]] 31) = w0 at *
               refine list_app_n slJ rfl _ _ rfl (base := w0.heap.size) (l := ([] : List Jb)) (r := l) (n := 0) (m := n) rfl HN.out rfl rfl (ow_none _ _ _) HR.out (by omega) (Nat.le_refl _) ?_
               intro A1 c1 w1 k1 k2 k3
               have O1 := Lib.hid k1
               have B1 := Lib.hid k2
               clear k1 k2 k3)
  rw [List.nil_append] at O1
  have HX : Hid (∀ (r : List Jb) (A' : Option Addr) (c' : Nat) (w2 : World), r.length = n → l.Perm r → r.Pairwise (fun x y => aheadB y x = false) → Ow w2 w0.heap.size 30 A' c' r → Below w0.heap.size w0 w2 → SortedOf w l (.returned (.slice A' n c')) w2) := fun r A' c' w2 _ h2 h3 h4 h5 =>
    ⟨A', c', r, by rw [HN.out], h2, h3, h4.rebase (by rw [HS.out]; omega), below_step HB0.out h5⟩
  have HY1 := Lib.hid (cell_below B1.out HY.out)
  by_cases h0 : 0 < n
  · obtain ⟨g, rfl, hg1, hg2, _⟩ := O1.out.form (by rw [HN.out]; exact h0)
    have hYg : w.heap.size ≠ g := by have := HS.out; omega
    refine (sortStable_any w0.heap.size g c1 w.heap.size n l w1 HN.out hbig hYg HY1.out O1.out).mono ?_
    rintro e w2 ⟨rfl, r, k1, k2, ⟨k3, k4⟩, k5⟩
    have HF : Hid (SortedOf w l (.returned (.slice (some ⟨g, 0, none⟩) n c1)) w2) := HX.out r _ c1 w2 k2 k3.perm (srt_pairwise (by rw [k2]; exact k4)) k1 (B1.out.grown k5 B1.out.size (fun k hk => by injection hk with hk; omega))
    clear k1 k2 k3 k4 k5
    go_wp2_with fail
    go_ret
    exact HF.out
  · have hn : n = 0 := by omega
    subst hn
    have hl : l = [] := List.eq_nil_of_length_eq_zero HN.out
    subst hl
    refine (sortStable_nil A1 c1 _ w1).mono ?_
    rintro e w2 ⟨rfl, b2⟩
    have HF : Hid (SortedOf w [] (.returned (.slice A1 0 c1)) w2) := HX.out [] A1 c1 w2 rfl (List.Perm.refl _) List.Pairwise.nil (Ow.below O1.out b2 (Nat.le_refl _)) (B1.out.trans (b2.mono B1.out.size))
    clear b2
    go_wp2_with fail
    go_ret
    exact HF.out

set_option maxHeartbeats 1600000 in
theorem sort_any (A : Option Addr) (c : Nat) (l : List Jb) (w : World) (hbig : l.length ≤ 1000000) (hr : Rd w A c l) :
    Calls Try.prog 13 #[.slice A l.length c] w (SortedOf w l) := by
  have HI := Lib.hid (sorted_any A c l w hbig hr)
  clear hr
  go_enter Try.func13, Try.ntmps13
  go_wp2_with fail
  refine HI.out.mono ?_
  rintro e w1 ⟨A', c', r, rfl, k1, k2, k3, k4⟩
  have HF : Hid (SortedOf w l (.returned (.slice A' l.length c')) w1) := ⟨A', c', r, rfl, k1, k2, k3, k4⟩
  clear k1 k2 k3 k4
  go_wp2_with fail
  go_ret
  exact HF.out

end Pm
end Go.Proofs.Ytdibiidpknckfaa

