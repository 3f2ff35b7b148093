/-
  Layer 2 (heap): take, Min, Pop.
-/
import Derived.Test.YteadcjfbmckgpaaHeapPush
namespace Go.Proofs.Yteadcjfbmckgpaa
open Go.RowKit
namespace Hp

/-- 'sink' of the first item, if there is one -/
theorem sink_top (base g c n : Nat) (l : List It) (w : World) (hn : l.length = n) (hbig : l.length ≤ 1000000) (hf : HeapFrom 1 l) (h : Ow w base 24 (some ⟨g, 0, none⟩) c l) :
    Calls Try.prog 21 #[.slice (some ⟨g, 0, none⟩) n c, .int .i64 0] w (SinksTo w base g c 0 l) := by
  by_cases h0 : 0 < l.length
  · exact sink_len base g c n 0 0 l w hn rfl hbig h0 hf h
  · have hl : l = [] := List.eq_nil_of_length_eq_zero (by omega)
    subst hl
    subst hn
    refine (sink_none g c w).mono ?_
    rintro e w' ⟨rfl, hb⟩
    exact ⟨rfl, [], rfl, .refl _, fun i _ hi => by simp at hi, h.below hb (Nat.le_refl _), gb_below hb (Nat.le_refl _) _⟩

/-- the lowest item taken out of a heap of the call's own -/
def Takes (w : World) (base g c : Nat) (l : List It) (e : Ending) (w' : World) : Prop :=
  ∃ l' : List It, e = .returned (.tuple #[.agg #[.int .i64 (at_ l 0).1, .int .i64 (at_ l 0).2], .slice (some ⟨g, 0, none⟩) l'.length c]) ∧ srt l = at_ l 0 :: srt l' ∧ IsHeap l' ∧ l'.length + 1 = l.length ∧
    Ow w' base 24 (some ⟨g, 0, none⟩) c l' ∧ w.grownBy w' (some g)

set_option maxHeartbeats 1600000 in
theorem take_any (base g c : Nat) (l : List It) (w : World) (hbig : l.length ≤ 1000000) (h0 : 0 < l.length) (hh : IsHeap l) (h : Ow w base 24 (some ⟨g, 0, none⟩) c l) :
    Calls Try.prog 27 #[.slice (some ⟨g, 0, none⟩) l.length c] w (Takes w base g c l) := by
  have hgw : g < w.heap.size := by
    obtain ⟨g', e, _, hlt, _⟩ := h.form (by omega)
    injection e with e; injection e with e; omega
  have hc : l.length ≤ c := by
    obtain ⟨g', e, _, _, hc⟩ := h.form (by omega)
    exact hc
  obtain ⟨x1, x2⟩ := h.cell 0 h0
  obtain ⟨y1, y2⟩ := h.cell (l.length - 1) (by omega)
  have f1 := World.ownsRow.frozenAt h 0
  have f2 := World.ownsRow.frozenAt h 1
  simp only [Nat.zero_mul, Nat.zero_add] at x1 x2
  have hn1 : w.heap.size ≠ g := by omega
  have hn2 : w.heap.size + 1 ≠ g := by omega
  have q1 : (0 : Int) ≤ (l.length : Int) - 1 := by omega
  have q2 : (l.length : Int) - 1 < (l.length : Int) := by omega
  have q3 : ((l.length : Int) - 1).toNat = l.length - 1 := by omega
  have q4 : (l.length : Int) - 1 ≤ (c : Int) := by omega
  have HO := Lib.hid h
  have HH := Lib.hid hh
  clear h hh
  go_enter Try.func27, Try.ntmps27
  go_wp2_with fail
  have HOt := Lib.hid ((((HO.out.put 0 (at_ l (l.length - 1))).1.alloc (.cells #[.int .i64 0, .int .i64 0] 24)).alloc (.cells #[.int .i64 (at_ l 0).1, .int .i64 (at_ l 0).2] 24)).cut (l.length - 1) (by simp))
  have HGt := Lib.hid (gb_alloc (gb_alloc (HO.out.put 0 (at_ l (l.length - 1))).2 (.cells #[.int .i64 0, .int .i64 0] 24)) (.cells #[.int .i64 (at_ l 0).1, .int .i64 (at_ l 0).2] 24))
  simp only [Nat.zero_mul, Nat.zero_add] at HOt HGt
  have HT : Hid (((l.set 0 (at_ l (l.length - 1))).take (l.length - 1)).length = l.length - 1) := by show List.length _ = _; simp
  have HF := Lib.hid (heapFrom_drop (x := at_ l (l.length - 1)) HH.out h0)
  have HPm := Lib.hid (drop_perm h0)
  have ht1 : ((((w.setCell ⟨g, 0, none⟩ (.int .i64 (at_ l (l.length - 1)).1)).setCell ⟨g, 1, none⟩ (.int .i64 (at_ l (l.length - 1)).2)).alloc (.cells #[.int .i64 0, .int .i64 0] 24)).alloc (.cells #[.int .i64 (at_ l 0).1, .int .i64 (at_ l 0).2] 24)).cell? ⟨w.heap.size + 1, 0, none⟩ = some (.int .i64 (at_ l 0).1) := by go_simp
  have ht2 : ((((w.setCell ⟨g, 0, none⟩ (.int .i64 (at_ l (l.length - 1)).1)).setCell ⟨g, 1, none⟩ (.int .i64 (at_ l (l.length - 1)).2)).alloc (.cells #[.int .i64 0, .int .i64 0] 24)).alloc (.cells #[.int .i64 (at_ l 0).1, .int .i64 (at_ l 0).2] 24)).cell? ⟨w.heap.size + 1, 1, none⟩ = some (.int .i64 (at_ l 0).2) := by go_simp
  have ht3 : ((((w.setCell ⟨g, 0, none⟩ (.int .i64 (at_ l (l.length - 1)).1)).setCell ⟨g, 1, none⟩ (.int .i64 (at_ l (l.length - 1)).2)).alloc (.cells #[.int .i64 0, .int .i64 0] 24)).alloc (.cells #[.int .i64 (at_ l 0).1, .int .i64 (at_ l 0).2] 24)).cell? ⟨w.heap.size, 0, none⟩ = some (.int .i64 0) := by go_simp
  have ht4 : ((((w.setCell ⟨g, 0, none⟩ (.int .i64 (at_ l (l.length - 1)).1)).setCell ⟨g, 1, none⟩ (.int .i64 (at_ l (l.length - 1)).2)).alloc (.cells #[.int .i64 0, .int .i64 0] 24)).alloc (.cells #[.int .i64 (at_ l 0).1, .int .i64 (at_ l 0).2] 24)).cell? ⟨w.heap.size, 1, none⟩ = some (.int .i64 0) := by go_simp
  have ht5 : ((((w.setCell ⟨g, 0, none⟩ (.int .i64 (at_ l (l.length - 1)).1)).setCell ⟨g, 1, none⟩ (.int .i64 (at_ l (l.length - 1)).2)).alloc (.cells #[.int .i64 0, .int .i64 0] 24)).alloc (.cells #[.int .i64 (at_ l 0).1, .int .i64 (at_ l 0).2] 24)).frozen? ⟨w.heap.size, 0, none⟩ = false := by go_simp
  have ht6 : ((((w.setCell ⟨g, 0, none⟩ (.int .i64 (at_ l (l.length - 1)).1)).setCell ⟨g, 1, none⟩ (.int .i64 (at_ l (l.length - 1)).2)).alloc (.cells #[.int .i64 0, .int .i64 0] 24)).alloc (.cells #[.int .i64 (at_ l 0).1, .int .i64 (at_ l 0).2] 24)).frozen? ⟨w.heap.size, 1, none⟩ = false := by go_simp
  clear HO x1 x2 y1 y2 f1 f2
  generalize ((((w.setCell ⟨g, 0, none⟩ (.int .i64 (at_ l (l.length - 1)).1)).setCell ⟨g, 1, none⟩ (.int .i64 (at_ l (l.length - 1)).2)).alloc (.cells #[.int .i64 0, .int .i64 0] 24)).alloc (.cells #[.int .i64 (at_ l 0).1, .int .i64 (at_ l 0).2] 24)) = wt at *
  generalize (l.set 0 (at_ l (l.length - 1))).take (l.length - 1) = t at *
  refine (sink_top base g c (l.length - 1) t _ HT.out (by rw [HT.out]; omega) HF.out HOt.out).mono ?_
  rintro e w2 ⟨rfl, m, m1, m2, m3, o2, g2⟩
  have k1 := gb_cell g2 ht1 (fun e => hn2 (Option.some.inj e))
  have k2 := gb_cell g2 ht2 (fun e => hn2 (Option.some.inj e))
  have k3 := gb_cell g2 ht3 (fun e => hn1 (Option.some.inj e))
  have k4 := gb_cell g2 ht4 (fun e => hn1 (Option.some.inj e))
  have k5 : w2.frozen? ⟨w.heap.size, 0, none⟩ = false := (World.frozen?_of_block (w := wt) (g2.block w.heap.size (lt_of_cell ht3) (fun e => hn1 (Option.some.inj e)))).trans ht5
  have k6 : w2.frozen? ⟨w.heap.size, 1, none⟩ = false := (World.frozen?_of_block (w := wt) (g2.block w.heap.size (lt_of_cell ht3) (fun e => hn1 (Option.some.inj e)))).trans ht6
  have HM1 : Hid (m.length = l.length - 1) := m1.trans HT.out
  have HM2 : Hid (srt l = at_ l 0 :: srt m) := low_first HH.out (((m2.cons _)).trans HPm.out)
  have HM3 := Lib.hid m3
  have HO2 := Lib.hid o2
  have HG2 := Lib.hid (gb_trans HGt.out g2)
  clear ht1 ht2 ht3 ht4 ht5 ht6 m1 m2 m3 o2 g2 HPm HF HT HOt HGt
  go_wp2_with fail
  refine bodyPost_ret (v := .tuple #[.agg #[.int .i64 (at_ l 0).1, .int .i64 (at_ l 0).2], .slice (some ⟨g, 0, none⟩) (l.length - 1) c]) (by simp [results, Try.results27, go_sem, k3, k4]) rfl ?_
  refine ⟨m, by rw [HM1.out], HM2.out, HM3.out, by rw [HM1.out]; omega, ?_, ?_⟩
  · exact (HO2.out.far (p := ⟨w.heap.size, 0, none⟩) hn1 _).far (p := ⟨w.heap.size, 1, none⟩) hn1 _
  · exact gb_setCell (gb_setCell HG2.out (.inr (Nat.le_refl _)) _) (.inr (Nat.le_refl _)) _

/-- Min: the lowest item -/
theorem min_none (A : Option Addr) (c : Nat) (w : World) :
    Calls Try.prog 15 #[.slice A 0 c] w fun e w' => e = .returned (.tuple #[.agg #[.int .i64 0, .int .i64 0], .int .i64 4]) ∧ Below w.heap.size w w' := by
  go_enter Try.func15, Try.ntmps15
  go_wp2
  exact bodyPost_ret (v := .tuple #[.agg #[.int .i64 0, .int .i64 0], .int .i64 4]) (by simp [results, Try.results15, go_sem]) rfl ⟨rfl, (Below.refl _ _).alloc (Nat.le_refl _) _⟩

/-- the lowest of these items -/
def MinOf (w : World) (l : List It) (e : Ending) (w' : World) : Prop :=
  ∃ (x : It) (r : List It), e = .returned (.tuple #[.agg #[.int .i64 x.1, .int .i64 x.2], .int .i64 0]) ∧ srt l = x :: r ∧ Below w.heap.size w w'

theorem heap_first {l : List It} (h : IsHeap l) (h0 : 0 < l.length) : ∃ r, srt l = at_ l 0 :: r := ⟨_, low_first h (drop_perm h0)⟩

set_option maxHeartbeats 1600000 in
theorem min_some (A : Option Addr) (c : Nat) (l : List It) (w : World) (hbig : l.length ≤ 1000000) (h0 : 0 < l.length) (hr : Rd w A c l) :
    Calls Try.prog 15 #[.slice A l.length c] w (MinOf w l) := by
  have HR := Lib.hid hr
  clear hr
  have he : ((l.length : Int) == 0) = false := beq_eq_false_iff_ne.2 (by omega)
  have hp0 : (0 : Int) < (l.length : Int) := by omega
  have HB0 : Hid (Below w.heap.size w (w.alloc (.cells #[.int .i64 0, .int .i64 0] 24))) := (Below.refl _ _).alloc (Nat.le_refl _) _
  have HR0 : Hid (Rd (w.alloc (.cells #[.int .i64 0, .int .i64 0] 24)) A c l) := HR.out.alloc _
  have z1 : (w.alloc (.cells #[.int .i64 0, .int .i64 0] 24)).cell? ⟨w.heap.size, 0, none⟩ = some (.int .i64 0) := by go_simp
  have z2 : (w.alloc (.cells #[.int .i64 0, .int .i64 0] 24)).cell? ⟨w.heap.size, 1, none⟩ = some (.int .i64 0) := by go_simp
  have z3 : (w.alloc (.cells #[.int .i64 0, .int .i64 0] 24)).frozen? ⟨w.heap.size, 0, none⟩ = false := by go_simp
  have z4 : (w.alloc (.cells #[.int .i64 0, .int .i64 0] 24)).frozen? ⟨w.heap.size, 1, none⟩ = false := by go_simp
  cases hb : rightB l with
  | true =>
    have HH := Lib.hid hb
    clear hb
    go_enter Try.func15, Try.ntmps15
    go_wp2_with fail
    generalize w.alloc (.cells #[.int .i64 0, .int .i64 0] 24) = wt at *
    refine (right_any A c l _ hbig HR0.out).mono ?_
    rintro e w1 ⟨rfl, b1⟩
    have hz := lt_of_cell z1
    have k1 := (b1.cell (p := ⟨w.heap.size, 0, none⟩) hz).trans z1
    have k2 := (b1.cell (p := ⟨w.heap.size, 1, none⟩) hz).trans z2
    have k3 := (b1.frozen (p := ⟨w.heap.size, 0, none⟩) hz).trans z3
    have k4 := (b1.frozen (p := ⟨w.heap.size, 1, none⟩) hz).trans z4
    have HB1 := Lib.hid (HB0.out.trans (b1.mono HB0.out.size))
    obtain ⟨b, off, rfl, hc⟩ := (HR0.out.below b1).2 h0
    obtain ⟨x1, x2⟩ := hc 0 h0
    simp only [Nat.zero_mul, Nat.add_zero] at x1 x2
    clear b1 z1 z2 z3 z4 hc
    rw [HH.out]
    go_wp2_with fail
    refine bodyPost_ret (v := .tuple #[.agg #[.int .i64 (at_ l 0).1, .int .i64 (at_ l 0).2], .int .i64 0]) (by simp [results, Try.results15, go_sem, k1, k2]) rfl ?_
    obtain ⟨r, hr⟩ := heap_first (rightB_iff.1 HH.out) h0
    exact ⟨_, r, rfl, hr, (HB1.out.setCell (p := ⟨w.heap.size, 0, none⟩) (Nat.le_refl _) _).setCell (p := ⟨w.heap.size, 1, none⟩) (Nat.le_refl _) _⟩
  | false =>
    have HH := Lib.hid hb
    clear hb
    go_enter Try.func15, Try.ntmps15
    go_wp2_with fail
    generalize w.alloc (.cells #[.int .i64 0, .int .i64 0] 24) = wt at *
    refine (right_any A c l _ hbig HR0.out).mono ?_
    rintro e w1 ⟨rfl, b1⟩
    have H1 := Lib.hid b1
    clear b1
    rw [HH.out]
    go_wp2_with fail
    refine (make_any A c l _ hbig (HR0.out.below H1.out)).mono ?_
    rintro e w2 ⟨B, d, m, rfl, m1, m2, o2, b2⟩
    have hz := lt_of_cell z1
    have H2 : Below wt.heap.size wt w2 := H1.out.trans (b2.mono H1.out.size)
    have k1 := (H2.cell (p := ⟨w.heap.size, 0, none⟩) hz).trans z1
    have k2 := (H2.cell (p := ⟨w.heap.size, 1, none⟩) hz).trans z2
    have k3 := (H2.frozen (p := ⟨w.heap.size, 0, none⟩) hz).trans z3
    have k4 := (H2.frozen (p := ⟨w.heap.size, 1, none⟩) hz).trans z4
    have HB1 := Lib.hid (HB0.out.trans (H2.mono HB0.out.size))
    have hm0 : 0 < m.length := by have := m1.length_eq; omega
    have hm1 : (0 : Int) < (m.length : Int) := by omega
    obtain ⟨b, off, rfl, hc⟩ := o2.rd.2 hm0
    obtain ⟨x1, x2⟩ := hc 0 hm0
    simp only [Nat.zero_mul, Nat.add_zero] at x1 x2
    have HM1 := Lib.hid m1
    have HM2 := Lib.hid m2
    clear b2 H2 z1 z2 z3 z4 hc o2 m1 m2
    go_wp2_with fail
    refine bodyPost_ret (v := .tuple #[.agg #[.int .i64 (at_ m 0).1, .int .i64 (at_ m 0).2], .int .i64 0]) (by simp [results, Try.results15, go_sem, k1, k2]) rfl ?_
    obtain ⟨r, hr⟩ := heap_first HM2.out hm0
    exact ⟨_, r, rfl, (srt_of_perm HM1.out).symm.trans hr, (HB1.out.setCell (p := ⟨w.heap.size, 0, none⟩) (Nat.le_refl _) _).setCell (p := ⟨w.heap.size, 1, none⟩) (Nat.le_refl _) _⟩

theorem pop_none (A : Option Addr) (c : Nat) (w : World) :
    Calls Try.prog 16 #[.slice A 0 c] w fun e w' => e = .returned (.tuple #[.agg #[.int .i64 0, .int .i64 0], .slice none 0 0, .int .i64 4]) ∧ Below w.heap.size w w' := by
  go_enter Try.func16, Try.ntmps16
  go_wp2
  exact bodyPost_ret (v := .tuple #[.agg #[.int .i64 0, .int .i64 0], .slice none 0 0, .int .i64 4]) (by simp [results, Try.results16, go_sem]) rfl ⟨rfl, (Below.refl _ _).alloc (Nat.le_refl _) _⟩

/-- the lowest of these items, and a heap of the others -/
def PopOf (w : World) (l : List It) (e : Ending) (w' : World) : Prop :=
  ∃ (x : It) (A : Option Addr) (c : Nat) (m : List It), e = .returned (.tuple #[.agg #[.int .i64 x.1, .int .i64 x.2], .slice A m.length c, .int .i64 0]) ∧ srt l = x :: srt m ∧ IsHeap m ∧ m.length + 1 = l.length ∧ Ow w' w.heap.size 24 A c m ∧ Below w.heap.size w w'

theorem take_len (base g c n : Nat) (l : List It) (w : World) (hn : l.length = n) (hbig : l.length ≤ 1000000) (h0 : 0 < l.length) (hh : IsHeap l) (h : Ow w base 24 (some ⟨g, 0, none⟩) c l) :
    Calls Try.prog 27 #[.slice (some ⟨g, 0, none⟩) n c] w (Takes w base g c l) := by
  subst hn
  exact take_any base g c l w hbig h0 hh h

set_option maxHeartbeats 1600000 in
theorem pop_some (A : Option Addr) (c : Nat) (l : List It) (w : World) (hbig : l.length ≤ 1000000) (h0 : 0 < l.length) (hr : Rd w A c l) :
    Calls Try.prog 16 #[.slice A l.length c] w (PopOf w l) := by
  have HR := Lib.hid hr
  clear hr
  have he : ((l.length : Int) == 0) = false := beq_eq_false_iff_ne.2 (by omega)
  have HB0 : Hid (Below w.heap.size w (w.alloc (.cells #[.int .i64 0, .int .i64 0] 24))) := (Below.refl _ _).alloc (Nat.le_refl _) _
  have HR0 : Hid (Rd (w.alloc (.cells #[.int .i64 0, .int .i64 0] 24)) A c l) := HR.out.alloc _
  have z1 : (w.alloc (.cells #[.int .i64 0, .int .i64 0] 24)).cell? ⟨w.heap.size, 0, none⟩ = some (.int .i64 0) := by go_simp
  have z2 : (w.alloc (.cells #[.int .i64 0, .int .i64 0] 24)).cell? ⟨w.heap.size, 1, none⟩ = some (.int .i64 0) := by go_simp
  have z3 : (w.alloc (.cells #[.int .i64 0, .int .i64 0] 24)).frozen? ⟨w.heap.size, 0, none⟩ = false := by go_simp
  have z4 : (w.alloc (.cells #[.int .i64 0, .int .i64 0] 24)).frozen? ⟨w.heap.size, 1, none⟩ = false := by go_simp
  go_enter Try.func16, Try.ntmps16
  go_wp2_with fail
  generalize w.alloc (.cells #[.int .i64 0, .int .i64 0] 24) = wt at *
  have hz := lt_of_cell z1
  refine (ownHeap_any A c l _ hbig HR0.out).mono ?_
  rintro e w1 ⟨B, d, m, rfl, m1, m2, o1, b1⟩
  have H1 := Lib.hid b1
  have HO1 := Lib.hid o1
  have HM1 := Lib.hid m1
  have HM2 := Lib.hid m2
  have hm0 : 0 < m.length := by have := m1.length_eq; omega
  obtain ⟨g, rfl, hgw, hgl, _⟩ := o1.form hm0
  clear b1 o1 m1 m2
  go_wp2_with fail
  refine (take_any wt.heap.size g d m _ (by have := HM1.out.length_eq; omega) hm0 HM2.out HO1.out).mono ?_
  rintro e w2 ⟨q, rfl, q1, q2, q3, o2, g2⟩
  have H2 : Below wt.heap.size wt w2 := H1.out.grown g2 H1.out.size (fun k hk => by injection hk with hk; omega)
  have k1 := (H2.cell (p := ⟨w.heap.size, 0, none⟩) hz).trans z1
  have k2 := (H2.cell (p := ⟨w.heap.size, 1, none⟩) hz).trans z2
  have k3 := (H2.frozen (p := ⟨w.heap.size, 0, none⟩) hz).trans z3
  have k4 := (H2.frozen (p := ⟨w.heap.size, 1, none⟩) hz).trans z4
  have hne : w.heap.size ≠ w2.heap.size := by have := H2.size; have : w.heap.size < wt.heap.size := hz; omega
  have hngs : g < w2.heap.size := by have := g2.size; omega
  have hng : w.heap.size ≠ g := by have : w.heap.size < wt.heap.size := hz; omega
  have c1 := (((Below.refl w2.heap.size w2).alloc (Nat.le_refl _) (.cells #[.int .i64 (at_ m 0).1, .int .i64 (at_ m 0).2] 24)).cell (p := ⟨w.heap.size, 0, none⟩) (by have := H2.size; have : w.heap.size < wt.heap.size := hz; show w.heap.size < w2.heap.size; omega)).trans k1
  have c2 := (((Below.refl w2.heap.size w2).alloc (Nat.le_refl _) (.cells #[.int .i64 (at_ m 0).1, .int .i64 (at_ m 0).2] 24)).cell (p := ⟨w.heap.size, 1, none⟩) (by have := H2.size; have : w.heap.size < wt.heap.size := hz; show w.heap.size < w2.heap.size; omega)).trans k2
  have c3 := (((Below.refl w2.heap.size w2).alloc (Nat.le_refl _) (.cells #[.int .i64 (at_ m 0).1, .int .i64 (at_ m 0).2] 24)).frozen (p := ⟨w.heap.size, 0, none⟩) (by have := H2.size; have : w.heap.size < wt.heap.size := hz; show w.heap.size < w2.heap.size; omega)).trans k3
  have c4 := (((Below.refl w2.heap.size w2).alloc (Nat.le_refl _) (.cells #[.int .i64 (at_ m 0).1, .int .i64 (at_ m 0).2] 24)).frozen (p := ⟨w.heap.size, 1, none⟩) (by have := H2.size; have : w.heap.size < wt.heap.size := hz; show w.heap.size < w2.heap.size; omega)).trans k4
  have HB2 := Lib.hid (HB0.out.trans (H2.mono HB0.out.size))
  have HO2 := Lib.hid (o2.rebase HB0.out.size)
  have HQ1 : Hid (srt l = at_ m 0 :: srt q) := (srt_of_perm HM1.out).symm.trans q1
  have HQ2 := Lib.hid q2
  have HQ3 : Hid (q.length + 1 = l.length) := q3.trans HM1.out.length_eq
  clear H2 z1 z2 z3 z4 o2 g2 q1 q2 q3 H1 HO1 HM1 HM2
  go_wp2_with fail
  refine bodyPost_ret (v := .tuple #[.agg #[.int .i64 (at_ m 0).1, .int .i64 (at_ m 0).2], .slice (some ⟨g, 0, none⟩) q.length d, .int .i64 0]) (by simp [results, Try.results16, go_sem, c1, c2]) rfl ?_
  refine ⟨_, _, _, q, rfl, HQ1.out, HQ2.out, HQ3.out, ?_, ?_⟩
  · exact ((HO2.out.alloc _).far (p := ⟨w.heap.size, 0, none⟩) hng _).far (p := ⟨w.heap.size, 1, none⟩) hng _
  · exact (((HB2.out.alloc HB2.out.size _).setCell (p := ⟨w.heap.size, 0, none⟩) (Nat.le_refl _) _).setCell (p := ⟨w.heap.size, 1, none⟩) (Nat.le_refl _) _)

end Hp
end Go.Proofs.Yteadcjfbmckgpaa
