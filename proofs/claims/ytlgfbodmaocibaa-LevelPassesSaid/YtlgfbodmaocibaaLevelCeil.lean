/-
  Layer 6 (level): ceiling, and the calls Of, Ceiling, Held, Passes.
-/
import Derived.Test.YtlgfbodmaocibaaLevelCount
namespace Go.Proofs.Ytlgfbodmaocibaa
open Go.RowKit Mm Tk Go.Shelf
namespace Lv

/-- the level of a task that uses the resource; 0 of others -/
def ceilF (L : List Tsk) (r : Int) (x : Tsk) : Nat := if usesB x.1 x.2.1 x.2.2.1 x.2.2.2 r then lv L x.2.1 else 0

set_option maxHeartbeats 800000 in
theorem ceiling_closure (A : Option Addr) (c : Nat) (L : List Tsk) (r : Int) (X Y : Nat) (w : World) (hbig : L.length ≤ 1000000) (hin : ∀ j, j < L.length → (at_ L j).2.2.2.length ≤ 1000000) (hX : w.cell? ⟨X, 0, none⟩ = some (.int .i64 r)) (hY : w.cell? ⟨Y, 0, none⟩ = some (.slice A L.length c)) (hr : Rd w A c L) :
    FunTask 31 #[.pointer (some ⟨X, 0, none⟩), .pointer (some ⟨Y, 0, none⟩)] (ceilF L r) w := fun W x B d hb hrx hl => by
  have x1 := cell_new (cell_below hb hX) (.cells #[.int .i64 x.1, .int .i64 x.2.1, .int .i64 x.2.2.1, .slice B x.2.2.2.length d] 33)
  have y1 := cell_new (cell_below hb hY) (.cells #[.int .i64 x.1, .int .i64 x.2.1, .int .i64 x.2.2.1, .slice B x.2.2.2.length d] 33)
  obtain ⟨t1, t2, t3, t4⟩ := box_new W x.1 x.2.1 x.2.2.1 B x.2.2.2.length d
  have b0 := below_one W (Obj.cells #[.int .i64 x.1, .int .i64 x.2.1, .int .i64 x.2.2.1, .slice B x.2.2.2.length d] 33)
  have hr2 := hr.below (hb.trans (b0.mono hb.size))
  show Calls Try.prog 31 #[.agg #[.int .i64 x.1, .int .i64 x.2.1, .int .i64 x.2.2.1, .slice B x.2.2.2.length d], .pointer (some ⟨X, 0, none⟩), .pointer (some ⟨Y, 0, none⟩)] W _
  clear hX hY hb hr
  have HR2 := Lib.hid hr2
  have HRX := Lib.hid hrx
  have B0 := Lib.hid b0
  have HIN := Lib.hid hin
  clear hr2 hrx b0 hin
  cases hu : usesB x.1 x.2.1 x.2.2.1 x.2.2.2 r with
  | false =>
    have HH : Hid (ceilF L r x = 0) := by show _ = _; simp [ceilF, hu]
    go_enter Try.func31, Try.ntmps31
    go_wp2_with fail
    generalize W.alloc (Obj.cells #[.int .i64 x.1, .int .i64 x.2.1, .int .i64 x.2.2.1, .slice B x.2.2.2.length d] 33) = w0 at *
    refine (uses_any x.1 x.2.1 x.2.2.1 B d x.2.2.2 r _ hl (HRX.out.below B0.out)).mono ?_
    rintro e w1 ⟨rfl, b1⟩
    have B1 := Lib.hid (below_step B0.out b1)
    clear b1
    go_wp2_with fail
    go_ret
    exact ⟨ret_int (by rw [HH.out]; rfl), B1.out⟩
  | true =>
    have HH : Hid (ceilF L r x = lv L x.2.1) := by show _ = _; simp [ceilF, hu]
    go_enter Try.func31, Try.ntmps31
    go_wp2_with fail
    generalize W.alloc (Obj.cells #[.int .i64 x.1, .int .i64 x.2.1, .int .i64 x.2.2.1, .slice B x.2.2.2.length d] 33) = w0 at *
    refine (uses_any x.1 x.2.1 x.2.2.1 B d x.2.2.2 r _ hl (HRX.out.below B0.out)).mono ?_
    rintro e w1 ⟨rfl, b1⟩
    replace x1 := cell_below b1 x1
    replace y1 := cell_below b1 y1
    replace t1 := cell_below b1 t1
    replace t2 := cell_below b1 t2
    replace t3 := cell_below b1 t3
    replace t4 := cell_below b1 t4
    have B1 := Lib.hid (below_step B0.out b1)
    replace HR2 := Lib.hid (HR2.out.below b1)
    clear b1
    go_wp2_with fail
    refine (levelAt_any A c L x.2.1 _ hbig HIN.out HR2.out).mono ?_
    rintro e w2 ⟨rfl, b2⟩
    have B2 := Lib.hid (below_step B1.out b2)
    clear b2
    go_wp2_with fail
    go_ret
    exact ⟨ret_int (by rw [HH.out]), B2.out⟩
theorem ceilingEnters : ∀ args w, (callFunc 31 args).run Try.prog w = .ok (.enter 31 args) w := enters_of Try.func31 (by kernel_rfl) rfl

theorem mostTo_congr {α : Type} [Inhabited α] {f g : α → Nat} {L : List α} : ∀ {k : Nat}, (∀ j, j < k → f (at_ L j) = g (at_ L j)) → mostTo f L k = mostTo g L k
  | 0, _ => rfl
  | k + 1, h => by rw [mostTo, mostTo, mostTo_congr (fun j hj => h j (by omega)), h k (by omega)]
theorem ceilTo_most (L : List Tsk) (r : Int) : ∀ k, ceilTo L r k = mostTo (fun t => if usesT t r then lv L t.2.1 else 0) L k
  | 0 => rfl
  | k + 1 => by
    rw [ceilTo, mostTo, ceilTo_most L r k]
    show _ = max _ (if usesT (at_ L k) r then lv L (at_ L k).2.1 else 0)
    by_cases h : usesT (at_ L k) r = true
    · rw [if_pos h, if_pos h]; rfl
    · rw [if_neg h, if_neg h, Nat.max_zero]
theorem right_at {L : List Tsk} (h : allB L = true) {j : Nat} (hj : j < L.length) : rightT (at_ L j) = true := by
  unfold allB at h
  rw [Bool.and_eq_true, List.all_eq_true] at h
  exact h.2 _ (at_mem hj)
theorem usesB_of {t : Tsk} (h : rightT t = true) (r : Int) : usesB t.1 t.2.1 t.2.2.1 t.2.2.2 r = usesT t r := by
  unfold usesB usesT
  rw [show rightB t.1 t.2.1 t.2.2.1 t.2.2.2 = true from h, Bool.true_and]
theorem ceil_of {L : List Tsk} (h : allB L = true) (r : Int) : most (ceilF L r) L = ceil L r := by
  unfold most ceil
  rw [ceilTo_most]
  apply mostTo_congr
  intro j hj
  unfold ceilF
  rw [usesB_of (right_at h hj)]

set_option maxHeartbeats 800000 in
theorem ceiling_any (A : Option Addr) (c : Nat) (L : List Tsk) (r : Int) (w : World) (hall : allB L = true) (hbig : L.length ≤ 1000000) (hin : ∀ j, j < L.length → (at_ L j).2.2.2.length ≤ 1000000) (hr : Rd w A c L) :
    Calls Try.prog 22 #[.slice A L.length c, .int .i64 r] w fun e w' => e = .returned (.int .i64 (ceil L r : Nat)) ∧ Below w.heap.size w w' := by
  have y1 : ((w.alloc (Obj.cells #[.slice A L.length c] 22)).alloc (Obj.cells #[.int .i64 r] 3)).cell? ⟨w.heap.size, 0, none⟩ = some (.slice A L.length c) := cell_new (by simp) _
  have x1 : ((w.alloc (Obj.cells #[.slice A L.length c] 22)).alloc (Obj.cells #[.int .i64 r] 3)).cell? ⟨w.heap.size + 1, 0, none⟩ = some (.int .i64 r) := by simp
  have b0 := below_two w (Obj.cells #[.slice A L.length c] 22) (Obj.cells #[.int .i64 r] 3)
  have HM := Lib.hid (ceil_of hall r)
  have hr0 := hr.below b0
  have HR0 := Lib.hid hr0
  have HIN := Lib.hid hin
  have B0 := Lib.hid b0
  clear hr0 hin b0
  clear hr
  go_enter Try.func22, Try.ntmps22
  go_wp2_with fail
  refine (greatestTask_any _ _ _ ceilingEnters A c L _ hbig HIN.out (ceiling_closure A c L r _ _ _ hbig HIN.out x1 y1 HR0.out) HR0.out).mono ?_
  rintro e w1 ⟨rfl, b1⟩
  have B1 := Lib.hid (below_step B0.out b1)
  clear b1
  rw [HM.out]
  go_wp2_with fail
  go_ret
  exact ⟨rfl, B1.out⟩

theorem held_closure (A : Option Addr) (c : Nat) (L : List Tsk) (Y : Nat) (w : World) (hall : allB L = true) (hbig : L.length ≤ 1000000) (hin : ∀ j, j < L.length → (at_ L j).2.2.2.length ≤ 1000000) (hY : w.cell? ⟨Y, 0, none⟩ = some (.slice A L.length c)) (hr : Rd w A c L) :
    FunInt 24 #[.pointer (some ⟨Y, 0, none⟩)] (ceil L) w := fun W x hb => by
  have y1 := cell_below hb hY
  have hr0 := hr.below hb
  show Calls Try.prog 24 #[.int .i64 x, .pointer (some ⟨Y, 0, none⟩)] W _
  clear hY hb hr
  have HR0 := Lib.hid hr0
  have HIN := Lib.hid hin
  clear hr0 hin
  go_enter Try.func24, Try.ntmps24
  go_wp2_with fail
  refine (ceiling_any A c L x _ hall hbig HIN.out HR0.out).mono ?_
  rintro e w1 ⟨rfl, b1⟩
  have B1 := Lib.hid b1
  clear b1
  go_wp2_with fail
  go_ret
  exact ⟨rfl, B1.out⟩
theorem heldEnters : ∀ args w, (callFunc 24 args).run Try.prog w = .ok (.enter 24 args) w := enters_of Try.func24 (by kernel_rfl) rfl
theorem heldC_most (L : List Tsk) (h : List Int) : most (ceil L) h = heldC L h := by
  have : ∀ k, mostTo (ceil L) h k = heldTo L h k := by
    intro k
    induction k with
    | zero => rfl
    | succ k ih => rw [mostTo, heldTo, ih]
  unfold most
  rw [this, heldTo_eq (Nat.le_refl _), List.take_length]

/-- what the calls answer, of any tasks -/
def ofZ (L : List Tsk) (i : Int) : Nat := if allB L && decide (0 ≤ i ∧ i < L.length) then lvl L i.toNat else 0
def ceilZ (L : List Tsk) (r : Int) : Nat := if allB L then ceil L r else 0
def heldZ (L : List Tsk) (h : List Int) : Nat := if allB L then heldC L h else 0

set_option maxHeartbeats 800000 in
theorem ceil_any (A : Option Addr) (c : Nat) (L : List Tsk) (r : Int) (w : World) (hbig : L.length ≤ 1000000) (hin : ∀ j, j < L.length → (at_ L j).2.2.2.length ≤ 1000000) (hr : Rd w A c L) :
    Calls Try.prog 11 #[.slice A L.length c, .int .i64 r] w fun e w' => e = .returned (.int .i64 (ceilZ L r : Nat)) ∧ Below w.heap.size w w' := by
  have HR := Lib.hid hr
  have HIN := Lib.hid hin
  clear hr hin
  cases ha : allB L with
  | false =>
    have HH : Hid (ceilZ L r = 0) := by show _ = _; simp [ceilZ, ha]
    go_enter Try.func11, Try.ntmps11
    go_wp2_with fail
    refine (all_any A c L _ hbig HIN.out HR.out).mono ?_
    rintro e w1 ⟨rfl, b1⟩
    have B1 := Lib.hid b1
    clear b1
    go_wp2_with fail
    go_ret
    exact ⟨ret_int (by rw [HH.out]; rfl), B1.out⟩
  | true =>
    have HH : Hid (ceilZ L r = ceil L r) := by show _ = _; simp [ceilZ, ha]
    have HA := Lib.hid ha
    go_enter Try.func11, Try.ntmps11
    go_wp2_with fail
    refine (all_any A c L _ hbig HIN.out HR.out).mono ?_
    rintro e w1 ⟨rfl, b1⟩
    have B1 := Lib.hid b1
    replace HR := Lib.hid (HR.out.below b1)
    clear b1
    go_wp2_with fail
    refine (ceiling_any A c L r _ HA.out hbig HIN.out HR.out).mono ?_
    rintro e w2 ⟨rfl, b2⟩
    have B2 := Lib.hid (below_step B1.out b2)
    clear b2
    go_wp2_with fail
    go_ret
    exact ⟨ret_int (by rw [HH.out]), B2.out⟩

set_option maxHeartbeats 800000 in
theorem held_any (A : Option Addr) (c : Nat) (L : List Tsk) (A2 : Option Addr) (c2 : Nat) (h : List Int) (w : World) (hbig : L.length ≤ 1000000) (hin : ∀ j, j < L.length → (at_ L j).2.2.2.length ≤ 1000000) (hr : Rd w A c L) (hbig2 : h.length ≤ 1000000) (hh : Rd w A2 c2 h) :
    Calls Try.prog 12 #[.slice A L.length c, .slice A2 h.length c2] w fun e w' => e = .returned (.int .i64 (heldZ L h : Nat)) ∧ Below w.heap.size w w' := by
  have y1 : (w.alloc (Obj.cells #[.slice A L.length c] 22)).cell? ⟨w.heap.size, 0, none⟩ = some (.slice A L.length c) := by simp
  have b0 := below_one w (Obj.cells #[.slice A L.length c] 22)
  have hr0 := hr.below b0
  have hh0 := hh.below b0
  have HR0 := Lib.hid hr0
  have HH0 := Lib.hid hh0
  have HIN := Lib.hid hin
  have B0 := Lib.hid b0
  clear hr0 hh0 hin b0
  clear hr hh
  cases ha : allB L with
  | false =>
    have HH : Hid (heldZ L h = 0) := by show _ = _; simp [heldZ, ha]
    go_enter Try.func12, Try.ntmps12
    go_wp2_with fail
    refine (all_any A c L _ hbig HIN.out HR0.out).mono ?_
    rintro e w1 ⟨rfl, b1⟩
    have B1 := Lib.hid (below_step B0.out b1)
    clear b1
    go_wp2_with fail
    go_ret
    exact ⟨ret_int (by rw [HH.out]; rfl), B1.out⟩
  | true =>
    have HH : Hid (heldZ L h = most (ceil L) h) := by show _ = _; rw [heldC_most]; simp [heldZ, ha]
    have HA := Lib.hid ha
    go_enter Try.func12, Try.ntmps12
    go_wp2_with fail
    refine (all_any A c L _ hbig HIN.out HR0.out).mono ?_
    rintro e w1 ⟨rfl, b1⟩
    replace y1 := cell_below b1 y1
    have B1 := Lib.hid (below_step B0.out b1)
    replace HR0 := Lib.hid (HR0.out.below b1)
    replace HH0 := Lib.hid (HH0.out.below b1)
    clear b1
    go_wp2_with fail
    refine (greatestInt_any _ _ _ heldEnters A2 c2 h _ hbig2 (held_closure A c L _ _ HA.out hbig HIN.out y1 HR0.out) HH0.out).mono ?_
    rintro e w2 ⟨rfl, b2⟩
    have B2 := Lib.hid (below_step B1.out b2)
    clear b2
    go_wp2_with fail
    go_ret
    exact ⟨ret_int (by rw [HH.out]), B2.out⟩

set_option maxHeartbeats 800000 in
theorem of_any (A : Option Addr) (c : Nat) (L : List Tsk) (i : Int) (w : World) (fi : Fit i) (hbig : L.length ≤ 1000000) (hin : ∀ j, j < L.length → (at_ L j).2.2.2.length ≤ 1000000) (hr : Rd w A c L) :
    Calls Try.prog 10 #[.slice A L.length c, .int .i64 i] w fun e w' => e = .returned (.int .i64 (ofZ L i : Nat)) ∧ Below w.heap.size w w' := by
  unfold Fit at fi
  have HR := Lib.hid hr
  have HIN := Lib.hid hin
  clear hr hin
  cases ha : allB L with
  | false =>
    have HH : Hid (ofZ L i = 0) := by show _ = _; simp [ofZ, ha]
    go_enter Try.func10, Try.ntmps10
    go_wp2_with fail
    refine (all_any A c L _ hbig HIN.out HR.out).mono ?_
    rintro e w1 ⟨rfl, b1⟩
    have B1 := Lib.hid b1
    clear b1
    go_wp2_with fail
    go_ret
    exact ⟨ret_int (by rw [HH.out]; rfl), B1.out⟩
  | true =>
    by_cases h1 : i < 0
    · have HH : Hid (ofZ L i = 0) := by show _ = _; simp [ofZ, ha]; omega
      go_enter Try.func10, Try.ntmps10
      go_wp2_with fail
      refine (all_any A c L _ hbig HIN.out HR.out).mono ?_
      rintro e w1 ⟨rfl, b1⟩
      have B1 := Lib.hid b1
      clear b1
      go_wp2_with fail
      go_ret
      exact ⟨ret_int (by rw [HH.out]; rfl), B1.out⟩
    · by_cases h2 : (L.length : Int) ≤ i
      · have HH : Hid (ofZ L i = 0) := by show _ = _; simp [ofZ, ha]; omega
        go_enter Try.func10, Try.ntmps10
        go_wp2_with fail
        refine (all_any A c L _ hbig HIN.out HR.out).mono ?_
        rintro e w1 ⟨rfl, b1⟩
        have B1 := Lib.hid b1
        clear b1
        go_wp2_with fail
        go_ret
        exact ⟨ret_int (by rw [HH.out]; rfl), B1.out⟩
      · obtain ⟨n, rfl⟩ : ∃ n : Nat, i = (n : Int) := ⟨i.toNat, by omega⟩
        have hn : n < L.length := by omega
        have HH : Hid (ofZ L (n : Int) = lv L (at_ L n).2.1) := by show _ = _; simp [ofZ, ha, hn]; rfl
        have HA := Lib.hid ha
        clear h1 h2 fi
        obtain ⟨b, off, rfl, hc⟩ := task_at HR.out (by omega)
        obtain ⟨B, d, x1, x2, x3, x4, _, _, _, r⟩ := hc n hn
        clear hc r x1 x3 x4
        go_enter Try.func10, Try.ntmps10
        go_wp2_with fail
        refine (all_any _ c L _ hbig HIN.out HR.out).mono ?_
        rintro e w1 ⟨rfl, b1⟩
        replace x2 := cell_below b1 x2
        have B1 := Lib.hid b1
        replace HR := Lib.hid (HR.out.below b1)
        clear b1
        go_wp2_with fail
        refine (levelAt_any _ c L _ _ hbig HIN.out HR.out).mono ?_
        rintro e w2 ⟨rfl, b2⟩
        have B2 := Lib.hid (below_step B1.out b2)
        clear b2
        go_wp2_with fail
        go_ret
        exact ⟨ret_int (by rw [HH.out]), B2.out⟩

/-- who passes -/
def passB (L : List Tsk) (i : Int) (h : List Int) : Bool := decide (heldZ L h < ofZ L i)
set_option maxHeartbeats 800000 in
theorem passes_any (A : Option Addr) (c : Nat) (L : List Tsk) (i : Int) (A2 : Option Addr) (c2 : Nat) (h : List Int) (w : World) (fi : Fit i) (hbig : L.length ≤ 1000000) (hin : ∀ j, j < L.length → (at_ L j).2.2.2.length ≤ 1000000) (hr : Rd w A c L) (hbig2 : h.length ≤ 1000000) (hh : Rd w A2 c2 h) :
    Calls Try.prog 13 #[.slice A L.length c, .int .i64 i, .slice A2 h.length c2] w fun e w' => e = .returned (.bool (passB L i h)) ∧ Below w.heap.size w w' := by
  have HR := Lib.hid hr
  have HH := Lib.hid hh
  have HIN := Lib.hid hin
  have FI := Lib.hid fi
  clear hr hh hin fi
  go_enter Try.func13, Try.ntmps13
  go_wp2_with fail
  refine (of_any A c L i _ FI.out hbig HIN.out HR.out).mono ?_
  rintro e w1 ⟨rfl, b1⟩
  have B1 := Lib.hid b1
  replace HR := Lib.hid (HR.out.below b1)
  replace HH := Lib.hid (HH.out.below b1)
  clear b1
  go_wp2_with fail
  refine (held_any A c L A2 c2 h _ hbig HIN.out HR.out hbig2 HH.out).mono ?_
  rintro e w2 ⟨rfl, b2⟩
  have B2 := Lib.hid (below_step B1.out b2)
  clear b2
  go_wp2_with fail
  go_ret
  refine ⟨ret_bool ?_, B2.out⟩
  unfold passB
  simp

end Lv
end Go.Proofs.Ytlgfbodmaocibaa
