/-
  Layer 2, the reference of 'Sort'.
-/
import Derived.Test.YteadcjfbmckgpaaLaw02Refs
namespace Go.Proofs.Yteadcjfbmckgpaa
open Go.RowKit
namespace Hp
attribute [local go_sem ↓] Go.wp_at_zero Go.wp_at_succ

def RsOf (w : World) (l : List It) (e : Ending) (w' : World) : Prop :=
  ∃ (A : Option Addr) (c : Nat), e = .returned (.slice A l.length c) ∧ Ow w' w.heap.size 40 A c (srt l) ∧ Below w.heap.size w w'
def RsRel (w : World) (B : Option Addr) (d : Nat) (s : List It) (wr : World) : Prop :=
  Ow wr w.heap.size 40 B d s ∧ Below w.heap.size w wr

theorem Rd.front {w : World} {g d : Nat} {s : List It} (h : Rd w (some ⟨g, 0, none⟩) d s) (k : Nat) (hk : k ≤ s.length) : Rd w (some ⟨g, 0, none⟩) d (s.take k) := by
  refine ⟨fun e => (by cases e), fun h0 => ?_⟩
  have h0' : 0 < s.length := by simp at h0; omega
  obtain ⟨b, off, e, hc⟩ := h.2 h0'
  refine ⟨b, off, e, fun j hj => ?_⟩
  have hj' : j < k ∧ j < s.length := by simp at hj; omega
  have e1 : at_ (s.take k) j = at_ s j := by simp [at_, List.getD_eq_getElem?_getD, hj'.1]
  rw [e1]
  exact hc j hj'.2
theorem Rd.back {w : World} {g d : Nat} {s : List It} (h : Rd w (some ⟨g, 0, none⟩) d s) (k c : Nat) : Rd w (some ⟨g, k * 2, none⟩) c (s.drop k) := by
  refine ⟨fun e => (by cases e), fun h0 => ?_⟩
  have h0' : k < s.length := by simp at h0; omega
  obtain ⟨b, off, e, hc⟩ := h.2 (by omega)
  injection e with e
  injection e with e1 e2
  subst e1
  subst e2
  refine ⟨g, k * 2, rfl, fun j hj => ?_⟩
  have hj' : k + j < s.length := by simp at hj; omega
  have e1 : at_ (s.drop k) j = at_ s (k + j) := by simp [at_, List.getD_eq_getElem?_getD, List.getElem?_drop]
  obtain ⟨c1, c2⟩ := hc (k + j) hj'
  rw [e1]
  exact ⟨by rw [show k * 2 + j * 2 = 0 + (k + j) * 2 from by omega]; exact c1, by rw [show k * 2 + j * 2 + 1 = 0 + (k + j) * 2 + 1 from by omega]; exact c2⟩
theorem Rd.none_ {w : World} {A : Option Addr} {c : Nat} (h : A = none → c = 0) : Rd w A c [] := ⟨h, fun h => by simp at h⟩

set_option maxHeartbeats 6400000 in
theorem refSort_any (A : Option Addr) (c : Nat) (l : List It) (w : World) (hbig : l.length ≤ 900000) (hr : Rd w A c l) :
    Calls Try.prog 17 #[.slice A l.length c] w (RsOf w l) := by
  have HR := Lib.hid hr
  clear hr
  go_enter Try.func17, Try.ntmps17
  go_wp2_with fail
  go_loopw [3, 4] (fun s i wr => ∃ (n : Nat) (B : Option Addr) (d : Nat), n ≤ l.length ∧ i = .int .i64 n ∧ s = .slice B n d ∧ RsRel w B d (srt (l.take n)) wr) (fun _ i _ => l.length - (intOf i).toNat)
  case atStart => exact ⟨0, none, 0, Nat.zero_le _, rfl, rfl, World.ownsRow_nil _ _ _ _, Below.refl _ _⟩
  case round =>
    obtain ⟨n, B, d, hn, rfl, rfl, ho, hb⟩ := hrel
    have HO := Lib.hid ho
    have HB := Lib.hid hb
    clear ho hb
    by_cases hlt : n < l.length
    · obtain ⟨b, off, rfl, hc⟩ := HR.out.2 (by omega)
      obtain ⟨X1, X2⟩ := hc n hlt
      have hbw : b < w.heap.size := lt_of_cell X1
      have HX1 := Lib.hid X1
      have HX2 := Lib.hid X2
      clear hc X1 X2
      have q1 : (0 : Int) ≤ (n : Int) := by omega
      have q2 : (n : Int) < (l.length : Int) := by omega
      have HS : Hid (srt (l.take (n + 1)) = put (at_ l n) (srt (l.take n))) := srt_take l n hlt
      have HN : Hid ((srt (l.take n)).length = n) := by show List.length _ = _; rw [srt_length]; simp; omega
      generalize at_ l n = x at *
      generalize srt (l.take n) = s at *
      go_wp2_with fail
      go_loopw [5] (fun i wr => ∃ k : Nat, k ≤ n ∧ i = .int .i64 k ∧ Hid (k ≤ place x s) ∧ RsRel w B d s wr) (fun i _ => n - (intOf i).toNat)
      case atStart => exact ⟨0, Nat.zero_le _, rfl, Nat.zero_le _, HO.out, HB.out⟩
      case round =>
        clear HO HB
        obtain ⟨k, hk, rfl, HK, ho, hb⟩ := hrel
        have HO := Lib.hid ho
        have HB := Lib.hid hb
        have x1 := (hb.cell (p := ⟨b, off + n * 2, none⟩) hbw).trans HX1.out
        have x2 := (hb.cell (p := ⟨b, off + n * 2 + 1, none⟩) hbw).trans HX2.out
        have p1 : (0 : Int) ≤ (k : Int) := by omega
        have p2 : (k : Int) ≤ (n : Int) := by omega
        clear hb
        by_cases hkn : k < n
        · obtain ⟨g, rfl, hgw, hgl, hgc⟩ := ho.form (by rw [HN.out]; omega)
          obtain ⟨y1, y2⟩ := ho.cell k (by rw [HN.out]; exact hkn)
          clear ho
          have p3 : (k : Int) < (n : Int) := by omega
          have hgc' : n ≤ d := by have := HN.out; omega
          cases hl : low x (at_ s k) with
          | true =>
            have HP : Hid (place x s = k) := place_stop (by rw [HN.out]; exact hkn) HK.out hl
            have HL := Lib.hid hl
            clear hl hgc
            go_wp2_with fail
            go_still_tail 13, (by kernel_rfl)
            go_wp2_with fail
            refine (lower_any _ _ _).mono ?_
            rintro e w1 ⟨rfl, b1⟩
            have B1 := Lib.hid (HB.out.drew.trans (b1.mono HB.out.size))
            have O1 : Hid (Ow w1 w.heap.size 40 (some ⟨g, 0, none⟩) d s) := Ow.below (w := wr.drew) HO.out b1 (Nat.le_refl _)
            clear b1 x1 x2 y1 y2 HO HB
            rw [HL.out]
            have hdk : ¬ d = k := by omega
            have hd0 : (0 : Int) ≤ (d : Int) := by omega
            have hkd : (k : Int) ≤ (d : Int) := by omega
            have HTk : Hid ((s.take k).length = k) := by show List.length _ = _; have := HN.out; simp; omega
            have HTu : Hid ((s.drop k).length = n - k) := by show List.length _ = _; have := HN.out; simp; omega
            have HF : Hid (Rd w1 (some ⟨g, 0, none⟩) (d) (s.take k)) := Rd.front O1.out.rd k (by have := HN.out; omega)
            have HK2 : Hid (Rd w1 (some ⟨g, k * 2, none⟩) (d - k) (s.drop k)) := Rd.back O1.out.rd k _
            have HE : Hid (put x s = s.take k ++ x :: s.drop k) := by show put x s = _; rw [put_eq, HP.out]
            generalize s.take k = t at *
            generalize s.drop k = u at *
            clear O1 HP
            go_wp2_with (at_builtin; refine list_app_rf rfl _ _ rfl (base := w1.heap.size) (A := some ⟨w1.heap.size, 0, none⟩) (c := 0) (B := some ⟨g, 0, none⟩) (d := d) (l := []) (r := t) rfl (by rw [HTk.out]; rfl) (by exact World.ownsRow_lit w1 #[] 0 (Nat.le_refl _) (by unfold maxLen; omega) rfl) (by exact HF.out.alloc _) (by have h := HTk.out; simp only [List.length_nil]; omega) (by simp) ?_)
            intro A1 c1 w2 o2 g2 l2
            have HB2 := Lib.hid (((Below.refl w1.heap.size w1).alloc (Nat.le_refl _) _).grown g2 (by simp) (fun k hk => by simp [Value.ownBlock] at hk; omega))
            have HO2 := Lib.hid o2
            have HBw := Lib.hid (B1.out.trans (HB2.out.mono B1.out.size))
            clear o2 g2 l2
            have x1 := (HBw.out.cell (p := ⟨b, off + n * 2, none⟩) hbw).trans HX1.out
            have x2 := (HBw.out.cell (p := ⟨b, off + n * 2 + 1, none⟩) hbw).trans HX2.out
            have hbne : b ≠ w2.heap.size := by have := HBw.out.size; omega
            go_wp2_with fail
            go_region_held3 (fun w' => w'.cell? ⟨b, off + n * 2, none⟩ = some (.int .i64 x.1) ∧ w'.cell? ⟨b, off + n * 2 + 1, none⟩ = some (.int .i64 x.2))
              (first | (exact ⟨(HB6.out.cell (p := ⟨b, off + n * 2, none⟩) hbw).trans HX1.out, (HB6.out.cell (p := ⟨b, off + n * 2 + 1, none⟩) hbw).trans HX2.out⟩) | (exact ⟨(HB5.out.cell (p := ⟨b, off + n * 2, none⟩) hbw).trans HX1.out, (HB5.out.cell (p := ⟨b, off + n * 2 + 1, none⟩) hbw).trans HX2.out⟩) | go_keep)
              (first
                | (refine step_app_rf (by rfl) _ _ (by rfl) (base := w1.heap.size) (l := t) (r := [x]) (by rfl) (by rfl) (by exact Ow.alloc (w := w2.drew) HO2.out _) (by (refine rd_one ?_ ?_) <;> (go_simp; done)) (by have h := HTk.out; simp only [List.length_cons, List.length_nil]; omega) (by have := HB2.out.size; simp; omega) ?_
                   intro A2 c2 w5 o5 g5 l5
                   have HC5 := Lib.hid (Below.grown (B := w1.heap.size) (a := w1) (by exact (Below.drew HB2.out).alloc HB2.out.size _) g5 (by have := HB2.out.size; simp; omega) (fun k hk => HO2.out.row k hk))
                   have HB5 := Lib.hid (B1.out.trans (HC5.out.mono B1.out.size))
                   have HO5 := Lib.hid o5
                   have HT5 : Hid ((t ++ [x]).length = t.length + 1) := by show List.length _ = _; simp
                   clear o5 g5 l5)
                | (refine step_app_rf (by rfl) _ _ (by rfl) (base := w1.heap.size) (l := t ++ [x]) (r := u) (by rw [HT5.out]; rfl) (by rw [HTu.out]; rfl) (by exact HO5.out) (by exact HK2.out.below HC5.out) (by have := HTk.out; have := HTu.out; have := HT5.out; omega) (by exact HC5.out.size) ?_
                   intro A3 c3 w6 o6 g6 l6
                   have HC6 := Lib.hid (Below.grown (B := w1.heap.size) (a := w1) HC5.out g6 HC5.out.size (fun k hk => HO5.out.row k hk))
                   have HB6 := Lib.hid (B1.out.trans (HC6.out.mono B1.out.size))
                   have HO6 : Hid (Ow w6 w.heap.size 40 A3 c3 (put x s)) := by
                     have := o6.rebase B1.out.size
                     rw [List.append_assoc] at this
                     show Ow _ _ _ _ _ _
                     rw [HE.out]
                     exact this
                   rw [HT5.out, HTk.out, HTu.out]
                   clear o6 g6 l6))
            clear x1 x2
            go_wp2_with fail
            go_roundw
            case rel => exact ⟨n + 1, A3, c3, by omega, by go_num, by rw [show k + 1 + (n - k) = n + 1 from by omega], by rw [HS.out]; exact HO6.out, HB6.out⟩
            case measure => simp [intOf]; omega
          | false =>
            have HP : Hid (k + 1 ≤ place x s) := place_go (by rw [HN.out]; exact hkn) HK.out hl
            have HL := Lib.hid hl
            clear hl hgc
            go_wp2_with fail
            go_still_tail 13, (by kernel_rfl)
            go_wp2_with fail
            refine (lower_any _ _ _).mono ?_
            rintro e w1 ⟨rfl, b1⟩
            have B1 := Lib.hid (HB.out.drew.trans (b1.mono HB.out.size))
            have O1 : Hid (Ow w1 w.heap.size 40 (some ⟨g, 0, none⟩) d s) := Ow.below (w := wr.drew) HO.out b1 (Nat.le_refl _)
            clear b1 x1 x2 y1 y2 HO HB
            rw [HL.out]
            go_wp2_with fail
            go_roundw
            case rel => exact ⟨k + 1, by omega, by go_num, HP, O1.out, B1.out⟩
            case measure => simp [intOf]; omega
        · have hkk : k = n := by omega
          subst hkk
          have HP : Hid (place x s = k) := by
            have h1 := place_le x s
            have h2 := HK.out
            have h3 := HN.out
            show place x s = k
            omega
          rcases ho.cases with ⟨rfl, rfl, h0⟩ | ⟨g, rfl, hgw, hgl, hgc⟩
          · subst h0
            have hk0 : k = 0 := HN.out.symm
            subst hk0
            clear ho hkn
            go_wp2_with fail
            go_quiet (fail)
            have B1 : Hid (Below w.heap.size w (wr.drewN nq)) := ⟨HB.out.os, HB.out.tape, HB.out.output, HB.out.size, HB.out.block⟩
            have O1 : Hid (Ow (wr.drewN nq) w.heap.size 40 none 0 []) := HO.out
            generalize wr.drewN nq = w1 at *
            clear x1 x2 HO HB
            have HTk : Hid ((([] : List It).take 0).length = 0) := rfl
            have HTu : Hid ((([] : List It).drop 0).length = 0) := rfl
            have HF : Hid (Rd w1 (none) (0) (([] : List It).take 0)) := Rd.none_ (fun _ => rfl)
            have HK2 : Hid (Rd w1 (none) (0) (([] : List It).drop 0)) := Rd.none_ (fun _ => rfl)
            have HE : Hid (put x ([] : List It) = ([] : List It).take 0 ++ x :: ([] : List It).drop 0) := by show put x ([] : List It) = _; rw [put_eq, HP.out]
            generalize ([] : List It).take 0 = t at *
            generalize ([] : List It).drop 0 = u at *
            clear O1 HP
            go_wp2_with (at_builtin; refine list_app_rf rfl _ _ rfl (base := w1.heap.size) (A := some ⟨w1.heap.size, 0, none⟩) (c := 0) (B := none) (d := 0) (l := []) (r := t) rfl (by rw [HTk.out]; rfl) (by exact World.ownsRow_lit w1 #[] 0 (Nat.le_refl _) (by unfold maxLen; omega) rfl) (by exact HF.out.alloc _) (by have h := HTk.out; simp only [List.length_nil]; omega) (by simp) ?_)
            intro A1 c1 w2 o2 g2 l2
            have HB2 := Lib.hid (((Below.refl w1.heap.size w1).alloc (Nat.le_refl _) _).grown g2 (by simp) (fun k hk => by simp [Value.ownBlock] at hk; omega))
            have HO2 := Lib.hid o2
            have HBw := Lib.hid (B1.out.trans (HB2.out.mono B1.out.size))
            clear o2 g2 l2
            have x1 := (HBw.out.cell (p := ⟨b, off, none⟩) hbw).trans HX1.out
            have x2 := (HBw.out.cell (p := ⟨b, off + 1, none⟩) hbw).trans HX2.out
            have hbne : b ≠ w2.heap.size := by have := HBw.out.size; omega
            go_wp2_with fail
            go_region_held3 (fun w' => w'.cell? ⟨b, off, none⟩ = some (.int .i64 x.1) ∧ w'.cell? ⟨b, off + 1, none⟩ = some (.int .i64 x.2))
              (first | (exact ⟨(HB6.out.cell (p := ⟨b, off, none⟩) hbw).trans HX1.out, (HB6.out.cell (p := ⟨b, off + 1, none⟩) hbw).trans HX2.out⟩) | (exact ⟨(HB5.out.cell (p := ⟨b, off, none⟩) hbw).trans HX1.out, (HB5.out.cell (p := ⟨b, off + 1, none⟩) hbw).trans HX2.out⟩) | go_keep)
              (first
                | (refine step_app_rf (by rfl) _ _ (by rfl) (base := w1.heap.size) (l := t) (r := [x]) (by rfl) (by rfl) (by exact Ow.alloc (w := w2.drew) HO2.out _) (by (refine rd_one ?_ ?_) <;> (go_simp; done)) (by have h := HTk.out; simp only [List.length_cons, List.length_nil]; omega) (by have := HB2.out.size; simp; omega) ?_
                   intro A2 c2 w5 o5 g5 l5
                   have HC5 := Lib.hid (Below.grown (B := w1.heap.size) (a := w1) (by exact (Below.drew HB2.out).alloc HB2.out.size _) g5 (by have := HB2.out.size; simp; omega) (fun k hk => HO2.out.row k hk))
                   have HB5 := Lib.hid (B1.out.trans (HC5.out.mono B1.out.size))
                   have HO5 := Lib.hid o5
                   have HT5 : Hid ((t ++ [x]).length = t.length + 1) := by show List.length _ = _; simp
                   clear o5 g5 l5)
                | (refine step_app_rf (by rfl) _ _ (by rfl) (base := w1.heap.size) (l := t ++ [x]) (r := u) (by rw [HT5.out]; rfl) (by rw [HTu.out]; rfl) (by exact HO5.out) (by exact HK2.out.below HC5.out) (by have := HTk.out; have := HTu.out; have := HT5.out; omega) (by exact HC5.out.size) ?_
                   intro A3 c3 w6 o6 g6 l6
                   have HC6 := Lib.hid (Below.grown (B := w1.heap.size) (a := w1) HC5.out g6 HC5.out.size (fun k hk => HO5.out.row k hk))
                   have HB6 := Lib.hid (B1.out.trans (HC6.out.mono B1.out.size))
                   have HO6 : Hid (Ow w6 w.heap.size 40 A3 c3 (put x ([] : List It))) := by
                     have := o6.rebase B1.out.size
                     rw [List.append_assoc] at this
                     show Ow _ _ _ _ _ _
                     rw [HE.out]
                     exact this
                   rw [HT5.out, HTk.out, HTu.out]
                   clear o6 g6 l6))
            clear x1 x2
            go_wp2_with fail
            go_roundw
            case rel => exact ⟨0 + 1, A3, c3, by omega, by go_num, by rw [show 0 + 1 + (0) = 0 + 1 from by omega], by rw [HS.out]; exact HO6.out, HB6.out⟩
            case measure => simp [intOf]; omega
          · have hgc' : k ≤ d := by have := HN.out; omega
            clear ho hgc hkn
            go_wp2_with fail
            go_quiet (fail)
            have B1 : Hid (Below w.heap.size w (wr.drewN nq)) := ⟨HB.out.os, HB.out.tape, HB.out.output, HB.out.size, HB.out.block⟩
            have O1 : Hid (Ow (wr.drewN nq) w.heap.size 40 (some ⟨g, 0, none⟩) d s) := HO.out
            generalize wr.drewN nq = w1 at *
            clear x1 x2 HO HB
            by_cases hdk : d = k
            · have hdk2 := hdk.symm
              clear hdk
              subst hdk2
              have hd0 : (0 : Int) ≤ (k : Int) := by omega
              have hkd : (k : Int) ≤ (k : Int) := by omega
              have HTk : Hid ((s.take k).length = k) := by show List.length _ = _; have := HN.out; simp; omega
              have HTu : Hid ((s.drop k).length = 0) := by show List.length _ = _; have := HN.out; simp; omega
              have HF : Hid (Rd w1 (some ⟨g, 0, none⟩) (k) (s.take k)) := Rd.front O1.out.rd k (by have := HN.out; omega)
              have HK2 : Hid (Rd w1 (some ⟨g, 0, none⟩) (0) (s.drop k)) := by show Rd _ _ _ _; rw [List.drop_of_length_le (by have := HN.out; omega)]; exact Rd.none_ (fun h => by cases h)
              have HE : Hid (put x s = s.take k ++ x :: s.drop k) := by show put x s = _; rw [put_eq, HP.out]
              generalize s.take k = t at *
              generalize s.drop k = u at *
              clear O1 HP
              go_wp2_with (at_builtin; refine list_app_rf rfl _ _ rfl (base := w1.heap.size) (A := some ⟨w1.heap.size, 0, none⟩) (c := 0) (B := some ⟨g, 0, none⟩) (d := k) (l := []) (r := t) rfl (by rw [HTk.out]; rfl) (by exact World.ownsRow_lit w1 #[] 0 (Nat.le_refl _) (by unfold maxLen; omega) rfl) (by exact HF.out.alloc _) (by have h := HTk.out; simp only [List.length_nil]; omega) (by simp) ?_)
              intro A1 c1 w2 o2 g2 l2
              have HB2 := Lib.hid (((Below.refl w1.heap.size w1).alloc (Nat.le_refl _) _).grown g2 (by simp) (fun k hk => by simp [Value.ownBlock] at hk; omega))
              have HO2 := Lib.hid o2
              have HBw := Lib.hid (B1.out.trans (HB2.out.mono B1.out.size))
              clear o2 g2 l2
              have x1 := (HBw.out.cell (p := ⟨b, off + k * 2, none⟩) hbw).trans HX1.out
              have x2 := (HBw.out.cell (p := ⟨b, off + k * 2 + 1, none⟩) hbw).trans HX2.out
              have hbne : b ≠ w2.heap.size := by have := HBw.out.size; omega
              go_wp2_with fail
              go_region_held3 (fun w' => w'.cell? ⟨b, off + k * 2, none⟩ = some (.int .i64 x.1) ∧ w'.cell? ⟨b, off + k * 2 + 1, none⟩ = some (.int .i64 x.2))
                (first | (exact ⟨(HB6.out.cell (p := ⟨b, off + k * 2, none⟩) hbw).trans HX1.out, (HB6.out.cell (p := ⟨b, off + k * 2 + 1, none⟩) hbw).trans HX2.out⟩) | (exact ⟨(HB5.out.cell (p := ⟨b, off + k * 2, none⟩) hbw).trans HX1.out, (HB5.out.cell (p := ⟨b, off + k * 2 + 1, none⟩) hbw).trans HX2.out⟩) | go_keep)
                (first
                  | (refine step_app_rf (by rfl) _ _ (by rfl) (base := w1.heap.size) (l := t) (r := [x]) (by rfl) (by rfl) (by exact Ow.alloc (w := w2.drew) HO2.out _) (by (refine rd_one ?_ ?_) <;> (go_simp; done)) (by have h := HTk.out; simp only [List.length_cons, List.length_nil]; omega) (by have := HB2.out.size; simp; omega) ?_
                     intro A2 c2 w5 o5 g5 l5
                     have HC5 := Lib.hid (Below.grown (B := w1.heap.size) (a := w1) (by exact (Below.drew HB2.out).alloc HB2.out.size _) g5 (by have := HB2.out.size; simp; omega) (fun k hk => HO2.out.row k hk))
                     have HB5 := Lib.hid (B1.out.trans (HC5.out.mono B1.out.size))
                     have HO5 := Lib.hid o5
                     have HT5 : Hid ((t ++ [x]).length = t.length + 1) := by show List.length _ = _; simp
                     clear o5 g5 l5)
                  | (refine step_app_rf (by rfl) _ _ (by rfl) (base := w1.heap.size) (l := t ++ [x]) (r := u) (by rw [HT5.out]; rfl) (by rw [HTu.out]; rfl) (by exact HO5.out) (by exact HK2.out.below HC5.out) (by have := HTk.out; have := HTu.out; have := HT5.out; omega) (by exact HC5.out.size) ?_
                     intro A3 c3 w6 o6 g6 l6
                     have HC6 := Lib.hid (Below.grown (B := w1.heap.size) (a := w1) HC5.out g6 HC5.out.size (fun k hk => HO5.out.row k hk))
                     have HB6 := Lib.hid (B1.out.trans (HC6.out.mono B1.out.size))
                     have HO6 : Hid (Ow w6 w.heap.size 40 A3 c3 (put x s)) := by
                       have := o6.rebase B1.out.size
                       rw [List.append_assoc] at this
                       show Ow _ _ _ _ _ _
                       rw [HE.out]
                       exact this
                     rw [HT5.out, HTk.out, HTu.out]
                     clear o6 g6 l6))
              clear x1 x2
              go_wp2_with fail
              go_roundw
              case rel => exact ⟨k + 1, A3, c3, by omega, by go_num, by rw [show k + 1 + (0) = k + 1 from by omega], by rw [HS.out]; exact HO6.out, HB6.out⟩
              case measure => simp [intOf]; omega
            · have hd0 : (0 : Int) ≤ (d : Int) := by omega
              have hkd : (k : Int) ≤ (d : Int) := by omega
              have HTk : Hid ((s.take k).length = k) := by show List.length _ = _; have := HN.out; simp; omega
              have HTu : Hid ((s.drop k).length = 0) := by show List.length _ = _; have := HN.out; simp; omega
              have HF : Hid (Rd w1 (some ⟨g, 0, none⟩) (d) (s.take k)) := Rd.front O1.out.rd k (by have := HN.out; omega)
              have HK2 : Hid (Rd w1 (some ⟨g, k * 2, none⟩) (d - k) (s.drop k)) := Rd.back O1.out.rd k _
              have HE : Hid (put x s = s.take k ++ x :: s.drop k) := by show put x s = _; rw [put_eq, HP.out]
              generalize s.take k = t at *
              generalize s.drop k = u at *
              clear O1 HP
              go_wp2_with (at_builtin; refine list_app_rf rfl _ _ rfl (base := w1.heap.size) (A := some ⟨w1.heap.size, 0, none⟩) (c := 0) (B := some ⟨g, 0, none⟩) (d := d) (l := []) (r := t) rfl (by rw [HTk.out]; rfl) (by exact World.ownsRow_lit w1 #[] 0 (Nat.le_refl _) (by unfold maxLen; omega) rfl) (by exact HF.out.alloc _) (by have h := HTk.out; simp only [List.length_nil]; omega) (by simp) ?_)
              intro A1 c1 w2 o2 g2 l2
              have HB2 := Lib.hid (((Below.refl w1.heap.size w1).alloc (Nat.le_refl _) _).grown g2 (by simp) (fun k hk => by simp [Value.ownBlock] at hk; omega))
              have HO2 := Lib.hid o2
              have HBw := Lib.hid (B1.out.trans (HB2.out.mono B1.out.size))
              clear o2 g2 l2
              have x1 := (HBw.out.cell (p := ⟨b, off + k * 2, none⟩) hbw).trans HX1.out
              have x2 := (HBw.out.cell (p := ⟨b, off + k * 2 + 1, none⟩) hbw).trans HX2.out
              have hbne : b ≠ w2.heap.size := by have := HBw.out.size; omega
              go_wp2_with fail
              go_region_held3 (fun w' => w'.cell? ⟨b, off + k * 2, none⟩ = some (.int .i64 x.1) ∧ w'.cell? ⟨b, off + k * 2 + 1, none⟩ = some (.int .i64 x.2))
                (first | (exact ⟨(HB6.out.cell (p := ⟨b, off + k * 2, none⟩) hbw).trans HX1.out, (HB6.out.cell (p := ⟨b, off + k * 2 + 1, none⟩) hbw).trans HX2.out⟩) | (exact ⟨(HB5.out.cell (p := ⟨b, off + k * 2, none⟩) hbw).trans HX1.out, (HB5.out.cell (p := ⟨b, off + k * 2 + 1, none⟩) hbw).trans HX2.out⟩) | go_keep)
                (first
                  | (refine step_app_rf (by rfl) _ _ (by rfl) (base := w1.heap.size) (l := t) (r := [x]) (by rfl) (by rfl) (by exact Ow.alloc (w := w2.drew) HO2.out _) (by (refine rd_one ?_ ?_) <;> (go_simp; done)) (by have h := HTk.out; simp only [List.length_cons, List.length_nil]; omega) (by have := HB2.out.size; simp; omega) ?_
                     intro A2 c2 w5 o5 g5 l5
                     have HC5 := Lib.hid (Below.grown (B := w1.heap.size) (a := w1) (by exact (Below.drew HB2.out).alloc HB2.out.size _) g5 (by have := HB2.out.size; simp; omega) (fun k hk => HO2.out.row k hk))
                     have HB5 := Lib.hid (B1.out.trans (HC5.out.mono B1.out.size))
                     have HO5 := Lib.hid o5
                     have HT5 : Hid ((t ++ [x]).length = t.length + 1) := by show List.length _ = _; simp
                     clear o5 g5 l5)
                  | (refine step_app_rf (by rfl) _ _ (by rfl) (base := w1.heap.size) (l := t ++ [x]) (r := u) (by rw [HT5.out]; rfl) (by rw [HTu.out]; rfl) (by exact HO5.out) (by exact HK2.out.below HC5.out) (by have := HTk.out; have := HTu.out; have := HT5.out; omega) (by exact HC5.out.size) ?_
                     intro A3 c3 w6 o6 g6 l6
                     have HC6 := Lib.hid (Below.grown (B := w1.heap.size) (a := w1) HC5.out g6 HC5.out.size (fun k hk => HO5.out.row k hk))
                     have HB6 := Lib.hid (B1.out.trans (HC6.out.mono B1.out.size))
                     have HO6 : Hid (Ow w6 w.heap.size 40 A3 c3 (put x s)) := by
                       have := o6.rebase B1.out.size
                       rw [List.append_assoc] at this
                       show Ow _ _ _ _ _ _
                       rw [HE.out]
                       exact this
                     rw [HT5.out, HTk.out, HTu.out]
                     clear o6 g6 l6))
              clear x1 x2
              go_wp2_with fail
              go_roundw
              case rel => exact ⟨k + 1, A3, c3, by omega, by go_num, by rw [show k + 1 + (0) = k + 1 from by omega], by rw [HS.out]; exact HO6.out, HB6.out⟩
              case measure => simp [intOf]; omega
    · have hnl : n = l.length := by omega
      subst hnl
      go_wp2_with fail
      go_ret
      exact ⟨B, d, rfl, by have := HO.out; rw [List.take_length] at this; exact this, HB.out⟩

end Hp
end Go.Proofs.Yteadcjfbmckgpaa
