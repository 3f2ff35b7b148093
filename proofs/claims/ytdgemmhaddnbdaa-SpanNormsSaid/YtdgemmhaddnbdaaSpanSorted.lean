/-
  Layer 4 (span): the valid spans, by their From, in new memory.
-/
import Derived.Test.YtdgemmhaddnbdaaSpanSort
namespace Go.Proofs.Ytdgemmhaddnbdaa
open Go.Shelf Go.RowKit Go.Lib Go.Sort
namespace Hp

theorem take_snoc (l : List It) (k : Nat) (h : k < l.length) : l.take (k + 1) = l.take k ++ [at_ l k] := by
  rw [List.take_succ_eq_append_getElem h]
  simp [at_, List.getD_eq_getElem?_getD, h]
theorem filter_snoc_yes (l : List It) (k : Nat) (h : k < l.length) (hv : ok (at_ l k) = true) : (l.take (k + 1)).filter ok = (l.take k).filter ok ++ [at_ l k] := by
  rw [take_snoc l k h, List.filter_append]
  simp [hv]
theorem filter_snoc_no (l : List It) (k : Nat) (h : k < l.length) (hv : ok (at_ l k) = false) : (l.take (k + 1)).filter ok = (l.take k).filter ok := by
  rw [take_snoc l k h, List.filter_append]
  simp [hv]
theorem filter_le (l : List It) (k : Nat) : ((l.take k).filter ok).length ≤ k := Nat.le_trans (List.length_filter_le _ _) (by simp; omega)

/-- in new memory: the valid spans, by their From -/
def SortedOf (w : World) (l : List It) (e : Ending) (w' : World) : Prop :=
  ∃ (A : Option Addr) (c : Nat) (m : List It), e = .returned (.slice A m.length c) ∧ m.Perm (l.filter ok) ∧ (m.Pairwise fun a b => a.1 ≤ b.1) ∧ Ow w' w.heap.size 29 A c m ∧ Below w.heap.size w w'
def SoRel (w : World) (l : List It) (k : Nat) (m : List It) (A : Option Addr) (c : Nat) (wr : World) : Prop :=
  m = (l.take k).filter ok ∧ Ow wr w.heap.size 29 A c m ∧ Below w.heap.size w wr

theorem sort_none (p : Option Addr) (cap : Nat) (fv : Value) (w : World) :
    Calls Try.prog 31 #[.slice p 0 cap, fv] w fun e w' => e = .returned (.tuple #[]) ∧ w' = w := by
  have h := AnyF.slices_SortFunc_none sortLaid p cap fv w
  exact h

set_option maxHeartbeats 1600000 in
theorem sorted_any (A : Option Addr) (c : Nat) (l : List It) (w : World) (hbig : l.length ≤ 900000) (hr : Rd w A c l) :
    Calls Try.prog 23 #[.slice A l.length c] w (SortedOf w l) := by
  have HR := Lib.hid hr
  clear hr
  go_enter Try.func23, Try.ntmps23
  go_wp2_with fail
  go_loopw [3, 8] (fun s i wr => ∃ (k : Nat) (m : List It) (B : Option Addr) (d : Nat), k ≤ l.length ∧ i = .int .i64 k ∧ s = .slice B m.length d ∧ SoRel w l k m B d wr) (fun _ i _ => l.length - (intOf i).toNat)
  case atStart => exact ⟨0, [], none, 0, Nat.zero_le _, rfl, rfl, rfl, World.ownsRow_nil _ _ _ _, Below.refl _ _⟩
  case round =>
    obtain ⟨k, m, B, d, hk, rfl, rfl, hm, ho, hb⟩ := hrel
    have HM := Lib.hid hm
    have HO := Lib.hid ho
    have HB := Lib.hid hb
    have HML : Hid (m.length ≤ k) := by show m.length ≤ k; rw [hm]; exact filter_le l k
    clear ho hb hm
    by_cases hlt : k < l.length
    · obtain ⟨b, off, rfl, hc⟩ := (HR.out.below HB.out).2 (by omega)
      obtain ⟨x1, x2⟩ := hc k hlt
      clear hc
      cases hv : ok (at_ l k) with
      | false =>
        have HF := Lib.hid (filter_snoc_no l k hlt hv)
        have HV := Lib.hid hv
        clear hv
        generalize at_ l k = x at x1 x2 HV
        go_wp2_with fail
        refine (valid_r x false HV.out _).mono ?_
        rintro e w1 ⟨rfl, b1⟩
        have b0 := below_step (below_one wr (Obj.cells #[.int .i64 x.1, .int .i64 x.2] 29)) b1
        have B1 := Lib.hid (below_step HB.out b0)
        have O1 := Lib.hid (HO.out.below b0 (Nat.le_refl _))
        clear b0 b1
        go_wp2_with fail
        go_roundw
        case rel => exact ⟨k + 1, m, B, d, by omega, by go_num, rfl, by rw [HF.out]; exact HM.out, O1.out, B1.out⟩
        case measure => simp [intOf]; omega
      | true =>
        have HF : Hid (m ++ [at_ l k] = (l.take (k + 1)).filter ok) := by show m ++ [at_ l k] = _; rw [filter_snoc_yes l k hlt hv, HM.out]
        have HV := Lib.hid hv
        clear hv
        generalize at_ l k = x at x1 x2 HV HF
        go_wp2_with fail
        have s1 : (wr.alloc (Obj.cells #[.int .i64 x.1, .int .i64 x.2] 29)).cell? ⟨wr.heap.size, 0, none⟩ = some (.int .i64 x.1) := by simp
        have s2 : (wr.alloc (Obj.cells #[.int .i64 x.1, .int .i64 x.2] 29)).cell? ⟨wr.heap.size, 1, none⟩ = some (.int .i64 x.2) := by simp
        refine (valid_r x true HV.out _).mono ?_
        rintro e w1 ⟨rfl, b1⟩
        have b0 := below_step (below_one wr (Obj.cells #[.int .i64 x.1, .int .i64 x.2] 29)) b1
        have B1 := Lib.hid (below_step HB.out b0)
        have O1 := Lib.hid (HO.out.below b0 (Nat.le_refl _))
        have z1 := cell_below b1 s1
        have z2 := cell_below b1 s2
        clear b0 b1 s1 s2 x1 x2
        generalize wr.heap.size = S at z1 z2 ⊢
        go_wp2_with (at_builtin; refine list_app_it rfl _ _ rfl (base := w.heap.size) (l := m) (r := [x]) rfl rfl (O1.out.alloc _) (rd_one (by simp) (by simp)) (by have := HML.out; simp; omega) (by have := B1.out.size; simp; omega) ?_; intro A' c' w2 k1 k2 k3)
        have B3 := Lib.hid (Below.grown (B := w.heap.size) (a := w) (B1.out.alloc B1.out.size _) k2 (by have := B1.out.size; simp; omega) (fun k hk => O1.out.row k hk))
        have O3 := Lib.hid k1
        clear k1 k2 k3
        go_roundw
        case rel => exact ⟨k + 1, m ++ [x], A', c', by omega, by go_num, by simp, HF.out, O3.out, B3.out⟩
        case measure => simp [intOf]; omega
    · have hkl : k = l.length := by omega
      subst hkl
      have HM' : Hid (m = l.filter ok) := by show m = l.filter ok; rw [HM.out, List.take_length]
      clear HM
      rcases Nat.eq_zero_or_pos m.length with h0 | h0
      · have HZ := Lib.hid (List.eq_nil_of_length_eq_zero h0)
        rw [h0]
        go_wp2_with fail
        refine (sort_none B d _ _).mono ?_
        rintro e w1 ⟨rfl, rfl⟩
        go_wp2_with fail
        go_ret
        exact ⟨B, d, m, by rw [HZ.out]; rfl, by rw [HM'.out], by rw [HZ.out]; exact .nil, HO.out, HB.out⟩
      · obtain ⟨g, rfl, hgw, _, _⟩ := HO.out.form h0
        go_wp2_with fail
        refine (sort_own w.heap.size g d m _ (by have := HML.out; omega) HO.out).mono ?_
        rintro e w1 ⟨rfl, m', p1, p2, o1, g1⟩
        have HP1 := Lib.hid p1
        have HP2 := Lib.hid p2
        have O1 := Lib.hid o1
        have B1 := Lib.hid (HB.out.grown g1 HB.out.size (fun x hx => by injection hx with hx; omega))
        clear p1 p2 o1 g1
        go_wp2_with fail
        go_ret
        exact ⟨some ⟨g, 0, none⟩, d, m', by rw [HP1.out.length_eq]; rfl, by rw [← HM'.out]; exact HP1.out, HP2.out, O1.out, B1.out⟩

end Hp
end Go.Proofs.Ytdgemmhaddnbdaa
