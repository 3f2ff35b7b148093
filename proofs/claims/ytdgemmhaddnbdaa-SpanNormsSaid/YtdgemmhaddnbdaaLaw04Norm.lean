/-
  Layer 4: the document's Norm: the normal spans, whoever tells them.
-/
import Derived.Test.YtdgemmhaddnbdaaLaw04Refs2
import Derived.Test.YtdgemmhaddnbdaaSpanAdd
import Derived.Test.YtdgemmhaddnbdaaLaw04Edges
import Derived.Test.YtdgemmhaddnbdaaSpanInts
import Derived.Deep.RegionHeld3
namespace Go.Proofs.Ytdgemmhaddnbdaa
open Go.RowKit Go.Sort
namespace Hp

theorem buildFrom (f : Int) (w : World) : (Instr.build 29 #[(0, .int .i64 f)]).run Try.prog w = .ok (.agg #[.int .i64 f, .int .i64 0]) w := by kernel_rfl
attribute [local go_sem ↓] buildFrom

theorem take_snoc' (l : List It) (k : Nat) (h : k < l.length) : l.take (k + 1) = l.take k ++ [at_ l k] := by
  rw [List.take_succ_eq_append_getElem h]
  simp [at_, List.getD_eq_getElem?_getD, h]
theorem mk_yes (l : List It) (k : Nat) (h : k < l.length) (hv : ok (at_ l k) = true) : mk (l.take (k + 1)) = mk (l.take k) ++ [(at_ l k).1, (at_ l k).2] := by
  rw [take_snoc' l k h, mk_append]
  simp [mk, hv]
theorem mk_no (l : List It) (k : Nat) (h : k < l.length) (hv : ok (at_ l k) = false) : mk (l.take (k + 1)) = mk (l.take k) := by
  rw [take_snoc' l k h, mk_append]
  simp [mk, hv]
theorem mk_len (l : List It) (k : Nat) : (mk (l.take k)).length ≤ 2 * k := by
  have := mk_length (l.take k)
  have h : (l.take k).length ≤ k := by simp; omega
  omega
theorem int_take (ms : List Int) (k : Nat) (h : k < ms.length) : ms.take (k + 1) = ms.take k ++ [Rn.at_ ms k] := by
  rw [List.take_succ_eq_append_getElem h]
  simp [Rn.at_, List.getD_eq_getElem?_getD, h]
theorem int_mem {ms : List Int} {k : Nat} (h : k < ms.length) : Rn.at_ ms k ∈ ms := by
  simp only [Rn.at_, List.getD_eq_getElem?_getD, List.getElem?_eq_getElem h, Option.getD_some]
  exact List.getElem_mem h
theorem rd_two {w : World} {b : Nat} {x y : Int} {c : Nat} (h1 : w.cell? ⟨b, 0, none⟩ = some (.int .i64 x)) (h2 : w.cell? ⟨b, 1, none⟩ = some (.int .i64 y)) : Rn.Rd w (some ⟨b, 0, none⟩) c [x, y] := by
  refine ⟨fun h => (by cases h), fun _ => ⟨b, 0, rfl, fun j hj => ?_⟩⟩
  have : j = 0 ∨ j = 1 := by have : j < 2 := by simpa using hj
                             omega
  rcases this with rfl | rfl
  · simpa [Rn.at_] using h1
  · simpa [Rn.at_] using h2

theorem edge_is (A : Option Addr) (c : Nat) (l : List It) (t : Int) (r : Bool) (w : World) (hbig : l.length ≤ 1000000) (h0 : 0 ≤ t) (h1 : t ≤ 4611686018427387903) (hE : E l t = r) (hr : Rd w A c l) :
    Calls Try.prog 25 #[.slice A l.length c, .int .i64 t] w fun e w' => e = .returned (.bool r) ∧ Below w.heap.size w w' := by
  subst hE
  exact edge_any A c l t w hbig h0 h1 hr
theorem refIn_is (A : Option Addr) (c : Nat) (l : List It) (t : Int) (r : Bool) (w : World) (hbig : l.length ≤ 1000000) (hE : inn l t = r) (hr : Rd w A c l) :
    Calls Try.prog 16 #[.slice A l.length c, .int .i64 t] w fun e w' => e = .returned (.bool r) ∧ Below w.heap.size w w' := by
  subst hE
  exact refIn_any A c l t w hbig hr

/-- the spans told, in new memory -/
def RefNormOf (w : World) (n : List It) (e : Ending) (w' : World) : Prop :=
  ∃ (A : Option Addr) (c : Nat), e = .returned (.slice A n.length c) ∧ Rd w' A c n ∧ Below w.heap.size w w'
def MkRel (w : World) (l : List It) (k : Nat) (ms : List Int) (A : Option Addr) (c : Nat) (wr : World) : Prop :=
  ms = mk (l.take k) ∧ Rn.Ow wr w.heap.size A c ms ∧ Below w.heap.size w wr
/-- out, so far -/
def NoRel (w : World) (n o : List It) (a : Int) (gg : Nat) (A : Option Addr) (c : Nat) (wr : World) : Prop :=
  St n o a gg ∧ Ow wr w.heap.size 29 A c o ∧ Below w.heap.size w wr

set_option maxHeartbeats 3200000 in
theorem refNorm_any (A : Option Addr) (c : Nat) (l n : List It) (w : World) (hbig : l.length ≤ 1000) (hnl : n.length ≤ 1000) (hn : Nm n) (he : Eqv n l) (hr : Rd w A c l) :
    Calls Try.prog 14 #[.slice A l.length c] w (RefNormOf w n) := by
  have HR := Lib.hid hr
  have HN := Lib.hid hn
  have HE := Lib.hid he
  clear hr hn he
  go_enter Try.func14, Try.ntmps14
  go_wp2_with fail
  go_loopw [3, 4] (fun s i wr => ∃ (k : Nat) (ms : List Int) (B : Option Addr) (d : Nat), k ≤ l.length ∧ i = .int .i64 k ∧ s = .slice B ms.length d ∧ MkRel w l k ms B d wr) (fun _ i _ => l.length - (intOf i).toNat)
  case atStart => exact ⟨0, [], none, 0, Nat.zero_le _, rfl, rfl, rfl, World.ownsRow_nil _ _ _ _, Below.refl _ _⟩
  case round =>
    obtain ⟨k, ms, B, d, hk, rfl, rfl, hms, ho, hb⟩ := hrel
    have HM := Lib.hid hms
    have HO := Lib.hid ho
    have HB := Lib.hid hb
    have HML : Hid (ms.length ≤ 2 * k) := by show ms.length ≤ 2 * k; rw [hms]; exact mk_len l k
    clear hms ho hb
    by_cases hlt : k < l.length
    · obtain ⟨b, off, rfl, hc⟩ := HR.out.2 (by omega)
      obtain ⟨X1, X2⟩ := hc k hlt
      have x1 := cell_below HB.out X1
      have x2 := cell_below HB.out X2
      have HX1 := Lib.hid X1
      have HX2 := Lib.hid X2
      clear hc X1 X2
      cases hv : ok (at_ l k) with
      | false =>
        have HF := Lib.hid (mk_no l k hlt hv)
        have HV := Lib.hid hv
        clear hv
        generalize at_ l k = x at x1 x2 HV HX1 HX2
        go_wp2_with fail
        refine (may_any x _).mono ?_
        rintro e w1 ⟨rfl, b1⟩
        have B1 := Lib.hid (below_step HB.out b1)
        have O1 := Lib.hid (HO.out.below b1 (Nat.le_refl _))
        clear b1
        rw [HV.out]
        go_wp2_with fail
        go_roundw
        case rel => exact ⟨k + 1, ms, B, d, by omega, by go_num, rfl, by rw [HF.out]; exact HM.out, O1.out, B1.out⟩
        case measure => simp [intOf]; omega
      | true =>
        have HF : Hid (ms ++ [(at_ l k).1, (at_ l k).2] = mk (l.take (k + 1))) := by show ms ++ _ = _; rw [mk_yes l k hlt hv, HM.out]
        have HV := Lib.hid hv
        clear hv
        generalize at_ l k = x at x1 x2 HV HF HX1 HX2
        go_wp2_with fail
        refine (may_any x _).mono ?_
        rintro e w1 ⟨rfl, b1⟩
        have B1 := Lib.hid (below_step HB.out b1)
        have O1 := Lib.hid (HO.out.below b1 (Nat.le_refl _))
        have y1 := cell_below b1 x1
        have y2 := cell_below b1 x2
        have hbw : b < w1.heap.size := lt_of_cell y1
        clear b1 x1 x2
        rw [HV.out]
        go_wp2_with fail
        go_region_held3 (fun w' => w'.cell? ⟨b, off + k * 2, none⟩ = some (.int .i64 x.1) ∧ w'.cell? ⟨b, off + k * 2 + 1, none⟩ = some (.int .i64 x.2))
          (first
            | (exact ⟨cell_below HB3.out HX1.out, cell_below HB3.out HX2.out⟩)
            | (exact ⟨cell_new y1 _, cell_new y2 _⟩)
            | (exact ⟨y1, y2⟩))
          (first
            | (refine Rn.step_app (by rfl) _ _ (by rfl) (base := w.heap.size) (l := ms) (r := [x.1, x.2]) (by rfl) (by rfl) (by exact Rn.Ow.alloc (w := w1.drew) O1.out _) (by (refine rd_two ?_ ?_) <;> (go_simp; done)) (by have := HML.out; simp; omega) (by have := B1.out.size; simp; omega) ?_
               intro A' c' w2 k1 k2 k3
               have HB3 := Lib.hid (Below.grown (B := w.heap.size) (a := w) (by exact (Below.drew B1.out).alloc B1.out.size _) k2 (by have := B1.out.size; simp; omega) (fun k hk => O1.out.row k hk))
               have HO3 := Lib.hid k1
               clear k1 k2 k3))
        go_wp2_with fail
        go_roundw
        case rel => exact ⟨k + 1, ms ++ [x.1, x.2], A', c', by omega, by go_num, by simp, HF.out, HO3.out, HB3.out⟩
        case measure => simp [intOf]; omega
    · have hkl : k = l.length := by omega
      subst hkl
      have HM' : Hid (ms = mk l) := by show ms = mk l; rw [HM.out, List.take_length]
      have RM := Lib.hid HO.out.rd
      have B0 := HB
      clear HM HO HB
      have HMb : Hid (∀ m ∈ ms, 0 ≤ m ∧ m ≤ 4611686018427387903) := fun m hm => mk_bound (by rw [← HM'.out]; exact hm)
      have hml : ms.length ≤ 2000 := by have := HML.out; omega
      clear HML
      generalize hw1 : wr = w1 at *
      clear hw1
      go_wp2_with fail
      go_loopg [5, 6] (2 * n.length) (fun gg s at' wr => ∃ (o : List It) (a : Int) (A1 : Option Addr) (c1 G : Nat), s = .slice A1 o.length c1 ∧ at' = .int .i64 a ∧ G ≤ gg ∧ NoRel w1 n o a G A1 c1 wr)
      case atStart => exact ⟨[], -1, none, 0, _, rfl, rfl, Nat.le_refl _, St.start HN.out, World.ownsRow_nil _ _ _ _, Below.refl _ _⟩
      case round =>
        obtain ⟨o, a, A1, c1, G, rfl, rfl, hG, hst, ho, hb⟩ := hrel
        have HS := Lib.hid hst
        have HO := Lib.hid ho
        have HB := Lib.hid hb
        clear hst ho hb
        go_wp2_with fail
        generalize hw2 : wr = w2 at *
        clear hw2
        go_loopw [7, 8] (fun nx i w3 => ∃ (j : Nat) (r : Int), j ≤ ms.length ∧ i = .int .i64 j ∧ nx = .int .i64 r ∧ Hid (Best l (ms.take j) a r) ∧ Hid (Below w2.heap.size w2 w3)) (fun _ i _ => ms.length - (intOf i).toNat)
        case atStart => exact ⟨0, -1, Nat.zero_le _, rfl, rfl, Best.start l a, Below.refl _ _⟩
        case round =>
          obtain ⟨j, r, hj, rfl, rfl, HBest, HC⟩ := hrel
          have BW := Lib.hid (below_step (below_step B0.out HB.out) HC.out)
          by_cases hlt2 : j < ms.length
          · obtain ⟨mb, moff, rfl, hc⟩ := ((RM.out.below HB.out).below HC.out).2 (by omega)
            have x1 := hc j hlt2
            have HI := Lib.hid (int_take ms j hlt2)
            obtain ⟨hm0, hm1⟩ := HMb.out _ (int_mem hlt2)
            clear hc
            generalize Rn.at_ ms j = m at x1 HI hm0 hm1
            by_cases ham : a < m
            · by_cases hr0 : r < 0
              · have HTk : Hid (r < 0 ∨ m < r) := .inl hr0
                cases hE : E l m with
                | true =>
                  have HEd := Lib.hid hE
                  clear hE
                  go_wp2_with fail
                  refine (edge_is A c l m true _ (by omega) hm0 hm1 HEd.out (HR.out.below BW.out)).mono ?_
                  rintro e w3 ⟨rfl, b3⟩
                  have C3 := Lib.hid (below_step HC.out b3)
                  have u1 := cell_below b3 x1
                  clear b3
                  go_wp2_with fail
                  go_roundw
                  case rel => exact ⟨j + 1, m, by omega, by go_num, rfl, by rw [HI.out]; exact HBest.out.take hm0 ham HEd.out HTk.out, C3⟩
                  case measure => simp [intOf]; omega
                | false =>
                  have HEd := Lib.hid hE
                  clear hE
                  go_wp2_with fail
                  refine (edge_is A c l m false _ (by omega) hm0 hm1 HEd.out (HR.out.below BW.out)).mono ?_
                  rintro e w3 ⟨rfl, b3⟩
                  have C3 := Lib.hid (below_step HC.out b3)
                  have u1 := cell_below b3 x1
                  clear b3
                  go_wp2_with fail
                  go_roundw
                  case rel => exact ⟨j + 1, r, by omega, by go_num, rfl, by rw [HI.out]; exact HBest.out.skip (.inr (.inl HEd.out)), C3⟩
                  case measure => simp [intOf]; omega
              · by_cases hmr : m < r
                · have HTk : Hid (r < 0 ∨ m < r) := .inr hmr
                  cases hE : E l m with
                  | true =>
                    have HEd := Lib.hid hE
                    clear hE
                    go_wp2_with fail
                    refine (edge_is A c l m true _ (by omega) hm0 hm1 HEd.out (HR.out.below BW.out)).mono ?_
                    rintro e w3 ⟨rfl, b3⟩
                    have C3 := Lib.hid (below_step HC.out b3)
                    have u1 := cell_below b3 x1
                    clear b3
                    go_wp2_with fail
                    go_roundw
                    case rel => exact ⟨j + 1, m, by omega, by go_num, rfl, by rw [HI.out]; exact HBest.out.take hm0 ham HEd.out HTk.out, C3⟩
                    case measure => simp [intOf]; omega
                  | false =>
                    have HEd := Lib.hid hE
                    clear hE
                    go_wp2_with fail
                    refine (edge_is A c l m false _ (by omega) hm0 hm1 HEd.out (HR.out.below BW.out)).mono ?_
                    rintro e w3 ⟨rfl, b3⟩
                    have C3 := Lib.hid (below_step HC.out b3)
                    have u1 := cell_below b3 x1
                    clear b3
                    go_wp2_with fail
                    go_roundw
                    case rel => exact ⟨j + 1, r, by omega, by go_num, rfl, by rw [HI.out]; exact HBest.out.skip (.inr (.inl HEd.out)), C3⟩
                    case measure => simp [intOf]; omega
                · have HSk : Hid (¬ a < m ∨ E l m = false ∨ (0 ≤ r ∧ r ≤ m)) := .inr (.inr ⟨by omega, by omega⟩)
                  go_wp2_with fail
                  go_roundw
                  case rel => exact ⟨j + 1, r, by omega, by go_num, rfl, by rw [HI.out]; exact HBest.out.skip HSk.out, HC⟩
                  case measure => simp [intOf]; omega
            · have HSk : Hid (¬ a < m ∨ E l m = false ∨ (0 ≤ r ∧ r ≤ m)) := .inl ham
              go_wp2_with fail
              go_roundw
              case rel => exact ⟨j + 1, r, by omega, by go_num, rfl, by rw [HI.out]; exact HBest.out.skip HSk.out, HC⟩
              case measure => simp [intOf]; omega
          · have hjl : j = ms.length := by omega
            subst hjl
            have hbest := HBest.out
            rw [List.take_length] at hbest
            have hbest' : Best l (mk l) a r := by rw [← HM'.out]; exact hbest
            have hnext := HS.out.next HN.out HE.out hbest'
            have hol := HS.out.len
            have O3 := Lib.hid (HO.out.below HC.out (Nat.le_refl _))
            have C3 := Lib.hid (below_step HB.out HC.out)
            clear hbest hbest' HBest
            rcases hnext with ⟨rfl, hon⟩ | ⟨h0, hin, hgg, hst⟩ | ⟨h0, hin, hgg, hol0, hst⟩
            · have HON := Lib.hid hon
              clear hon
              go_wp2_with fail
              go_ret
              exact ⟨A1, c1, by rw [← HON.out]; rfl, by rw [← HON.out]; exact O3.out.rd, BW.out⟩
            · have HIn := Lib.hid hin
              have HSt := Lib.hid hst
              clear hin hst
              go_wp2_with fail
              refine (refIn_is A c l r true _ (by omega) HIn.out (HR.out.below BW.out)).mono ?_
              rintro e w4 ⟨rfl, b4⟩
              have O4 := Lib.hid (O3.out.below b4 (Nat.le_refl _))
              have C4 := Lib.hid (below_step C3.out b4)
              clear b4
              go_wp2_with (at_builtin; refine list_app_it rfl _ _ rfl (base := w1.heap.size) (l := o) (r := [(r, 0)]) rfl rfl (O4.out.alloc _) (rd_one (by simp) (by simp)) (by simp; omega) (by have := C4.out.size; simp; omega) ?_; intro A' c' w5 k1 k2 k3)
              have C5 := Lib.hid (Below.grown (B := w1.heap.size) (a := w1) (C4.out.alloc C4.out.size _) k2 (by have := C4.out.size; simp; omega) (fun k hk => O4.out.row k hk))
              have O5 := Lib.hid k1
              clear k1 k2 k3
              go_roundg (G - 1)
              case measure => omega
              case rel => exact ⟨o ++ [(r, 0)], r, A', c', G - 1, by simp, rfl, Nat.le_refl _, HSt.out, O5.out, C5.out⟩
            · have HIn := Lib.hid hin
              have HSt := Lib.hid hst
              clear hin hst
              obtain ⟨g, rfl, hgX, hglt, _⟩ := O3.out.form hol0
              go_wp2_with fail
              refine (refIn_is A c l r false _ (by omega) HIn.out (HR.out.below BW.out)).mono ?_
              rintro e w4 ⟨rfl, b4⟩
              have O4 := Lib.hid (O3.out.below b4 (Nat.le_refl _))
              have C4 := Lib.hid (below_step C3.out b4)
              clear b4
              have y2 := (O4.out.cell (o.length - 1) (by omega)).2
              have fy := World.ownsRow.frozenAt O4.out ((o.length - 1) * 2 + 1)
              have HP := Lib.hid (O4.out.put2 (o.length - 1) (by omega) r)
              have q1 : (0 : Int) ≤ (o.length : Int) - 1 := by omega
              have q2 : (o.length : Int) - 1 < (o.length : Int) := by omega
              have q3 : ((o.length : Int) - 1).toNat = o.length - 1 := by omega
              generalize at_ o (o.length - 1) = y at y2 HP HSt
              go_wp2_with fail
              go_roundg (G - 1)
              case measure => omega
              case rel => exact ⟨_, r, some ⟨g, 0, none⟩, c1, G - 1, by rw [List.length_set], rfl, Nat.le_refl _, HSt.out, HP.out.1, C4.out.grown HP.out.2 C4.out.size (fun k hk => by injection hk with hk; omega)⟩

end Hp
end Go.Proofs.Ytdgemmhaddnbdaa
