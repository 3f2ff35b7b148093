/-
  Layer 3 (ring): Pop of a message, List.
-/
import Derived.Test.YtilabonjjiiabaaRingPop
namespace Go.Proofs.Ytilabonjjiiabaa
open Go.RowKit
namespace Rn
attribute [local go_sem ↓] Go.wp_at_zero Go.wp_at_succ
attribute [local go_sem ↓] build_ring build_some build_none build_ref build_refSome

/-- the first message, and the ring without it -/
def PopOf (w : World) (A : Option Addr) (c : Nat) (b : List Int) (f m : Nat) (e : Ending) (w' : World) : Prop :=
  ∃ p : Nat, p = (f + 1) % b.length ∧ e = .returned (.tuple #[.int .i64 (at_ b f), .agg #[.slice A b.length c, .int .i64 (p : Int), .int .i64 (m : Int)], .int .i64 0]) ∧ Below w.heap.size w w'

set_option maxHeartbeats 1600000 in
theorem pop_some (A : Option Addr) (c : Nat) (b : List Int) (f m : Nat) (M : Int) (w : World) (hbig : b.length ≤ 100000) (hf : f < b.length) (hm : m < b.length) (hM : M = (m : Int) + 1) (hr : Rd w A c b) :
    Calls Try.prog 19 #[.agg #[.slice A b.length c, .int .i64 (f : Int), .int .i64 M]] w (PopOf w A c b f m) := by
  have H : Hid (rightB b.length (f : Int) M = true) := by
    have := rightB_of (n := b.length) (F := f) (M := m + 1) hf (by omega)
    rw [show ((m + 1 : Nat) : Int) = M from by omega] at this
    exact this
  have T0 := Lib.hid (two_new w A b.length c (f : Int) M)
  have hne : (M == 0) = false := beq_eq_false_iff_ne.2 (by omega)
  have hf0 : (0 : Int) ≤ (f : Int) := by omega
  have hf1 : (f : Int) < (b.length : Int) := by omega
  obtain ⟨B, off, rfl, hc⟩ := hr.2 (by omega)
  have hbw := lt_of_cell (hc f hf)
  have HC := Lib.hid (hc f hf)
  have HM := Lib.hid hM
  clear hr hc hM
  go_enter Try.func19, Try.ntmps19
  go_wp2_with fail
  generalize ((w.alloc (.cells #[.slice (some ⟨B, off, none⟩) b.length c, .int .i64 (f : Int), .int .i64 M] 24)).alloc (.cells #[.slice none 0 0, .int .i64 0, .int .i64 0] 24)) = w0 at *
  refine (right_any (some ⟨B, off, none⟩) b.length c (f : Int) M _).mono ?_
  rintro e w1 ⟨rfl, b1⟩
  rw [H.out]
  have T1 := Lib.hid (T0.out.step b1)
  obtain ⟨⟨x0, x1, x2⟩, _, _, _, HBw, _⟩ := T1.out
  have x3 := cell_below HBw HC.out
  clear b1 HBw
  go_wp2_with fail
  go_region_held3 (fun w' => w'.cell? ⟨w.heap.size, 0, none⟩ = some (.slice (some ⟨B, off, none⟩) b.length c) ∧ w'.cell? ⟨w.heap.size, 1, none⟩ = some (.int .i64 (f : Int)) ∧ w'.cell? ⟨w.heap.size, 2, none⟩ = some (.int .i64 M) ∧ w'.cell? ⟨B, off + f, none⟩ = some (.int .i64 (at_ b f)) ∧ Hid (Below w.heap.size w w'))
    (first
      | (exact ⟨cell_far (cell_far (cell_far z0 (by simp) _) (by simp) _) (by simp) _, cell_far (cell_far (cell_far z1 (by simp) _) (by simp) _) (by simp) _, cell_far (cell_far (cell_far z2 (by simp) _) (by simp) _) (by simp) _, cell_far (cell_far (cell_far z3 (by simp; omega) _) (by simp; omega) _) (by simp; omega) _, T2.out.out _ _ _⟩)
      | (exact ⟨z0, z1, z2, z3, T2.out.2.2.2.2.1⟩)
      | (exact ⟨x0, x1, x2, x3, T1.out.2.2.2.2.1.drew⟩))
    (first
      | (go_at_call 25; refine (less_any (some ⟨B, off, none⟩) b.length c f m _ _ (by omega) hf hm HM.out).mono ?_; rintro e w2 ⟨p, rfl, hp, b2⟩
         have HPl := Lib.hid hp
         have T2 := Lib.hid (T1.out.step ((Below.refl _ w1).drew.trans b2))
         obtain ⟨⟨z0, z1, z2⟩, ⟨y0, y1, y2⟩, ⟨f0, f1, f2⟩, _, HBw, _⟩ := T2.out
         have z3 := cell_below HBw HC.out
         clear hp b2 HBw))
  go_split_ands
  go_wp2_with fail
  refine bodyPost_ret (v := .tuple #[.int .i64 (at_ b f), .agg #[.slice (some ⟨B, off, none⟩) b.length c, .int .i64 (p : Int), .int .i64 (m : Int)], .int .i64 0]) (by simp [results, Try.results19, go_sem, y0, y1, y2]) rfl ?_
  exact ⟨p, HPl.out, rfl, T2.out.out _ _ _⟩

theorem list_no (A : Option Addr) (n c : Nat) (f m : Int) (w : World) (h : rightB n f m = false) :
    Calls Try.prog 12 #[.agg #[.slice A n c, .int .i64 f, .int .i64 m]] w fun e w' => e = .returned (.slice none 0 0) ∧ Below w.heap.size w w' := by
  have H := Lib.hid h
  have B0 : Hid (Below w.heap.size w (w.alloc (.cells #[.slice A n c, .int .i64 f, .int .i64 m] 24))) := below_one _ _
  clear h
  go_enter Try.func12, Try.ntmps12
  go_wp2_with fail
  refine (right_any A n c f m _).mono ?_
  rintro e w1 ⟨rfl, b1⟩
  rw [H.out]
  have B1 := Lib.hid (below_step B0.out b1)
  clear b1
  go_wp2_with fail
  go_ret
  exact ⟨rfl, B1.out⟩

/-- the messages, in new memory -/
def ListOf (w : World) (l : List Int) (e : Ending) (w' : World) : Prop :=
  ∃ (A : Option Addr) (c : Nat), e = .returned (.slice A l.length c) ∧ Ow w' w.heap.size A c l ∧ Below w.heap.size w w'
/-- the loop: the first k messages are there -/
def ListRel (w : World) (g : Nat) (A : Option Addr) (c : Nat) (b : List Int) (f m k : Nat) (l : List Int) (wr : World) : Prop :=
  k ≤ m ∧ l.length = m ∧ (∀ j, j < k → at_ l j = at_ (msgs b f m) j) ∧ Ow wr (w.heap.size + 1) (some ⟨g, 0, none⟩) m l ∧ Below w.heap.size w wr ∧
    wr.cell? ⟨w.heap.size, 0, none⟩ = some (.slice A b.length c) ∧ wr.cell? ⟨w.heap.size, 1, none⟩ = some (.int .i64 (f : Int)) ∧ wr.cell? ⟨w.heap.size, 2, none⟩ = some (.int .i64 (m : Int))

set_option maxHeartbeats 3200000 in
theorem list_some (A : Option Addr) (c : Nat) (b : List Int) (f m : Nat) (w : World) (hbig : b.length ≤ 100000) (hf : f < b.length) (hm : m ≤ b.length) (hr : Rd w A c b) :
    Calls Try.prog 12 #[.agg #[.slice A b.length c, .int .i64 (f : Int), .int .i64 (m : Int)]] w (ListOf w (msgs b f m)) := by
  have H := Lib.hid (rightB_of hf hm)
  have B0 : Hid (Below w.heap.size w (w.alloc (.cells #[.slice A b.length c, .int .i64 (f : Int), .int .i64 (m : Int)] 24))) := below_one _ _
  have Z0 : Hid ((w.alloc (.cells #[.slice A b.length c, .int .i64 (f : Int), .int .i64 (m : Int)] 24)).heap.size = w.heap.size + 1) := by show _ = _; simp
  have x0 : (w.alloc (.cells #[.slice A b.length c, .int .i64 (f : Int), .int .i64 (m : Int)] 24)).cell? ⟨w.heap.size, 0, none⟩ = some (.slice A b.length c) := by go_simp
  have x1 : (w.alloc (.cells #[.slice A b.length c, .int .i64 (f : Int), .int .i64 (m : Int)] 24)).cell? ⟨w.heap.size, 1, none⟩ = some (.int .i64 (f : Int)) := by go_simp
  have x2 : (w.alloc (.cells #[.slice A b.length c, .int .i64 (f : Int), .int .i64 (m : Int)] 24)).cell? ⟨w.heap.size, 2, none⟩ = some (.int .i64 (m : Int)) := by go_simp
  have hm0 : (0 : Int) ≤ (m : Int) := by omega
  obtain ⟨B, off, rfl, hc⟩ := hr.2 (by omega)
  have hbw := lt_of_cell (hc f hf)
  have HC := Lib.hid hc
  clear hr hc
  go_enter Try.func12, Try.ntmps12
  go_wp2_with fail
  generalize (w.alloc (.cells #[.slice (some ⟨B, off, none⟩) b.length c, .int .i64 (f : Int), .int .i64 (m : Int)] 24)) = w0 at *
  refine (right_any (some ⟨B, off, none⟩) b.length c (f : Int) (m : Int) _).mono ?_
  rintro e w1 ⟨rfl, b1⟩
  rw [H.out]
  have X0 := cell_below b1 x0
  have X1 := cell_below b1 x1
  have X2 := cell_below b1 x2
  have B1 := Lib.hid (below_step B0.out b1)
  have Z1 : Hid (w.heap.size + 1 ≤ w1.heap.size) := by show _ ≤ _; rw [← Z0.out]; exact b1.size
  clear b1 x0 x1 x2
  go_wp2_with (at_make; refine list_mk rfl _ _ rfl (base := w.heap.size + 1) m rfl rfl (by omega) (by exact Z1.out) ?_)
  intro w2 k1 k2
  have b2 : Below w1.heap.size w1 w2 := (Below.refl _ _).grown k2 (Nat.le_refl _) (fun k hk => by cases hk)
  have O2 := Lib.hid k1
  have x0 := cell_below b2 X0
  have x1 := cell_below b2 X1
  have x2 := cell_below b2 X2
  have B2 := Lib.hid (below_step B1.out b2)
  clear b2 k1 k2 X0 X1 X2
  generalize hg : w1.heap.size = g at *
  go_wp2_with fail
  go_loopw [13] (fun i wr => ∃ (k : Nat) (l : List Int), i = .int .i64 (k : Int) ∧ ListRel w g (some ⟨B, off, none⟩) c b f m k l wr) (fun i _ => m - (intOf i).toNat)
  case atStart => exact ⟨0, zeros m, rfl, Nat.zero_le _, zeros_length m, fun j hj => by omega, O2.out, B2.out, x0, x1, x2⟩
  case round =>
    obtain ⟨k, l, rfl, hk, hl, hall, ho, hb, X0, X1, X2⟩ := hrel
    have HL := Lib.hid hl
    have HA := Lib.hid hall
    have HO := Lib.hid ho
    have HB := Lib.hid hb
    clear hl hall ho hb x0 x1 x2 O2
    by_cases hlt : k < m
    · have q0 : (0 : Int) ≤ (k : Int) := by omega
      have q1 : (k : Int) < (m : Int) := by omega
      have q2 : IntKind.i64.wrap ((k : Int) + 1) = (k : Int) + 1 := IntWalk.i64_in _ (by omega)
      have HP : ∃ p, Hid (p = (f + k) % b.length) := ⟨_, rfl⟩
      obtain ⟨P, HP⟩ := HP
      have hPn : P < b.length := by rw [HP.out]; exact place_lt _ (by omega)
      have q3 : (0 : Int) ≤ (P : Int) := by omega
      have q4 : (P : Int) < (b.length : Int) := by omega
      have X3 := cell_below HB.out (HC.out P hPn)
      have hg1 : w.heap.size + 1 ≤ g := Z1.out
      have hgl : g < wr.heap.size := HO.out.new g rfl
      have g1 := HO.out.cell k (by rw [HL.out]; exact hlt)
      have g2 := World.ownsRow.frozenAt HO.out k
      have n0 : w.heap.size ≠ g := by omega
      have n3 : B ≠ g := by have hbw' : B < w.heap.size := hbw; omega
      go_wp2_with fail
      go_region_held3 (fun w' => w'.cell? ⟨w.heap.size, 0, none⟩ = some (.slice (some ⟨B, off, none⟩) b.length c) ∧ w'.cell? ⟨w.heap.size, 1, none⟩ = some (.int .i64 (f : Int)) ∧ w'.cell? ⟨w.heap.size, 2, none⟩ = some (.int .i64 (m : Int)) ∧ w'.cell? ⟨B, off + P, none⟩ = some (.int .i64 (at_ b P)))
        (first
          | (exact ⟨cell_far z0 n0 _, cell_far z1 n0 _, cell_far z2 n0 _, cell_far z3 n3 _⟩)
          | (exact ⟨z0, z1, z2, z3⟩)
          | (exact ⟨X0, X1, X2, X3⟩))
        (first
          | (go_at_call 22; refine (place_any (some ⟨B, off, none⟩) b.length c f k _ _ _ (by omega) hf (by omega) rfl).mono ?_; rintro e w3 ⟨p, rfl, hp, b3⟩
             have hpP : p = P := hp.trans HP.out.symm
             subst hpP
             have b3' : Below wr.heap.size wr w3 := (Below.refl _ wr).drew.trans b3
             have z0 := cell_below b3' X0
             have z1 := cell_below b3' X1
             have z2 := cell_below b3' X2
             have z3 := cell_below b3' X3
             have e1 := cell_below b3' g1
             have e2 := frozen_below b3' g1 g2
             have HB3 := Lib.hid (below_step HB.out b3')
             have HO3 := Lib.hid (HO.out.below b3' (Nat.le_refl _))
             clear hp b3 b3'))
      go_split_ands
      have HB4 : Hid (Below w.heap.size w (w3.setCell ⟨g, k, none⟩ (.int .i64 (at_ b p)))) := HB3.out.setCell (by show w.heap.size ≤ g; omega) _
      have HO4 := Lib.hid (HO3.out.put k (at_ b p)).1
      have HL4 : Hid ((l.set k (at_ b p)).length = m) := by show List.length _ = _; rw [List.length_set]; exact HL.out
      have HA4 : Hid (∀ j, j < k + 1 → at_ (l.set k (at_ b p)) j = at_ (msgs b f m) j) := by
        intro j hj
        rw [at_set _ _ _ _ (by rw [HL.out]; exact hlt)]
        split
        · rename_i e
          rw [e, msgs_at _ _ _ _ hlt, HP.out]
        · exact HA.out j (by omega)
      have W0 := cell_far (p := ⟨g, k, none⟩) z0 n0 (.int .i64 (at_ b p))
      have W1 := cell_far (p := ⟨g, k, none⟩) z1 n0 (.int .i64 (at_ b p))
      have W2 := cell_far (p := ⟨g, k, none⟩) z2 n0 (.int .i64 (at_ b p))
      clear z0 z1 z2 z3 e1 e2 HO3 HB3 X0 X1 X2 X3 g1 g2
      generalize l.set k (at_ b p) = l' at *
      generalize w3.setCell ⟨g, k, none⟩ (.int .i64 (at_ b p)) = w4 at *
      go_wp2_with fail
      go_roundw
      case rel => exact ⟨k + 1, l', by go_num, by omega, HL4.out, HA4.out, HO4.out, HB4.out, W0, W1, W2⟩
      case measure => simp [intOf]; omega
    · have hkm : k = m := by omega
      subst hkm
      have hlm : l = msgs b f k := list_ext (by rw [HL.out, msgs_length]) (fun i hi => HA.out i (by rw [HL.out] at hi; exact hi))
      have HLM := Lib.hid hlm
      clear hlm
      go_wp2_with fail
      go_ret
      refine ⟨some ⟨g, 0, none⟩, k, by rw [msgs_length]; rfl, ?_, HB.out⟩
      rw [← HLM.out]
      exact HO.out.rebase (by omega)

end Rn
end Go.Proofs.Ytilabonjjiiabaa
