/-
  Layer 2 (heap): Push.
-/
import Derived.Test.YteadcjfbmckgpaaHeapCalls
import Derived.Deep.RegionHeld3
import Derived.Deep.DrawnRows
namespace Go.Proofs.Yteadcjfbmckgpaa
open Go.RowKit
namespace Hp
attribute [local go_sem ↓] Go.wp_at_zero Go.wp_at_succ

theorem rd_one {w : World} {b : Nat} {x : It} (h1 : w.cell? ⟨b, 0, none⟩ = some (.int .i64 x.1)) (h2 : w.cell? ⟨b, 1, none⟩ = some (.int .i64 x.2)) : Rd w (some ⟨b, 0, none⟩) 1 [x] := by
  refine ⟨fun h => (by cases h), fun _ => ⟨b, 0, rfl, fun j hj => ?_⟩⟩
  have : j = 0 := by simpa using hj
  subst this
  exact ⟨by simpa [at_] using h1, by simpa [at_] using h2⟩

theorem rise_len (base g c n : Nat) (l : List It) (w : World) (hn : l.length = n) (hbig : l.length ≤ 1000000) (hk : 0 < l.length) (hf : Rises (l.length - 1) l) (h : Ow w base 24 (some ⟨g, 0, none⟩) c l) :
    Calls Try.prog 23 #[.slice (some ⟨g, 0, none⟩) n c] w (RisesTo w base g c l) := by
  subst hn
  exact rise_any base g c l w hbig hk hf h

set_option maxHeartbeats 3200000 in
theorem push_any (A : Option Addr) (c : Nat) (l : List It) (x : It) (w : World) (hbig : l.length ≤ 900000) (hr : Rd w A c l) :
    Calls Try.prog 10 #[.slice A l.length c, .agg #[.int .i64 x.1, .int .i64 x.2]] w (HeapOf w (l ++ [x])) := by
  have HR := Lib.hid hr
  clear hr
  go_enter Try.func10, Try.ntmps10
  go_wp2_with fail
  have HB0 : Hid (Below w.heap.size w (w.alloc (.cells #[.int .i64 x.1, .int .i64 x.2] 24))) := (Below.refl _ _).alloc (Nat.le_refl _) _
  have HR0 : Hid (Rd (w.alloc (.cells #[.int .i64 x.1, .int .i64 x.2] 24)) A c l) := HR.out.alloc _
  have hx1 : (w.alloc (.cells #[.int .i64 x.1, .int .i64 x.2] 24)).cell? ⟨w.heap.size, 0, none⟩ = some (.int .i64 x.1) := by go_simp
  have hx2 : (w.alloc (.cells #[.int .i64 x.1, .int .i64 x.2] 24)).cell? ⟨w.heap.size, 1, none⟩ = some (.int .i64 x.2) := by go_simp
  have HP : ∃ P, Hid (w.heap.size = P) := ⟨_, rfl⟩
  obtain ⟨P, HP⟩ := HP
  have hz : P < (w.alloc (.cells #[.int .i64 x.1, .int .i64 x.2] 24)).heap.size := by rw [← HP.out]; simp
  rw [HP.out] at hx1 hx2 ⊢
  generalize w.alloc (.cells #[.int .i64 x.1, .int .i64 x.2] 24) = w0 at *
  have hne : w0.heap.size ≠ P := by omega
  go_region_held3 (fun w' => w'.cell? ⟨P, 0, none⟩ = some (.int .i64 x.1) ∧ w'.cell? ⟨P, 1, none⟩ = some (.int .i64 x.2)) (first | (exact ⟨(HB3.out.cell (p := ⟨P, 0, none⟩) hz).trans hx1, (HB3.out.cell (p := ⟨P, 1, none⟩) hz).trans hx2⟩) | go_keep | (exact ⟨(HB2.out.cell (p := ⟨P, 0, none⟩) (by simp; omega)).trans (by go_simp), (HB2.out.cell (p := ⟨P, 1, none⟩) (by simp; omega)).trans (by go_simp)⟩))
    (first
      | (go_at_call 22; refine (ownHeap_any A c l _ (by omega) (by first | exact HR0.out.drew | exact HR0.out.drew.alloc _)).mono ?_; rintro e w1 ⟨B, d, m, rfl, m1, m2, o2, b2⟩; have HB2 := Lib.hid b2; have HO2 := Lib.hid o2; have HM := Lib.hid m1; have HI := Lib.hid m2; clear b2 o2 m1 m2)
      | (refine step_app_it (by rfl) _ _ (by rfl) (base := w0.heap.size) (l := m) (r := [x]) (by rfl) (by rfl) (by first | exact (HO2.out.rebase (by simp)).alloc _ | exact HO2.out.rebase (by simp))
          (by first | ((refine rd_one ?_ ?_) <;> (go_simp; done)) | ((refine Rd.below ?_ HB2.out); (refine rd_one ?_ ?_) <;> (go_simp; done))) (by have := HM.out.length_eq; simp; omega) (by have := HB2.out.size; simp at this ⊢; omega) ?_
         intro A' c' w2 k1 k2 k3
         have HB3 := Lib.hid (Below.grown (B := w0.heap.size) (a := w0) (by first | exact ((Below.refl _ w0).drew.trans HB2.out).alloc HB2.out.size _ | exact ((Below.refl _ w0).drew.alloc (by simp) _).trans (HB2.out.mono (by simp))) k2 (by have := HB2.out.size; simp at this ⊢; omega) (fun k hk => (HO2.out.rebase (by simp)).row k hk))
         have HO3 := Lib.hid k1
         clear k1 k2 k3 HB2 HO2))
  all_goals
    have HI3 : Hid (Rises ((m ++ [x]).length - 1) (m ++ [x])) := by
      show Rises _ _
      rw [List.length_append]
      exact Rises.start HI.out
    obtain ⟨g, rfl, hgw, _⟩ := HO3.out.form (by simp)
    clear hx1 hx2
    go_wp2_with fail
    refine (rise_len w0.heap.size g c' (m.length + 1) (m ++ [x]) _ (by simp) (by have := HM.out.length_eq; simp; omega) (by simp) HI3.out HO3.out).mono ?_
    rintro e w3 ⟨rfl, q, q1, q2, q3, o4, g4⟩
    have HQ1 : Hid (q.length = m.length + 1) := by show q.length = m.length + 1; rw [q1]; simp
    have HQ2 := Lib.hid q2
    have HQ3 := Lib.hid q3
    have HO4 := Lib.hid (o4.rebase HB0.out.size)
    have HB4 := Lib.hid (HB0.out.trans ((HB3.out.grown g4 HB3.out.size (fun k hk => by injection hk with hk; omega)).mono HB0.out.size))
    clear q1 q2 q3 o4 g4
    go_wp2_with fail
    go_ret
    exact ⟨some ⟨g, 0, none⟩, c', q, by rw [HQ1.out]; rfl, HQ2.out.trans (HM.out.append_right [x]), HQ3.out, HO4.out, HB4.out⟩

end Hp
end Go.Proofs.Yteadcjfbmckgpaa
