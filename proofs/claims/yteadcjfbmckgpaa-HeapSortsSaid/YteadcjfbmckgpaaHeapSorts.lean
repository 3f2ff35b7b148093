/-
  For every list of items the statement HeapSorts of layer 2 returns true (sorted items are those, rising), and its argument reads as before. No condition.
-/
import Derived.Test.YteadcjfbmckgpaaLaw02Args
namespace Go.Proofs.Yteadcjfbmckgpaa.heapSorts
open Go.ChangeShapes Go.WideShapes Go.ChangeAt Go.RowKit
open Hp

set_option maxHeartbeats 1600000 in
theorem walk (A : Option Addr) (c : Nat) (l : List It) (w : World) (hr : Rd w A c l) :
    Calls Try.prog 5 #[.slice A l.length c] w fun e w' => e = .returned (.bool true) ∧ Below w.heap.size w w' := by
  have HR := Lib.hid hr
  clear hr
  by_cases hbig : 100 < l.length
  · have h1 : (100 : Int) < (l.length : Int) := by omega
    go_enter Try.func5, Try.ntmps5
    go_wp2_with fail
    refine (knows_any _).mono ?_
    rintro e w1 ⟨rfl, b1⟩
    have B1 := Lib.hid b1
    clear b1
    go_wp2_with fail
    go_ret
    exact ⟨rfl, B1.out⟩
  · have h1 : (l.length : Int) ≤ 100 := by omega
    have h2 : l.length ≤ 900000 := by omega
    clear hbig
    go_enter Try.func5, Try.ntmps5
    go_wp2_with fail
    refine (sort_any A c l _ h2 HR.out).mono ?_
    rintro e w1 ⟨A1, c1, rfl, o1, b1⟩
    have B1 := Lib.hid b1
    have O1 := Lib.hid o1
    clear b1 o1
    go_wp2_with fail
    refine (as_any A1 c1 (srt l) _ (by rw [srt_length]; exact h2) O1.out.rd).mono ?_
    rintro e w2 ⟨A2, c2, rfl, o2, b2⟩
    have O2 := Lib.hid o2.rd
    have B2 := Lib.hid (B1.out.trans (b2.mono B1.out.size))
    clear b2 o2 O1 B1
    go_wp2_with fail
    refine (as_any A c l _ h2 (HR.out.below B2.out)).mono ?_
    rintro e w3 ⟨A3, c3, rfl, o3, b3⟩
    have O3 := Lib.hid o3.rd
    have O23 := Lib.hid (O2.out.below b3)
    have B3 := Lib.hid (B2.out.trans (b3.mono B2.out.size))
    clear b3 o3 O2 B2
    go_wp2_with fail
    refine (refSort_any A3 c3 l _ h2 O3.out).mono ?_
    rintro e w4 ⟨A4, c4, rfl, o4, b4⟩
    have O4 := Lib.hid o4.rd
    have O24 := Lib.hid (O23.out.below b4)
    have B4 := Lib.hid (B3.out.trans (b4.mono B3.out.size))
    clear b4 o4 O23 B3 O3
    go_wp2_with fail
    refine (same_n (srt l).length l.length A2 A4 c2 c4 (srt l) (srt l) _ rfl (srt_length _) (by rw [srt_length]; omega) O24.out O4.out).mono ?_
    rintro e w5 ⟨rfl, b5⟩
    have B5 := Lib.hid (B4.out.trans (b5.mono B4.out.size))
    clear b5 B4
    rw [decide_eq_true rfl]
    go_wp2_with fail
    refine (knows_any _).mono ?_
    rintro e w6 ⟨rfl, b6⟩
    have B6 := Lib.hid (B5.out.trans (b6.mono B5.out.size))
    clear b6
    go_wp2_with fail
    go_ret
    exact ⟨rfl, B6.out⟩

set_option maxRecDepth 100000 in
theorem lifted (os : Os) (started : os.Started) (H : Type) (enc : TypeId × Value → H) :
    ReturnsInHanded {} Try.checked os 5 .any (Rows.heapSortsSpec.pre6 enc Try.prog Try.f5 Rows.heapSortsRow.domain false) (Rows.heapSortsSpec.post enc Try.prog Try.f5 false true false false) := by
  refine returnsInHanded_of_change (C := Try.checked) own started (by kernel_rfl) Try.func5
    (ChangeSpec.witness6 (enc := enc) (C := Try.checked) false ⟨#[], #[.slice none 0 0], []⟩ 8 (by kernel_rfl) (by kernel_rfl) (by kernel_rfl) (by kernel_rfl)) ?_
  intro W base args ds gs before hval0 hW hcnd _
  have hval : ∀ (j : Nat) t v, Try.f5.params[j]? = some t → args[j]? = some v → Value.okWide Try.prog W .any base t v := hval0
  have hW' := hW
  obtain ⟨p, q, hA0, hV, rfl, hfz, hnd⟩ := hW
  have hA : DataW.TrodAll enc Try.prog W 0 (fun _ => true) true Try.f5.params.toList args.toList ds p := hA0
  rw [Try.params5] at hA hval
  obtain ⟨v0, d0, rfl, rfl, h0⟩ := trodAll_one hA
  obtain ⟨rfl, rfl⟩ := trodVars_none hV
  obtain ⟨A, c, l, rfl, hlc, hcm, hr⟩ := open_items (hval 0 22 v0 rfl rfl) h0
  clear hA0 hval0
  refine (walk A c l W hr).mono fun e W' ⟨he, bel⟩ => ?_
  subst he
  have hlt : ∀ x ∈ p, x.block < W.heap.size := fun x hx => hW'.lt x (by simpa using hx)
  exact ⟨_, rfl, _, _, _, [], _, [], hW', trodAll_mk1 (shut_bool Try.underlying4 _), trodAll_mk1 (Below.trod laidOut (by kernel_rfl) (of_decide_eq_true (by kernel_rfl)) h0 bel hlt), rfl, bel.frame _, fun h => by cases h⟩

/-- The statement. -/
theorem proved : Rows.HeapSortsSaid :=
  OpenClaim.holds_of_wide 5 Try.f5 rfl rfl rfl rfl rfl rfl rfl ⟨rfl, rfl, rfl, rfl, rfl⟩ rfl rfl rfl rfl rfl (by kernel_rfl) Try.func5 (by kernel_rfl)
    (of_decide_eq_true (by kernel_rfl)) (by unfold Func.isWrapper; first | (rw [if_pos (by decide +kernel)]; kernel_rfl) | (rw [if_neg (by decide +kernel)]; exact ⟨rfl, rfl⟩))
    (fun os started H enc _ => lifted os started H enc)
#print axioms proved

end Go.Proofs.Yteadcjfbmckgpaa.heapSorts
