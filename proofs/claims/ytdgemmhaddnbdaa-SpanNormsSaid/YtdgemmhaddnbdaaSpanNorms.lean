/-
  For every list of spans the statement SpanNorms of layer 4 returns true (which spans are in a row, and the row of any, is what the document says), and its argument reads as before. No condition.
-/
import Derived.Test.YtdgemmhaddnbdaaLaw04Args
import Derived.Test.YtdgemmhaddnbdaaLaw04Norm
namespace Go.Proofs.Ytdgemmhaddnbdaa.spanNorms
open Go.ChangeShapes Go.WideShapes Go.ChangeAt Go.RowKit
open Hp

theorem same_is (A B : Option Addr) (c d : Nat) (a : List It) (w : World) (h1 : a.length ≤ 1000000) (ha : Rd w A c a) (hb : Rd w B d a) :
    Calls Try.prog 12 #[.slice A a.length c, .slice B a.length d] w fun e w' => e = .returned (.bool true) ∧ Below w.heap.size w w' := by
  have := same_any A B c d a a w h1 ha hb
  rw [decide_eq_true rfl] at this
  exact this

set_option maxHeartbeats 1600000 in
theorem walk (A : Option Addr) (c : Nat) (l : List It) (w : World) (_hlc : l.length ≤ c) (_hcm : c ≤ maxLen) (hr : Rd w A c l) :
    Calls Try.prog 3 #[.slice A l.length c] w fun e w' => e = .returned (.bool true) ∧ Below w.heap.size w w' := by
  have HR := Lib.hid hr
  clear hr
  by_cases hbig : 40 < l.length
  · go_enter Try.func3, Try.ntmps3
    go_wp2_with fail
    refine (great_yes A l.length c _ hbig).mono ?_
    rintro e w0 ⟨rfl, rfl⟩
    go_wp2_with fail
    refine (knows_any _).mono ?_
    rintro e w1 ⟨rfl, b1⟩
    have B1 := Lib.hid b1
    clear b1
    go_wp2_with fail
    go_ret
    exact ⟨rfl, B1.out⟩
  · go_enter Try.func3, Try.ntmps3
    go_wp2_with fail
    refine (great_no A l.length c _ (by omega)).mono ?_
    rintro e w0 ⟨rfl, rfl⟩
    have hb : l.length ≤ 40 := by omega
    clear hbig
    go_wp2_with fail
    refine (right_any A c l _ (by omega) HR.out).mono ?_
    rintro e w1 ⟨rfl, b1⟩
    have B1 := Lib.hid b1
    clear b1
    go_wp2_with fail
    refine (refRight_any A c l _ (by omega) (HR.out.below B1.out)).mono ?_
    rintro e w2 ⟨rfl, b2⟩
    have B2 := Lib.hid (below_step B1.out b2)
    clear b2 B1
    generalize rightB l = q
    have hqq : (q == q) = true := by simp
    go_wp2_with fail
    refine (norm_any A c l _ (by omega) (HR.out.below B2.out)).mono ?_
    rintro e w3 ⟨A3, c3, n, rfl, n1, n2, n3, o3, b3⟩
    have O3 := Lib.hid o3.rd
    have B3 := Lib.hid (below_step B2.out b3)
    have HN := Lib.hid n1
    have HE := Lib.hid n2
    clear n1 n2 o3 b3 B2
    go_wp2_with fail
    refine (refNorm_any A c l n _ (by omega) (by omega) HN.out HE.out (HR.out.below B3.out)).mono ?_
    rintro e w4 ⟨A4, c4, rfl, o4, b4⟩
    have O4 := Lib.hid o4
    have O34 := Lib.hid (O3.out.below b4)
    have B4 := Lib.hid (below_step B3.out b4)
    clear b4 o4 B3 O3
    go_wp2_with fail
    refine (same_is A3 A4 c3 c4 n _ (by omega) O34.out O4.out).mono ?_
    rintro e w5 ⟨rfl, b5⟩
    have B5 := Lib.hid (below_step B4.out b5)
    clear b5 B4 O34 O4
    go_wp2_with fail
    refine (knows_any _).mono ?_
    rintro e w6 ⟨rfl, b6⟩
    have B6 := Lib.hid (below_step B5.out b6)
    clear b6
    go_wp2_with fail
    go_ret
    exact ⟨rfl, B6.out⟩

set_option maxRecDepth 100000 in
theorem lifted (os : Os) (started : os.Started) (H : Type) (enc : TypeId × Value → H) :
    ReturnsInHanded {} Try.checked os 3 .any (Rows.spanNormsSpec.pre6 enc Try.prog Try.f3 Rows.spanNormsRow.domain false) (Rows.spanNormsSpec.post enc Try.prog Try.f3 false true false false) := by
  refine returnsInHanded_of_change (C := Try.checked) own started (by kernel_rfl) Try.func3
    (ChangeSpec.witness6 (enc := enc) (C := Try.checked) false ⟨#[], #[.slice none 0 0], []⟩ 8 (by kernel_rfl) (by kernel_rfl) (by kernel_rfl) (by kernel_rfl)) ?_
  intro W base args ds gs before hval0 hW hcnd _
  have hval : ∀ (j : Nat) t v, Try.f3.params[j]? = some t → args[j]? = some v → Value.okWide Try.prog W .any base t v := hval0
  have hW' := hW
  obtain ⟨p, q, hA0, hV, rfl, hfz, hnd⟩ := hW
  have hA : DataW.TrodAll enc Try.prog W 0 (fun _ => true) true Try.f3.params.toList args.toList ds p := hA0
  rw [Try.params3] at hA hval
  obtain ⟨v0, d0, rfl, rfl, h0⟩ := trodAll_one hA
  obtain ⟨rfl, rfl⟩ := trodVars_none hV
  obtain ⟨A0, c0, l0, rfl, hlc0, hcm0, hr0⟩ := open_items (hval 0 22 v0 rfl rfl) h0
  clear hA0 hval0
  refine (walk A0 c0 l0 W hlc0 hcm0 hr0).mono fun e W' ⟨he, bel⟩ => ?_
  subst he
  have hlt0 : ∀ x ∈ p, x.block < W.heap.size := fun x hx => hW'.lt x (by simpa using hx)
  exact ⟨_, rfl, _, _, _, [], _, [], hW', trodAll_mk1 (shut_bool Try.underlying4 _), trodAll_mk1 (Below.trod laidOut (by kernel_rfl) (of_decide_eq_true (by kernel_rfl)) h0 bel hlt0), rfl, bel.frame _, fun h => by cases h⟩

/-- The statement. -/
theorem proved : Rows.SpanNormsSaid :=
  OpenClaim.holds_of_wide 3 Try.f3 rfl rfl rfl rfl rfl rfl rfl ⟨rfl, rfl, rfl, rfl, rfl⟩ rfl rfl rfl rfl rfl (by kernel_rfl) Try.func3 (by kernel_rfl)
    (of_decide_eq_true (by kernel_rfl)) (by unfold Func.isWrapper; first | (rw [if_pos (by decide +kernel)]; kernel_rfl) | (rw [if_neg (by decide +kernel)]; exact ⟨rfl, rfl⟩))
    (fun os started H enc _ => lifted os started H enc)
#print axioms proved

end Go.Proofs.Ytdgemmhaddnbdaa.spanNorms
