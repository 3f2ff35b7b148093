/-
  For every list of spans and every tick the statement SpanTicks of layer 4 returns true (whether a tick is in spans is what the document says; and it is in their row just if it is in them), and its arguments read as before. No condition.
-/
import Derived.Test.YtdgemmhaddnbdaaLaw04Args
namespace Go.Proofs.Ytdgemmhaddnbdaa.spanTicks
open Go.ChangeShapes Go.WideShapes Go.ChangeAt Go.RowKit
open Hp

set_option maxHeartbeats 1600000 in
theorem walk (A : Option Addr) (c : Nat) (l : List It) (t : Int) (w : World) (_hlc : l.length ≤ c) (_hcm : c ≤ maxLen) (hr : Rd w A c l) :
    Calls Try.prog 4 #[.slice A l.length c, .int .i64 t] w fun e w' => e = .returned (.bool true) ∧ Below w.heap.size w w' := by
  have HR := Lib.hid hr
  clear hr
  by_cases hbig : 40 < l.length
  · go_enter Try.func4, Try.ntmps4
    go_wp2_with fail
    refine (great_yes A l.length c _ hbig).mono ?_
    rintro e w0 ⟨rfl, rfl⟩
    go_wp2_with fail
    refine (knows_any _).mono ?_
    rintro e w1 ⟨rfl, b1⟩
    have B1 := Lib.hid b1
    clear b1
    go_wp2_with fail
    go_ret
    exact ⟨rfl, B1.out⟩
  · go_enter Try.func4, Try.ntmps4
    go_wp2_with fail
    refine (great_no A l.length c _ (by omega)).mono ?_
    rintro e w0 ⟨rfl, rfl⟩
    have hb : l.length ≤ 40 := by omega
    clear hbig
    go_wp2_with fail
    refine (in_any A c l t _ (by omega) HR.out).mono ?_
    rintro e w1 ⟨rfl, b1⟩
    have B1 := Lib.hid b1
    clear b1
    go_wp2_with fail
    refine (refIn_any A c l t _ (by omega) (HR.out.below B1.out)).mono ?_
    rintro e w2 ⟨rfl, b2⟩
    have B2 := Lib.hid (below_step B1.out b2)
    clear b2 B1
    have HX : ∃ q, Hid (inn l t = q) := ⟨_, rfl⟩
    obtain ⟨q, HQ⟩ := HX
    rw [HQ.out]
    have hqq : (q == q) = true := by simp
    go_wp2_with fail
    refine (norm_any A c l _ (by omega) (HR.out.below B2.out)).mono ?_
    rintro e w3 ⟨A3, c3, n, rfl, n1, n2, n3, o3, b3⟩
    have O3 := Lib.hid o3.rd
    have B3 := Lib.hid (below_step B2.out b3)
    have HN : Hid (inn n t = q) := (n2 t).trans HQ.out
    clear n1 n2 o3 b3 B2
    go_wp2_with fail
    refine (in_any A3 c3 n t _ (by omega) O3.out).mono ?_
    rintro e w4 ⟨rfl, b4⟩
    have B4 := Lib.hid (below_step B3.out b4)
    clear b4 B3 O3
    rw [HN.out]
    go_wp2_with fail
    refine (refIn_any A c l t _ (by omega) (HR.out.below B4.out)).mono ?_
    rintro e w5 ⟨rfl, b5⟩
    have B5 := Lib.hid (below_step B4.out b5)
    clear b5 B4
    rw [HQ.out]
    go_wp2_with fail
    refine (knows_any _).mono ?_
    rintro e w6 ⟨rfl, b6⟩
    have B6 := Lib.hid (below_step B5.out b6)
    clear b6
    go_wp2_with fail
    go_ret
    exact ⟨rfl, B6.out⟩

set_option maxRecDepth 100000 in
theorem lifted (os : Os) (started : os.Started) (H : Type) (enc : TypeId × Value → H) :
    ReturnsInHanded {} Try.checked os 4 .any (Rows.spanTicksSpec.pre6 enc Try.prog Try.f4 Rows.spanTicksRow.domain false) (Rows.spanTicksSpec.post enc Try.prog Try.f4 false true false false) := by
  refine returnsInHanded_of_change (C := Try.checked) own started (by kernel_rfl) Try.func4
    (ChangeSpec.witness6 (enc := enc) (C := Try.checked) false ⟨#[], #[.slice none 0 0, .int .i64 0], []⟩ 8 (by kernel_rfl) (by kernel_rfl) (by kernel_rfl) (by kernel_rfl)) ?_
  intro W base args ds gs before hval0 hW hcnd _
  have hval : ∀ (j : Nat) t v, Try.f4.params[j]? = some t → args[j]? = some v → Value.okWide Try.prog W .any base t v := hval0
  have hW' := hW
  obtain ⟨p, q, hA0, hV, rfl, hfz, hnd⟩ := hW
  have hA : DataW.TrodAll enc Try.prog W 0 (fun _ => true) true Try.f4.params.toList args.toList ds p := hA0
  rw [Try.params4] at hA hval
  obtain ⟨v0, v1, d0, d1, p0, p1, rfl, rfl, rfl, h0, h1⟩ := trodAll_two hA
  obtain ⟨rfl, rfl⟩ := trodVars_none hV
  obtain ⟨A0, c0, l0, rfl, hlc0, hcm0, hr0⟩ := open_items (hval 0 22 v0 rfl rfl) h0
  obtain ⟨n1, rfl⟩ := open_num (hval 1 3 v1 rfl rfl) h1
  clear hA0 hval0
  refine (walk A0 c0 l0 n1 W hlc0 hcm0 hr0 ).mono fun e W' ⟨he, bel⟩ => ?_
  subst he
  have hlt0 : ∀ x ∈ p0, x.block < W.heap.size := fun x hx => hW'.lt x (by simp [hx])
  have hlt1 : ∀ x ∈ p1, x.block < W.heap.size := fun x hx => hW'.lt x (by simp [hx])
  exact ⟨_, rfl, _, _, _, [], _, [], hW', trodAll_mk1 (shut_bool Try.underlying4 _), trodAll_mk2 (Below.trod laidOut (by kernel_rfl) (of_decide_eq_true (by kernel_rfl)) h0 bel hlt0) (Below.trod laidOut (by kernel_rfl) (of_decide_eq_true (by kernel_rfl)) h1 bel hlt1), rfl, bel.frame _, fun h => by cases h⟩

/-- The statement. -/
theorem proved : Rows.SpanTicksSaid :=
  OpenClaim.holds_of_wide 4 Try.f4 rfl rfl rfl rfl rfl rfl rfl ⟨rfl, rfl, rfl, rfl, rfl⟩ rfl rfl rfl rfl rfl (by kernel_rfl) Try.func4 (by kernel_rfl)
    (of_decide_eq_true (by kernel_rfl)) (by unfold Func.isWrapper; first | (rw [if_pos (by decide +kernel)]; kernel_rfl) | (rw [if_neg (by decide +kernel)]; exact ⟨rfl, rfl⟩))
    (fun os started H enc _ => lifted os started H enc)
#print axioms proved

end Go.Proofs.Ytdgemmhaddnbdaa.spanTicks
