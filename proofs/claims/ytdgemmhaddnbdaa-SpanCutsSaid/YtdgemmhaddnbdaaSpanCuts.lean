/-
  For every list of spans, every two bounds, every span and every tick the statement SpanCuts of layer 4 returns true (what is cut, and what is left without a span, is in a row, and has just the ticks that it should), and its arguments read as before. No condition.
-/
import Derived.Test.YtdgemmhaddnbdaaLaw04Args
import Derived.Deep.RegionHeld3
import Derived.Deep.RegionWith
namespace Go.Proofs.Ytdgemmhaddnbdaa.spanCuts
open Go.ChangeShapes Go.WideShapes Go.ChangeAt Go.RowKit
open Hp

theorem refIn_n (n : Nat) (A : Option Addr) (c : Nat) (l : List It) (t : Int) (r : Bool) (w : World) (hn : l.length = n) (hq : inn l t = r) (hbig : l.length ≤ 1000000) (hr : Rd w A c l) :
    Calls Try.prog 16 #[.slice A n c, .int .i64 t] w fun e w' => e = .returned (.bool r) ∧ Below w.heap.size w w' := by
  subst hn
  subst hq
  exact refIn_any A c l t w hbig hr
theorem refRight_yes (A : Option Addr) (c : Nat) (l : List It) (w : World) (h : Nm l) (hbig : l.length ≤ 1000000) (hr : Rd w A c l) :
    Calls Try.prog 11 #[.slice A l.length c] w fun e w' => e = .returned (.bool true) ∧ Below w.heap.size w w' := by
  have := refRight_any A c l w hbig hr
  rw [rightB_true.2 h] at this
  exact this
theorem inn_one (x : It) (t : Int) : inn [x] t = hasT x t := by simp [inn]

set_option maxHeartbeats 6400000 in
theorem walk (A : Option Addr) (c : Nat) (l : List It) (f to : Int) (x : It) (t : Int) (w : World) (_hlc : l.length ≤ c) (_hcm : c ≤ maxLen) (hr : Rd w A c l) :
    Calls Try.prog 5 #[.slice A l.length c, .int .i64 f, .int .i64 to, .agg #[.int .i64 x.1, .int .i64 x.2], .int .i64 t] w fun e w' => e = .returned (.bool true) ∧ Below w.heap.size w w' := by
  have HR := Lib.hid hr
  clear hr
  by_cases hbig : 40 < l.length
  · go_enter Try.func5, Try.ntmps5
    go_wp2_with fail
    refine (great_yes A l.length c _ hbig).mono ?_
    rintro e w0 ⟨rfl, rfl⟩
    go_wp2_with fail
    refine (knows_any _).mono ?_
    rintro e w1 ⟨rfl, b1⟩
    have B1 := Lib.hid (below_step (below_one w _) b1)
    clear b1
    go_wp2_with fail
    go_ret
    exact ⟨rfl, B1.out⟩
  · go_enter Try.func5, Try.ntmps5
    go_wp2_with fail
    refine (great_no A l.length c _ (by omega)).mono ?_
    rintro e w0' ⟨rfl, rfl⟩
    have hb : l.length ≤ 40 := by omega
    clear hbig
    have s1 : (w.alloc (.cells #[.int .i64 x.1, .int .i64 x.2] 29)).cell? ⟨w.heap.size, 0, none⟩ = some (.int .i64 x.1) := by simp
    have s2 : (w.alloc (.cells #[.int .i64 x.1, .int .i64 x.2] 29)).cell? ⟨w.heap.size, 1, none⟩ = some (.int .i64 x.2) := by simp
    have B0 := Lib.hid (below_one w (.cells #[.int .i64 x.1, .int .i64 x.2] 29))
    have R0 := Lib.hid (HR.out.below B0.out)
    generalize w.alloc (.cells #[.int .i64 x.1, .int .i64 x.2] 29) = w0 at *
    generalize hS : w.heap.size = S at s1 s2 ⊢
    clear hS
    go_wp2_with fail
    go_region_held3 (fun w' => w'.cell? ⟨S, 0, none⟩ = some (.int .i64 x.1) ∧ w'.cell? ⟨S, 1, none⟩ = some (.int .i64 x.2) ∧ Hid (Below w.heap.size w w'))
      (first
        | (exact ⟨y1, y2, BB2⟩)
        | (exact ⟨u1, u2, BB1⟩)
        | (exact ⟨s1, s2, B0.out.drew⟩))
      (first
        | (go_at_call 17; refine (cut_any A c l f to _ (by omega) (by exact R0.out)).mono ?_; rintro e w1 ⟨A1, c1, n1, rfl, p1, p2, p3, o1, b1⟩
           have bX : Below w0.heap.size w0 w1 := (Below.refl _ w0).drew.trans b1
           have u1 := cell_below bX s1
           have u2 := cell_below bX s2
           have BB1 := Lib.hid (below_step B0.out bX)
           have RC := Lib.hid o1.rd
           have HC1 := Lib.hid p1
           have HC2 := Lib.hid p2
           clear p1 p2 o1 b1 bX)
        | (go_at_call 18; refine (without_any A c l x _ (by omega) (by exact HR.out.below BB1.out)).mono ?_; rintro e w2 ⟨A2, c2, n2, rfl, q1, q2, q3, o2, b2⟩
           have bY : Below w1.heap.size w1 w2 := b2
           have y1 := cell_below bY u1
           have y2 := cell_below bY u2
           have BB2 := Lib.hid (below_step BB1.out bY)
           have RC2 := Lib.hid (RC.out.below bY)
           have RW := Lib.hid o2.rd
           have HW1 := Lib.hid q1
           have HW2 := Lib.hid q2
           clear q1 q2 o2 b2 bY))
    go_split_ands
    have z1 : w2.cell? ⟨S, 0, none⟩ = some (.int .i64 x.1) := by assumption
    have z2 : w2.cell? ⟨S, 1, none⟩ = some (.int .i64 x.2) := by assumption
    clear s1 s2 u1 u2 R0 RC BB1 B0
    have HX : ∃ q, Hid (inn l t = q) := ⟨_, rfl⟩
    obtain ⟨q, HQ⟩ := HX
    have HX : ∃ p, Hid (hasT x t = p) := ⟨_, rfl⟩
    obtain ⟨p, HPx⟩ := HX
    have HX : ∃ r, Hid (inn n1 t = r) := ⟨_, rfl⟩
    obtain ⟨r, HRr⟩ := HX
    have HX : ∃ s, Hid (inn n2 t = s) := ⟨_, rfl⟩
    obtain ⟨s, HSs⟩ := HX
    have er : r = (q && decide (f ≤ t) && decide (t < to)) := by rw [← HRr.out, HC2.out t, HQ.out]
    have es : s = (q && !p) := by rw [← HSs.out, HW2.out t, HQ.out, HPx.out]
    go_wp2_with fail
    refine (refIn_n l.length A c l t q _ rfl HQ.out (by omega) (HR.out.below BB2.out)).mono ?_
    rintro e w3 ⟨rfl, b3⟩
    have v1 := cell_below b3 z1
    have v2 := cell_below b3 z2
    have B3 := Lib.hid (below_step BB2.out b3)
    have RC3 := Lib.hid (RC2.out.below b3)
    have RW3 := Lib.hid (RW.out.below b3)
    clear b3 BB2 RC2 RW z1 z2
    go_wp2_with fail
    refine (refIn_n 1 _ 1 [x] t p _ rfl ((inn_one x t).trans HPx.out) (by simp) (rd_one (by simp) (by simp))).mono ?_
    rintro e w4 ⟨rfl, b4⟩
    have b4' := below_step (below_one w3 (.cells #[.int .i64 x.1, .int .i64 x.2] 29)) b4
    have B4 := Lib.hid (below_step B3.out b4')
    have RC4 := Lib.hid (RC3.out.below b4')
    have RW4 := Lib.hid (RW3.out.below b4')
    clear b4 b4' B3 RC3 RW3 v1 v2
    have hcase : (q = false ∧ r = false) ∨ (q = true ∧ ¬ f ≤ t ∧ r = false) ∨ (q = true ∧ f ≤ t ∧ ¬ t < to ∧ r = false) ∨ (q = true ∧ f ≤ t ∧ t < to ∧ r = true) := by
      cases q
      · left; exact ⟨rfl, by rw [er]; rfl⟩
      · right
        by_cases h1 : f ≤ t
        · right
          by_cases h2 : t < to
          · right; exact ⟨rfl, h1, h2, by rw [er]; simp [h1, h2]⟩
          · left; exact ⟨rfl, h1, h2, by rw [er]; simp [h2]⟩
        · left; exact ⟨rfl, h1, by rw [er]; simp [h1]⟩
    clear er
    go_wp2_with fail
    refine (refRight_yes A1 c1 n1 _ HC1.out (by omega) RC4.out).mono ?_
    rintro e w5 ⟨rfl, b5⟩
    have B5 := Lib.hid (below_step B4.out b5)
    have RC5 := Lib.hid (RC4.out.below b5)
    have RW5 := Lib.hid (RW4.out.below b5)
    clear b5 B4 RC4 RW4
    go_wp2_with fail
    refine (refRight_yes A2 c2 n2 _ HW1.out (by omega) RW5.out).mono ?_
    rintro e w6 ⟨rfl, b6⟩
    have B6 := Lib.hid (below_step B5.out b6)
    have RC6 := Lib.hid (RC5.out.below b6)
    have RW6 := Lib.hid (RW5.out.below b6)
    clear b6 B5 RC5 RW5
    go_wp2_with fail
    refine (refIn_n n1.length A1 c1 n1 t r _ rfl HRr.out (by omega) RC6.out).mono ?_
    rintro e w7 ⟨rfl, b7⟩
    have B7 := Lib.hid (below_step B6.out b7)
    have RW7 := Lib.hid (RW6.out.below b7)
    clear b7 B6 RC6 RW6
    rcases hcase with ⟨rfl, rfl⟩ | ⟨rfl, h1, rfl⟩ | ⟨rfl, h1, h2, rfl⟩ | ⟨rfl, h1, h2, rfl⟩ <;> cases p
    all_goals
      (simp only [Bool.not_true, Bool.not_false, Bool.and_true, Bool.and_false] at es
       subst es
       go_wp2_with fail
       refine (refIn_n n2.length A2 c2 n2 t _ _ rfl HSs.out (by omega) RW7.out).mono ?_
       rintro e w8 ⟨rfl, b8⟩
       have B8 := Lib.hid (below_step B7.out b8)
       clear b8
       go_wp2_with fail
       refine (knows_any _).mono ?_
       rintro e w9 ⟨rfl, b9⟩
       have B9 := Lib.hid (below_step B8.out b9)
       clear b9
       go_wp2_with fail
       go_ret
       exact ⟨ret_bool (by first | rfl | (simp <;> omega)), B9.out⟩)

set_option maxRecDepth 100000 in
theorem lifted (os : Os) (started : os.Started) (H : Type) (enc : TypeId × Value → H) :
    ReturnsInHanded {} Try.checked os 5 .any (Rows.spanCutsSpec.pre6 enc Try.prog Try.f5 Rows.spanCutsRow.domain false) (Rows.spanCutsSpec.post enc Try.prog Try.f5 false true false false) := by
  refine returnsInHanded_of_change (C := Try.checked) own started (by kernel_rfl) Try.func5
    (ChangeSpec.witness6 (enc := enc) (C := Try.checked) false ⟨#[], #[.slice none 0 0, .int .i64 0, .int .i64 0, .agg #[.int .i64 0, .int .i64 0], .int .i64 0], []⟩ 8 (by kernel_rfl) (by kernel_rfl) (by kernel_rfl) (by kernel_rfl)) ?_
  intro W base args ds gs before hval0 hW hcnd _
  have hval : ∀ (j : Nat) t v, Try.f5.params[j]? = some t → args[j]? = some v → Value.okWide Try.prog W .any base t v := hval0
  have hW' := hW
  obtain ⟨p, q, hA0, hV, rfl, hfz, hnd⟩ := hW
  have hA : DataW.TrodAll enc Try.prog W 0 (fun _ => true) true Try.f5.params.toList args.toList ds p := hA0
  rw [Try.params5] at hA hval
  obtain ⟨v0, v1, v2, v3, v4, d0, d1, d2, d3, d4, p0, p1, p2, p3, p4, rfl, rfl, rfl, h0, h1, h2, h3, h4⟩ := trodAll_five hA
  obtain ⟨rfl, rfl⟩ := trodVars_none hV
  obtain ⟨A0, c0, l0, rfl, hlc0, hcm0, hr0⟩ := open_items (hval 0 22 v0 rfl rfl) h0
  obtain ⟨n1, rfl⟩ := open_num (hval 1 3 v1 rfl rfl) h1
  obtain ⟨n2, rfl⟩ := open_num (hval 2 3 v2 rfl rfl) h2
  obtain ⟨x3, rfl⟩ := open_item (hval 3 29 v3 rfl rfl) h3
  obtain ⟨n4, rfl⟩ := open_num (hval 4 3 v4 rfl rfl) h4
  clear hA0 hval0
  refine (walk A0 c0 l0 n1 n2 x3 n4 W hlc0 hcm0 hr0    ).mono fun e W' ⟨he, bel⟩ => ?_
  subst he
  have hlt0 : ∀ x ∈ p0, x.block < W.heap.size := fun x hx => hW'.lt x (by simp [hx])
  have hlt1 : ∀ x ∈ p1, x.block < W.heap.size := fun x hx => hW'.lt x (by simp [hx])
  have hlt2 : ∀ x ∈ p2, x.block < W.heap.size := fun x hx => hW'.lt x (by simp [hx])
  have hlt3 : ∀ x ∈ p3, x.block < W.heap.size := fun x hx => hW'.lt x (by simp [hx])
  have hlt4 : ∀ x ∈ p4, x.block < W.heap.size := fun x hx => hW'.lt x (by simp [hx])
  exact ⟨_, rfl, _, _, _, [], _, [], hW', trodAll_mk1 (shut_bool Try.underlying4 _), trodAll_mk5 (Below.trod laidOut (by kernel_rfl) (of_decide_eq_true (by kernel_rfl)) h0 bel hlt0) (Below.trod laidOut (by kernel_rfl) (of_decide_eq_true (by kernel_rfl)) h1 bel hlt1) (Below.trod laidOut (by kernel_rfl) (of_decide_eq_true (by kernel_rfl)) h2 bel hlt2) (Below.trod laidOut (by kernel_rfl) (of_decide_eq_true (by kernel_rfl)) h3 bel hlt3) (Below.trod laidOut (by kernel_rfl) (of_decide_eq_true (by kernel_rfl)) h4 bel hlt4), rfl, bel.frame _, fun h => by cases h⟩

/-- The statement. -/
theorem proved : Rows.SpanCutsSaid :=
  OpenClaim.holds_of_wide 5 Try.f5 rfl rfl rfl rfl rfl rfl rfl ⟨rfl, rfl, rfl, rfl, rfl⟩ rfl rfl rfl rfl rfl (by kernel_rfl) Try.func5 (by kernel_rfl)
    (of_decide_eq_true (by kernel_rfl)) (by unfold Func.isWrapper; first | (rw [if_pos (by decide +kernel)]; kernel_rfl) | (rw [if_neg (by decide +kernel)]; exact ⟨rfl, rfl⟩))
    (fun os started H enc _ => lifted os started H enc)
#print axioms proved

end Go.Proofs.Ytdgemmhaddnbdaa.spanCuts
