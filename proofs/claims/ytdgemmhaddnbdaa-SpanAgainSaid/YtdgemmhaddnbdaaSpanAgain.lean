/-
  For every list of spans and every turn the statement SpanAgain of layer 4 returns true (the row of spans in a row is they; the order of spans makes no difference; and a span that was taken out can be put back), and its arguments read as before. No condition.
-/
import Derived.Test.YtdgemmhaddnbdaaLaw04Args
import Derived.Deep.RegionHeld3
import Derived.Deep.RegionWith
import Derived.Deep.DrawnRows
namespace Go.Proofs.Ytdgemmhaddnbdaa.spanAgain
open Go.ChangeShapes Go.WideShapes Go.ChangeAt Go.RowKit
open Hp
attribute [local go_sem ↓] Go.wp_at_zero Go.wp_at_succ

theorem nil_of {n : List It} (h : Nm n) (he : Eqv n []) : n = [] := h.unique Nm.nil he
/-- normal spans of the same ticks: the same list, in new memory -/
theorem norm_is (k : Nat) (A : Option Addr) (c : Nat) (l n : List It) (w : World) (hk : l.length = k) (hn : Nm n) (he : Eqv n l) (hbig : l.length ≤ 100000) (hr : Rd w A c l) :
    Calls Try.prog 13 #[.slice A k c] w fun e w' => ∃ A' c', e = .returned (.slice A' n.length c') ∧ Rd w' A' c' n ∧ Below w.heap.size w w' :=
  (norm_n k A c l w hk hbig hr).mono fun _ _ ⟨A', c', m, h1, h2, h3, _, h5, h6⟩ => by
    have e : m = n := h2.unique hn (h3.trans he.symm)
    subst e
    exact ⟨A', c', h1, h5.rd, h6⟩
theorem own_lit (w : World) (base : Nat) (e : TypeId) (hb : base ≤ w.heap.size) : Ow (w.alloc (.cells #[] e)) base e (some ⟨w.heap.size, 0, none⟩) 0 [] :=
  World.ownsRow_lit w #[] 0 hb (by unfold maxLen; omega) rfl
theorem same_is (A B : Option Addr) (c d : Nat) (a : List It) (w : World) (h1 : a.length ≤ 1000000) (ha : Rd w A c a) (hb : Rd w B d a) :
    Calls Try.prog 12 #[.slice A a.length c, .slice B a.length d] w fun e w' => e = .returned (.bool true) ∧ Below w.heap.size w w' := by
  have := same_any A B c d a a w h1 ha hb
  rw [decide_eq_true rfl] at this
  exact this
theorem turn_eqv {l : List It} (k : Nat) : Eqv l (l.drop k ++ l.take k) := fun u => by
  rw [inn_append, Bool.or_comm, ← inn_append, List.take_append_drop]
theorem back_eqv {l m : List It} {x : It} (hx : x ∈ l) (h : ∀ u, inn m u = (inn l u && !hasT x u)) : Eqv l (m ++ [x]) := fun u => by
  rw [inn_append, h u]
  have e : inn [x] u = hasT x u := by simp [inn]
  rw [e]
  cases hq : hasT x u
  · simp
  · have : inn l u = true := inn_iff.2 ⟨x, hx, hasT_iff.1 hq⟩
    simp [this]

set_option maxHeartbeats 1600000 in
theorem few (A : Option Addr) (c : Nat) (n : Nat) (l : List It) (w : World) (hbig : 40 < l.length ∨ l.length = 0) (hA : A = none → c = 0) :
    Calls Try.prog 7 #[.slice A l.length c, .int .u8 n] w fun e w' => e = .returned (.bool true) ∧ Below w.heap.size w w' := by
  have HA := Lib.hid hA
  clear hA
  have hc0 : (0 : Int) ≤ (c : Int) := by omega
  have hA' : (A = none ∧ c = 0) ∨ ∃ a, A = some a := by
    rcases A with _ | a
    · exact .inl ⟨rfl, HA.out rfl⟩
    · exact .inr ⟨a, rfl⟩
  rcases hbig with h | h
  · rcases hA' with ⟨rfl, rfl⟩ | ⟨a, rfl⟩
    all_goals
      go_enter Try.func7, Try.ntmps7
      go_wp2_with fail
      refine (great_yes _ l.length _ _ h).mono ?_
      rintro e w0 ⟨rfl, rfl⟩
      go_wp2_with fail
      refine (norm_is 0 _ _ [] [] _ rfl Nm.nil (Eqv.refl _) (by simp) (rd_empty (by first | (intro _; rfl) | (intro h; cases h)))).mono ?_
      rintro e w1 ⟨A1, c1, rfl, o1, b1⟩
      have B1 := Lib.hid b1
      clear b1 o1
      rw [show ([] : List It).length = 0 from rfl]
      go_wp2_with fail
      refine (knows_any _).mono ?_
      rintro e w2 ⟨rfl, b2⟩
      have B2 := Lib.hid (B1.out.trans (b2.mono B1.out.size))
      clear b2 B1
      go_wp2_with fail
      go_ret
      exact ⟨rfl, B2.out⟩
  · have h' : ((l.length : Int) == 0) = true := beq_iff_eq.2 (by omega)
    have HL : Hid (l.length ≤ 40) := by show l.length ≤ 40; omega
    clear h
    rcases hA' with ⟨rfl, rfl⟩ | ⟨a, rfl⟩
    all_goals
      go_enter Try.func7, Try.ntmps7
      go_wp2_with fail
      refine (great_no _ l.length _ _ HL.out).mono ?_
      rintro e w0 ⟨rfl, rfl⟩
      go_wp2_with fail
      refine (norm_is 0 _ _ [] [] _ rfl Nm.nil (Eqv.refl _) (by simp) (rd_empty (by first | (intro _; rfl) | (intro h; cases h)))).mono ?_
      rintro e w1 ⟨A1, c1, rfl, o1, b1⟩
      have B1 := Lib.hid b1
      clear b1 o1
      rw [show ([] : List It).length = 0 from rfl]
      go_wp2_with fail
      refine (knows_any _).mono ?_
      rintro e w2 ⟨rfl, b2⟩
      have B2 := Lib.hid (B1.out.trans (b2.mono B1.out.size))
      clear b2 B1
      go_wp2_with fail
      go_ret
      exact ⟨rfl, B2.out⟩

set_option maxHeartbeats 6400000 in
set_option maxRecDepth 100000 in
theorem some_ (b off c n : Nat) (l : List It) (w : World) (hbig : l.length ≤ 40) (h0 : 0 < l.length) (hlc : l.length ≤ c) (hcm : c ≤ maxLen) (hn : n < 256) (hr : Rd w (some ⟨b, off, none⟩) c l) :
    Calls Try.prog 7 #[.slice (some ⟨b, off, none⟩) l.length c, .int .u8 n] w fun e w' => e = .returned (.bool true) ∧ Below w.heap.size w w' := by
  have HR := Lib.hid hr
  clear hr
  unfold maxLen at hcm
  have h2 : ((l.length : Int) == 0) = false := beq_eq_false_iff_ne.2 (by omega)
  have h3 : (0 : Int) < (l.length : Int) := by omega
  go_enter Try.func7, Try.ntmps7
  go_wp2_with fail
  refine (great_no _ l.length _ _ hbig).mono ?_
  rintro e w0 ⟨rfl, rfl⟩
  go_wp2_with fail
  rw [show ((n : Int) % (l.length : Int)) = ((n % l.length : Nat) : Int) from (Int.natCast_emod n l.length).symm]
  have hk : n % l.length < l.length := Nat.mod_lt _ h0
  generalize n % l.length = k at *
  refine (norm_any (some ⟨b, off, none⟩) c l _ (by omega) HR.out).mono ?_
  rintro e w1 ⟨A1, c1, m, rfl, n1, n2, n3, o1, b1⟩
  have O1 := Lib.hid o1.rd
  have B1 := Lib.hid b1
  have HN := Lib.hid n1
  have HE := Lib.hid n2
  clear o1 b1 n1 n2
  have R1 := Lib.hid (HR.out.below B1.out)
  have hkl : (k : Int) ≤ (l.length : Int) := by omega
  have hk0 : (0 : Int) ≤ (k : Int) := by omega
  have hlc' : (l.length : Int) ≤ (c : Int) := by omega
  have hkc : (k : Int) ≤ (c : Int) := by omega
  have hck : ¬ c = k := by omega
  have HD : Hid ((l.drop k).length = l.length - k) := by show List.length _ = _; simp
  have HT : Hid ((l.take k).length = k) := by show List.length _ = _; simp; omega
  have RD : Hid (Rd w1 (some ⟨b, off + k * 2, none⟩) (c - k) (l.drop k)) := R1.out.backAt k _
  have RT : Hid (Rd w1 (some ⟨b, off, none⟩) c (l.take k)) := R1.out.frontAt k _
  have HP : Hid (Eqv m (l.drop k ++ l.take k)) := HE.out.trans (turn_eqv k)
  obtain ⟨b', off', eb, hc⟩ := R1.out.2 h0
  injection eb with eb
  injection eb with eb1 eb2
  subst eb1
  subst eb2
  have HX := Lib.hid (hc k hk)
  have HXm := Lib.hid (at_mem hk)
  clear hc
  generalize at_ l k = x at *
  generalize l.drop k = ld at *
  generalize l.take k = lt at *
  go_wp2_with fail
  go_region_held3 (fun w' => Hid (Below w1.heap.size w1 w'))
    (first
      | (exact HB7.out)
      | (exact HB6.out)
      | (exact HB5.out)
      | (exact (below_one w1 _).drew)
      | (exact (Below.refl _ w1).drew))
    (first
      | (refine step_app_it (by rfl) _ _ (by rfl) (base := w1.heap.size) (l := []) (r := ld) (by rfl) (by rw [HD.out]; rfl) (by exact own_lit w1 _ _ (Nat.le_refl _)) (by exact RD.out.alloc _) (by have := HD.out; simp; omega) (by simp) ?_
         intro A5 c5 w5 k1 k2 k3
         have HB5 := Lib.hid (Below.grown (B := w1.heap.size) (a := w1) (by exact (below_one w1 _).drew) k2 (by simp) (fun k hk => by simp [Value.ownBlock] at hk; omega))
         have HO5 := Lib.hid k1
         rw [show ([] : List It).length + ld.length = ld.length from Nat.zero_add _]
         clear k1 k2 k3)
      | (refine step_app_it (by rfl) _ _ (by rfl) (base := w1.heap.size) (l := ld) (r := lt) (by rfl) (by rw [HT.out]; rfl) (by exact HO5.out) (by exact RT.out.below HB5.out) (by have := HD.out; have := HT.out; omega) (by exact HB5.out.size) ?_
         intro A6 c6 w6 k1 k2 k3
         have HB6 := Lib.hid (Below.grown (B := w1.heap.size) (a := w1) HB5.out k2 HB5.out.size (fun k hk => HO5.out.row k hk))
         have HO6 := Lib.hid k1
         clear k1 k2 k3)
      | (go_at_call 13; refine (norm_is (ld.length + lt.length) A6 c6 (ld ++ lt) m _ (by simp) HN.out HP.out (by have := HD.out; have := HT.out; simp; omega) (by exact HO6.out.rd)).mono ?_
         rintro e w7 ⟨A7, c7, rfl, o7, b7⟩
         have HB7 := Lib.hid (HB6.out.trans (b7.mono HB6.out.size))
         have HO7 := Lib.hid o7
         clear o7 b7))
  have Q1 := Lib.hid (O1.out.below HB7.out)
  have Q7 := Lib.hid HO7.out
  have QL := Lib.hid (R1.out.below HB7.out)
  have B7 := Lib.hid (B1.out.trans (HB7.out.mono B1.out.size))
  have y1 := cell_below HB7.out HX.out.1
  have y2 := cell_below HB7.out HX.out.2
  clear HO7 HB7 RD RT HP HD HT HO6 HB6 HO5 HB5 O1 R1 B1 HX
  have hk1 : (k : Int) < (l.length : Int) := by omega
  have HCA := Lib.hid (without_any (some ⟨b, off, none⟩) c l x w7.drew (by omega) QL.out.drew)
  have HCB := Lib.hid (without_any (some ⟨b, off, none⟩) c l x (w7.alloc (.cells #[.int .i64 x.1, .int .i64 x.2] 29)).drew (by omega) (QL.out.alloc _).drew)
  have HZ1 : Hid ((w7.alloc (.cells #[.int .i64 x.1, .int .i64 x.2] 29)).drew.cell? ⟨w7.heap.size, 0, none⟩ = some (.int .i64 x.1)) := by show (w7.alloc (.cells #[.int .i64 x.1, .int .i64 x.2] 29)).cell? ⟨w7.heap.size, 0, none⟩ = _; simp
  have HZ2 : Hid ((w7.alloc (.cells #[.int .i64 x.1, .int .i64 x.2] 29)).drew.cell? ⟨w7.heap.size, 1, none⟩ = some (.int .i64 x.2)) := by show (w7.alloc (.cells #[.int .i64 x.1, .int .i64 x.2] 29)).cell? ⟨w7.heap.size, 1, none⟩ = _; simp
  go_wp2_with fail
  go_region_held3 (fun w' => w'.cell? ⟨b, off + k * 2, none⟩ = some (.int .i64 x.1) ∧ w'.cell? ⟨b, off + k * 2 + 1, none⟩ = some (.int .i64 x.2) ∧ Hid (Below w7.heap.size w7 w'))
    (first
      | (exact ⟨cell_below HBa.out y1, cell_below HBa.out y2, HBa⟩)
      | (exact ⟨cell_below HB9.out y1, cell_below HB9.out y2, HB9⟩)
      | (exact ⟨cell_new (cell_below HB8.out y1) _, cell_new (cell_below HB8.out y2) _, HB8.out.alloc HB8.out.size _⟩)
      | (exact ⟨cell_below HB8.out y1, cell_below HB8.out y2, HB8⟩)
      | (exact ⟨cell_new y1 _, cell_new y2 _, (below_one w7 _).drew⟩)
      | (exact ⟨y1, y2, (Below.refl _ w7).drew⟩))
    (first
      | (go_at_call 18; refine HCA.out.mono ?_
         rintro e w8 ⟨A8, c8, m8, rfl, q1, q2, q3, o8, b8⟩
         have HB8 : Hid (Below w7.heap.size w7 w8) := (Below.refl _ w7).drew.trans b8
         have O8 : Hid (Ow w8 w7.heap.size 29 A8 c8 m8) := o8
         have HE8 : Hid (Eqv m (m8 ++ [x])) := HE.out.trans (back_eqv HXm.out q2)
         clear q1 q2 o8 b8)
      | (go_at_call 18; refine HCB.out.mono ?_
         rintro e w8 ⟨A8, c8, m8, rfl, q1, q2, q3, o8, b8⟩
         have RX : Hid (Rd w8 (some ⟨w7.heap.size, 0, none⟩) 1 [x]) := rd_one (cell_below b8 HZ1.out) (cell_below b8 HZ2.out)
         have HB8 : Hid (Below w7.heap.size w7 w8) := below_step (below_one w7 (.cells #[.int .i64 x.1, .int .i64 x.2] 29)).drew b8
         have O8 : Hid (Ow w8 w7.heap.size 29 A8 c8 m8) := o8.rebase (below_one w7 (.cells #[.int .i64 x.1, .int .i64 x.2] 29)).size
         have HE8 : Hid (Eqv m (m8 ++ [x])) := HE.out.trans (back_eqv HXm.out q2)
         clear q1 q2 o8 b8)
      | (refine step_app_it (by rfl) _ _ (by rfl) (base := w7.heap.size) (l := m8) (r := [x]) (by rfl) (by rfl) O8.out RX.out (by simp; omega) HB8.out.size ?_
         intro A9 c9 w9 k1 k2 k3
         have HB9 : Hid (Below w7.heap.size w7 w9) := Below.grown (B := w7.heap.size) (a := w7) HB8.out k2 HB8.out.size (fun k hk => O8.out.row k hk)
         have O9 := Lib.hid k1
         clear k1 k2 k3)
      | (refine step_app_it (by rfl) _ _ (by rfl) (base := w7.heap.size) (l := m8) (r := [x]) (by rfl) (by rfl) (O8.out.alloc _) (by (refine rd_one ?_ ?_) <;> (go_simp; done)) (by simp; omega) (by have := HB8.out.size; simp; omega) ?_
         intro A9 c9 w9 k1 k2 k3
         have HB9 : Hid (Below w7.heap.size w7 w9) := Below.grown (B := w7.heap.size) (a := w7) (by exact HB8.out.alloc HB8.out.size _) k2 (by have := HB8.out.size; simp; omega) (fun k hk => O8.out.row k hk)
         have O9 := Lib.hid k1
         clear k1 k2 k3)
      | (go_at_call 13; refine (norm_is (m8.length + 1) A9 c9 (m8 ++ [x]) m _ (by simp) HN.out HE8.out (by simp; omega) (by exact O9.out.rd)).mono ?_
         rintro e wa ⟨Aa, ca, rfl, oa, ba⟩
         have HBa := Lib.hid (HB9.out.trans (ba.mono HB9.out.size))
         have Oa := Lib.hid oa
         clear oa ba))
  all_goals
    (have P1 := Lib.hid (Q1.out.below HBa.out)
     have P7 := Lib.hid (Q7.out.below HBa.out)
     have B9 := Lib.hid (B7.out.trans (HBa.out.mono B7.out.size))
     clear HBa Q1 Q7 B7 y1 y2 HCA HCB HZ1 HZ2 QL
     go_wp2_with fail
     refine (norm_is m.length A1 c1 m m _ rfl HN.out (Eqv.refl _) (by omega) P1.out).mono ?_
     rintro e wb ⟨Ab, cb, rfl, ob, bb⟩
     have Ob := Lib.hid ob
     have Oa2 := Lib.hid (Oa.out.below bb)
     have P12 := Lib.hid (P1.out.below bb)
     have P72 := Lib.hid (P7.out.below bb)
     have Bb := Lib.hid (below_step B9.out bb)
     clear ob bb B9 P1 P7 Oa
     go_wp2_with fail
     refine (same_is Ab A1 cb c1 m _ (by omega) Ob.out P12.out).mono ?_
     rintro e wc ⟨rfl, bc⟩
     have Oa3 := Lib.hid (Oa2.out.below bc)
     have P13 := Lib.hid (P12.out.below bc)
     have P73 := Lib.hid (P72.out.below bc)
     have Bc := Lib.hid (below_step Bb.out bc)
     clear bc Bb P12 P72 Oa2 Ob
     go_wp2_with fail
     refine (same_is A1 A7 c1 c7 m _ (by omega) P13.out P73.out).mono ?_
     rintro e wd ⟨rfl, bd⟩
     have Oa4 := Lib.hid (Oa3.out.below bd)
     have P14 := Lib.hid (P13.out.below bd)
     have Bd := Lib.hid (below_step Bc.out bd)
     clear bd Bc P13 P73 Oa3
     go_wp2_with fail
     refine (same_is Aa A1 ca c1 m _ (by omega) Oa4.out P14.out).mono ?_
     rintro e we ⟨rfl, be⟩
     have Be := Lib.hid (below_step Bd.out be)
     clear be Bd P14 Oa4
     go_wp2_with fail
     refine (knows_any _).mono ?_
     rintro e wf ⟨rfl, bf⟩
     have Bf := Lib.hid (below_step Be.out bf)
     clear bf
     go_wp2_with fail
     go_ret
     exact ⟨rfl, Bf.out⟩)

theorem walk (A : Option Addr) (c : Nat) (l : List It) (n : Nat) (w : World) (hlc : l.length ≤ c) (hcm : c ≤ maxLen) (hr : Rd w A c l) (hn : n < 256) :
    Calls Try.prog 7 #[.slice A l.length c, .int .u8 n] w fun e w' => e = .returned (.bool true) ∧ Below w.heap.size w w' := by
  by_cases hbig : 40 < l.length ∨ l.length = 0
  · exact few A c n l w hbig hr.1
  · have h0 : 0 < l.length := by omega
    obtain ⟨b, off, rfl, _⟩ := hr.2 h0
    exact some_ b off c n l w (by omega) h0 hlc hcm hn hr

set_option maxRecDepth 100000 in
theorem lifted (os : Os) (started : os.Started) (H : Type) (enc : TypeId × Value → H) :
    ReturnsInHanded {} Try.checked os 7 .any (Rows.spanAgainSpec.pre6 enc Try.prog Try.f7 Rows.spanAgainRow.domain false) (Rows.spanAgainSpec.post enc Try.prog Try.f7 false true false false) := by
  refine returnsInHanded_of_change (C := Try.checked) own started (by kernel_rfl) Try.func7
    (ChangeSpec.witness6 (enc := enc) (C := Try.checked) false ⟨#[], #[.slice none 0 0, .int .u8 0], []⟩ 8 (by kernel_rfl) (by kernel_rfl) (by kernel_rfl) (by kernel_rfl)) ?_
  intro W base args ds gs before hval0 hW hcnd _
  have hval : ∀ (j : Nat) t v, Try.f7.params[j]? = some t → args[j]? = some v → Value.okWide Try.prog W .any base t v := hval0
  have hW' := hW
  obtain ⟨p, q, hA0, hV, rfl, hfz, hnd⟩ := hW
  have hA : DataW.TrodAll enc Try.prog W 0 (fun _ => true) true Try.f7.params.toList args.toList ds p := hA0
  rw [Try.params7] at hA hval
  obtain ⟨v0, v1, d0, d1, p0, p1, rfl, rfl, rfl, h0, h1⟩ := trodAll_two hA
  obtain ⟨rfl, rfl⟩ := trodVars_none hV
  obtain ⟨A0, c0, l0, rfl, hlc0, hcm0, hr0⟩ := open_items (hval 0 22 v0 rfl rfl) h0
  obtain ⟨n1, rfl, hn1⟩ := open_u8 (hval 1 5 v1 rfl rfl) h1
  clear hA0 hval0
  refine (walk A0 c0 l0 n1 W hlc0 hcm0 hr0 hn1).mono fun e W' ⟨he, bel⟩ => ?_
  subst he
  have hlt0 : ∀ x ∈ p0, x.block < W.heap.size := fun x hx => hW'.lt x (by simp [hx])
  have hlt1 : ∀ x ∈ p1, x.block < W.heap.size := fun x hx => hW'.lt x (by simp [hx])
  exact ⟨_, rfl, _, _, _, [], _, [], hW', trodAll_mk1 (shut_bool Try.underlying4 _), trodAll_mk2 (Below.trod laidOut (by kernel_rfl) (of_decide_eq_true (by kernel_rfl)) h0 bel hlt0) (Below.trod laidOut (by kernel_rfl) (of_decide_eq_true (by kernel_rfl)) h1 bel hlt1), rfl, bel.frame _, fun h => by cases h⟩

/-- The statement. -/
theorem proved : Rows.SpanAgainSaid :=
  OpenClaim.holds_of_wide 7 Try.f7 rfl rfl rfl rfl rfl rfl rfl ⟨rfl, rfl, rfl, rfl, rfl⟩ rfl rfl rfl rfl rfl (by kernel_rfl) Try.func7 (by kernel_rfl)
    (of_decide_eq_true (by kernel_rfl)) (by unfold Func.isWrapper; first | (rw [if_pos (by decide +kernel)]; kernel_rfl) | (rw [if_neg (by decide +kernel)]; exact ⟨rfl, rfl⟩))
    (fun os started H enc _ => lifted os started H enc)
#print axioms proved


end Go.Proofs.Ytdgemmhaddnbdaa.spanAgain
