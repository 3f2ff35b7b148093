/-
  For all tasks and all asks the statement PolicePatterns of layer 16 returns true (the asks that may be are a release pattern), and its arguments read as before. No condition.
-/
import Derived.Test.YtfhifmpkdnnpmaaGlaw16
import Derived.Test.YtfhifmpkdnnpmaaGlaw05
import Derived.Test.YtfhifmpkdnnpmaaGdemand
import Derived.Deep.RegionLaw
namespace Go.Proofs.Ytfhifmpkdnnpmaa.policePatterns
open Go.ChangeShapes Go.WideShapes Go.ChangeAt Go.RowKit
open Mm Tk Pc

theorem all_v (A : Option Addr) (c : Nat) (L : List Tsk) (v : Bool) (hv : allB L = v) (w : World) (H : TL w A c L) :
    Calls Try.prog 15 #[.slice A L.length c] w fun e w' => e = .returned (.bool v) ∧ Below w.heap.size w w' := by
  subst hv
  exact refAll_any A c L w H.1 H.2.1 H.2.2
theorem legal_v (A : Option Addr) (c : Nat) (L : List Tsk) (A2 : Option Addr) (c2 : Nat) (R : List (List Int)) (v : Bool) (hv : Dm.legalB L R = v) (n m : Nat) (hn : L.length = n) (hm : R.length = m) (w : World) (H : TL w A c L) (H2 : LL w A2 c2 R) :
    Calls Try.prog 18 #[.slice A n c, .slice A2 m c2] w fun e w' => e = .returned (.bool v) ∧ Below w.heap.size w w' := by
  subst hv; subst hn; subst hm
  exact Dm.legal_any A c L A2 c2 R w H H2

set_option maxRecDepth 20000 in
set_option maxHeartbeats 1600000 in
theorem walk (A : Option Addr) (c : Nat) (L : List Tsk) (A2 : Option Addr) (c2 : Nat) (q : List Pc.Ask) (w : World) (hr : Rd w A c L) (hs : Rd w A2 c2 q) :
    Calls Try.prog 5 #[.slice A L.length c, .slice A2 q.length c2] w fun e w' => e = .returned (.bool true) ∧ Below w.heap.size w w' := by
  have hm := Nat.le_trans hs.le hs.max
  unfold maxLen at hm
  have HR := Lib.hid hr
  have HS := Lib.hid hs
  clear hr hs
  cases hg : greatB L with
  | true =>
    skip
    go_enter Try.func5, Try.ntmps5
    go_wp2_with fail
    refine (great_any A c L _ HR.out).mono ?_
    rintro e w1 ⟨rfl, b1⟩
    have B1 := Lib.hid b1
    clear b1
    go_wp2_with fail
    refine (knows_any _).mono ?_
    rintro e w2 ⟨rfl, b2⟩
    have B2 := Lib.hid (below_step B1.out b2)
    clear b2
    go_wp2_with fail
    go_ret
    exact ⟨rfl, B2.out⟩
  | false =>
    obtain ⟨hL, hin⟩ := great_no hg
    by_cases h100 : (100 : Int) < (q.length : Int)
    · skip
      go_enter Try.func5, Try.ntmps5
      go_wp2_with fail
      refine (great_any A c L _ HR.out).mono ?_
      rintro e w1 ⟨rfl, b1⟩
      have B1 := Lib.hid b1
      clear b1
      go_wp2_with fail
      refine (knows_any _).mono ?_
      rintro e w2 ⟨rfl, b2⟩
      have B2 := Lib.hid (below_step B1.out b2)
      clear b2
      go_wp2_with fail
      go_ret
      exact ⟨rfl, B2.out⟩
    · have HT : Hid (TL w A c L) := ⟨by omega, fun j hj => by have := hin j hj; omega, HR.out⟩
      have HQ : Hid (QL w A2 c2 q) := ⟨by omega, HS.out⟩
      have d100 : decide ((100 : Int) < (q.length : Int)) = false := decide_eq_false h100
      clear hin
      obtain ⟨n, hn⟩ : ∃ n, q.length = n := ⟨_, rfl⟩
      have HN := Lib.hid hn
      rw [hn] at h100 hm d100
      have hn1 : n ≤ 100 := by omega
      rw [hn]
      clear hn
      cases ha : allB L with
      | false =>
        have HA := Lib.hid ha
        clear ha
        go_enter Try.func5, Try.ntmps5
        go_wp2_with fail
        refine (great_any A c L _ HR.out).mono ?_
        rintro e w1 ⟨rfl, b1⟩
        have B1 := Lib.hid b1
        clear b1
        go_wp2_with fail
        replace HT := Lib.hid (HT.out.below B1.out)
        refine (all_v A c L false HA.out _ HT.out).mono ?_
        rintro e w2 ⟨rfl, b2⟩
        have B2 := Lib.hid (below_step B1.out b2)
        clear b2
        go_wp2_with fail
        refine (knows_any _).mono ?_
        rintro e w3 ⟨rfl, b3⟩
        have B3 := Lib.hid (below_step B2.out b3)
        clear b3
        go_wp2_with fail
        go_ret
        exact ⟨rfl, B3.out⟩
      | true =>
        obtain ⟨f, hf⟩ : ∃ f, runF L q n = f := ⟨_, rfl⟩
        have HE : Hid (filterP L q = f) := by show _ = _; unfold filterP; rw [ha, if_pos rfl, HN.out, hf]
        have HFL : Hid (f.length = n) := by show _ = _; rw [← hf, runF_length]
        have HA := Lib.hid ha
        have HF := Lib.hid hf
        have HTASK : Hid (∀ k, k < n → at_ f k = true → 0 ≤ (at_ q k).1 ∧ (at_ q k).1 < L.length) := fun k hk h => by
          rw [← hf, runF_at L q hk] at h
          exact may_task h
        obtain ⟨M, hM⟩ : ∃ M, L.length = M := ⟨_, rfl⟩
        have HML := Lib.hid hM
        have hM20 : M ≤ 20 := by omega
        have HLEG : Hid (Dm.legalB L (rowsL M fun j => rowTo f q j n) = true) := by
          refine rows_legal ha q (by rw [HN.out]; omega) (by rw [rowsL_length, hM]) fun i hi => ?_
          rw [rowsL_length] at hi
          rw [rowsL_at hi, HN.out, hf]
        have hall := fun W h => all_v A c L true ha W h
        rw [hM] at hall
        have hgr := great_any A c L _ HR.out
        rw [hM, hg] at hgr
        rw [hM] at HTASK
        rw [hM]
        clear ha hf hM hg
        go_enter Try.func5, Try.ntmps5
        go_wp2_with fail
        refine hgr.mono ?_
        rintro e w1 ⟨rfl, b1⟩
        have B1 := Lib.hid b1
        clear b1 hgr
        replace HT := Lib.hid (HT.out.below B1.out)
        replace HQ := Lib.hid (HQ.out.below B1.out)
        go_wp2_with fail
        refine (hall _ HT.out).mono ?_
        rintro e w2 ⟨rfl, b2⟩
        have B2 := Lib.hid (below_step B1.out b2)
        replace HT := Lib.hid (HT.out.below b2)
        replace HQ := Lib.hid (HQ.out.below b2)
        clear b2
        go_wp2_with fail
        refine (filter_v A c L A2 c2 q M n HML.out HN.out f HE.out n HFL.out _ HT.out HQ.out).mono ?_
        rintro e w3 ⟨A3, c3, rfl, r3, b3⟩
        have B3 := Lib.hid (below_step B2.out b3)
        replace HT := Lib.hid (HT.out.below b3)
        replace HQ := Lib.hid (HQ.out.below b3)
        have R3 := Lib.hid r3
        clear r3 b3 hall
        have H100 := Lib.hid h100
        have D100 := Lib.hid d100
        have HM := Lib.hid hm
        clear h100 d100 hm
        obtain ⟨X, hX⟩ : ∃ X, w3.heap.size = X := ⟨_, rfl⟩
        have RW0 := Lib.hid (rw_new M w3)
        have B4 := Lib.hid (below_one w3 (Obj.cells (madeCells #[.slice none 0 0] M) 23))
        go_wp2_with (at_make; refine list_rows rfl _ _ rfl M rfl rfl (by omega) ?_)
        generalize w3.alloc (Obj.cells (madeCells #[.slice none 0 0] M) 23) = w4 at *
        rw [hX] at RW0
        try rw [hX]
        go_loopw [7] (fun x wr => ∃ (k : Nat) (Ar : Nat → Option Addr) (cr : Nat → Nat), x = .int .i64 k ∧ k ≤ n ∧ Hid (Rw wr (X + 1) X M Ar cr (fun j => rowTo f q j k)) ∧ Hid (Below w3.heap.size w3 wr)) (fun x _ => n - (intOf x).toNat)
        case atStart => exact ⟨0, _, _, rfl, Nat.zero_le _, RW0.out, B4.out⟩
        case round =>
          obtain ⟨k, Ar, cr, rfl, hkn, HRW, HB⟩ := hrel
          by_cases hlt : k < n
          · obtain ⟨b1, o1, rfl, g1⟩ := (R3.out.below HB.out).flag (by have := HFL.out; omega)
            have x1 := (g1 k (by have := HFL.out; omega))
            obtain ⟨b2, o2, rfl, g2⟩ := ask_at (HQ.out.below HB.out).2 (by have := HN.out; omega)
            obtain ⟨y0, y1, f0, f1⟩ := g2 k (by have := HN.out; omega)
            have htask := HTASK.out k hlt
            have i1 : (0 : Int) ≤ (k : Int) := by omega
            have i2 : (k : Int) < (n : Int) := by omega
            have HST : Hid (∀ j, rowTo f q j (k + 1) = rowTo f q j k ++ (if at_ f k = true ∧ (at_ q k).1 = j then [(at_ q k).2] else [])) := fun j => rfl
            clear g1 g2
            generalize at_ f k = v at *
            generalize at_ q k = x at *
            cases v with
            | false =>
              have HS2 := Lib.hid (HRW.out.same (g := fun j => rowTo f q j (k + 1)) fun j _ => by rw [HST.out, if_neg (fun h => by cases h.1), List.append_nil])
              clear htask HST y0 y1
              go_wp2_with fail
              go_roundw
              case rel => exact ⟨k + 1, Ar, cr, by go_num, hlt, HS2, HB⟩
              case measure => (simp [intOf] <;> omega)
            | true =>
              obtain ⟨h0, h1⟩ := htask rfl
              obtain ⟨p, t⟩ := x
              simp only at h0 h1 y0 y1 f0 f1 HST
              obtain ⟨i, rfl⟩ : ∃ i : Nat, p = i := ⟨p.toNat, by omega⟩
              have hiM : i < M := by omega
              have i3 : ¬ (i : Int) < 0 := by omega
              obtain ⟨row, hrow⟩ : ∃ row, rowTo f q i k = row := ⟨_, rfl⟩
              obtain ⟨m0, hm0⟩ : ∃ m0, row.length = m0 := ⟨_, rfl⟩
              have hmk : m0 ≤ k := by rw [← hm0, ← hrow]; exact rowTo_length _ _ _ _
              have HRL := Lib.hid hm0
              have HROW := Lib.hid hrow
              have z0 := HRW.out.cell i hiM
              rw [hrow, hm0] at z0
              have bA := (below_one wr (Obj.cells #[.int .i64 t] 3)).drew
              have HW1 := Lib.hid (HRW.out.below bA)
              have HD := Lib.hid ((rd_new1 wr 3 t f1).below (Below.refl _ _).drew)
              have HO : Hid (Ow ((wr.alloc (Obj.cells #[.int .i64 t] 3)).drew) (X + 1) 3 (Ar i) (cr i) row) := by
                have := HW1.out.own i hiM
                simp only [hrow] at this
                exact this
              have z1 : (wr.alloc (Obj.cells #[.int .i64 t] 3)).cell? _ = _ := cell_below (below_one wr (Obj.cells #[.int .i64 t] 3)) z0
              have y2 : (wr.alloc (Obj.cells #[.int .i64 t] 3)).cell? _ = _ := cell_below (below_one wr (Obj.cells #[.int .i64 t] 3)) y1
              have HSZ : Hid (X + 1 ≤ (wr.alloc (Obj.cells #[.int .i64 t] 3)).heap.size) := by show _ ≤ _; rw [World.size_alloc]; have := HRW.out.here; omega
              have HBA := Lib.hid (HB.out.trans (bA.mono HB.out.size))
              clear hrow hm0 htask bA
              generalize hAi : Ar i = Ai at *
              generalize hci : cr i = ci at *
              have HAI := Lib.hid hAi
              have HCI := Lib.hid hci
              clear hAi hci
              have HTW := Lib.hid HRW.out.two
              have HXB := Lib.hid HRW.out.lt
              have HM0 : Hid (m0 + 1 ≤ 1000000) := by show _ ≤ _; omega
              have HFK : Hid ((fun j => rowTo f q j k) i = row ∧ row.length = m0) := ⟨HROW.out, HRL.out⟩
              have j1 : (i : Int) < (M : Int) := by omega
              go_wp2_with fail
              go_region_law (refine step_app_k slI rfl (.tmp 61) (.tmp 67) rfl (base := X + 1) (l := row) (r := [t]) (n := m0) (m := 1) HRL.out rfl (by go_simp) (by go_simp) HO.out HD.out HM0.out HSZ.out ?_
                             intro A5 c5 w5 k1 k2 k3
                             have HMID : Hid (Mid ((wr.alloc (Obj.cells #[.int .i64 t] 3)).drew) w5 (X + 1) X M Ar cr (fun j => rowTo f q j k) i t A5 c5) := HW1.out.app hiM (m := m0) (by rw [HFK.out.1]; exact HFK.out.2) HSZ.out (by rw [HFK.out.1]; exact k1) (by rw [HAI.out, HCI.out]; exact k2) (by rw [HAI.out, HCI.out]; exact k3)
                             have v1 := HMID.out.cell i hiM
                             have v2 := HMID.out.free i
                             clear k1 k2 k3)
              all_goals
                have HR5 := Lib.hid ((HMID.out.put HXB.out hiM (m := m0) (by rw [HFK.out.1]; exact HFK.out.2) HTW.out).same (g := fun j => rowTo f q j (k + 1)) fun j _ => by
                  rw [HST.out]
                  by_cases e : j = i
                  · subst e
                    rw [if_pos (by simp), if_pos rfl]
                  · rw [if_neg (fun h => e (by have := h.2; omega)), if_neg e, List.append_nil])
                have HB5 := Lib.hid (below_of_gb (HBA.out.trans (HMID.out.b.mono (by omega))) (gb_put w5 X i (.slice A5 (m0 + 1) c5)) (by have := (HBA.out.trans (HMID.out.b.mono (by omega))).size; exact this) (fun k hk => by injection hk with hk; omega))
                clear HMID HST v1 v2
                go_simp
                go_wp2_with fail
                go_roundw
                case rel => exact ⟨k + 1, _, _, by go_num, hlt, HR5, HB5⟩
                case measure => (simp [intOf] <;> omega)
          · have : k = n := by omega
            subst this
            have B5 := Lib.hid (below_step B3.out HB.out)
            replace HT := Lib.hid (HT.out.below HB.out)
            have HLL := Lib.hid (HRW.out.ll (by omega) fun j _ => Nat.le_trans (rowTo_length _ _ _ _) (by omega))
            go_wp2_with fail
            refine (legal_v A c L _ M _ true HLEG.out M M HML.out (rowsL_length _ _) _ HT.out HLL.out).mono ?_
            rintro e w6 ⟨rfl, b6⟩
            have B6 := Lib.hid (below_step B5.out b6)
            clear b6
            go_wp2_with fail
            refine (knows_any _).mono ?_
            rintro e w7 ⟨rfl, b7⟩
            have B7 := Lib.hid (below_step B6.out b7)
            clear b7
            go_wp2_with fail
            go_ret
            exact ⟨rfl, B7.out⟩

set_option maxRecDepth 100000 in
theorem lifted (os : Os) (started : os.Started) (H : Type) (enc : TypeId × Value → H) :
    ReturnsInHanded {} Try.checked os 5 .any (Rows.policePatternsSpec.pre6 enc Try.prog Try.f5 Rows.policePatternsRow.domain false) (Rows.policePatternsSpec.post enc Try.prog Try.f5 false true false false) := by
  refine returnsInHanded_of_change (C := Try.checked) own started (by kernel_rfl) Try.func5
    (ChangeSpec.witness6 (enc := enc) (C := Try.checked) false ⟨#[], #[.slice none 0 0, .slice none 0 0], []⟩ 8 (by kernel_rfl) (by kernel_rfl) (by kernel_rfl) (by kernel_rfl)) ?_
  intro W base args ds gs before hval0 hW hcnd _
  have hval : ∀ (j : Nat) t v, Try.f5.params[j]? = some t → args[j]? = some v → Value.okWide Try.prog W .any base t v := hval0
  have hW' := hW
  obtain ⟨p, q, hA0, hV, rfl, hfz, hnd⟩ := hW
  have hA : DataW.TrodAll enc Try.prog W 0 (fun _ => true) true Try.f5.params.toList args.toList ds p := hA0
  rw [Try.params5] at hA hval
  obtain ⟨v0, v1, d0, d1, p0, p1, rfl, rfl, rfl, h0, h1⟩ := trodAll_two hA
  obtain ⟨rfl, rfl⟩ := trodVars_none hV
  obtain ⟨A0, c0, l0, rfl, hr0⟩ := Mm.open_list (α := Tk.Tsk) Try.underlying22 Tk.opTasks (hval 0 22 v0 rfl rfl) h0
  obtain ⟨A1, c1, l1, rfl, hr1⟩ := Mm.open_list (α := Pc.Ask) Try.underlying33 Pc.opAsks (hval 1 33 v1 rfl rfl) h1
  clear hA0 hval0
  refine (walk A0 c0 l0 A1 c1 l1 W hr0 hr1).mono fun e W' ⟨he, bel⟩ => ?_
  subst he
  have hlt0 : ∀ x ∈ p0, x.block < W.heap.size := fun x hx => hW'.lt x (by simp [hx])
  have hlt1 : ∀ x ∈ p1, x.block < W.heap.size := fun x hx => hW'.lt x (by simp [hx])
  exact ⟨_, rfl, _, _, _, [], _, [], hW', trodAll_mk1 (shut_bool Try.underlying4 _), trodAll_mk2 (Below.trod laidOut (by kernel_rfl) (of_decide_eq_true (by kernel_rfl)) h0 bel hlt0) (Below.trod laidOut (by kernel_rfl) (of_decide_eq_true (by kernel_rfl)) h1 bel hlt1), rfl, bel.frame _, fun h => by cases h⟩

/-- The statement. -/
theorem proved : Rows.PolicePatternsSaid :=
  OpenClaim.holds_of_wide 5 Try.f5 rfl rfl rfl rfl rfl rfl rfl ⟨rfl, rfl, rfl, rfl, rfl⟩ rfl rfl rfl rfl rfl (by kernel_rfl) Try.func5 (by kernel_rfl)
    (of_decide_eq_true (by kernel_rfl)) (by unfold Func.isWrapper; first | (rw [if_pos (by decide +kernel)]; kernel_rfl) | (rw [if_neg (by decide +kernel)]; exact ⟨rfl, rfl⟩))
    (fun os started H enc _ => lifted os started H enc)
#print axioms proved

end Go.Proofs.Ytfhifmpkdnnpmaa.policePatterns
