/-
  For all tasks and jobs and any turn the statement JobFirst of layer 14 returns true (the first one of the sorted ones is the first one of those that began, or of those that didn't; and the order of jobs that are right makes no difference to the sorted ones), and its arguments read as before. No condition.
-/
import Derived.Test.YtdibiidpknckfaaGlaw14
import Derived.Test.YtdibiidpknckfaaGjobb
import Derived.Deep.DeepCutAuto
namespace Go.Proofs.Ytdibiidpknckfaa.jobFirst
open Go.ChangeShapes Go.WideShapes Go.ChangeAt Go.RowKit
open Mm Tk Pm

theorem rd_part {w : World} {b off c : Nat} {l : List Jb} (h : Rd w (some ⟨b, off, none⟩) c l) (k : Nat) (hk : k ≤ l.length) : Rd w (some ⟨b, off + k * 6, none⟩) (c - k) (l.drop k) := by
  have h1 := h.le
  have h2 := h.max
  exact RdS.back h k (c - k) (by omega) (by omega)
theorem turn_perm (l : List Jb) (k : Nat) : l.Perm (l.drop k ++ l.take k) := by
  have := (List.perm_append_comm (l₁ := l.take k) (l₂ := l.drop k))
  rwa [List.take_append_drop] at this

theorem step_app_N {α : Type} [Inhabited α] [Dat α] [Flat α] {P : Program} {t e : TypeId} (hT : SlT P t e (Dat.k α)) {w : World} {ops : Array Oper} {o : Oper} {a : Act} {K : Act → World → Prop} {Q : Exit → Act → World → Prop} {E : Prop} (hg : o.guard = none) (s x : Operand) (ho : o.op = .call { callee := .builtin .append, args := #[s, x], argTypes := #[t, t] })
    {base : Nat} {A B : Option Addr} {c d : Nat} {l r : List α} {n m N : Nat} (hn : l.length = n) (hm : r.length = m) (hN : n + m = N) (h1 : a.eval s = .slice A n c) (h2 : a.eval x = .slice B m d) (h : Ow w base e A c l) (hr : Rd w B d r) (hbig : N ≤ 1000000) (hbase : base ≤ w.heap.size)
    (hK : ∀ A' c' w', Ow w' base e A' c' (l ++ r) → Below base w w' → K (a.put o.dst (.slice A' N c')) w') :
    if Region.wanted o (yielded ops a.tmps) = true then Oper.wp P o a w K Q else E := by
  subst hN
  exact step_app_n hT hg s x ho hn hm h1 h2 h hr hbig hbase fun A' c' w' k1 k2 _ => hK A' c' w' k1 k2
theorem sort_n (A : Option Addr) (c : Nat) (l : List Jb) (n : Nat) (hn : l.length = n) (w : World) (hbig : n ≤ 1000000) (hr : Rd w A c l) :
    Calls Try.prog 13 #[.slice A n c] w fun e w' => ∃ A' c' r, e = .returned (.slice A' n c') ∧ l.Perm r ∧ r.Pairwise (fun x y => aheadB y x = false) ∧ Ow w' w.heap.size 30 A' c' r ∧ Below w.heap.size w w' := by
  subst hn
  exact sort_any A c l w hbig hr
theorem eqSelf (x : Jb) (w : World) : (binOp .eql 30 (.agg #[(.int .i64 x.1), (.int .i64 x.2.1), (.int .i64 x.2.2.1), (.int .i64 x.2.2.2.1), (.int .i64 x.2.2.2.2.1), (.bool x.2.2.2.2.2)]) (.agg #[(.int .i64 x.1), (.int .i64 x.2.1), (.int .i64 x.2.2.1), (.int .i64 x.2.2.2.1), (.int .i64 x.2.2.2.2.1), (.bool x.2.2.2.2.2)])).run Try.prog w = .ok (.bool true) w := by
  rw [eqJob, decide_eq_true rfl]
attribute [local go_sem ↓] eqSelf

set_option maxRecDepth 20000 in
set_option maxHeartbeats 6400000 in
theorem walk (A : Option Addr) (c : Nat) (L : List Tsk) (B : Option Addr) (d : Nat) (l : List Jb) (i : Nat) (w : World) (hr : Rd w A c L) (hs : Rd w B d l) (hi : i < 256) :
    Calls Try.prog 5 #[.slice A L.length c, .slice B l.length d, .int .u8 i] w fun e w' => e = .returned (.bool true) ∧ Below w.heap.size w w' := by
  have HG := Lib.hid (greatJ_any A B c d L l w hr)
  have HR := Lib.hid hr
  have HS := Lib.hid hs
  clear hr hs
  cases hg : greatJ L l with
  | true =>
    rw [hg] at HG
    clear hg
    go_enter Try.func5, Try.ntmps5
    go_wp2_with fail
    refine (HG.out).mono ?_
    rintro e w1 ⟨rfl, b1⟩
    have B1 := Lib.hid b1
    clear b1
    go_wp2_with fail
    refine (knows14_any _).mono ?_
    rintro e w2 ⟨rfl, b2⟩
    have B2 := Lib.hid (below_step B1.out b2)
    clear b2
    go_wp2_with fail
    go_ret
    exact ⟨rfl, B2.out⟩
  | false =>
    rw [hg] at HG
    obtain ⟨hL, hin, hl⟩ := greatJ_no hg
    have HT : Hid (TL w A c L) := ⟨by omega, fun j hj => by have := hin j hj; omega, HR.out⟩
    have hbig : l.length ≤ 1000000 := by omega
    clear hg hin HR
    by_cases h0 : l.length = 0
    · have e0 : ((l.length : Int) == 0) = true := beq_iff_eq.2 (by omega)
      have hl0 := List.eq_nil_of_length_eq_zero h0
      subst hl0
      go_enter Try.func5, Try.ntmps5
      go_wp2_with fail
      refine (HG.out).mono ?_
      rintro e w1 ⟨rfl, b1⟩
      have B1 := Lib.hid b1
      clear b1
      go_wp2_with fail
      refine (knows14_any _).mono ?_
      rintro e w2 ⟨rfl, b2⟩
      have B2 := Lib.hid (below_step B1.out b2)
      clear b2
      go_wp2_with fail
      go_ret
      exact ⟨rfl, B2.out⟩
    · have e0 : ((l.length : Int) == 0) = false := beq_eq_false_iff_ne.2 (by omega)
      have e1 : ¬ (l.length : Int) = 0 := by omega
      have HA := Lib.hid (fun w1 HT HS => refAllJobs_any A B c d L l w1 HT hbig HS)
      cases ha : allJ L l with
      | false =>
        rw [ha] at HA
        clear ha
        go_enter Try.func5, Try.ntmps5
        go_wp2_with fail
        refine (HG.out).mono ?_
        rintro e w1 ⟨rfl, b1⟩
        have B1 := Lib.hid b1
        replace HT := Lib.hid (HT.out.below b1)
        replace HS := Lib.hid (HS.out.below b1)
        clear b1
        go_wp2_with fail
        refine (HA.out _ HT.out HS.out).mono ?_
        rintro e w2 ⟨rfl, b2⟩
        have B2 := Lib.hid (below_step B1.out b2)
        clear b2
        go_wp2_with fail
        refine (knows14_any _).mono ?_
        rintro e w3 ⟨rfl, b3⟩
        have B3 := Lib.hid (below_step B2.out b3)
        clear b3
        go_wp2_with fail
        go_ret
        exact ⟨rfl, B3.out⟩
      | true =>
        rw [ha] at HA
        have hl0 : 0 < l.length := by omega
        have hx : i % l.length < l.length := Nat.mod_lt _ hl0
        have r1 : Int.tmod (i : Int) (l.length : Int) = ((i % l.length : Nat) : Int) := by rw [Int.tmod_eq_emod_of_nonneg (by omega)]; exact (Int.natCast_emod i l.length).symm
        have s1 : (i : Int) % (l.length : Int) = ((i % l.length : Nat) : Int) := (Int.natCast_emod i l.length).symm
        have HU : Hid (l.Pairwise unlike) := (allJ_iff.1 ha).2.2.1
        generalize i % l.length = k at *
        clear ha
        have t1 : (k : Int) < (l.length : Int) := by omega
        go_enter Try.func5, Try.ntmps5
        go_wp2_with fail
        refine (HG.out).mono ?_
        rintro e w1 ⟨rfl, b1⟩
        have B1 := Lib.hid b1
        replace HT := Lib.hid (HT.out.below b1)
        replace HS := Lib.hid (HS.out.below b1)
        clear b1
        go_wp2_with fail
        refine (HA.out _ HT.out HS.out).mono ?_
        rintro e w2 ⟨rfl, b2⟩
        have B2 := Lib.hid (below_step B1.out b2)
        replace HS := Lib.hid (HS.out.below b2)
        clear b2 HT HA HG
        go_wp2_with fail
        refine (sort_any B d l w2 hbig HS.out).mono ?_
        rintro e w3 ⟨A3, c3, s, rfl, p3, o3, k3, b3⟩
        have P3 := Lib.hid p3
        have O3 := Lib.hid o3
        have R3 := Lib.hid (Ow.rd k3)
        have B3 := Lib.hid (below_step B2.out b3)
        replace HS := Lib.hid (HS.out.below b3)
        clear p3 o3 k3 b3
        obtain ⟨bb, off, rfl, -⟩ := job_at HS.out hl0
        have HLC := Lib.hid HS.out.le
        have hlc := HLC.out
        have HLS : Hid (s.length = l.length) := P3.out.length_eq.symm
        have OE : Hid (Ow (w3.drew.alloc (Obj.cells #[] 30)) w3.heap.size 30 (some ⟨w3.heap.size, 0, none⟩) 0 ([] : List Jb)) := ow_lit (l := ([] : List Jb)) w3.drew (fun _ => False) w3.heap.size 30 #[] (Nat.le_refl _) (by simp) rfl
        have BE : Hid (Below w3.heap.size w3 (w3.drew.alloc (Obj.cells #[] 30))) := (Below.refl _ w3).drew.alloc (Nat.le_refl _) _
        have RD := Lib.hid (rd_part (HS.out.below BE.out) k (by omega))
        have RT : Hid (Rd w3 (some ⟨bb, off, none⟩) d (l.take k)) := RdS.front HS.out k
        have LD : Hid ((l.drop k).length = l.length - k) := by show _ = _; simp
        have LT : Hid ((l.take k).length = k) := by show _ = _; simp; omega
        have LA : Hid ((l.drop k ++ l.take k).length = l.length) := by show _ = _; rw [List.length_append, LD.out, LT.out]; omega
        have N1 : Hid (0 + (l.length - k) = l.length - k) := Nat.zero_add _
        have N2 : Hid (l.length - k + k = l.length) := by show _ = _; omega
        have M1 : Hid (l.length - k ≤ 1000000) := by show _ ≤ _; omega
        have M2 : Hid (l.length ≤ 1000000) := hbig
        have i1 : ¬ k = d := by omega
        have i1b : ¬ d = k := by omega
        have i2 : k ≤ d := by omega
        have i3 : (k : Int) ≤ (l.length : Int) := by omega
        have i4 : (k : Int) ≤ (d : Int) := by omega
        go_upto_region 5 with fail
        go_region_held3 (fun w' => Hid (Below w3.heap.size w3 w'))
          (first
            | (exact B7)
            | (exact B6)
            | (exact B5)
            | (exact BE)
            | (exact Lib.hid ((Below.refl _ w3).drew)))
          (first
            | (go_at_call 13
               refine (sort_n A6 c6 _ l.length LA.out _ hbig (by exact Ow.rd O6.out)).mono ?_
               rintro e w7 ⟨A7, c7, t, rfl, p7, o7, k7, b7⟩
               have P7 := Lib.hid p7
               have O7 := Lib.hid o7
               have R7 := Lib.hid (Ow.rd k7)
               have B7 : Hid (Below w3.heap.size w3 w7) := below_step B6.out b7
               clear p7 o7 k7 b7)
            | (refine step_app_N slJ (by rfl) _ _ (by rfl) (base := w3.heap.size) (l := l.drop k) (r := l.take k) (n := l.length - k) (m := k) (N := l.length) LD.out LT.out N2.out (by rfl) (by rfl) (by exact O5.out) (by exact RT.out.below B5.out) M2.out B5.out.size ?_
               intro A6 c6 w6 k1 k2
               have O6 := Lib.hid k1
               have B6 : Hid (Below w3.heap.size w3 w6) := Lib.hid (B5.out.trans k2)
               clear k1 k2)
            | (refine step_app_N slJ (by rfl) _ _ (by rfl) (base := w3.heap.size) (l := ([] : List Jb)) (r := l.drop k) (n := 0) (m := l.length - k) (N := l.length - k) rfl LD.out N1.out (by rfl) (by rfl) (by exact OE.out) (by exact RD.out) M1.out BE.out.size ?_
               intro A5 c5 w5 k1 k2
               rw [List.nil_append] at k1
               have O5 := Lib.hid k1
               have B5 : Hid (Below w3.heap.size w3 w5) := Lib.hid (BE.out.trans k2)
               clear k1 k2))
        go_split_ands
        have HST : Hid (s = t) := sorted_turn HU.out (turn_perm l k) P3.out P7.out O3.out O7.out
        rw [← HST.out] at R7
        have B8 := Lib.hid (below_step B3.out B7.out)
        have R8 := Lib.hid (R3.out.below B7.out)
        have S8 := Lib.hid (HS.out.below B7.out)
        clear OE BE RD RT LD LT LA N1 N2 M1 P7 O7 O5 O6 B5 B6 B7 HST HS R3 B3 i1 i1b i2 i3 i4 hlc HLC r1 s1 t1
        have j1 : ((l.length : Int) != (l.length : Int)) = false := by simp
        go_wp2_with fail
        refine (sameJobs_one A3 A7 c3 c7 s l.length HLS.out (by exact hbig) _ R8.out R7.out).mono ?_
        rintro e w9 ⟨rfl, b9⟩
        have B9 := Lib.hid (below_step B8.out b9)
        replace R8 := Lib.hid (R8.out.below b9)
        replace S8 := Lib.hid (S8.out.below b9)
        clear b9
        go_wp2_with fail
        obtain ⟨g3, off3, rfl, hc⟩ := job_at R8.out (by rw [HLS.out]; exact hl0)
        have hx0 := (hc 0 (by rw [HLS.out]; exact hl0)).1
        rw [Nat.zero_mul, Nat.add_zero] at hx0
        clear hc
        obtain ⟨j, hj1, hj2, hj3⟩ : ∃ j : Nat, firstI l (begJ (at_ s 0)) = j ∧ j < l.length ∧ at_ l j = at_ s 0 := by
          have hs0 : s ≠ [] := fun e => by have := HLS.out; rw [e] at this; simp at this; omega
          obtain ⟨y, s', rfl⟩ := List.exists_cons_of_ne_nil hs0
          exact sorted_first HU.out P3.out O3.out
        obtain ⟨_, _, e, hc⟩ := job_at S8.out hl0
        injection e with e
        injection e with e2 e3
        subst e2
        subst e3
        have hy0 := (hc j hj2).1
        rw [hj3] at hy0
        clear hc hj3
        have HJ := Lib.hid hj1
        clear hj1
        generalize at_ s 0 = x at *
        have HX0 := Lib.hid hx0
        have HY0 := Lib.hid hy0
        have x5 := hx0.c5
        clear hx0 hy0
        go_wp2_with fail
        go_simp
        go_wp2_with fail
        refine (first_v _ d l x.2.2.2.2.2 (j : Int) HJ.out _ hbig S8.out).mono ?_
        rintro e w10 ⟨rfl, b10⟩
        have B10 := Lib.hid (below_step B9.out b10)
        have hx0 := HX0.out.below b10
        have hy0 := HY0.out.below b10
        clear b10 x5 HX0 HY0 S8 R8
        have j2 : decide ((0 : Int) ≤ (j : Int)) = true := decide_eq_true (by omega)
        have j3 : decide ((j : Int) < (l.length : Int)) = true := decide_eq_true (by omega)
        have j4 : (j : Int) < (l.length : Int) := by omega
        have j5 : (0 : Int) ≤ (j : Int) := by omega
        have j6 : (0 : Int) < (l.length : Int) := by omega
        have a0 := hx0.c0
        have a0_1 := hx0.c1
        have a0_2 := hx0.c2
        have a0_3 := hx0.c3
        have a0_4 := hx0.c4
        have a0_5 := hx0.c5
        have b0 := hy0.c0
        have b0_1 := hy0.c1
        have b0_2 := hy0.c2
        have b0_3 := hy0.c3
        have b0_4 := hy0.c4
        have b0_5 := hy0.c5
        clear hx0 hy0
        replace a0 := cell_bw a0
        replace a0_1 := cell_bw a0_1
        replace a0_2 := cell_bw a0_2
        replace a0_3 := cell_bw a0_3
        replace a0_4 := cell_bw a0_4
        replace a0_5 := cell_bw a0_5
        replace b0 := cell_bw b0
        replace b0_1 := cell_bw b0_1
        replace b0_2 := cell_bw b0_2
        replace b0_3 := cell_bw b0_3
        replace b0_4 := cell_bw b0_4
        replace b0_5 := cell_bw b0_5
        go_wp2_with fail
        refine wp_region_bw (by kernel_rfl) (by kernel_rfl) ?_
        repeat
          (with_reducible refine wpQuiet_step (fun K hK => ?_)
           go_simp
           first
             | (with_reducible refine hK _ ?_
                clear hK K)
             | (rw [if_neg]
                rotate_left
                focus (intro h; cases h; done)
                with_reducible refine hK _ ?_
                clear hK K)
             | (apply Exists.intro
                refine ⟨fun _ => ?_, hK _ ?_⟩
                (with_reducible exact Calls.bw (knows14_any _))
                clear hK K))
        with_reducible refine wpQuiet_nil ?_
        intro wb hw'
        obtain ⟨⟨wb', lb⟩, hw''⟩ := hw'
        subst hw''
        have B11 := Lib.hid (below_step B10.out lb)
        clear lb
        go_wp2_with fail
        go_ret
        exact ⟨rfl, B11.out⟩

set_option maxRecDepth 100000 in
theorem lifted (os : Os) (started : os.Started) (H : Type) (enc : TypeId × Value → H) :
    ReturnsInHanded {} Try.checked os 5 .any (Rows.jobFirstSpec.pre6 enc Try.prog Try.f5 Rows.jobFirstRow.domain false) (Rows.jobFirstSpec.post enc Try.prog Try.f5 false true false false) := by
  refine returnsInHanded_of_change (C := Try.checked) own started (by kernel_rfl) Try.func5
    (ChangeSpec.witness6 (enc := enc) (C := Try.checked) false ⟨#[], #[.slice none 0 0, .slice none 0 0, .int .u8 0], []⟩ 8 (by kernel_rfl) (by kernel_rfl) (by kernel_rfl) (by kernel_rfl)) ?_
  intro W base args ds gs before hval0 hW hcnd _
  have hval : ∀ (j : Nat) t v, Try.f5.params[j]? = some t → args[j]? = some v → Value.okWide Try.prog W .any base t v := hval0
  have hW' := hW
  obtain ⟨p, q, hA0, hV, rfl, hfz, hnd⟩ := hW
  have hA : DataW.TrodAll enc Try.prog W 0 (fun _ => true) true Try.f5.params.toList args.toList ds p := hA0
  rw [Try.params5] at hA hval
  obtain ⟨v0, v1, v2, d0, d1, d2, p0, p1, p2, rfl, rfl, rfl, h0, h1, h2⟩ := trodAll_three hA
  obtain ⟨rfl, rfl⟩ := trodVars_none hV
  obtain ⟨A0, c0, l0, rfl, hr0⟩ := Mm.open_list (α := Tk.Tsk) Try.underlying22 Tk.opTasks (hval 0 22 v0 rfl rfl) h0
  obtain ⟨A1, c1, l1, rfl, hr1⟩ := Mm.open_list (α := Pm.Jb) Try.underlying23 Pm.opJobs (hval 1 23 v1 rfl rfl) h1
  obtain ⟨n2, rfl, f2⟩ := Mm.open_u8' Try.underlying5 (hval 2 5 v2 rfl rfl) h2
  clear hA0 hval0
  refine (walk A0 c0 l0 A1 c1 l1 n2 W hr0 hr1 f2).mono fun e W' ⟨he, bel⟩ => ?_
  subst he
  have hlt0 : ∀ x ∈ p0, x.block < W.heap.size := fun x hx => hW'.lt x (by simp [hx])
  have hlt1 : ∀ x ∈ p1, x.block < W.heap.size := fun x hx => hW'.lt x (by simp [hx])
  have hlt2 : ∀ x ∈ p2, x.block < W.heap.size := fun x hx => hW'.lt x (by simp [hx])
  exact ⟨_, rfl, _, _, _, [], _, [], hW', trodAll_mk1 (shut_bool Try.underlying4 _), trodAll_mk3 (Below.trod laidOut (by kernel_rfl) (of_decide_eq_true (by kernel_rfl)) h0 bel hlt0) (Below.trod laidOut (by kernel_rfl) (of_decide_eq_true (by kernel_rfl)) h1 bel hlt1) (Below.trod laidOut (by kernel_rfl) (of_decide_eq_true (by kernel_rfl)) h2 bel hlt2), rfl, bel.frame _, fun h => by cases h⟩

/-- The statement. -/
theorem proved : Rows.JobFirstSaid :=
  OpenClaim.holds_of_wide 5 Try.f5 rfl rfl rfl rfl rfl rfl rfl ⟨rfl, rfl, rfl, rfl, rfl⟩ rfl rfl rfl rfl rfl (by kernel_rfl) Try.func5 (by kernel_rfl)
    (of_decide_eq_true (by kernel_rfl)) (by unfold Func.isWrapper; first | (rw [if_pos (by decide +kernel)]; kernel_rfl) | (rw [if_neg (by decide +kernel)]; exact ⟨rfl, rfl⟩))
    (fun os started H enc _ => lifted os started H enc)
#print axioms proved


end Go.Proofs.Ytdibiidpknckfaa.jobFirst
