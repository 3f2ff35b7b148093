/-
  For every task and every number of ticks the statement TaskNests of layer 5 returns true (what is held is given back in the other order), and its arguments read as before. No condition.
-/
import Derived.Test.YtaehcgfmdpjfaaaTaskOnce
import Derived.Deep.CutBlock
import Derived.Deep.DeepCutAuto
namespace Go.Proofs.Ytaehcgfmdpjfaaa.taskNests
open Go.ChangeShapes Go.WideShapes Go.ChangeAt Go.RowKit
open Mm Tk taskOnce

/-- where two lists part -/
def Cut1 (la lb : List Int) (w : World) (v : Value) (wx : World) : Prop := ∃ n : Nat, v = .int .i64 n ∧ n ≤ la.length ∧ n ≤ lb.length ∧ (la.length ≤ n ∨ lb.length ≤ n ∨ at_ la n ≠ at_ lb n) ∧ Below w.heap.size w wx
/-- is there one among the first -/
def anyTo (p : Sc → Bool) (l : List Sc) (k : Nat) : Bool := (l.take k).any p
theorem anyTo_zero (p : Sc → Bool) (l : List Sc) : anyTo p l 0 = false := rfl
theorem anyTo_succ {p : Sc → Bool} {l : List Sc} {k : Nat} (h : k < l.length) : anyTo p l (k + 1) = (anyTo p l k || p (at_ l k)) := by
  unfold anyTo
  rw [take_succ_at h, List.any_append]
  simp
theorem anyTo_all {p : Sc → Bool} {l : List Sc} {j k : Nat} (hj : j < l.length) (hk : l.length ≤ k) (h : p (at_ l j) = true) : anyTo p l k = true := by
  unfold anyTo
  rw [List.take_of_length_le hk]
  exact List.any_eq_true.2 ⟨_, at_mem hj, h⟩
/-- a section of this resource that begins, or has ended, at a tick -/
def beginsAt (r had : Int) (x : Sc) : Bool := decide (x.1 = r) && decide (x.2.1 = had)
def endedAt (r had : Int) (x : Sc) : Bool := decide (x.1 = r) && decide (x.2.1 + x.2.2 = had + 1)

set_option maxRecDepth 100000 in
set_option maxHeartbeats 6400000 in
theorem walk (A : Option Addr) (c : Nat) (t : Tsk) (had : Int) (w : World) (ft : Fit t.1) (_f2 : Fit t.2.1) (_f3 : Fit t.2.2.1) (hr : Rd w A c t.2.2.2) (fh : Fit had) :
    Calls Try.prog 5 #[.agg #[.int .i64 t.1, .int .i64 t.2.1, .int .i64 t.2.2.1, .slice A t.2.2.2.length c], .int .i64 had] w fun e w' => e = .returned (.bool true) ∧ Below w.heap.size w w' := by
  obtain ⟨t1, t2, t3, t4⟩ := box_new w t.1 t.2.1 t.2.2.1 A t.2.2.2.length c
  have b0 := below_one w (Obj.cells #[.int .i64 t.1, .int .i64 t.2.1, .int .i64 t.2.2.1, .slice A t.2.2.2.length c] 27)
  have HR := Lib.hid (hr.below b0)
  have hmax := Nat.le_trans hr.le hr.max
  unfold maxLen at hmax
  unfold Fit at ft fh
  clear hr
  have E0 : Hid (rightB t.1 t.2.1 t.2.2.1 t.2.2.2 = rightT t) := rfl
  by_cases h20 : 20 < t.2.2.2.length
  · have h21 : (20 : Int) < (t.2.2.2.length : Int) := by omega
    go_enter Try.func5, Try.ntmps5
    go_wp2_with fail
    have B0 := Lib.hid b0
    clear b0
    refine (knows_any _).mono ?_
    rintro e w1 ⟨rfl, b1⟩
    have B1 := Lib.hid (below_step B0.out b1)
    clear b1
    go_wp2_with fail
    go_ret
    exact ⟨rfl, B1.out⟩
  · have h21 : decide ((20 : Int) < (t.2.2.2.length : Int)) = false := by simp; omega
    cases hright : rightT t with
    | false =>
      go_enter Try.func5, Try.ntmps5
      go_wp2_with fail
      have B0 := Lib.hid b0
      clear b0
      generalize w.alloc (Obj.cells #[.int .i64 t.1, .int .i64 t.2.1, .int .i64 t.2.2.1, .slice A t.2.2.2.length c] 27) = w0 at *
      refine (refRight_any t.1 t.2.1 t.2.2.1 A c t.2.2.2 _ (by omega) HR.out).mono ?_
      rintro e w1 ⟨rfl, b1⟩
      have B1 := Lib.hid (below_step B0.out b1)
      clear b1
      rw [E0.out]
      go_wp2_with fail
      refine (knows_any _).mono ?_
      rintro e w2 ⟨rfl, b2⟩
      have B2 := Lib.hid (below_step B1.out b2)
      clear b2
      go_wp2_with fail
      go_ret
      exact ⟨rfl, B2.out⟩
    | true =>
      have HT := Lib.hid hright
      by_cases hrange : 0 ≤ had ∧ had ≤ 200
      · obtain ⟨r1, r2⟩ := hrange
        have hl : ∃ l, Hid (heldL t.2.2.2 had = l) := ⟨_, rfl⟩
        obtain ⟨pa, HLA⟩ := hl
        have hl : ∃ l, Hid (heldL t.2.2.2 (had + 1) = l) := ⟨_, rfl⟩
        obtain ⟨pb, HLB⟩ := hl
        have HN : Hid (∀ n, (pa.length ≤ n ∨ pb.length ≤ n ∨ at_ pa n ≠ at_ pb n) → (∀ i, n ≤ i → i < pb.length → ∃ j, j < t.2.2.2.length ∧ (at_ t.2.2.2 j).1 = at_ pb i ∧ (at_ t.2.2.2 j).2.1 = had) ∧
            (∀ i, n ≤ i → i < pa.length → ∃ j, j < t.2.2.2.length ∧ (at_ t.2.2.2 j).1 = at_ pa i ∧ (at_ t.2.2.2 j).2.1 + (at_ t.2.2.2 j).2.2 = had + 1)) := by
          rw [← HLA.out, ← HLB.out]
          exact fun n h => nests (ok_of (show rightB t.1 t.2.1 t.2.2.1 t.2.2.2 = true from hright)).2 h
        have HS : Hid (∀ j, j < t.2.2.2.length → 0 ≤ (at_ t.2.2.2 j).2.1 ∧ 0 ≤ (at_ t.2.2.2 j).2.2 ∧ (at_ t.2.2.2 j).2.1 + (at_ t.2.2.2 j).2.2 ≤ 200) := by
          obtain ⟨k1, _, k3, _⟩ := rightB_iff.1 (show rightB t.1 t.2.1 t.2.2.1 t.2.2.2 = true from hright)
          exact ticks_of (by have := times_iff.1 k1; omega) k3
        have hla : pa.length ≤ 20 := by have := heldL_length t.2.2.2 had; rw [HLA.out] at this; omega
        have hlb : pb.length ≤ 20 := by have := heldL_length t.2.2.2 (had + 1); rw [HLB.out] at this; omega
        go_enter Try.func5, Try.ntmps5
        go_wp2_with fail
        have B0 := Lib.hid b0
        clear b0
        generalize w.alloc (Obj.cells #[.int .i64 t.1, .int .i64 t.2.1, .int .i64 t.2.2.1, .slice A t.2.2.2.length c] 27) = w0 at *
        refine (refRight_any t.1 t.2.1 t.2.2.1 A c t.2.2.2 _ (by omega) HR.out).mono ?_
        rintro e w1 ⟨rfl, b1⟩
        replace t1 := (cell_below b1) t1
        replace t2 := (cell_below b1) t2
        replace t3 := (cell_below b1) t3
        replace t4 := (cell_below b1) t4
        have B1 := Lib.hid (below_step B0.out b1)
        replace HR := Lib.hid (HR.out.below b1)
        clear b1
        rw [E0.out, HT.out]
        clear hright
        go_wp2_with fail
        have q1 : IntKind.i64.wrap (had + 1) = had + 1 := IntWalk.i64_in _ (by omega)
        go_region_held3 (fun w' => w'.cell? ⟨w.heap.size, 0, none⟩ = some (.int .i64 t.1) ∧ w'.cell? ⟨w.heap.size, 1, none⟩ = some (.int .i64 t.2.1) ∧ w'.cell? ⟨w.heap.size, 2, none⟩ = some (.int .i64 t.2.2.1) ∧ w'.cell? ⟨w.heap.size, 3, none⟩ = some (.slice A t.2.2.2.length c) ∧ Hid (Below w1.heap.size w1 w'))
          (first
            | (exact ⟨cell_below HB3.out t1, cell_below HB3.out t2, cell_below HB3.out t3, cell_below HB3.out t4, HB3⟩)
            | (exact ⟨cell_below HB2.out t1, cell_below HB2.out t2, cell_below HB2.out t3, cell_below HB2.out t4, HB2⟩)
            | (exact ⟨t1, t2, t3, t4, (Below.refl _ w1).drew⟩))
          (first
            | (have _h := HB2
               go_at_call 14
               refine (held_r t HT.out A c (had + 1) pb HLB.out _ (by omega) (by exact HR.out.below HB2.out)).mono ?_
               rintro e w3 ⟨A3, c3, rfl, o3, b3⟩
               have HB3 : Hid (Below w1.heap.size w1 w3) := below_step HB2.out b3
               have O3 := Lib.hid o3.rd
               have O2' := Lib.hid (O2.out.below b3)
               clear o3 b3)
            | (go_at_call 14
               refine (held_r t HT.out A c had pa HLA.out _ (by omega) (by exact HR.out)).mono ?_
               rintro e w2 ⟨A2, c2, rfl, o2, b2⟩
               have HB2 : Hid (Below w1.heap.size w1 w2) := (Below.refl _ w1).drew.trans b2
               have O2 := Lib.hid o2.rd
               clear o2 b2))
        replace t1 := (cell_below HB3.out) t1
        replace t2 := (cell_below HB3.out) t2
        replace t3 := (cell_below HB3.out) t3
        replace t4 := (cell_below HB3.out) t4
        have B3 := Lib.hid (below_step B1.out HB3.out)
        have R3 := Lib.hid (HR.out.below HB3.out)
        clear q1 HB3 HB2 O2 B1 B0 HR
        have RA := O2'
        have RB := O3
        clear O2' O3
        go_upto_block 0 with fail
        go_cut [7] from 39 to 61 (fun v wx => Cut1 pa pb w3 v wx)
        case first =>
          go_wp2_with fail
          go_loopg [7] pa.length (fun g v wx => ∃ n : Nat, v = .int .i64 n ∧ n + g = pa.length ∧ n ≤ pb.length ∧ Hid (Below w3.heap.size w3 wx))
          case atStart => exact ⟨0, rfl, by omega, Nat.zero_le _, Below.refl _ _⟩
          case round =>
            obtain ⟨n, rfl, hn, hnb, HB⟩ := hrel
            have i1 : (0 : Int) ≤ (n : Int) := by omega
            by_cases ha : n < pa.length
            · have i2 : (n : Int) < (pa.length : Int) := by omega
              by_cases hb : n < pb.length
              · have i3 : (n : Int) < (pb.length : Int) := by omega
                obtain ⟨g2, f2, rfl, hc⟩ := (RA.out.below HB.out).int (by omega)
                have x1 := (hc n ha).1
                clear hc
                obtain ⟨g3, f3, rfl, hc⟩ := (RB.out.below HB.out).int (by omega)
                have y1 := (hc n hb).1
                clear hc
                by_cases he : at_ pa n = at_ pb n
                · rw [← he] at y1
                  clear he
                  generalize at_ pa n = x at *
                  go_wp2_with fail
                  replace x1 := cell_bw x1
                  replace y1 := cell_bw y1
                  refine wp_region_bw (by kernel_rfl) (by kernel_rfl) ?_
                  repeat
                    (with_reducible refine wpQuiet_step (fun K hK => ?_)
                     go_simp
                     first
                       | (with_reducible refine hK _ ?_
                          clear hK K)
                       | (rw [if_neg]
                          rotate_left
                          focus (intro h; cases h; done)
                          with_reducible refine hK _ ?_
                          clear hK K)
                       | (apply Exists.intro
                          refine ⟨fun _ => ?_, hK _ ?_⟩
                          (fail)
                          clear hK K))
                  with_reducible refine wpQuiet_nil ?_
                  intro wb hw'
                  obtain ⟨⟨wb', lb⟩, hw''⟩ := hw'
                  subst hw''
                  go_wp2_with fail
                  go_roundg (gk - 1)
                  case measure => omega
                  case rel => exact ⟨n + 1, by go_num, by omega, by omega, below_step HB.out lb⟩
                · have HE := Lib.hid he
                  have hq : (at_ pa n == at_ pb n) = false := by simpa using he
                  clear he
                  have HCU : Hid (∀ wx, Below w3.heap.size w3 wx → Cut1 pa pb w3 (.int .i64 n) wx) := fun wx h => ⟨n, rfl, by omega, by omega, .inr (.inr HE.out), h⟩
                  clear HE
                  generalize at_ pa n = x at *
                  generalize at_ pb n = y at *
                  go_wp2_with fail
                  replace x1 := cell_bw x1
                  replace y1 := cell_bw y1
                  refine wp_region_bw (by kernel_rfl) (by kernel_rfl) ?_
                  repeat
                    (with_reducible refine wpQuiet_step (fun K hK => ?_)
                     go_simp
                     first
                       | (with_reducible refine hK _ ?_
                          clear hK K)
                       | (rw [if_neg]
                          rotate_left
                          focus (intro h; cases h; done)
                          with_reducible refine hK _ ?_
                          clear hK K)
                       | (apply Exists.intro
                          refine ⟨fun _ => ?_, hK _ ?_⟩
                          (fail)
                          clear hK K))
                  with_reducible refine wpQuiet_nil ?_
                  intro wb hw'
                  obtain ⟨⟨wb', lb⟩, hw''⟩ := hw'
                  subst hw''
                  go_wp2_with fail
                  go_meet
                  exact HCU.out _ (below_step HB.out lb)
              · have i3 : ¬ (n : Int) < (pb.length : Int) := by omega
                have i4 : decide ((n : Int) < (pb.length : Int)) = false := by simp; omega
                go_wp2_with fail
                refine wp_region_bw (by kernel_rfl) (by kernel_rfl) ?_
                repeat
                  (with_reducible refine wpQuiet_step (fun K hK => ?_)
                   go_simp
                   first
                     | (with_reducible refine hK _ ?_
                        clear hK K)
                     | (rw [if_neg]
                        rotate_left
                        focus (intro h; cases h; done)
                        with_reducible refine hK _ ?_
                        clear hK K)
                     | (apply Exists.intro
                        refine ⟨fun _ => ?_, hK _ ?_⟩
                        (fail)
                        clear hK K))
                with_reducible refine wpQuiet_nil ?_
                intro wb hw'
                obtain ⟨⟨wb', lb⟩, hw''⟩ := hw'
                subst hw''
                go_wp2_with fail
                go_meet
                exact ⟨n, rfl, by omega, by omega, .inr (.inl (by omega)), below_step HB.out lb⟩
            · have i3 : ¬ (n : Int) < (pa.length : Int) := by omega
              have i4 : decide ((n : Int) < (pa.length : Int)) = false := by simp; omega
              go_wp2_with fail
              refine wp_region_bw (by kernel_rfl) (by kernel_rfl) ?_
              repeat
                (with_reducible refine wpQuiet_step (fun K hK => ?_)
                 go_simp
                 first
                   | (with_reducible refine hK _ ?_
                      clear hK K)
                   | (rw [if_neg]
                      rotate_left
                      focus (intro h; cases h; done)
                      with_reducible refine hK _ ?_
                      clear hK K)
                   | (apply Exists.intro
                      refine ⟨fun _ => ?_, hK _ ?_⟩
                      (fail)
                      clear hK K))
              with_reducible refine wpQuiet_nil ?_
              intro wb hw'
              obtain ⟨⟨wb', lb⟩, hw''⟩ := hw'
              subst hw''
              go_wp2_with fail
              go_meet
              exact ⟨n, rfl, by omega, by omega, .inl (by omega), below_step HB.out lb⟩
        case rest =>
          obtain ⟨n, rfl, hna, hnb, hx, hb4⟩ := hcut
          obtain ⟨hN1, hN2⟩ := HN.out n hx
          have HN1 := Lib.hid hN1
          have HN2 := Lib.hid hN2
          have B4 := Lib.hid (below_step B3.out hb4)
          replace RA := Lib.hid (RA.out.below hb4)
          replace RB := Lib.hid (RB.out.below hb4)
          replace R3 := Lib.hid (R3.out.below hb4)
          replace t4 := (cell_below hb4) t4
          clear hN1 hN2 hx hb4 t1 t2 t3 HN
          go_wp2_with fail
          go_loopg [8] (pb.length - n) (fun g v wx => ∃ i : Nat, v = .int .i64 i ∧ n ≤ i ∧ i + g = pb.length ∧ Hid (Below w.heap.size w wx) ∧ Hid (Below wc.heap.size wc wx))
          case atStart => exact ⟨n, rfl, Nat.le_refl _, by omega, B4.out, Below.refl _ _⟩
          case round =>
            obtain ⟨i, rfl, hni, hi, HW, HB⟩ := hrel
            generalize gk = G at *
            by_cases hlt : i < pb.length
            · obtain ⟨g, f, rfl, hc⟩ := (RB.out.below HB.out).int (by omega)
              have HCI := Lib.hid (hc i hlt).1
              have HALL : Hid (anyTo (beginsAt (at_ pb i) had) t.2.2.2 t.2.2.2.length = true) := by
                obtain ⟨j, hj, e1, e2⟩ := HN1.out i hni hlt
                exact anyTo_all hj (Nat.le_refl _) (by simp [beginsAt, e1, e2])
              have HRW := Lib.hid (R3.out.below HB.out)
              have HTW := Lib.hid (cell_below HB.out t4)
              clear hc
              generalize at_ pb i = y at *
              go_wp2_with fail
              go_loopg [9, 10] t.2.2.2.length (fun g v kk wz => ∃ k : Nat, v = .bool (anyTo (beginsAt y had) t.2.2.2 k) ∧ kk = .int .i64 k ∧ k + g = t.2.2.2.length ∧ Hid (Below wr.heap.size wr wz))
              case atStart => exact ⟨0, by rw [anyTo_zero], rfl, by omega, Below.refl _ _⟩
              case round =>
                obtain ⟨k, rfl, rfl, hk, HY⟩ := hrel
                have t4 := cell_below HY.out HTW.out
                have u1 := cell_below HY.out HCI.out
                by_cases hlt2 : k < t.2.2.2.length
                · obtain ⟨bs, os, rfl, hc⟩ := sec_at (HRW.out.below HY.out) (by omega)
                  obtain ⟨z1, z2, z3, _, _, _⟩ := hc k hlt2
                  obtain ⟨s1, s2, s3⟩ := HS.out k hlt2
                  have HST := Lib.hid (anyTo_succ (p := beginsAt y had) hlt2)
                  clear hc
                  generalize at_ t.2.2.2 k = x at *
                  have i1 : (0 : Int) ≤ (k : Int) := by omega
                  have i2 : (k : Int) < (t.2.2.2.length : Int) := by omega
                  have i3 : (0 : Int) ≤ (i : Int) := by omega
                  have i4 : (i : Int) < (pb.length : Int) := by omega
                  have j1 : IntKind.i64.wrap (had + 1) = had + 1 := IntWalk.i64_in _ (by omega)
                  have j2 : IntKind.i64.wrap (x.2.1 + x.2.2) = x.2.1 + x.2.2 := IntWalk.i64_in _ (by omega)
                  cases hbg : anyTo (beginsAt y had) t.2.2.2 k with
                  | true =>
                    have HV : Hid (anyTo (beginsAt y had) t.2.2.2 (k + 1) = true) := by show _ = _; rw [HST.out, hbg]; rfl
                    clear j1 j2
                    go_wp2_with fail
                    replace t4 := cell_bw t4
                    replace u1 := cell_bw u1
                    replace z1 := cell_bw z1
                    replace z2 := cell_bw z2
                    replace z3 := cell_bw z3
                    refine wp_region_bw (by kernel_rfl) (by kernel_rfl) ?_
                    repeat
                      (with_reducible refine wpQuiet_step (fun K hK => ?_)
                       go_simp
                       first
                         | (with_reducible refine hK _ ?_
                            clear hK K)
                         | (rw [if_neg]
                            rotate_left
                            focus (intro h; cases h; done)
                            with_reducible refine hK _ ?_
                            clear hK K)
                         | (apply Exists.intro
                            refine ⟨fun _ => ?_, hK _ ?_⟩
                            (fail)
                            clear hK K))
                    with_reducible refine wpQuiet_nil ?_
                    intro wb hw'
                    obtain ⟨⟨wb', lb⟩, hw''⟩ := hw'
                    subst hw''
                    go_wp2_with fail
                    go_roundg (gk - 1)
                    case measure => omega
                    case rel => exact ⟨k + 1, by rw [HV.out], by go_num, by omega, below_step HY.out lb⟩
                  | false =>
                    by_cases h1 : x.1 = y
                    · have e1 : (x.1 == y) = true := by simp [h1]
                      by_cases h2 : x.2.1 = had
                      · have HV : Hid (anyTo (beginsAt y had) t.2.2.2 (k + 1) = true) := by show _ = _; rw [HST.out, hbg]; simp [beginsAt, h1, h2]
                        have e2 : (x.2.1 == had) = true := by simp [h2]
                        clear h1 h2
                        go_wp2_with fail
                        replace t4 := cell_bw t4
                        replace u1 := cell_bw u1
                        replace z1 := cell_bw z1
                        replace z2 := cell_bw z2
                        replace z3 := cell_bw z3
                        refine wp_region_bw (by kernel_rfl) (by kernel_rfl) ?_
                        repeat
                          (with_reducible refine wpQuiet_step (fun K hK => ?_)
                           go_simp
                           first
                             | (with_reducible refine hK _ ?_
                                clear hK K)
                             | (rw [if_neg]
                                rotate_left
                                focus (intro h; cases h; done)
                                with_reducible refine hK _ ?_
                                clear hK K)
                             | (apply Exists.intro
                                refine ⟨fun _ => ?_, hK _ ?_⟩
                                (fail)
                                clear hK K))
                        with_reducible refine wpQuiet_nil ?_
                        intro wb hw'
                        obtain ⟨⟨wb', lb⟩, hw''⟩ := hw'
                        subst hw''
                        go_wp2_with fail
                        go_roundg (gk - 1)
                        case measure => omega
                        case rel => exact ⟨k + 1, by rw [HV.out], by go_num, by omega, below_step HY.out lb⟩
                      · have HV : Hid (anyTo (beginsAt y had) t.2.2.2 (k + 1) = false) := by show _ = _; rw [HST.out, hbg]; simp [beginsAt, h2]
                        have e2 : (x.2.1 == had) = false := by simpa using h2
                        clear h1 h2
                        go_wp2_with fail
                        replace t4 := cell_bw t4
                        replace u1 := cell_bw u1
                        replace z1 := cell_bw z1
                        replace z2 := cell_bw z2
                        replace z3 := cell_bw z3
                        refine wp_region_bw (by kernel_rfl) (by kernel_rfl) ?_
                        repeat
                          (with_reducible refine wpQuiet_step (fun K hK => ?_)
                           go_simp
                           first
                             | (with_reducible refine hK _ ?_
                                clear hK K)
                             | (rw [if_neg]
                                rotate_left
                                focus (intro h; cases h; done)
                                with_reducible refine hK _ ?_
                                clear hK K)
                             | (apply Exists.intro
                                refine ⟨fun _ => ?_, hK _ ?_⟩
                                (fail)
                                clear hK K))
                        with_reducible refine wpQuiet_nil ?_
                        intro wb hw'
                        obtain ⟨⟨wb', lb⟩, hw''⟩ := hw'
                        subst hw''
                        go_wp2_with fail
                        go_roundg (gk - 1)
                        case measure => omega
                        case rel => exact ⟨k + 1, by rw [HV.out], by go_num, by omega, below_step HY.out lb⟩
                    · have HV : Hid (anyTo (beginsAt y had) t.2.2.2 (k + 1) = false) := by show _ = _; rw [HST.out, hbg]; simp [beginsAt, h1]
                      have e1 : (x.1 == y) = false := by simpa using h1
                      clear h1
                      go_wp2_with fail
                      replace t4 := cell_bw t4
                      replace u1 := cell_bw u1
                      replace z1 := cell_bw z1
                      replace z2 := cell_bw z2
                      replace z3 := cell_bw z3
                      refine wp_region_bw (by kernel_rfl) (by kernel_rfl) ?_
                      repeat
                        (with_reducible refine wpQuiet_step (fun K hK => ?_)
                         go_simp
                         first
                           | (with_reducible refine hK _ ?_
                              clear hK K)
                           | (rw [if_neg]
                              rotate_left
                              focus (intro h; cases h; done)
                              with_reducible refine hK _ ?_
                              clear hK K)
                           | (apply Exists.intro
                              refine ⟨fun _ => ?_, hK _ ?_⟩
                              (fail)
                              clear hK K))
                      with_reducible refine wpQuiet_nil ?_
                      intro wb hw'
                      obtain ⟨⟨wb', lb⟩, hw''⟩ := hw'
                      subst hw''
                      go_wp2_with fail
                      go_roundg (gk - 1)
                      case measure => omega
                      case rel => exact ⟨k + 1, by rw [HV.out], by go_num, by omega, below_step HY.out lb⟩
                · have hkl : k = t.2.2.2.length := by omega
                  subst hkl
                  have hA := HALL.out
                  go_wp2_with fail
                  go_roundg (G - 1)
                  case measure => omega
                  case rel => exact ⟨i + 1, by go_num, by omega, by omega, below_step HW.out HY.out, below_step HB.out HY.out⟩
            · clear HN1
              go_wp2_with fail
              go_loopg [11] (pa.length - n) (fun g v wy => ∃ i : Nat, v = .int .i64 i ∧ n ≤ i ∧ i + g = pa.length ∧ Hid (Below w.heap.size w wy) ∧ Hid (Below wc.heap.size wc wy))
              case atStart => exact ⟨n, rfl, Nat.le_refl _, by omega, HW, HB⟩
              case round =>
                clear HB HW
                obtain ⟨i, rfl, hni, hi, HW, HB⟩ := hrel
                generalize gk = G at *
                by_cases hlt : i < pa.length
                · obtain ⟨g, f, rfl, hc⟩ := (RA.out.below HB.out).int (by omega)
                  have HCI := Lib.hid (hc i hlt).1
                  have HALL : Hid (anyTo (endedAt (at_ pa i) had) t.2.2.2 t.2.2.2.length = true) := by
                    obtain ⟨j, hj, e1, e2⟩ := HN2.out i hni hlt
                    exact anyTo_all hj (Nat.le_refl _) (by simp [endedAt, e1, e2])
                  have HRW := Lib.hid (R3.out.below HB.out)
                  have HTW := Lib.hid (cell_below HB.out t4)
                  clear hc
                  generalize at_ pa i = y at *
                  go_wp2_with fail
                  go_loopg [12, 13] t.2.2.2.length (fun g v kk wz => ∃ k : Nat, v = .bool (anyTo (endedAt y had) t.2.2.2 k) ∧ kk = .int .i64 k ∧ k + g = t.2.2.2.length ∧ Hid (Below wr.heap.size wr wz))
                  case atStart => exact ⟨0, by rw [anyTo_zero], rfl, by omega, Below.refl _ _⟩
                  case round =>
                    obtain ⟨k, rfl, rfl, hk, HY⟩ := hrel
                    have t4 := cell_below HY.out HTW.out
                    have u1 := cell_below HY.out HCI.out
                    by_cases hlt2 : k < t.2.2.2.length
                    · obtain ⟨bs, os, rfl, hc⟩ := sec_at (HRW.out.below HY.out) (by omega)
                      obtain ⟨z1, z2, z3, _, _, _⟩ := hc k hlt2
                      obtain ⟨s1, s2, s3⟩ := HS.out k hlt2
                      have HST := Lib.hid (anyTo_succ (p := endedAt y had) hlt2)
                      clear hc
                      generalize at_ t.2.2.2 k = x at *
                      have i1 : (0 : Int) ≤ (k : Int) := by omega
                      have i2 : (k : Int) < (t.2.2.2.length : Int) := by omega
                      have i3 : (0 : Int) ≤ (i : Int) := by omega
                      have i4 : (i : Int) < (pa.length : Int) := by omega
                      have j1 : IntKind.i64.wrap (had + 1) = had + 1 := IntWalk.i64_in _ (by omega)
                      have j2 : IntKind.i64.wrap (x.2.1 + x.2.2) = x.2.1 + x.2.2 := IntWalk.i64_in _ (by omega)
                      cases hbg : anyTo (endedAt y had) t.2.2.2 k with
                      | true =>
                        have HV : Hid (anyTo (endedAt y had) t.2.2.2 (k + 1) = true) := by show _ = _; rw [HST.out, hbg]; rfl
                        clear j1 j2
                        go_wp2_with fail
                        replace t4 := cell_bw t4
                        replace u1 := cell_bw u1
                        replace z1 := cell_bw z1
                        replace z2 := cell_bw z2
                        replace z3 := cell_bw z3
                        refine wp_region_bw (by kernel_rfl) (by kernel_rfl) ?_
                        repeat
                          (with_reducible refine wpQuiet_step (fun K hK => ?_)
                           go_simp
                           first
                             | (with_reducible refine hK _ ?_
                                clear hK K)
                             | (rw [if_neg]
                                rotate_left
                                focus (intro h; cases h; done)
                                with_reducible refine hK _ ?_
                                clear hK K)
                             | (apply Exists.intro
                                refine ⟨fun _ => ?_, hK _ ?_⟩
                                (fail)
                                clear hK K))
                        with_reducible refine wpQuiet_nil ?_
                        intro wb hw'
                        obtain ⟨⟨wb', lb⟩, hw''⟩ := hw'
                        subst hw''
                        go_wp2_with fail
                        go_roundg (gk - 1)
                        case measure => omega
                        case rel => exact ⟨k + 1, by rw [HV.out], by go_num, by omega, below_step HY.out lb⟩
                      | false =>
                        by_cases h1 : x.1 = y
                        · have e1 : (x.1 == y) = true := by simp [h1]
                          by_cases h2 : x.2.1 + x.2.2 = had + 1
                          · have HV : Hid (anyTo (endedAt y had) t.2.2.2 (k + 1) = true) := by show _ = _; rw [HST.out, hbg]; simp [endedAt, h1, h2]
                            have e2 : (x.2.1 + x.2.2 == had + 1) = true := by simp [h2]
                            clear h1 h2
                            go_wp2_with fail
                            replace t4 := cell_bw t4
                            replace u1 := cell_bw u1
                            replace z1 := cell_bw z1
                            replace z2 := cell_bw z2
                            replace z3 := cell_bw z3
                            refine wp_region_bw (by kernel_rfl) (by kernel_rfl) ?_
                            repeat
                              (with_reducible refine wpQuiet_step (fun K hK => ?_)
                               go_simp
                               first
                                 | (with_reducible refine hK _ ?_
                                    clear hK K)
                                 | (rw [if_neg]
                                    rotate_left
                                    focus (intro h; cases h; done)
                                    with_reducible refine hK _ ?_
                                    clear hK K)
                                 | (apply Exists.intro
                                    refine ⟨fun _ => ?_, hK _ ?_⟩
                                    (fail)
                                    clear hK K))
                            with_reducible refine wpQuiet_nil ?_
                            intro wb hw'
                            obtain ⟨⟨wb', lb⟩, hw''⟩ := hw'
                            subst hw''
                            go_wp2_with fail
                            go_roundg (gk - 1)
                            case measure => omega
                            case rel => exact ⟨k + 1, by rw [HV.out], by go_num, by omega, below_step HY.out lb⟩
                          · have HV : Hid (anyTo (endedAt y had) t.2.2.2 (k + 1) = false) := by show _ = _; rw [HST.out, hbg]; simp [endedAt, h2]
                            have e2 : (x.2.1 + x.2.2 == had + 1) = false := by simpa using h2
                            clear h1 h2
                            go_wp2_with fail
                            replace t4 := cell_bw t4
                            replace u1 := cell_bw u1
                            replace z1 := cell_bw z1
                            replace z2 := cell_bw z2
                            replace z3 := cell_bw z3
                            refine wp_region_bw (by kernel_rfl) (by kernel_rfl) ?_
                            repeat
                              (with_reducible refine wpQuiet_step (fun K hK => ?_)
                               go_simp
                               first
                                 | (with_reducible refine hK _ ?_
                                    clear hK K)
                                 | (rw [if_neg]
                                    rotate_left
                                    focus (intro h; cases h; done)
                                    with_reducible refine hK _ ?_
                                    clear hK K)
                                 | (apply Exists.intro
                                    refine ⟨fun _ => ?_, hK _ ?_⟩
                                    (fail)
                                    clear hK K))
                            with_reducible refine wpQuiet_nil ?_
                            intro wb hw'
                            obtain ⟨⟨wb', lb⟩, hw''⟩ := hw'
                            subst hw''
                            go_wp2_with fail
                            go_roundg (gk - 1)
                            case measure => omega
                            case rel => exact ⟨k + 1, by rw [HV.out], by go_num, by omega, below_step HY.out lb⟩
                        · have HV : Hid (anyTo (endedAt y had) t.2.2.2 (k + 1) = false) := by show _ = _; rw [HST.out, hbg]; simp [endedAt, h1]
                          have e1 : (x.1 == y) = false := by simpa using h1
                          clear h1
                          go_wp2_with fail
                          replace t4 := cell_bw t4
                          replace u1 := cell_bw u1
                          replace z1 := cell_bw z1
                          replace z2 := cell_bw z2
                          replace z3 := cell_bw z3
                          refine wp_region_bw (by kernel_rfl) (by kernel_rfl) ?_
                          repeat
                            (with_reducible refine wpQuiet_step (fun K hK => ?_)
                             go_simp
                             first
                               | (with_reducible refine hK _ ?_
                                  clear hK K)
                               | (rw [if_neg]
                                  rotate_left
                                  focus (intro h; cases h; done)
                                  with_reducible refine hK _ ?_
                                  clear hK K)
                               | (apply Exists.intro
                                  refine ⟨fun _ => ?_, hK _ ?_⟩
                                  (fail)
                                  clear hK K))
                          with_reducible refine wpQuiet_nil ?_
                          intro wb hw'
                          obtain ⟨⟨wb', lb⟩, hw''⟩ := hw'
                          subst hw''
                          go_wp2_with fail
                          go_roundg (gk - 1)
                          case measure => omega
                          case rel => exact ⟨k + 1, by rw [HV.out], by go_num, by omega, below_step HY.out lb⟩
                    · have hkl : k = t.2.2.2.length := by omega
                      subst hkl
                      have hA := HALL.out
                      go_wp2_with fail
                      go_roundg (G - 1)
                      case measure => omega
                      case rel => exact ⟨i + 1, by go_num, by omega, by omega, below_step HW.out HY.out, below_step HB.out HY.out⟩
                · go_wp2_with fail
                  refine (knows_any _).mono ?_
                  rintro e w9 ⟨rfl, b9⟩
                  have B9 := Lib.hid (below_step HW.out b9)
                  clear b9
                  go_wp2_with fail
                  go_ret
                  exact ⟨rfl, B9.out⟩
      · go_enter Try.func5, Try.ntmps5
        go_wp2_with fail
        have B0 := Lib.hid b0
        clear b0
        generalize w.alloc (Obj.cells #[.int .i64 t.1, .int .i64 t.2.1, .int .i64 t.2.2.1, .slice A t.2.2.2.length c] 27) = w0 at *
        refine (refRight_any t.1 t.2.1 t.2.2.1 A c t.2.2.2 _ (by omega) HR.out).mono ?_
        rintro e w1 ⟨rfl, b1⟩
        have B1 := Lib.hid (below_step B0.out b1)
        clear b1
        rw [E0.out, HT.out]
        clear hright
        by_cases r1 : had < 0
        · go_wp2_with fail
          refine (knows_any _).mono ?_
          rintro e w2 ⟨rfl, b2⟩
          have B2 := Lib.hid (below_step B1.out b2)
          clear b2
          go_wp2_with fail
          go_ret
          exact ⟨rfl, B2.out⟩
        · have r2 : 200 < had := by omega
          go_wp2_with fail
          refine (knows_any _).mono ?_
          rintro e w2 ⟨rfl, b2⟩
          have B2 := Lib.hid (below_step B1.out b2)
          clear b2
          go_wp2_with fail
          go_ret
          exact ⟨rfl, B2.out⟩

set_option maxRecDepth 100000 in
theorem lifted (os : Os) (started : os.Started) (H : Type) (enc : TypeId × Value → H) :
    ReturnsInHanded {} Try.checked os 5 .any (Rows.taskNestsSpec.pre6 enc Try.prog Try.f5 Rows.taskNestsRow.domain false) (Rows.taskNestsSpec.post enc Try.prog Try.f5 false true false false) := by
  refine returnsInHanded_of_change (C := Try.checked) own started (by kernel_rfl) Try.func5
    (ChangeSpec.witness6 (enc := enc) (C := Try.checked) false ⟨#[], #[.agg #[.int .i64 0, .int .i64 0, .int .i64 0, .slice none 0 0], .int .i64 0], []⟩ 8 (by kernel_rfl) (by kernel_rfl) (by kernel_rfl) (by kernel_rfl)) ?_
  intro W base args ds gs before hval0 hW hcnd _
  have hval : ∀ (j : Nat) t v, Try.f5.params[j]? = some t → args[j]? = some v → Value.okWide Try.prog W .any base t v := hval0
  have hW' := hW
  obtain ⟨p, q, hA0, hV, rfl, hfz, hnd⟩ := hW
  have hA : DataW.TrodAll enc Try.prog W 0 (fun _ => true) true Try.f5.params.toList args.toList ds p := hA0
  rw [Try.params5] at hA hval
  obtain ⟨v0, v1, d0, d1, p0, p1, rfl, rfl, rfl, h0, h1⟩ := trodAll_two hA
  obtain ⟨rfl, rfl⟩ := trodVars_none hV
  obtain ⟨A0, c0, x0, rfl, fa0, fb0, fc0, hr0⟩ := Tk.open_task (hval 0 27 v0 rfl rfl) h0
  obtain ⟨n1, rfl, f1⟩ := Mm.open_num' Try.underlying3 (hval 1 3 v1 rfl rfl) h1
  clear hA0 hval0
  refine (walk A0 c0 x0 n1 W fa0 fb0 fc0 hr0 f1).mono fun e W' ⟨he, bel⟩ => ?_
  subst he
  have hlt0 : ∀ x ∈ p0, x.block < W.heap.size := fun x hx => hW'.lt x (by simp [hx])
  have hlt1 : ∀ x ∈ p1, x.block < W.heap.size := fun x hx => hW'.lt x (by simp [hx])
  exact ⟨_, rfl, _, _, _, [], _, [], hW', trodAll_mk1 (shut_bool Try.underlying4 _), trodAll_mk2 (Below.trod laidOut (by kernel_rfl) (of_decide_eq_true (by kernel_rfl)) h0 bel hlt0) (Below.trod laidOut (by kernel_rfl) (of_decide_eq_true (by kernel_rfl)) h1 bel hlt1), rfl, bel.frame _, fun h => by cases h⟩

/-- The statement. -/
theorem proved : Rows.TaskNestsSaid :=
  OpenClaim.holds_of_wide 5 Try.f5 rfl rfl rfl rfl rfl rfl rfl ⟨rfl, rfl, rfl, rfl, rfl⟩ rfl rfl rfl rfl rfl (by kernel_rfl) Try.func5 (by kernel_rfl)
    (of_decide_eq_true (by kernel_rfl)) (by unfold Func.isWrapper; first | (rw [if_pos (by decide +kernel)]; kernel_rfl) | (rw [if_neg (by decide +kernel)]; exact ⟨rfl, rfl⟩))
    (fun os started H enc _ => lifted os started H enc)
#print axioms proved

end Go.Proofs.Ytaehcgfmdpjfaaa.taskNests
