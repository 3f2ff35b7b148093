/-
  Layer 10 (verdict): Need.
-/
import Derived.Test.YtldiplnccgoeiaaVerdictCyc
import Derived.Test.YtldiplnccgoeiaaDemandBnd
import Derived.Test.YtldiplnccgoeiaaBlockOf
namespace Go.Proofs.Ytldiplnccgoeiaa
open Go.RowKit Mm Tk
namespace Vd

/-- what Need answers -/
def needOk (L : List Tsk) (t : Int) : Bool := allB L && decide (0 ≤ t ∧ t ≤ 4611686018427387903)
theorem needOk_iff {L : List Tsk} {t : Int} : needOk L t = true ↔ allB L = true ∧ 0 ≤ t ∧ t ≤ 4611686018427387903 := by unfold needOk; rw [Bool.and_eq_true, decide_eq_true_iff]
def needZ (L : List Tsk) (t : Int) : Int := if needOk L t then (if need L t.toNat ≤ 4611686018427387903 then need L t.toNat else 0) else 0
def needE (L : List Tsk) (t : Int) : Int := if needOk L t then (if need L t.toNat ≤ 4611686018427387903 then 0 else 5) else 1
theorem needZ_bad {L : List Tsk} {t : Int} (h : needOk L t = false) : needZ L t = 0 ∧ needE L t = 1 := by
  unfold needZ needE
  rw [h]
  exact ⟨rfl, rfl⟩
theorem needZ_ok {L : List Tsk} {t : Int} (h : needOk L t = true) (hn : need L t.toNat ≤ 4611686018427387903) : needZ L t = need L t.toNat ∧ needE L t = 0 := by
  unfold needZ needE
  rw [h, if_pos rfl, if_pos rfl, if_pos hn, if_pos hn]
  exact ⟨rfl, rfl⟩
theorem needZ_large {L : List Tsk} {t : Int} (h : needOk L t = true) (hn : ¬ need L t.toNat ≤ 4611686018427387903) : needZ L t = 0 ∧ needE L t = 5 := by
  unfold needZ needE
  rw [h, if_pos rfl, if_pos rfl, if_neg hn, if_neg hn]
  exact ⟨rfl, rfl⟩

theorem dbound_v (A : Option Addr) (c : Nat) (L : List Tsk) (t z e : Int) (hz : Dm.bndZ L t = z) (he : Dm.bndE L t = e) (n : Nat) (hn : L.length = n) (w : World) (H : TL w A c L) :
    Calls Try.prog 21 #[.slice A n c, .int .i64 t] w fun x w' => x = .returned (.tuple #[.int .i64 z, .int .i64 e]) ∧ Below w.heap.size w w' := by
  subst hz; subst he; subst hn
  exact Dm.bound_any A c L t w H
theorem bof_v (A : Option Addr) (c : Nat) (L : List Tsk) (t z e : Int) (hz : ((Bk.ofB L t : Nat) : Int) = z) (he : ((Bk.errB L : Nat) : Int) = e) (n : Nat) (hn : L.length = n) (w : World) (H : TL w A c L) :
    Calls Try.prog 22 #[.slice A n c, .int .i64 t] w fun x w' => x = .returned (.tuple #[.int .i64 z, .int .i64 e]) ∧ Below w.heap.size w w' := by
  subst hz; subst he; subst hn
  exact Bk.of_any A c L t w H

set_option maxHeartbeats 1600000 in
theorem need_any (A : Option Addr) (c : Nat) (L : List Tsk) (t : Int) (w : World) (H : TL w A c L) :
    Calls Try.prog 11 #[.slice A L.length c, .int .i64 t] w fun e w' => e = .returned (.tuple #[.int .i64 (needZ L t), .int .i64 (needE L t)]) ∧ Below w.heap.size w w' := by
  have hb1 := H.1
  have HT := Lib.hid H
  clear H
  cases hok : needOk L t with
  | false =>
    have hno : ¬ (allB L = true ∧ 0 ≤ t ∧ t ≤ 4611686018427387903) := fun e => by rw [needOk_iff.2 e] at hok; cases hok
    obtain ⟨z1, z2⟩ := Dm.bnd_bad hno
    obtain ⟨z3, z4⟩ := needZ_bad hok
    have Z1 := Lib.hid z1
    have Z2 := Lib.hid z2
    have Z3 := Lib.hid z3
    have Z4 := Lib.hid z4
    clear z1 z2 z3 z4
    clear hok hno
    go_enter Try.func11, Try.ntmps11
    go_wp2_with fail
    refine (dbound_v A c L t 0 1 Z1.out Z2.out _ rfl _ HT.out).mono ?_
    rintro e w1 ⟨rfl, b1⟩
    have B1 := Lib.hid b1
    replace HT := Lib.hid (HT.out.below b1)
    clear b1
    go_wp2_with fail
    go_ret2
    exact ⟨by rw [Z3.out, Z4.out]; rfl, B1.out⟩
  | true =>
    obtain ⟨ha, h0, h1⟩ := needOk_iff.1 hok
    obtain ⟨k, rfl⟩ : ∃ k : Nat, t = k := ⟨t.toNat, by omega⟩
    obtain ⟨d1, d2⟩ := Dm.bnd_good ha h0 h1
    have hnd : need L k = Dm.bnd L k + (Bk.blk L k : Nat) := rfl
    have n0 := Dm.bnd_nonneg ha (k : Int)
    have hbl := Bk.blk_le ha (k : Int)
    have hof : Bk.ofB L (k : Int) = Bk.blk L k := by unfold Bk.ofB; rw [if_pos ha]
    have her : Bk.errB L = 0 := by unfold Bk.errB; rw [if_pos ha]
    obtain ⟨b, hb⟩ : ∃ b, Dm.bnd L (k : Int) = b := ⟨_, rfl⟩
    obtain ⟨q, hq⟩ : ∃ q, Bk.blk L (k : Int) = q := ⟨_, rfl⟩
    rw [hb] at d1 d2 n0 hnd
    rw [hq] at hnd hbl hof
    have ht : ((k : Int)).toNat = k := Int.toNat_natCast k
    by_cases hbm : b ≤ 4611686018427387903
    · obtain ⟨s1, s2⟩ := Dm.sum_small hbm
      rw [s1] at d1
      rw [s2] at d2
      have o1 : ((Bk.ofB L (k : Int) : Nat) : Int) = (q : Int) := by rw [hof]
      have o2 : ((Bk.errB L : Nat) : Int) = 0 := by rw [her]; rfl
      have p1 := Dm.perm_of n0 hbm
      have p2 := Dm.perm_of (v := (q : Int)) (by omega) (by omega)
      by_cases hs : b + (q : Int) ≤ 4611686018427387903
      · obtain ⟨z3, z4⟩ := needZ_ok hok (by rw [ht, hnd]; exact hs)
        rw [ht, hnd] at z3
        have p3 := Dm.perm_of (v := b + (q : Int)) (by omega) hs
        have D1 := Lib.hid d1
        have D2 := Lib.hid d2
        have O1 := Lib.hid o1
        have O2 := Lib.hid o2
        have P1 := Lib.hid p1
        have P2 := Lib.hid p2
        have P3 := Lib.hid p3
        have Z3 := Lib.hid z3
        have Z4 := Lib.hid z4
        have N0 := Lib.hid n0
        have HBL := Lib.hid hbl
        clear d1 d2 o1 o2 p1 p2 p3 z3 z4 n0 hbl
        clear hok ha hnd hof her hb hq s1 s2 ht hbm hs
        go_enter Try.func11, Try.ntmps11
        go_wp2_with fail
        refine (dbound_v A c L k b 0 D1.out D2.out _ rfl _ HT.out).mono ?_
        rintro e w1 ⟨rfl, b1⟩
        have B1 := Lib.hid b1
        replace HT := Lib.hid (HT.out.below b1)
        clear b1
        go_wp2_with fail
        refine (bof_v A c L k q 0 O1.out O2.out _ rfl _ HT.out).mono ?_
        rintro e w2 ⟨rfl, b2⟩
        have B2 := Lib.hid (below_step B1.out b2)
        clear b2
        go_wp2_with fail
        refine (Ar.add_ok b q _ P1.out P2.out P3.out).mono ?_
        rintro e w3 ⟨rfl, b3⟩
        have B3 := Lib.hid (below_step B2.out b3)
        clear b3
        go_wp2_with fail
        go_ret2
        exact ⟨by rw [Z3.out, Z4.out]; rfl, B3.out⟩
      · obtain ⟨z3, z4⟩ := needZ_large hok (by rw [ht, hnd]; exact hs)
        have p3 := Dm.perm_not hs
        have D1 := Lib.hid d1
        have D2 := Lib.hid d2
        have O1 := Lib.hid o1
        have O2 := Lib.hid o2
        have P1 := Lib.hid p1
        have P2 := Lib.hid p2
        have P3 := Lib.hid p3
        have Z3 := Lib.hid z3
        have Z4 := Lib.hid z4
        have N0 := Lib.hid n0
        have HBL := Lib.hid hbl
        clear d1 d2 o1 o2 p1 p2 p3 z3 z4 n0 hbl
        clear hok ha hnd hof her hb hq s1 s2 ht hbm hs
        go_enter Try.func11, Try.ntmps11
        go_wp2_with fail
        refine (dbound_v A c L k b 0 D1.out D2.out _ rfl _ HT.out).mono ?_
        rintro e w1 ⟨rfl, b1⟩
        have B1 := Lib.hid b1
        replace HT := Lib.hid (HT.out.below b1)
        clear b1
        go_wp2_with fail
        refine (bof_v A c L k q 0 O1.out O2.out _ rfl _ HT.out).mono ?_
        rintro e w2 ⟨rfl, b2⟩
        have B2 := Lib.hid (below_step B1.out b2)
        clear b2
        go_wp2_with fail
        refine (Ar.add_large b q _ P1.out P2.out P3.out).mono ?_
        rintro e w3 ⟨rfl, b3⟩
        have B3 := Lib.hid (below_step B2.out b3)
        clear b3
        go_wp2_with fail
        go_ret2
        exact ⟨by rw [Z3.out, Z4.out]; rfl, B3.out⟩
    · obtain ⟨s1, s2⟩ := Dm.sum_great hbm
      rw [s1] at d1
      rw [s2] at d2
      obtain ⟨z3, z4⟩ := needZ_large hok (by rw [ht, hnd]; omega)
      have D1 := Lib.hid d1
      have D2 := Lib.hid d2
      have Z3 := Lib.hid z3
      have Z4 := Lib.hid z4
      clear d1 d2 z3 z4
      clear hok ha hnd hof her hb hq s1 s2 ht hbm n0 hbl
      go_enter Try.func11, Try.ntmps11
      go_wp2_with fail
      refine (dbound_v A c L k 0 5 D1.out D2.out _ rfl _ HT.out).mono ?_
      rintro e w1 ⟨rfl, b1⟩
      have B1 := Lib.hid b1
      replace HT := Lib.hid (HT.out.below b1)
      clear b1
      go_wp2_with fail
      go_ret2
      exact ⟨by rw [Z3.out, Z4.out]; rfl, B1.out⟩
theorem need_v (A : Option Addr) (c : Nat) (L : List Tsk) (t z e : Int) (hz : needZ L t = z) (he : needE L t = e) (n : Nat) (hn : L.length = n) (w : World) (H : TL w A c L) :
    Calls Try.prog 11 #[.slice A n c, .int .i64 t] w fun x w' => x = .returned (.tuple #[.int .i64 z, .int .i64 e]) ∧ Below w.heap.size w w' := by
  subst hz; subst he; subst hn
  exact need_any A c L t w H
/-- what is needed is small, if t is -/
theorem need_small {L : List Tsk} (h : allB L = true) {t : Nat} {m : Int} (hm : (t : Int) ≤ m) : 0 ≤ need L t ∧ need L t ≤ 1600 * m + 200 := by
  have h1 := Dm.bnd_nonneg h (t : Int)
  have h2 := Dm.bnd_small h (t := (t : Int)) (m := m) (by omega) hm
  have h3 := Bk.blk_le h (t : Int)
  unfold need
  omega
theorem need_of {L : List Tsk} (h : allB L = true) {t : Nat} (ht : (t : Int) ≤ 1099511627776) : needZ L t = need L t ∧ needE L t = 0 := by
  have h1 := need_small h ht
  have h2 := needZ_ok (L := L) (t := (t : Int)) (needOk_iff.2 ⟨h, by omega, by omega⟩) (by rw [Int.toNat_natCast]; omega)
  rwa [Int.toNat_natCast] at h2

end Vd
end Go.Proofs.Ytldiplnccgoeiaa
