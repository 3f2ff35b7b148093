/-
  Layer 2 (heap): Make, Push, and what they call.
-/
import Derived.Test.YteadcjfbmckgpaaHeapRise
namespace Go.Proofs.Yteadcjfbmckgpaa
open Go.RowKit
namespace Hp

theorem sink_len (base g c n k : Nat) (i : Int) (l : List It) (w : World) (hn : l.length = n) (hi : i = (k : Int)) (hbig : l.length ≤ 1000000) (hk : k < l.length) (hf : HeapFrom (k + 1) l) (h : Ow w base 24 (some ⟨g, 0, none⟩) c l) :
    Calls Try.prog 21 #[.slice (some ⟨g, 0, none⟩) n c, .int .i64 i] w (SinksTo w base g c k l) := by
  subst hn
  subst hi
  exact sink_any base g c k l w hbig hk hf h

/-- a heap of these items, in new memory -/
def HeapOf (w : World) (l : List It) (e : Ending) (w' : World) : Prop :=
  ∃ A c l', e = .returned (.slice A l'.length c) ∧ l'.Perm l ∧ IsHeap l' ∧ Ow w' w.heap.size 24 A c l' ∧ Below w.heap.size w w'

def MakeRel (w : World) (A : Option Addr) (c : Nat) (l : List It) (k : Nat) (l' : List It) (wr : World) : Prop :=
  k ≤ l.length / 2 ∧ l'.length = l.length ∧ l'.Perm l ∧ HeapFrom k l' ∧ Ow wr w.heap.size 24 A c l' ∧ Below w.heap.size w wr

set_option maxHeartbeats 800000 in
theorem make_any (A : Option Addr) (c : Nat) (l : List It) (w : World) (hbig : l.length ≤ 1000000) (hr : Rd w A c l) :
    Calls Try.prog 9 #[.slice A l.length c] w (HeapOf w l) := by
  have HR := Lib.hid hr
  clear hr
  go_enter Try.func9, Try.ntmps9
  go_wp2_with fail
  refine (copied_any A c l _ hbig HR.out).mono ?_
  rintro e w1 ⟨B, d, rfl, o1, b1⟩
  have HO1 := Lib.hid o1
  have HB1 := Lib.hid b1
  clear o1 b1 HR
  go_wp2_with fail
  go_loopw [4] (fun i wr => ∃ (k : Nat) (l' : List It), i = .int .i64 ((k : Int) - 1) ∧ MakeRel w B d l k l' wr) (fun i _ => (intOf i + 1).toNat)
  case atStart => exact ⟨l.length / 2, l, by go_num, Nat.le_refl _, rfl, .refl _, heapFrom_half l, HO1.out, HB1.out⟩
  case round =>
    obtain ⟨k, l', rfl, hk, hlen, hperm, hf, ho, hb⟩ := hrel
    have HL := Lib.hid hlen
    have HM := Lib.hid hperm
    have HF := Lib.hid hf
    have HO := Lib.hid ho
    have HB := Lib.hid hb
    by_cases h1 : 1 ≤ k
    · obtain ⟨g, rfl, hgw, hglt, _⟩ := ho.form (by omega)
      clear ho hb hf hperm hlen HO1
      have h1' : (0 : Int) ≤ (k : Int) - 1 := by omega
      have h1'' : (1 : Int) ≤ (k : Int) := by omega
      go_wp2_with fail
      refine (sink_len w.heap.size g d l.length (k - 1) _ l' _ HL.out (by omega) (by rw [HL.out]; exact hbig) (by rw [HL.out]; omega) (by rw [Nat.sub_add_cancel h1]; exact HF.out) HO.out).mono ?_
      rintro e w2 ⟨rfl, m, m1, m2, m3, o2, g2⟩
      have HL2 := Lib.hid (m1.trans HL.out)
      have HM2 := Lib.hid (m2.trans HM.out)
      have HF2 := Lib.hid m3
      have HO2 := Lib.hid o2
      have HB2 := Lib.hid (HB.out.grown g2 HB.out.size (fun x hx => by injection hx with hx; omega))
      clear m1 m2 m3 o2 g2
      go_wp2_with fail
      go_roundw
      case rel => exact ⟨k - 1, m, by rw [show ((k - 1 : Nat) : Int) = (k : Int) - 1 from by omega], by omega, HL2.out, HM2.out, HF2.out, HO2.out, HB2.out⟩
      case measure => simp [intOf]; omega
    · have hk0 : k = 0 := by omega
      subst hk0
      clear ho hb hf hperm hlen h1 HO1
      go_wp2_with fail
      go_ret
      exact ⟨B, d, l', by rw [HL.out]; rfl, HM.out, HF.out, HO.out, HB.out⟩

set_option maxHeartbeats 800000 in
theorem ownHeap_any (A : Option Addr) (c : Nat) (l : List It) (w : World) (hbig : l.length ≤ 1000000) (hr : Rd w A c l) :
    Calls Try.prog 22 #[.slice A l.length c] w (HeapOf w l) := by
  have HR := Lib.hid hr
  clear hr
  cases hb : rightB l with
  | true =>
    have HH := Lib.hid hb
    clear hb
    go_enter Try.func22, Try.ntmps22
    go_wp2_with fail
    refine (right_any A c l _ hbig HR.out).mono ?_
    rintro e w1 ⟨rfl, b1⟩
    have HB1 := Lib.hid b1
    clear b1
    rw [HH.out]
    go_wp2_with fail
    refine (copied_any A c l _ hbig (HR.out.below HB1.out)).mono ?_
    rintro e w2 ⟨B, d, rfl, o2, b2⟩
    have HO2 := Lib.hid (o2.rebase HB1.out.size)
    have HB2 := Lib.hid (HB1.out.trans (b2.mono HB1.out.size))
    clear o2 b2
    go_wp2_with fail
    go_ret
    exact ⟨B, d, l, rfl, .refl _, rightB_iff.1 HH.out, HO2.out, HB2.out⟩
  | false =>
    have HH := Lib.hid hb
    clear hb
    go_enter Try.func22, Try.ntmps22
    go_wp2_with fail
    refine (right_any A c l _ hbig HR.out).mono ?_
    rintro e w1 ⟨rfl, b1⟩
    have HB1 := Lib.hid b1
    clear b1
    rw [HH.out]
    go_wp2_with fail
    refine (make_any A c l _ hbig (HR.out.below HB1.out)).mono ?_
    rintro e w2 ⟨B, d, m, rfl, m1, m2, o2, b2⟩
    have HM := Lib.hid m1
    have HI := Lib.hid m2
    have HO2 := Lib.hid (o2.rebase HB1.out.size)
    have HB2 := Lib.hid (HB1.out.trans (b2.mono HB1.out.size))
    clear o2 b2 m1 m2
    go_wp2_with fail
    go_ret
    exact ⟨B, d, m, rfl, HM.out, HI.out, HO2.out, HB2.out⟩

end Hp
end Go.Proofs.Yteadcjfbmckgpaa
