/-
  Merged texts: Law05Ints.
-/
import Derived.Test.YtpodahnmdakjjaaGmem
/-
  Layer 5: the document's answer SameInts, at equal lists.
-/
namespace Go.Proofs.Ytpodahnmdakjjaa
open Go.RowKit Mm
namespace Bk

set_option maxRecDepth 20000 in
set_option maxHeartbeats 1600000 in
theorem sameInts_one (A B : Option Addr) (c d : Nat) (l : List Int) (n : Nat) (hn : l.length = n) (w : World) (hbig : n ≤ 1000000) (hr : Rd w A c l) (hs : Rd w B d l) :
    Calls Try.prog 14 #[.slice A n c, .slice B n d] w fun e w' => e = .returned (.bool true) ∧ Below w.heap.size w w' := by
  subst hn
  have HR := Lib.hid hr
  have HS := Lib.hid hs
  clear hr hs
  go_enter Try.func14, Try.ntmps14
  go_wp2_with fail
  go_loopw [5] (fun i wr => ∃ k : Nat, i = .int .i64 k ∧ k ≤ l.length ∧ Hid (Below w.heap.size w wr)) (fun i _ => l.length - (intOf i).toNat)
  case atStart => exact ⟨0, rfl, Nat.zero_le _, Below.refl _ _⟩
  case round =>
    obtain ⟨k, rfl, hk, HB⟩ := hrel
    by_cases hlt : k < l.length
    · obtain ⟨b, off, rfl, hc⟩ := (HR.out.below HB.out).int (by omega)
      obtain ⟨x1, _⟩ := hc k hlt
      clear hc
      obtain ⟨b2, off2, rfl, hc⟩ := (HS.out.below HB.out).int (by omega)
      obtain ⟨y1, _⟩ := hc k hlt
      clear hc
      generalize at_ l k = x at *
      have i1 : (0 : Int) ≤ (k : Int) := by omega
      have i2 : (k : Int) < (l.length : Int) := by omega
      go_wp2_with fail
      replace x1 := cell_bw x1
      replace y1 := cell_bw y1
      refine wp_region_bw (by kernel_rfl) (by kernel_rfl) ?_
      repeat
        (with_reducible refine wpQuiet_step (fun K hK => ?_)
         go_simp
         first
           | (with_reducible refine hK _ ?_
              clear hK K)
           | (rw [if_neg]
              rotate_left
              focus (intro h; cases h; done)
              with_reducible refine hK _ ?_
              clear hK K)
           | (apply Exists.intro
              refine ⟨fun _ => ?_, hK _ ?_⟩
              (fail)
              clear hK K))
      with_reducible refine wpQuiet_nil ?_
      intro wb hw'
      obtain ⟨⟨wb', lb⟩, hw''⟩ := hw'
      subst hw''
      have HB2 := Lib.hid (below_step HB.out lb)
      clear lb
      go_wp2_with fail
      go_roundw
      case rel => exact ⟨k + 1, by go_num, hlt, HB2⟩
      case measure => simp [intOf]; omega
    · go_wp2_with fail
      go_ret
      exact ⟨rfl, HB.out⟩

end Bk
end Go.Proofs.Ytpodahnmdakjjaa

