/-
  Layer 4 (span): combine, under whatever closure that adds pieces; the three closures; Norm, Cut, Without.
-/
import Derived.Test.YtdgemmhaddnbdaaSpanAdd
namespace Go.Proofs.Ytdgemmhaddnbdaa
open Go.Shelf Go.RowKit Go.Lib Go.Sort
namespace Hp

/-- the closure 'add' over block X -/
abbrev addV (X : Nat) : Value := .func (.func 30) #[] #[.pointer (some ⟨X, 0, none⟩)]
theorem addEnters : ∀ args w, (callFunc 30 args).run Try.prog w = .ok (.enter 30 args) w := enters_of Try.func30 (by kernel_rfl) rfl

/-- what is asked of a closure that adds pieces: called in whatever world in which all that lay in w lies as it was, it adds the pieces of a span -/
def Piece (g : Nat) (lb : Array Value) (pc : List It → It → List It) (w : World) : Prop :=
  ∀ (W : World) (l : List It) (A : Option Addr) (c : Nat) (s : It), Below w.heap.size w W → w.heap.size < W.heap.size → OutAt W w.heap.size l A c → l.length ≤ 800000 →
    Calls Try.prog g (#[.agg #[.int .i64 s.1, .int .i64 s.2], addV w.heap.size] ++ lb) W fun e w' => e = .returned (.tuple #[]) ∧ ∃ A' c', OutAt w' w.heap.size (pc l s) A' c' ∧ Below w.heap.size W w'

def CombOf (w : World) (l : List It) (e : Ending) (w' : World) : Prop :=
  ∃ (A : Option Addr) (c : Nat), e = .returned (.slice A l.length c) ∧ Ow w' w.heap.size 29 A c l ∧ Below w.heap.size w w'

def CoRel (w : World) (d : List It) (pc : List It → It → List It) (k : Nat) (wr : World) : Prop :=
  k ≤ d.length ∧ w.heap.size < wr.heap.size ∧ Below w.heap.size w wr ∧ ∃ A c, OutAt wr w.heap.size ((d.take k).foldl pc []) A c

theorem OutAt.alloc {w : World} {X : Nat} {l : List It} {A : Option Addr} {c : Nat} (h : OutAt w X l A c) (o : Obj) : OutAt (w.alloc o) X l A c :=
  ⟨cell_new h.1 o, frozen_below (below_one w o) h.1 h.2.1, h.2.2.alloc o⟩

set_option maxHeartbeats 1600000 in
theorem combine_any (g : Nat) (lb : Array Value) (pc : List It → It → List It) (eg : ∀ args w, (callFunc g args).run Try.prog w = .ok (.enter g args) w) (A : Option Addr) (c : Nat) (d : List It) (w : World) (hbig : d.length ≤ 100000)
    (hlen : ∀ k, ((d.take k).foldl pc []).length ≤ 800000) (hp : Piece g lb pc w) (hr : Rd w A c d) :
    Calls Try.prog 22 #[.slice A d.length c, .func (.func g) #[] lb] w (CombOf w (d.foldl pc [])) := by
  have HR := Lib.hid hr
  have HP := Lib.hid hp
  have HL := Lib.hid hlen
  clear hr hp hlen
  go_enter Try.func22, Try.ntmps22
  go_wp2_with fail
  go_loopw [12] (fun i wr => ∃ k : Nat, i = .int .i64 k ∧ CoRel w d pc k wr) (fun i _ => d.length - (intOf i).toNat)
  case atStart => exact ⟨0, rfl, Nat.zero_le _, by simp, below_one w _, none, 0, by simp, by simp, World.ownsRow_nil _ _ _ _⟩
  case round =>
    obtain ⟨k, rfl, hk, hsz, hb, A1, c1, ho⟩ := hrel
    have HB := Lib.hid hb
    have HO := Lib.hid ho
    have x0 := ho.1
    clear hb ho
    by_cases hlt : k < d.length
    · obtain ⟨b, off, rfl, hc⟩ := HR.out.2 (by omega)
      obtain ⟨X1, X2⟩ := hc k hlt
      have x1 := cell_below HB.out X1
      have x2 := cell_below HB.out X2
      have HT : Hid ((d.take (k + 1)).foldl pc [] = pc ((d.take k).foldl pc []) (at_ d k)) := by show List.foldl _ _ _ = _; rw [take_snoc d k hlt, List.foldl_append]; rfl
      clear hc X1 X2 x0
      have HLk := Lib.hid (HL.out k)
      generalize (d.take k).foldl pc [] = m at HO HT HLk
      generalize at_ d k = x at x1 x2 HT
      have hcall := HP.out (wr.alloc (Obj.cells #[.int .i64 x.1, .int .i64 x.2] 29)) m A1 c1 x (HB.out.alloc (by omega) _) (by simp; omega) (HO.out.alloc _) HLk.out
      go_wp2_with (go_at_fn g; refine hcall.mono ?_; rintro e w1 ⟨rfl, A2, c2, o2, b2⟩; have HO2 := Lib.hid o2; have HB2 := Lib.hid b2; clear o2 b2 hcall)
      go_roundw
      case rel => exact ⟨k + 1, by go_num, by omega, Nat.lt_of_lt_of_le (by simp; omega) HB2.out.size, (HB.out.alloc (by omega) _).trans HB2.out, A2, c2, by rw [HT.out]; exact HO2.out⟩
      case measure => simp [intOf]; omega
    · have hkl : k = d.length := by omega
      subst hkl
      rw [List.take_length] at HO x0
      go_wp2_with fail
      go_ret
      exact ⟨A1, c1, rfl, HO.out.2.2.rebase (by omega), HB.out⟩

end Hp
end Go.Proofs.Ytdgemmhaddnbdaa
