/-
  Memory, for every layer: slices of ints: append to one of the call's own; one int alone.
-/
import Derived.Test.YtldiplnccgoeiaaMem
namespace Go.Proofs.Ytldiplnccgoeiaa
open Go.RowKit
namespace Mm

theorem slI : SlT Try.prog 70 3 (Dat.k Int) := slT_of Try.underlying70 (show _ = some (some (.int .i64 0), 1, 8) by kernel_rfl) rfl (by omega)
/-- an empty literal -/
theorem ow_empty (w : World) (base : Nat) (e : TypeId) (hb : base ≤ w.heap.size) : Ow (w.alloc (.cells #[] e)) base e (some ⟨w.heap.size, 0, none⟩) 0 ([] : List Int) :=
  ow_lit (l := ([] : List Int)) w (fun _ => False) base e #[] hb (by simp) rfl
theorem rd_i {w : World} {S : Nat → Prop} {x : Int} (hx : Fit x) : Dat.rd w S [.int .i64 x] x := ⟨rfl, hx⟩
/-- a literal of ints -/
theorem rd_new1 (w : World) (e : TypeId) (x : Int) (hx : Fit x) : Rd (w.alloc (.cells #[.int .i64 x] e)) (some ⟨w.heap.size, 0, none⟩) 1 [x] :=
  rd_one_int (by simp) hx trivial (Nat.le_refl _) (by decide)
theorem rd_new2 (w : World) (e : TypeId) (x y : Int) (hx : Fit x) (hy : Fit y) : Rd (w.alloc (.cells #[.int .i64 x, .int .i64 y] e)) (some ⟨w.heap.size, 0, none⟩) 2 [x, y] :=
  (ow_lit (l := [x, y]) w (fun _ => True) w.heap.size e #[.int .i64 x, .int .i64 y] (Nat.le_refl _) (by simp) ⟨[.int .i64 x], [.int .i64 y], rfl, rd_i hx, [.int .i64 y], [], rfl, rd_i hy, rfl⟩).rd

/-- append, the lengths named -/
theorem list_app_n {α : Type} [Inhabited α] [Dat α] [Flat α] {P : Program} {t e : TypeId} (hT : SlT P t e (Dat.k α)) {w : World} {ops : Array Oper} {rest : List Oper} {o : Oper} {a : Act} {Q : Exit → Act → World → Prop} (hg : o.guard = none) (s x : Operand) (ho : o.op = .call { callee := .builtin .append, args := #[s, x], argTypes := #[t, t] })
    {base : Nat} {A B : Option Addr} {c d : Nat} {l r : List α} {n m : Nat} (hn : l.length = n) (hm : r.length = m) (h1 : a.eval s = .slice A n c) (h2 : a.eval x = .slice B m d) (h : Ow w base e A c l) (hr : Rd w B d r) (hbig : n + m ≤ 1000000) (hbase : base ≤ w.heap.size)
    (hK : ∀ A' c' w', Ow w' base e A' c' (l ++ r) → Below base w w' → w.grownBy w' (Value.slice A n c).ownBlock → wpList P ops Q rest (a.put o.dst (.slice A' (n + m) c')) w') :
    wpList P ops Q (o :: rest) a w := by
  subst hn; subst hm
  exact list_app_flat hT hg s x ho h1 h2 h hr hbig hbase hK
theorem rd_back_int {w : World} {b off c : Nat} {l : List Int} (h : Rd w (some ⟨b, off, none⟩) c l) (k : Nat) (hk : k ≤ l.length) : Rd w (some ⟨b, off + k, none⟩) (c - k) (l.drop k) := by
  have h1 := h.le
  have h2 := h.max
  have := RdS.back h k (c - k) (by omega) (by omega)
  rwa [show k * Dat.k Int = k from Nat.mul_one k] at this
theorem rd_at_int {w : World} {b off c : Nat} {l : List Int} (h : Rd w (some ⟨b, off, none⟩) c l) (k : Nat) (hk : k < l.length) : Rd w (some ⟨b, off + k, none⟩) (c - k) [at_ l k] := by
  have := RdS.front (rd_back_int h k (by omega)) 1
  rwa [show (l.drop k).take 1 = [at_ l k] from by rw [at_get hk, List.drop_eq_getElem_cons hk]; rfl] at this

/-- a list of ints, as an argument -/
def IL (w : World) (A : Option Addr) (c : Nat) (h : List Int) : Prop := h.length ≤ 1000000 ∧ Rd w A c h
theorem IL.below {w w' : World} {A : Option Addr} {c : Nat} {h : List Int} (H : IL w A c h) (b : Below w.heap.size w w') : IL w' A c h := ⟨H.1, H.2.below b⟩
theorem IL.bw {w : World} {A : Option Addr} {c : Nat} {h : List Int} (H : IL w A c h) (p : BW w) : IL p.to A c h := H.below p.low
theorem il_nil (w : World) : IL w none 0 [] := ⟨by simp, rd_nil (fun _ => rfl) (by unfold maxLen; omega)⟩

end Mm
end Go.Proofs.Ytldiplnccgoeiaa
