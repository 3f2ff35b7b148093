/-
  Layer 3: a ring in a block of its own; the calls again, with their numbers as they are told.
-/
import Derived.Test.YtilabonjjiiabaaLaw03List
namespace Go.Proofs.Ytilabonjjiiabaa
open Go.RowKit
namespace Rn

/-- block X holds this ring -/
def Box (w : World) (X : Nat) (A : Option Addr) (n c : Nat) (f m : Int) : Prop :=
  (w.cell? ⟨X, 0, none⟩ = some (.slice A n c) ∧ w.cell? ⟨X, 1, none⟩ = some (.int .i64 f) ∧ w.cell? ⟨X, 2, none⟩ = some (.int .i64 m)) ∧
  (w.frozen? ⟨X, 0, none⟩ = false ∧ w.frozen? ⟨X, 1, none⟩ = false ∧ w.frozen? ⟨X, 2, none⟩ = false)
/-- a slice lies not in block X -/
def Ap (A : Option Addr) (X : Nat) : Prop := ∀ b off, A = some ⟨b, off, none⟩ → X ≠ b

section
variable {w w' : World} {X base : Nat} {A A' : Option Addr} {n n' c c' : Nat} {f f' m m' : Int} {l : List Int}
theorem box_new (w : World) (A : Option Addr) (n c : Nat) (f m : Int) : Box (w.alloc (.cells #[.slice A n c, .int .i64 f, .int .i64 m] 24)) w.heap.size A n c f m := by
  refine ⟨⟨?_, ?_, ?_⟩, ⟨?_, ?_, ?_⟩⟩ <;> go_simp
theorem boxR_new (w : World) (A : Option Addr) (n c : Nat) (f m : Int) : Box (w.alloc (.cells #[.slice A n c, .int .i64 f, .int .i64 m] 30)) w.heap.size A n c f m := by
  refine ⟨⟨?_, ?_, ?_⟩, ⟨?_, ?_, ?_⟩⟩ <;> go_simp
theorem Box.step (h : Box w X A n c f m) (b : Below w.heap.size w w') : Box w' X A n c f m := by
  obtain ⟨⟨x0, x1, x2⟩, ⟨g0, g1, g2⟩⟩ := h
  exact ⟨⟨cell_below b x0, cell_below b x1, cell_below b x2⟩, ⟨frozen_below b x0 g0, frozen_below b x1 g1, frozen_below b x2 g2⟩⟩
theorem Box.alloc (h : Box w X A n c f m) (o : Obj) : Box (w.alloc o) X A n c f m := h.step (below_one _ _)
theorem Box.lt (h : Box w X A n c f m) : X < w.heap.size := lt_of_cell h.1.1
theorem Box.set (h : Box w X A n c f m) (A' : Option Addr) (n' c' : Nat) (f' m' : Int) : Box (((w.setCell ⟨X, 0, none⟩ (.slice A' n' c')).setCell ⟨X, 1, none⟩ (.int .i64 f')).setCell ⟨X, 2, none⟩ (.int .i64 m')) X A' n' c' f' m' := by
  obtain ⟨⟨x0, x1, x2⟩, ⟨g0, g1, g2⟩⟩ := h
  refine ⟨⟨?_, ?_, ?_⟩, ⟨?_, ?_, ?_⟩⟩ <;> go_simp
theorem Rd.set (h : Rd w A c l) (hX : Ap A X) (A' : Option Addr) (n' c' : Nat) (f' m' : Int) : Rd (((w.setCell ⟨X, 0, none⟩ (.slice A' n' c')).setCell ⟨X, 1, none⟩ (.int .i64 f')).setCell ⟨X, 2, none⟩ (.int .i64 m')) A c l :=
  ((h.far (p := ⟨X, 0, none⟩) hX _).far (p := ⟨X, 1, none⟩) hX _).far (p := ⟨X, 2, none⟩) hX _
theorem Rd.ap (h : Rd w A c l) (h0 : 0 < l.length) (hX : w.heap.size ≤ X) : Ap A X := fun b off e => by
  obtain ⟨b', off', e', hc⟩ := h.2 h0
  have hlt : b' < w.heap.size := lt_of_cell (hc 0 h0)
  rw [e] at e'; injection e' with e'; injection e' with e1 e2
  omega
theorem Ow.ap (h : Ow w base A c l) (hX : X < base) : Ap A X := fun b off e => by
  rcases h.cases with ⟨h1, _⟩ | ⟨g, h1, h2, _⟩
  · rw [e] at h1; cases h1
  · rw [e] at h1; injection h1 with h1; injection h1 with h1 h3; omega
theorem below_set {B : Nat} {a : World} (h : Below B a w) (hX : B ≤ X) (A' : Option Addr) (n' c' : Nat) (f' m' : Int) : Below B a (((w.setCell ⟨X, 0, none⟩ (.slice A' n' c')).setCell ⟨X, 1, none⟩ (.int .i64 f')).setCell ⟨X, 2, none⟩ (.int .i64 m')) :=
  ((h.setCell (p := ⟨X, 0, none⟩) hX _).setCell (p := ⟨X, 1, none⟩) hX _).setCell (p := ⟨X, 2, none⟩) hX _
theorem Box.far (h : Box w X A n c f m) {Y : Nat} (hY : X ≠ Y) (A' : Option Addr) (n' c' : Nat) (f' m' : Int) : Box (((w.setCell ⟨Y, 0, none⟩ (.slice A' n' c')).setCell ⟨Y, 1, none⟩ (.int .i64 f')).setCell ⟨Y, 2, none⟩ (.int .i64 m')) X A n c f m := by
  obtain ⟨⟨x0, x1, x2⟩, ⟨g0, g1, g2⟩⟩ := h
  refine ⟨⟨cell_far (cell_far (cell_far x0 hY _) hY _) hY _, cell_far (cell_far (cell_far x1 hY _) hY _) hY _, cell_far (cell_far (cell_far x2 hY _) hY _) hY _⟩, ⟨?_, ?_, ?_⟩⟩ <;> go_simp
theorem size_set (w : World) (X : Nat) (A' : Option Addr) (n' c' : Nat) (f' m' : Int) : (((w.setCell ⟨X, 0, none⟩ (.slice A' n' c')).setCell ⟨X, 1, none⟩ (.int .i64 f')).setCell ⟨X, 2, none⟩ (.int .i64 m')).heap.size = w.heap.size := by simp [World.setCell]
end

/-- a ring with a message more, and OK: the numbers as they are told -/
def PushN (w : World) (n : Nat) (b' : List Int) (F M : Int) (e : Ending) (w' : World) : Prop :=
  ∃ (A : Option Addr) (c : Nat), e = .returned (.tuple #[.agg #[.slice A n c, .int .i64 F, .int .i64 (M + 1)], .int .i64 0]) ∧ Ow w' w.heap.size A c b' ∧ Below w.heap.size w w'
theorem push_n (A : Option Addr) (n c : Nat) (b b' : List Int) (f m : Nat) (F M v : Int) (w : World) (hn : b.length = n) (hF : F = (f : Int)) (hM : M = (m : Int)) (hb' : b.set ((f + m) % n) v = b') (hbig : n ≤ 100000) (hf : f < n) (hm : m < n) (hr : Rd w A c b) :
    Calls Try.prog 17 #[.agg #[.slice A n c, .int .i64 F, .int .i64 M], .int .i64 v] w (PushN w n b' F M) := by
  subst hn; subst hF; subst hM; subst hb'
  exact push_some A c b f m v w hbig hf hm hr
def MoreN (w : World) (n : Nat) (b' : List Int) (F M : Int) (e : Ending) (w' : World) : Prop :=
  ∃ (A : Option Addr) (c : Nat), e = .returned (.agg #[.slice A n c, .int .i64 F, .int .i64 (M + 1)]) ∧ Ow w' w.heap.size A c b' ∧ Below w.heap.size w w'
theorem put_n (A : Option Addr) (n c : Nat) (b b' : List Int) (f m : Nat) (F M v : Int) (w : World) (hn : b.length = n) (hF : F = (f : Int)) (hM : M = (m : Int)) (hb' : b.set ((f + m) % n) v = b') (hbig : n ≤ 100000) (hf : f < n) (hm : m < n) (hr : Rd w A c b) :
    Calls Try.prog 21 #[.agg #[.slice A n c, .int .i64 F, .int .i64 M], .int .i64 v] w (MoreN w n b' F M) := by
  subst hn; subst hF; subst hM; subst hb'
  exact put_some A c b f m v w hbig hf hm hr
theorem refMore_n (A : Option Addr) (n c : Nat) (b b' : List Int) (f m : Nat) (F M v : Int) (w : World) (hn : b.length = n) (hF : F = (f : Int)) (hM : M = (m : Int)) (hb' : b.set ((f + m) % n) v = b') (hbig : n ≤ 100000) (hf : f < n) (hm : m < n) (hr : Rd w A c b) :
    Calls Try.prog 18 #[.agg #[.slice A n c, .int .i64 F, .int .i64 M], .int .i64 v] w (MoreN w n b' F M) := by
  subst hn; subst hF; subst hM; subst hb'
  exact refMore_any A c b f m v w hbig hf hm hr
/-- Put to a full ring -/
theorem putFull_n (A : Option Addr) (n c : Nat) (b b' : List Int) (f p m : Nat) (F P M M' v : Int) (w : World) (hn : b.length = n) (hF : F = (f : Int)) (hp : p = (f + 1) % n) (hP : P = (p : Int)) (hM : M = (n : Int)) (hm : m + 1 = n) (hM' : M' = (m : Int)) (hb' : b.set ((p + m) % n) v = b') (hbig : n ≤ 100000) (hf : f < n) (hr : Rd w A c b) :
    Calls Try.prog 21 #[.agg #[.slice A n c, .int .i64 F, .int .i64 M], .int .i64 v] w (MoreN w n b' P M') := by
  subst hn; subst hF; subst hb'; subst hP; subst hM'
  refine (put_full A c b f m M v w hbig hf hm hM hr).mono ?_
  rintro e w' ⟨A', c', p', hp', rfl, o, b1⟩
  obtain rfl : p' = p := hp'.trans hp.symm
  exact ⟨A', c', rfl, o, b1⟩
def PopN (w : World) (A : Option Addr) (n c : Nat) (x P M' : Int) (e : Ending) (w' : World) : Prop :=
  e = .returned (.tuple #[.int .i64 x, .agg #[.slice A n c, .int .i64 P, .int .i64 M'], .int .i64 0]) ∧ Below w.heap.size w w'
theorem pop_n (A : Option Addr) (n c : Nat) (b : List Int) (f p m : Nat) (F P M M' x : Int) (w : World) (hn : b.length = n) (hF : F = (f : Int)) (hp : p = (f + 1) % n) (hP : P = (p : Int)) (hM : M = (m : Int) + 1) (hM' : M' = (m : Int)) (hx : at_ b f = x) (hbig : n ≤ 100000) (hf : f < n) (hm : m < n) (hr : Rd w A c b) :
    Calls Try.prog 19 #[.agg #[.slice A n c, .int .i64 F, .int .i64 M]] w (PopN w A n c x P M') := by
  subst hn; subst hF; subst hP; subst hM'; subst hx
  refine (pop_some A c b f m M w hbig hf hm hM hr).mono ?_
  rintro e w' ⟨p', hp', rfl, b1⟩
  obtain rfl : p' = p := hp'.trans hp.symm
  exact ⟨rfl, b1⟩
def LessN (w : World) (A : Option Addr) (n c : Nat) (P M' : Int) (e : Ending) (w' : World) : Prop := e = .returned (.agg #[.slice A n c, .int .i64 P, .int .i64 M']) ∧ Below w.heap.size w w'
theorem refLess_n (A : Option Addr) (n c f p m : Nat) (F P M M' : Int) (w : World) (hF : F = (f : Int)) (hp : p = (f + 1) % n) (hP : P = (p : Int)) (hM : M = (m : Int) + 1) (hM' : M' = (m : Int)) (hbig : n ≤ 100000) (hf : f < n) (hm : m < n) :
    Calls Try.prog 20 #[.agg #[.slice A n c, .int .i64 F, .int .i64 M]] w (LessN w A n c P M') := by
  subst hF; subst hP; subst hM'
  refine (refLess_any A n c f m M w (by omega) hf hm hM).mono ?_
  rintro e w' ⟨p', rfl, hp', b1⟩
  obtain rfl : p' = p := hp'.trans hp.symm
  exact ⟨rfl, b1⟩
def ListN (w : World) (l : List Int) (k : Nat) (e : Ending) (w' : World) : Prop :=
  ∃ (A : Option Addr) (c : Nat), e = .returned (.slice A k c) ∧ Ow w' w.heap.size A c l ∧ l.length = k ∧ Below w.heap.size w w'
theorem list_n (A : Option Addr) (n c : Nat) (b l : List Int) (f m : Nat) (F M : Int) (w : World) (hn : b.length = n) (hF : F = (f : Int)) (hM : M = (m : Int)) (hl : msgs b f m = l) (hbig : n ≤ 100000) (hf : f < n) (hm : m ≤ n) (hr : Rd w A c b) :
    Calls Try.prog 12 #[.agg #[.slice A n c, .int .i64 F, .int .i64 M]] w (ListN w l m) := by
  subst hn; subst hF; subst hM; subst hl
  refine (list_some A c b f m w hbig hf hm hr).mono ?_
  rintro e w' ⟨A', c', rfl, o, b1⟩
  exact ⟨A', c', by rw [msgs_length], o, msgs_length _ _ _, b1⟩
theorem refList_n (A : Option Addr) (n c : Nat) (b l : List Int) (f m : Nat) (F M : Int) (w : World) (hn : b.length = n) (hF : F = (f : Int)) (hM : M = (m : Int)) (hl : msgs b f m = l) (hbig : n ≤ 100000) (hlc : n ≤ c) (hf : f < n) (hm : m ≤ n) (hr : Rd w A c b) :
    Calls Try.prog 15 #[.agg #[.slice A n c, .int .i64 F, .int .i64 M]] w (RefListOf w l m) := by
  subst hn; subst hF; subst hM; subst hl
  exact refList_any A c b f m w hbig hlc hf hm hr
theorem new_n (n : Nat) (N : Int) (w : World) (h1 : 1 ≤ n) (h4 : n ≤ 4) (hN : N = (n : Int)) :
    Calls Try.prog 9 #[.int .i64 N] w (NewOf w n) := new_some n N w h1 h4 hN

end Rn
end Go.Proofs.Ytilabonjjiiabaa
