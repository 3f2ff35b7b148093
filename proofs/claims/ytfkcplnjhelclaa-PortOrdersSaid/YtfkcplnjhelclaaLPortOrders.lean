/-
  For any number of places, and any acts, the statement PortOrders of layer 18 returns true (acts on a line come to what two rows of messages come to: what is read is of what was sent, in its order; nothing comes twice, and nothing is lost but by a delivery), and its arguments read as before. No condition.
-/
import Derived.Test.YtfkcplnjhelclaaGlaw18
import Derived.Test.YtfkcplnjhelclaaGmem
import Derived.Test.YtfkcplnjhelclaaGport
namespace Go.Proofs.Ytfkcplnjhelclaa.portOrders
open Go.ChangeShapes Go.WideShapes Go.ChangeAt Go.RowKit
open Mm Po

/-- what holds ahead of act k: the line, its two rows, what was read last -/
structure Rl (w : World) (n X k : Nat) (last : Int) (A : Option Addr) (c : Nat) (wr : World) (x : Lin) (P : Option Addr) (p : Nat) (Q : Option Addr) (q : Nat) : Prop where
  ok : okL x = true
  port : x.1 = (1, 0, (n : Int))
  rx : RdS wr (fun b => b ≠ X) A c [x]
  bx : Bw wr X P p Q q (x.1, msgR x.2.1, msgR x.2.2)
  rp : RdS wr (fun b => b ≠ X) P p (msgR x.2.1)
  rq : RdS wr (fun b => b ≠ X) Q q (msgR x.2.2)
  rise : Rise n ⟨msgR x.2.1, msgR x.2.2⟩ last k
  old : last < (k : Int)
  b : Below w.heap.size w wr
  hX : w.heap.size ≤ X
def Rel (w : World) (n X k : Nat) (last : Int) (A : Option Addr) (c : Nat) (wr : World) : Prop := ∃ x P p Q q, Rl w n X k last A c wr x P p Q q
theorem upX {α : Type} [Inhabited α] [Dat α] {wr w2 : World} {X : Nat} {A : Option Addr} {c : Nat} {l : List α} (h : RdS w2 (Upw (fun b => b ≠ X) wr) A c l) (hX : X < wr.heap.size) : RdS w2 (fun b => b ≠ X) A c l :=
  h.sub fun b _ hb => hb.elim id fun hb => by omega
theorem newX {α : Type} [Inhabited α] [Dat α] {wr w2 : World} {X : Nat} {A : Option Addr} {c : Nat} {l : List α} (h : RdS w2 (Upw (fun _ => False) wr) A c l) (hX : X < wr.heap.size) : RdS w2 (fun b => b ≠ X) A c l :=
  h.sub fun b _ hb => hb.elim False.elim fun hb => by omega
theorem buildRow0 (a b c : Int) (w : World) : (Instr.build 37 #[(0, .agg #[.int .i64 a, .int .i64 b, .int .i64 c])]).run Try.prog w = .ok (.agg #[.int .i64 a, .int .i64 b, .int .i64 c, .slice none 0 0, .slice none 0 0]) w := by kernel_rfl
/-- append of ints, the lengths named -/
theorem list_app_i {w : World} {ops : Array Oper} {rest : List Oper} {o : Oper} {a : Act} {Q : Exit → Act → World → Prop} (hg : o.guard = none) (s x : Operand) (ho : o.op = .call { callee := .builtin .append, args := #[s, x], argTypes := #[35, 35] })
    {base : Nat} {A B : Option Addr} {c d : Nat} {l r : List Int} {n m N : Nat} (hn : l.length = n) (hm : r.length = m) (hN : n + m = N) (h1 : a.eval s = .slice A n c) (h2 : a.eval x = .slice B m d) (h : Ow w base 3 A c l) (hr : Rd w B d r) (hbig : n + m ≤ 1000000) (hbase : base ≤ w.heap.size)
    (hK : ∀ A' c' w', Ow w' base 3 A' c' (l ++ r) → Below base w w' → wpList Try.prog ops Q rest (a.put o.dst (.slice A' N c')) w') :
    wpList Try.prog ops Q (o :: rest) a w := by
  subst hn; subst hm; subst hN
  exact list_app_flat slI hg s x ho h1 h2 h hr hbig hbase fun A' c' w' k1 k2 _ => hK A' c' w' k1 k2
section
variable {w w' : World} {X : Nat} {P P' Q Q' : Option Addr} {p p' q q' : Nat} {x : Rw} {l : List Int}
theorem gb_set (w : World) (X o : Nat) (v : Value) : w.grownBy (w.setCell ⟨X, o, none⟩ v) (some X) := gb_putC X [v] o w
theorem cell_set {o o' : Nat} {v u : Value} (h : w.cell? ⟨X, o, none⟩ = some u) (hne : o ≠ o') : (w.setCell ⟨X, o', none⟩ v).cell? ⟨X, o, none⟩ = some u :=
  (World.cell?_setCell_other _ _ _ _ (fun e => hne (by injection e with _ e; exact e.symm))).trans h
theorem bw_under (h : Bw w X P p Q q x) (P' : Option Addr) (k p' : Nat) (hl : l.length = k) : Bw (w.setCell ⟨X, 3, none⟩ (.slice P' k p')) X P' p' Q q (x.1, l, x.2.2) := by
  subst hl
  obtain ⟨y0, y1, y2, y3, y4⟩ := h.c
  exact ⟨⟨cell_set y0 (by decide), cell_set y1 (by decide), cell_set y2 (by decide), World.cell?_setCell_same _ _ _ y3, cell_set y4 (by decide)⟩, fun o => by rw [World.frozen?_setCell]; exact h.f o⟩
theorem bw_got (h : Bw w X P p Q q x) (Q' : Option Addr) (k q' : Nat) (hl : l.length = k) : Bw (w.setCell ⟨X, 4, none⟩ (.slice Q' k q')) X P p Q' q' (x.1, x.2.1, l) := by
  subst hl
  obtain ⟨y0, y1, y2, y3, y4⟩ := h.c
  exact ⟨⟨cell_set y0 (by decide), cell_set y1 (by decide), cell_set y2 (by decide), cell_set y3 (by decide), World.cell?_setCell_same _ _ _ y4⟩, fun o => by rw [World.frozen?_setCell]; exact h.f o⟩
end
section
variable {w wr : World} {n X k : Nat} {last : Int} {A : Option Addr} {c : Nat} {x : Lin} {P : Option Addr} {p : Nat} {Q : Option Addr} {q : Nat}
theorem Rl.lt (h : Rl w n X k last A c wr x P p Q q) : X < wr.heap.size := h.bx.lt
theorem Rl.lens (h : Rl w n X k last A c wr x P p Q q) : (msgR x.2.1).length ≤ 4 ∧ (msgR x.2.2).length ≤ 4 ∧ 1 ≤ n ∧ n ≤ 4 := by
  obtain ⟨N, e, n1, n4, hp, g1, g2⟩ := okL_good h.ok
  rw [h.port] at e
  have e : (n : Int) = (N : Int) := e
  have a1 := g1.m1
  have a2 := g2.m1
  rw [msgR_length, msgR_length]
  omega
end

theorem rl_deliver {w wr w3 w4 : World} {n X k : Nat} {last : Int} {A A3 : Option Addr} {c c3 : Nat} {x : Lin} {P P4 : Option Addr} {p p4 : Nat} {Q Q4 : Option Addr} {q q4 : Nat} (h : Rl w n X k last A c wr x P p Q q) (r3 : RdS w3 (fun b => b ≠ X) A3 c3 [delivL x]) (hb3 : Bw w3 X P p Q q (x.1, msgR x.2.1, msgR x.2.2)) (hb : Below w.heap.size w w3) (b4 : Below w3.heap.size w3 w4)
    (k1 : RdS w4 (Upw (fun _ => False) w3) P4 p4 (rowOf (delivL x)).2.1) (k2 : RdS w4 (Upw (fun _ => False) w3) Q4 q4 (rowOf (delivL x)).2.2) : Rel w n X (k + 1) last A3 c3 (((((w4.setCell ⟨X, 0, none⟩ (.int .i64 (rowOf (delivL x)).1.1)).setCell ⟨X, 1, none⟩ (.int .i64 (rowOf (delivL x)).1.2.1)).setCell ⟨X, 2, none⟩ (.int .i64 (rowOf (delivL x)).1.2.2)).setCell ⟨X, 3, none⟩ (.slice P4 (rowOf (delivL x)).2.1.length p4)).setCell ⟨X, 4, none⟩ (.slice Q4 (rowOf (delivL x)).2.2.length q4)) := by
  have hX := hb3.lt
  have hp := deliv_port x
  have hbx := (hb3.below b4).put P4 p4 Q4 q4 (rowOf (delivL x))
  have hrow := (deliv_ok h.ok).2
  have hr := (h.rise.deliver).later
  have e1 : msgR (delivL x).2.1 = [] := congrArg (fun y => y.2.1) hrow
  have e2 : msgR (delivL x).2.2 = deliL n (msgR x.2.2) (msgR x.2.1) := by
    have := congrArg (fun y => y.2.2) hrow
    have h3 : x.1.2.2.toNat = n := by rw [h.port]; rfl
    exact this.trans (by show deliL x.1.2.2.toNat _ _ = _; rw [h3]; rfl)
  refine ⟨delivL x, P4, p4, Q4, q4, (deliv_ok h.ok).1, hp.trans h.port, ?_, hbx, ?_, ?_, ?_, by have := h.old; omega, below_SW (below_step hb b4) h.hX P4 p4 Q4 q4 _, h.hX⟩
  · rw [put5]; exact rd_putC (RdS.below r3 b4) (fun h => h rfl) _ _
  · rw [put5]; exact rd_putC (newX k1 hX) (fun h => h rfl) _ _
  · rw [put5]; exact rd_putC (newX k2 hX) (fun h => h rfl) _ _
  · rw [e1, e2]; exact hr
theorem rl_send {w wr w3 w5 : World} {n X k : Nat} {last : Int} {A A3 : Option Addr} {c c3 : Nat} {x : Lin} {P P5 : Option Addr} {p p5 : Nat} {Q : Option Addr} {q : Nat} (h : Rl w n X k last A c wr x P p Q q) (hm : x.2.1.2.2 ≠ (x.2.1.1.length : Int)) (b3 : Below wr.heap.size wr w3) (r3 : RdS w3 (fun b => b ≠ X) A3 c3 [sentL x (k : Int)]) (b5 : Below w3.heap.size w3 w5)
    (o5 : Ow w5 w3.heap.size 3 P5 p5 (msgR x.2.1 ++ [(k : Int)])) : Rel w n X (k + 1) last A3 c3 (w5.setCell ⟨X, 3, none⟩ (.slice P5 ((msgR x.2.1).length + 1) p5)) := by
  have hX : X < w3.heap.size := Nat.lt_of_lt_of_le h.lt b3.size
  have hb5 := (h.bx.below b3).below b5
  have e1 : msgR (sentL x (k : Int)).2.1 = msgR x.2.1 ++ [(k : Int)] := by
    rcases row_send (v := (k : Int)) h.ok with e | e
    · exact congrArg (fun y => y.2.1) e
    · exact absurd e hm
  have hlt : (msgR x.2.1).length < n := by
    rcases Nat.lt_or_ge (msgR x.2.1).length n with h1 | h1
    · exact h1
    · exact absurd ((full_iff h.ok).2 (by rw [h.port]; show ¬ ((msgR x.2.1).length : Int) < (n : Int); omega)) hm
  have hbx := bw_under (l := msgR x.2.1 ++ [(k : Int)]) hb5 P5 ((msgR x.2.1).length + 1) p5 (by rw [List.length_append]; rfl)
  have hg := gb_set w5 X 3 (.slice P5 ((msgR x.2.1).length + 1) p5)
  have hne : ∀ b, b ≠ X → some b ≠ some X := fun b hb e => hb (by injection e)
  refine ⟨sentL x (k : Int), P5, p5, Q, q, sent_ok h.ok hm, h.port, (RdS.below r3 b5).gb hg hne, by rw [e1]; exact hbx, ?_, ((RdS.below (RdS.below h.rq b3) b5)).gb hg hne, by rw [e1]; exact h.rise.send h.old hlt, by have := h.old; omega, below_of_gb (below_step (below_step h.b b3) b5) hg (below_step (below_step h.b b3) b5).size (fun i hi => by injection hi with hi; have := h.hX; omega), h.hX⟩
  rw [e1]
  exact (OwS.rdS (S' := fun b => b ≠ X) o5 (fun _ h => h.elim) (fun g hg' => by have := (OwS.new o5 g hg').1; omega)).gb hg hne
theorem rl_full {w wr w3 : World} {n X k : Nat} {last : Int} {A A3 : Option Addr} {c c3 : Nat} {x : Lin} {P : Option Addr} {p : Nat} {Q : Option Addr} {q : Nat} (h : Rl w n X k last A c wr x P p Q q) (b3 : Below wr.heap.size wr w3) (r3 : RdS w3 (fun b => b ≠ X) A3 c3 [x]) : Rel w n X (k + 1) last A3 c3 w3 :=
  ⟨x, P, p, Q, q, h.ok, h.port, r3, h.bx.below b3, RdS.below h.rp b3, RdS.below h.rq b3, h.rise.later, by have := h.old; omega, below_step h.b b3, h.hX⟩
theorem rl_read {w wr w3 : World} {n X k : Nat} {last : Int} {A A3 : Option Addr} {c c3 : Nat} {x : Lin} {P : Option Addr} {p : Nat} {Q Q5 : Option Addr} {q q5 m : Nat} (h : Rl w n X k last A c wr x P p Q q) (hm : x.2.2.2.2 ≠ 0) (b3 : Below wr.heap.size wr w3) (r3 : RdS w3 (fun b => b ≠ X) A3 c3 [gotL x]) (r5 : RdS w3 (fun b => b ≠ X) Q5 q5 (msgR (popR x.2.2))) (hl : (msgR (popR x.2.2)).length = m) :
    Rel w n X (k + 1) (fstR x.2.2) A3 c3 (w3.setCell ⟨X, 4, none⟩ (.slice Q5 m q5)) := by
  have e := row_got h.ok hm
  have hr := h.rise
  rw [e] at hr
  obtain ⟨h1, h2, h3⟩ := hr.read
  have hbx := bw_got (l := msgR (popR x.2.2)) (h.bx.below b3) Q5 m q5 hl
  have hg := gb_set w3 X 4 (.slice Q5 m q5)
  have hne : ∀ b, b ≠ X → some b ≠ some X := fun b hb e => hb (by injection e)
  exact ⟨gotL x, P, p, Q5, q5, got_ok h.ok hm, h.port, r3.gb hg hne, hbx, (RdS.below h.rp b3).gb hg hne, r5.gb hg hne, h3.later, by omega, below_of_gb (below_step h.b b3) hg (below_step h.b b3).size (fun i hi => by injection hi with hi; have := h.hX; omega), h.hX⟩

attribute [local go_sem ↓] buildPort buildRow0
theorem lit_row {wr : World} {x : Lin} {P Q : Option Addr} {p q : Nat} (hf : FitP x.1) (r1 : Rd wr P p (msgR x.2.1)) (r2 : Rd wr Q q (msgR x.2.2)) : Rd (wr.alloc (.cells #[.int .i64 x.1.1, .int .i64 x.1.2.1, .int .i64 x.1.2.2, .slice P (msgR x.2.1).length p, .slice Q (msgR x.2.2).length q] 37)) (some ⟨wr.heap.size, 0, none⟩) 1 [rowOf x] :=
  OwS.rd (ow_lit (l := [rowOf x]) wr (fun _ => True) wr.heap.size 37 #[.int .i64 x.1.1, .int .i64 x.1.2.1, .int .i64 x.1.2.2, .slice P (msgR x.2.1).length p, .slice Q (msgR x.2.2).length q] (Nat.le_refl _) (by simp) ⟨_, [], (List.append_nil _).symm, rd_row.2 ⟨P, p, Q, q, rfl, hf, r1.alloc _, r2.alloc _⟩, rfl⟩)
theorem hsz_one {x : Lin} (h1 : (msgR x.2.1).length ≤ 4) (h2 : (msgR x.2.2).length ≤ 4) : ∀ j, j < 1 → (at_ [rowOf x] j).2.1.length ≤ 1000 ∧ (at_ [rowOf x] j).2.2.length ≤ 1000 := fun j hj => by
  have : j = 0 := by omega
  subst this
  exact ⟨Nat.le_trans h1 (by decide), Nat.le_trans h2 (by decide)⟩
set_option maxRecDepth 20000 in
set_option maxHeartbeats 3200000 in
theorem walk (N : Int) (A1 : Option Addr) (c1 : Nat) (acts : List Byt) (w : World) (fN : Fit N) (hr : Rd w A1 c1 acts) :
    Calls Try.prog 5 #[.int .i64 N, .slice A1 acts.length c1] w fun e w' => e = .returned (.bool true) ∧ Below w.heap.size w w' := by
  have HL : Hid (Rd (w.alloc (.cells #[.int .i64 1, .int .i64 0, .int .i64 N] 34)) (some ⟨w.heap.size, 0, none⟩) 1 [((1, 0, N) : Pt)]) := rd_lit w 1 0 N ⟨by decide, by decide⟩ ⟨by decide, by decide⟩ fN
  have HB := Lib.hid (below_one w (.cells #[.int .i64 1, .int .i64 0, .int .i64 N] 34))
  have HR := Lib.hid hr
  have FN := Lib.hid fN
  clear hr fN
  go_enter Try.func5, Try.ntmps5
  go_wp2_with fail
  generalize w.alloc (.cells #[.int .i64 1, .int .i64 0, .int .i64 N] 34) = w0 at *
  cases hok : okP (1, 0, N) with
  | false =>
    refine (open_v 1 [] 1 rfl (open_no hok).1 (open_no hok).2 _ (by decide) HL.out).mono ?_
    rintro e w1 ⟨A2, c2, rfl, r1, b1⟩
    replace HB := Lib.hid (below_step HB.out b1)
    clear r1 b1 hok
    go_wp2_with fail
    refine (knows18_any _).mono ?_
    rintro e w2 ⟨rfl, b2⟩
    replace HB := Lib.hid (below_step HB.out b2)
    clear b2
    go_wp2_with fail
    go_ret
    exact ⟨rfl, HB.out⟩
  | true =>
    have hcc := of_decide_eq_true hok
    have hN1 : 1 ≤ N := hcc.2.2.2.2.2.1
    obtain ⟨n, hnn⟩ : ∃ n : Nat, N = (n : Int) := ⟨N.toNat, by omega⟩
    clear hcc
    subst hnn
    refine (open_v 1 [openP (1, 0, (n : Int))] 0 rfl (open_one hok).1 (open_one hok).2 _ (by decide) HL.out).mono ?_
    rintro e w1 ⟨A2, c2, rfl, r1, b1⟩
    have bn := below_one w1 (.cells #[.int .i64 1, .int .i64 0, .int .i64 (n : Int), .slice none 0 0, .slice none 0 0] 37)
    have HREL : Hid (Rel w n w1.heap.size 0 (-1) A2 c2 (w1.alloc (.cells #[.int .i64 1, .int .i64 0, .int .i64 (n : Int), .slice none 0 0, .slice none 0 0] 37))) :=
      ⟨openP (1, 0, (n : Int)), none, 0, none, 0, open_good hok, rfl, (RdS.below (RdS.old r1) bn).sub fun b _ hb => Nat.ne_of_lt hb, bw_new w1 none 0 none 0 ((1, 0, (n : Int)), [], []) _ rfl, rd_nil (fun _ => rfl) (Nat.zero_le _), rd_nil (fun _ => rfl) (Nat.zero_le _), Rise.start n, by decide, below_step (below_step HB.out b1) bn, (below_step HB.out b1).size⟩
    clear r1 b1 hok HL HB bn
    go_wp2_with fail
    generalize w1.alloc (.cells #[.int .i64 1, .int .i64 0, .int .i64 (n : Int), .slice none 0 0, .slice none 0 0] 37) = w2 at *
    generalize w1.heap.size = X at *
    go_loopw [5, 8, 9] (fun sa sl sk wr => ∃ (k : Nat) (last : Int) (A : Option Addr) (c : Nat), sa = .slice A 1 c ∧ sl = .int .i64 last ∧ sk = .int .i64 (k : Int) ∧ k ≤ acts.length ∧ (k : Int) ≤ 60 ∧ Hid (Rel w n X k last A c wr)) (fun _ _ i _ => acts.length - (intOf i).toNat)
    case atStart => exact ⟨0, -1, _, _, rfl, rfl, rfl, Nat.zero_le _, by decide, HREL⟩
    case round =>
      obtain ⟨k, last, A, c, rfl, rfl, rfl, hk, hk60, HR2⟩ := hrel
      obtain ⟨x, P, p, Q, q, hrl⟩ := HR2.out
      clear HR2 HREL
      have hlens := hrl.lens
      have HRL := Lib.hid hrl
      clear hrl
      by_cases hlt : k < acts.length
      · by_cases h60 : (k : Int) < 60
        · obtain ⟨b, off, rfl, hc⟩ := byte_at (HR.out.below HRL.out.b) (by omega)
          have x0 := hc k hlt
          have i1 : (k : Int) < (acts.length : Int) := by omega
          have i0 : (0 : Int) ≤ (k : Int) := by omega
          have i2 : IntKind.i64.wrap ((k : Int) + 1) = (k : Int) + 1 := IntWalk.i64_in _ (by omega)
          have hfk : Fit (k : Int) := ⟨by omega, by omega⟩
          clear hc
          generalize (at_ acts k).v = m at *
          have hXl := HRL.out.lt
          have HFK := Lib.hid hfk
          have HXL := Lib.hid hXl
          clear hfk hXl
          by_cases hm0 : m = 0
          · subst hm0
            obtain ⟨s1, s2⟩ := send_one HRL.out.ok (w := 1) (by rw [HRL.out.port]) (k : Int)
            have hU := hlens.1
            by_cases hf : x.2.1.2.2 = (x.2.1.1.length : Int)
            · have hE : sent1E x = 3 := if_pos hf
              have hL1 : sent1 x (k : Int) = x := if_pos hf
              rw [hE] at s1
              rw [hL1] at s2
              have hfl : ¬ ((msgR x.2.1).length : Int) < (n : Int) := by
                have := (full_iff HRL.out.ok).1 hf
                rwa [HRL.out.port] at this
              have hfl2 : decide (((msgR x.2.1).length : Int) < (n : Int)) = false := decide_eq_false hfl
              have hfl3 : (n : Int) ≤ ((msgR x.2.1).length : Int) := by omega
              have S1 := Lib.hid s1
              have S2 := Lib.hid s2
              have HF := Lib.hid hf
              clear s1 s2 hf
              clear hE hL1 hfl
              go_wp2_with fail
              refine (send_v (S := fun b => b ≠ X) 1 0 (k : Int) 1 [x] 3 rfl S2.out S1.out _ (by decide) HRL.out.rx HFK.out).mono ?_
              rintro e w3 ⟨A3, c3, rfl, r3, b3⟩
              have HN := Lib.hid (rl_full HRL.out b3 (upX r3 HXL.out))
              have HBX := Lib.hid (HRL.out.bx.below b3)
              clear r3 b3 x0
              obtain ⟨y0, y1, y2, y3, y4⟩ := HBX.out.cells
              go_wp2_with fail
              go_roundw
              case rel => exact ⟨k + 1, last, A3, c3, rfl, rfl, by go_num, hlt, by omega, HN⟩
              case measure => (simp [intOf] <;> omega)
            · have hE : sent1E x = 0 := if_neg hf
              have hL1 : sent1 x (k : Int) = sentL x (k : Int) := if_neg hf
              rw [hE] at s1
              rw [hL1] at s2
              have hfl : ((msgR x.2.1).length : Int) < (n : Int) := by
                rcases Int.lt_or_le ((msgR x.2.1).length : Int) (n : Int) with h1 | h1
                · exact h1
                · exact absurd ((full_iff HRL.out.ok).2 (by rw [HRL.out.port]; show ¬ ((msgR x.2.1).length : Int) < (n : Int); omega)) hf
              have hfl2 : decide (((msgR x.2.1).length : Int) < (n : Int)) = true := decide_eq_true hfl
              have S1 := Lib.hid s1
              have S2 := Lib.hid s2
              have HF := Lib.hid hf
              clear s1 s2 hf
              clear hE hL1
              go_wp2_with fail
              refine (send_v (S := fun b => b ≠ X) 1 0 (k : Int) 1 [sentL x (k : Int)] 0 rfl S2.out S1.out _ (by decide) HRL.out.rx HFK.out).mono ?_
              rintro e w3 ⟨A3, c3, rfl, r3, b3⟩
              have HNX := Lib.hid (fun w5 P5 p5 b5 o5 => rl_send (w5 := w5) (P5 := P5) (p5 := p5) HRL.out HF.out b3 (upX r3 HXL.out) b5 o5)
              have HBX := Lib.hid (HRL.out.bx.below b3)
              have HP := Lib.hid (RdS.below HRL.out.rp b3)
              clear r3 b3 x0
              obtain ⟨y0, y1, y2, y3, y4⟩ := HBX.out.cells
              have ya3 := cell_new y3 (.cells #[] 3)
              have BA := Lib.hid (below_one w3 (.cells #[] 3))
              have O1 := Lib.hid (ow_empty w3 w3.heap.size 3 (Nat.le_refl _))
              have HP2 := Lib.hid (RdS.below HP.out BA.out).rd
              have HXL3 := Lib.hid HBX.out.lt
              go_wp2_with (at_builtin
                           first
                             | (refine list_app_i rfl _ _ rfl (base := w3.heap.size) (l := ([] : List Int)) (r := msgR x.2.1) (n := 0) (m := (msgR x.2.1).length) (N := (msgR x.2.1).length) rfl rfl (by omega) rfl rfl O1.out HP2.out (by omega) BA.out.size ?_
                                intro A4 c4 w4 k1 k2
                                have O4 : Hid (Ow w4 w3.heap.size 3 A4 c4 (msgR x.2.1)) := k1
                                have B4 := Lib.hid (BA.out.trans k2)
                                have O6 := Lib.hid (Ow.alloc O4.out (.cells #[.int .i64 (k : Int)] 3))
                                have B6 := Lib.hid (B4.out.alloc B4.out.size (.cells #[.int .i64 (k : Int)] 3))
                                have R6 := Lib.hid (rd_new1 w4 3 (k : Int) HFK.out)
                                clear k1 k2)
                             | (refine list_app_i rfl _ _ rfl (base := w3.heap.size) (l := msgR x.2.1) (r := [(k : Int)]) (n := (msgR x.2.1).length) (m := 1) (N := (msgR x.2.1).length + 1) rfl rfl rfl rfl rfl O6.out R6.out (by omega) B6.out.size ?_
                                intro A7 c7 w7 k1 k2
                                have B7 := Lib.hid (B6.out.trans k2)
                                have HN := Lib.hid (HNX.out w7 A7 c7 B7.out k1)
                                have z3 := cell_below B7.out y3
                                have fz3 := frozen_below B7.out y3 (HBX.out.f 3)
                                clear k1 k2))
              go_roundw
              case rel => exact ⟨k + 1, last, A3, c3, rfl, rfl, by go_num, hlt, by omega, HN⟩
              case measure => (simp [intOf] <;> omega)
          · have e0 : (m == 0) = false := beq_eq_false_iff_ne.2 hm0
            by_cases hm1 : m = 1
            · subst hm1
              obtain ⟨s1, s2, s3⟩ := read_one HRL.out.ok (w := 0) (by rw [HRL.out.port])
              clear hm0
              by_cases hz : x.2.2.2.2 = 0
              · have hE : got1E x = 4 := if_pos hz
                have hV : got1V x = 0 := if_pos hz
                have hL1 : got1 x = x := if_pos hz
                rw [hE] at s1
                rw [hV] at s2
                rw [hL1] at s3
                have hgl : (msgR x.2.2).length = 0 := by
                  have := (none_iff HRL.out.ok).1 hz
                  omega
                have S1 := Lib.hid s1
                have S2 := Lib.hid s2
                have S3 := Lib.hid s3
                have HZ := Lib.hid hz
                clear s1 s2 s3 hz
                clear hE hV hL1
                go_wp2_with fail
                refine (read_v (S := fun b => b ≠ X) 0 0 1 [x] 0 4 rfl S3.out S2.out S1.out _ (by decide) HRL.out.rx).mono ?_
                rintro e w3 ⟨A3, c3, rfl, r3, b3⟩
                have HN := Lib.hid (rl_full HRL.out b3 (upX r3 HXL.out))
                have HBX := Lib.hid (HRL.out.bx.below b3)
                clear r3 b3 x0
                obtain ⟨y0, y1, y2, y3, y4⟩ := HBX.out.cells
                replace y4 : w3.cell? ⟨X, 4, none⟩ = some (.slice Q 0 q) := by
                  have h : w3.cell? ⟨X, 4, none⟩ = some (.slice Q (msgR x.2.2).length q) := y4
                  rwa [hgl] at h
                clear hgl
                go_wp2_with fail
                go_roundw
                case rel => exact ⟨k + 1, last, A3, c3, rfl, rfl, by go_num, hlt, by omega, HN⟩
                case measure => (simp [intOf] <;> omega)
              · have hE : got1E x = 0 := if_neg hz
                have hV : got1V x = fstR x.2.2 := if_neg hz
                have hL1 : got1 x = gotL x := if_neg hz
                rw [hE] at s1
                rw [hV] at s2
                rw [hL1] at s3
                have hgot := row_got HRL.out.ok hz
                have hri := HRL.out.rise
                rw [hgot] at hri
                have hri1 := hri.read.1
                obtain ⟨G, hG⟩ : ∃ G, (msgR x.2.2).length = G := ⟨_, rfl⟩
                have hG1 : (msgR (popR x.2.2)).length = G - 1 := by rw [← hG, hgot]; rfl
                have hG0 : 1 ≤ G := by rw [← hG, hgot]; simp
                have g1 : (0 : Int) < (G : Int) := by omega
                have g2 : (1 : Int) ≤ (G : Int) := by omega
                have hvv : (fstR x.2.2 != fstR x.2.2) = false := by simp
                have S1 := Lib.hid s1
                have S2 := Lib.hid s2
                have S3 := Lib.hid s3
                have HZ := Lib.hid hz
                have HRI := Lib.hid hri
                clear s1 s2 s3 hz hri
                clear hE hV hL1
                go_wp2_with fail
                refine (read_v (S := fun b => b ≠ X) 0 0 1 [gotL x] (fstR x.2.2) 0 rfl S3.out S2.out S1.out _ (by decide) HRL.out.rx).mono ?_
                rintro e w3 ⟨A3, c3, rfl, r3, b3⟩
                have hq3 := RdS.below HRL.out.rq b3
                have HNX := Lib.hid (fun Q5 q5 r5 => rl_read (Q5 := Q5) (q5 := q5) (m := G - 1) HRL.out HZ.out b3 (upX r3 HXL.out) r5 hG1)
                have HBX := Lib.hid (HRL.out.bx.below b3)
                clear r3 b3 x0
                obtain ⟨b2, off2, rfl, hc2⟩ := RdS.int hq3 (by rw [hG]; omega)
                have c0 := (hc2 0 (by rw [hG]; omega)).1
                have hGq : G ≤ q := by rw [← hG]; exact RdS.le hq3
                have hqm := RdS.max hq3
                rw [hgot, at_zero, Nat.add_zero] at c0
                have ht : RdS w3 (fun b => b ≠ X) (some ⟨b2, off2 + 1, none⟩) (q - 1) (msgR (popR x.2.2)) := by
                  rw [hgot] at hq3
                  exact RdS.tail hq3
                obtain ⟨y0, y1, y2, y3, y4⟩ := HBX.out.cells
                replace y4 : w3.cell? ⟨X, 4, none⟩ = some (.slice (some ⟨b2, off2, none⟩) G q) := by
                  have h : w3.cell? ⟨X, 4, none⟩ = some (.slice (some ⟨b2, off2, none⟩) (msgR x.2.2).length q) := y4
                  rwa [hG] at h
                have f4 := HBX.out.f 4
                clear hc2 hq3 hgot
                by_cases hq1 : q = 1
                · have hGe : G = 1 := by omega
                  subst hq1
                  subst hGe
                  have HN := Lib.hid (HNX.out (some ⟨b2, off2, none⟩) 0 (by
                    have : msgR (popR x.2.2) = [] := List.eq_nil_of_length_eq_zero (by omega)
                    rw [this]
                    exact rd_nil (fun h => by cases h) (Nat.zero_le _)))
                  clear ht hG hG1 HNX
                  generalize fstR x.2.2 = v at *
                  go_wp2_with fail
                  go_roundw
                  case rel => exact ⟨k + 1, v, A3, c3, rfl, rfl, by go_num, hlt, by omega, HN⟩
                  case measure => (simp [intOf] <;> omega)
                · have HN := Lib.hid (HNX.out _ _ ht)
                  have q1 : ¬ (q : Int) = 1 := by omega
                  clear ht hG hG1 HNX
                  generalize fstR x.2.2 = v at *
                  go_wp2_with fail
                  go_roundw
                  case rel => exact ⟨k + 1, v, A3, c3, rfl, rfl, by go_num, hlt, by omega, HN⟩
                  case measure => (simp [intOf] <;> omega)
            · have e1 : (m == 1) = false := beq_eq_false_iff_ne.2 hm1
              have s1 := del_one HRL.out.ok
              have hrow := (deliv_ok HRL.out.ok).2
              have S1 := Lib.hid s1
              have HROW := Lib.hid hrow
              clear s1 hrow
              clear hm0 hm1
              go_wp2_with fail
              refine (deliver_v (S := fun b => b ≠ X) 1 [delivL x] rfl S1.out _ (by decide) HRL.out.rx).mono ?_
              rintro e w3 ⟨A3, c3, rfl, r3, b3⟩
              have R3 := Lib.hid (upX r3 HXL.out)
              have HBX := Lib.hid (HRL.out.bx.below b3)
              have HP := Lib.hid (RdS.below HRL.out.rp b3)
              have HQ := Lib.hid (RdS.below HRL.out.rq b3)
              have HB := Lib.hid (below_step HRL.out.b b3)
              have HXL3 := Lib.hid HBX.out.lt
              clear r3 b3 x0
              obtain ⟨y0, y1, y2, y3, y4⟩ := HBX.out.cells
              go_wp2_with fail
              refine (refDeliver_any P p Q q (x.1, msgR x.2.1, msgR x.2.2) n (by rw [HRL.out.port]) hlens.2.2.1 hlens.2.2.2 (by have := hlens.1; show (msgR x.2.1).length ≤ 1000; omega) (by have := hlens.2.1; show (msgR x.2.2).length ≤ 1000; omega) _ HP.out.rd HQ.out.rd).mono ?_
              have ey : delivW (x.1, msgR x.2.1, msgR x.2.2) = rowOf (delivL x) := HROW.out.symm
              rw [ey]
              rintro e w4 ⟨P4, p4, Q4, q4, rfl, k1, k2, b4⟩
              have HN := Lib.hid (rl_deliver HRL.out R3.out HBX.out HB.out b4 k1 k2)
              replace HBX := Lib.hid (HBX.out.below b4)
              clear b4 k1 k2 ey y0 y1 y2 y3 y4 R3 HP HQ HB
              obtain ⟨y0, y1, y2, y3, y4⟩ := HBX.out.cells
              have f0 := HBX.out.f 0
              have f1 := HBX.out.f 1
              have f2 := HBX.out.f 2
              have f3 := HBX.out.f 3
              have f4 := HBX.out.f 4
              generalize rowOf (delivL x) = y at *
              go_wp2_with fail
              go_roundw
              case rel => exact ⟨k + 1, last, A3, c3, rfl, rfl, by go_num, hlt, by omega, HN⟩
              case measure => (simp [intOf] <;> omega)
        · have h60' : (60 : Int) ≤ (k : Int) := by omega
          have i1 : (k : Int) < (acts.length : Int) := by omega
          have hok1 := Lib.hid (okS_one HRL.out.ok)
          have HSZ := Lib.hid (hsz_one (x := x) hlens.1 hlens.2.1)
          have hfp : FitP x.1 := by
            rw [HRL.out.port]
            have := hlens.2.2.2
            refine ⟨⟨?_, ?_⟩, ⟨?_, ?_⟩, ⟨?_, ?_⟩⟩ <;> (dsimp only; omega)
          have HFP := Lib.hid hfp
          have h1m : (1 : Nat) ≤ 1000000 := by decide
          go_wp2_with fail
          obtain ⟨y0, y1, y2, y3, y4⟩ := HRL.out.bx.cells
          have HYC : Hid (wr.cell? ⟨X, 3, none⟩ = some (.slice P (msgR x.2.1).length p) ∧ wr.cell? ⟨X, 4, none⟩ = some (.slice Q (msgR x.2.2).length q)) := ⟨y3, y4⟩
          have BD := Lib.hid ((Below.refl wr.heap.size wr).drew)
          have BA := Lib.hid ((Below.refl wr.heap.size wr).drew.alloc (Nat.le_refl _) (.cells #[.int .i64 x.1.1, .int .i64 x.1.2.1, .int .i64 x.1.2.2, .slice P (msgR x.2.1).length p, .slice Q (msgR x.2.2).length q] 37))
          have RL0 : Hid (Rd (wr.drew.alloc (.cells #[.int .i64 x.1.1, .int .i64 x.1.2.1, .int .i64 x.1.2.2, .slice P (msgR x.2.1).length p, .slice Q (msgR x.2.2).length q] 37)) (some ⟨wr.heap.size, 0, none⟩) 1 [rowOf x]) := lit_row (wr := wr.drew) HFP.out (RdS.below HRL.out.rp BD.out).rd (RdS.below HRL.out.rq BD.out).rd
          go_region_held3 (fun w' => w'.cell? ⟨X, 0, none⟩ = some (.int .i64 x.1.1) ∧ w'.cell? ⟨X, 1, none⟩ = some (.int .i64 x.1.2.1) ∧ w'.cell? ⟨X, 2, none⟩ = some (.int .i64 x.1.2.2) ∧ w'.cell? ⟨X, 3, none⟩ = some (.slice P (msgR x.2.1).length p) ∧ w'.cell? ⟨X, 4, none⟩ = some (.slice Q (msgR x.2.2).length q))
            (first
              | (with_reducible exact ⟨cell_below BK.out y0, cell_below BK.out y1, cell_below BK.out y2, cell_below BK.out y3, cell_below BK.out y4⟩)
              | (with_reducible exact ⟨cell_below BS.out y0, cell_below BS.out y1, cell_below BS.out y2, cell_below BS.out y3, cell_below BS.out y4⟩)
              | (with_reducible exact ⟨cell_below B3a.out y0, cell_below B3a.out y1, cell_below B3a.out y2, cell_below B3a.out y3, cell_below B3a.out y4⟩)
              | (with_reducible exact ⟨cell_below B3.out y0, cell_below B3.out y1, cell_below B3.out y2, cell_below B3.out y3, cell_below B3.out y4⟩)
              | (exact ⟨cell_below BA.out y0, cell_below BA.out y1, cell_below BA.out y2, cell_below BA.out y3, cell_below BA.out y4⟩)
              | (exact ⟨y0, y1, y2, y3, y4⟩))
            (first
              | (go_at_call 8
                 refine (knows18_any _).mono ?_
                 rintro e w6 ⟨rfl, b6⟩
                 have BK := Lib.hid (below_step BS.out b6)
                 clear b6)
              | (go_at_call 16
                 first
                   | with_reducible refine (sameW_one A3 (some ⟨w3.heap.size, 0, none⟩) c3 1 [rowOf x] 1 rfl h1m HSZ.out _ R3a.out RL3.out).mono ?_
                   | with_reducible refine (sameW_one A3 (some ⟨wr.heap.size, 0, none⟩) c3 1 [rowOf x] 1 rfl h1m HSZ.out _ R3.out RL1.out).mono ?_
                 rintro e w5 ⟨rfl, b5⟩
                 first
                   | have BS := Lib.hid (below_step B3a.out b5)
                   | have BS := Lib.hid (below_step B3.out b5)
                 clear b5)
              | (go_at_call 13
                 refine (as_rows (fun b => b ≠ X) A c [x] 1 rfl hok1.out _ (by exact RdS.below HRL.out.rx BD.out)).mono ?_
                 rintro e w3 ⟨A3, c3, rfl, o3, b3⟩
                 have B3 := Lib.hid (BD.out.trans b3)
                 have R3 := Lib.hid o3.rd
                 have B3a := Lib.hid (B3.out.alloc B3.out.size (.cells #[.int .i64 x.1.1, .int .i64 x.1.2.1, .int .i64 x.1.2.2, .slice P (msgR x.2.1).length p, .slice Q (msgR x.2.2).length q] 37))
                 have R3a := Lib.hid (o3.rd.alloc (.cells #[.int .i64 x.1.1, .int .i64 x.1.2.1, .int .i64 x.1.2.2, .slice P (msgR x.2.1).length p, .slice Q (msgR x.2.2).length q] 37))
                 have RL3 := Lib.hid (lit_row (wr := w3) HFP.out (RdS.below HRL.out.rp B3.out).rd (RdS.below HRL.out.rq B3.out).rd)
                 clear o3 b3)
              | (go_at_call 13
                 refine (as_rows (fun b => b ≠ X) A c [x] 1 rfl hok1.out _ (by exact RdS.below HRL.out.rx BA.out)).mono ?_
                 rintro e w3 ⟨A3, c3, rfl, o3, b3⟩
                 have B3 := Lib.hid (BA.out.trans (b3.mono BA.out.size))
                 have R3 := Lib.hid o3.rd
                 have RL1 := Lib.hid (RL0.out.below b3)
                 clear o3 b3))
          all_goals
            go_split_ands
            go_wp2_with fail
            go_ret
            exact ⟨rfl, below_step HRL.out.b BK.out⟩
      · have i1 : (acts.length : Int) ≤ (k : Int) := by omega
        have hok1 := Lib.hid (okS_one HRL.out.ok)
        have HSZ := Lib.hid (hsz_one (x := x) hlens.1 hlens.2.1)
        have hfp : FitP x.1 := by
          rw [HRL.out.port]
          have := hlens.2.2.2
          refine ⟨⟨?_, ?_⟩, ⟨?_, ?_⟩, ⟨?_, ?_⟩⟩ <;> (dsimp only; omega)
        have HFP := Lib.hid hfp
        have h1m : (1 : Nat) ≤ 1000000 := by decide
        go_wp2_with fail
        obtain ⟨y0, y1, y2, y3, y4⟩ := HRL.out.bx.cells
        have HYC : Hid (wr.cell? ⟨X, 3, none⟩ = some (.slice P (msgR x.2.1).length p) ∧ wr.cell? ⟨X, 4, none⟩ = some (.slice Q (msgR x.2.2).length q)) := ⟨y3, y4⟩
        have BD := Lib.hid ((Below.refl wr.heap.size wr).drew)
        have BA := Lib.hid ((Below.refl wr.heap.size wr).drew.alloc (Nat.le_refl _) (.cells #[.int .i64 x.1.1, .int .i64 x.1.2.1, .int .i64 x.1.2.2, .slice P (msgR x.2.1).length p, .slice Q (msgR x.2.2).length q] 37))
        have RL0 : Hid (Rd (wr.drew.alloc (.cells #[.int .i64 x.1.1, .int .i64 x.1.2.1, .int .i64 x.1.2.2, .slice P (msgR x.2.1).length p, .slice Q (msgR x.2.2).length q] 37)) (some ⟨wr.heap.size, 0, none⟩) 1 [rowOf x]) := lit_row (wr := wr.drew) HFP.out (RdS.below HRL.out.rp BD.out).rd (RdS.below HRL.out.rq BD.out).rd
        go_region_held3 (fun w' => w'.cell? ⟨X, 0, none⟩ = some (.int .i64 x.1.1) ∧ w'.cell? ⟨X, 1, none⟩ = some (.int .i64 x.1.2.1) ∧ w'.cell? ⟨X, 2, none⟩ = some (.int .i64 x.1.2.2) ∧ w'.cell? ⟨X, 3, none⟩ = some (.slice P (msgR x.2.1).length p) ∧ w'.cell? ⟨X, 4, none⟩ = some (.slice Q (msgR x.2.2).length q))
          (first
            | (with_reducible exact ⟨cell_below BK.out y0, cell_below BK.out y1, cell_below BK.out y2, cell_below BK.out y3, cell_below BK.out y4⟩)
            | (with_reducible exact ⟨cell_below BS.out y0, cell_below BS.out y1, cell_below BS.out y2, cell_below BS.out y3, cell_below BS.out y4⟩)
            | (with_reducible exact ⟨cell_below B3a.out y0, cell_below B3a.out y1, cell_below B3a.out y2, cell_below B3a.out y3, cell_below B3a.out y4⟩)
            | (with_reducible exact ⟨cell_below B3.out y0, cell_below B3.out y1, cell_below B3.out y2, cell_below B3.out y3, cell_below B3.out y4⟩)
            | (exact ⟨cell_below BA.out y0, cell_below BA.out y1, cell_below BA.out y2, cell_below BA.out y3, cell_below BA.out y4⟩)
            | (exact ⟨y0, y1, y2, y3, y4⟩))
          (first
            | (go_at_call 8
               refine (knows18_any _).mono ?_
               rintro e w6 ⟨rfl, b6⟩
               have BK := Lib.hid (below_step BS.out b6)
               clear b6)
            | (go_at_call 16
               first
                 | with_reducible refine (sameW_one A3 (some ⟨w3.heap.size, 0, none⟩) c3 1 [rowOf x] 1 rfl h1m HSZ.out _ R3a.out RL3.out).mono ?_
                 | with_reducible refine (sameW_one A3 (some ⟨wr.heap.size, 0, none⟩) c3 1 [rowOf x] 1 rfl h1m HSZ.out _ R3.out RL1.out).mono ?_
               rintro e w5 ⟨rfl, b5⟩
               first
                 | have BS := Lib.hid (below_step B3a.out b5)
                 | have BS := Lib.hid (below_step B3.out b5)
               clear b5)
            | (go_at_call 13
               refine (as_rows (fun b => b ≠ X) A c [x] 1 rfl hok1.out _ (by exact RdS.below HRL.out.rx BD.out)).mono ?_
               rintro e w3 ⟨A3, c3, rfl, o3, b3⟩
               have B3 := Lib.hid (BD.out.trans b3)
               have R3 := Lib.hid o3.rd
               have B3a := Lib.hid (B3.out.alloc B3.out.size (.cells #[.int .i64 x.1.1, .int .i64 x.1.2.1, .int .i64 x.1.2.2, .slice P (msgR x.2.1).length p, .slice Q (msgR x.2.2).length q] 37))
               have R3a := Lib.hid (o3.rd.alloc (.cells #[.int .i64 x.1.1, .int .i64 x.1.2.1, .int .i64 x.1.2.2, .slice P (msgR x.2.1).length p, .slice Q (msgR x.2.2).length q] 37))
               have RL3 := Lib.hid (lit_row (wr := w3) HFP.out (RdS.below HRL.out.rp B3.out).rd (RdS.below HRL.out.rq B3.out).rd)
               clear o3 b3)
            | (go_at_call 13
               refine (as_rows (fun b => b ≠ X) A c [x] 1 rfl hok1.out _ (by exact RdS.below HRL.out.rx BA.out)).mono ?_
               rintro e w3 ⟨A3, c3, rfl, o3, b3⟩
               have B3 := Lib.hid (BA.out.trans (b3.mono BA.out.size))
               have R3 := Lib.hid o3.rd
               have RL1 := Lib.hid (RL0.out.below b3)
               clear o3 b3))
        all_goals
          go_split_ands
          go_wp2_with fail
          go_ret
          exact ⟨rfl, below_step HRL.out.b BK.out⟩

set_option maxRecDepth 100000 in
theorem lifted (os : Os) (started : os.Started) (H : Type) (enc : TypeId × Value → H) :
    ReturnsInHanded {} Try.checked os 5 .any (Rows.portOrdersSpec.pre6 enc Try.prog Try.f5 Rows.portOrdersRow.domain false) (Rows.portOrdersSpec.post enc Try.prog Try.f5 false true false false) := by
  refine returnsInHanded_of_change (C := Try.checked) own started (by kernel_rfl) Try.func5
    (ChangeSpec.witness6 (enc := enc) (C := Try.checked) false ⟨#[], #[.int .i64 0, .slice none 0 0], []⟩ 8 (by kernel_rfl) (by kernel_rfl) (by kernel_rfl) (by kernel_rfl)) ?_
  intro W base args ds gs before hval0 hW hcnd _
  have hval : ∀ (j : Nat) t v, Try.f5.params[j]? = some t → args[j]? = some v → Value.okWide Try.prog W .any base t v := hval0
  have hW' := hW
  obtain ⟨p, q, hA0, hV, rfl, hfz, hnd⟩ := hW
  have hA : DataW.TrodAll enc Try.prog W 0 (fun _ => true) true Try.f5.params.toList args.toList ds p := hA0
  rw [Try.params5] at hA hval
  obtain ⟨v0, v1, d0, d1, p0, p1, rfl, rfl, rfl, h0, h1⟩ := trodAll_two hA
  obtain ⟨rfl, rfl⟩ := trodVars_none hV
  obtain ⟨n0, rfl, f0⟩ := Mm.open_num' Try.underlying3 (hval 0 3 v0 rfl rfl) h0
  obtain ⟨A1, c1, l1, rfl, hr1⟩ := Mm.open_list (α := Mm.Byt) Try.underlying47 Mm.opBytes (hval 1 47 v1 rfl rfl) h1
  clear hA0 hval0
  refine (walk n0 A1 c1 l1 W f0 hr1).mono fun e W' ⟨he, bel⟩ => ?_
  subst he
  have hlt0 : ∀ x ∈ p0, x.block < W.heap.size := fun x hx => hW'.lt x (by simp [hx])
  have hlt1 : ∀ x ∈ p1, x.block < W.heap.size := fun x hx => hW'.lt x (by simp [hx])
  exact ⟨_, rfl, _, _, _, [], _, [], hW', trodAll_mk1 (shut_bool Try.underlying4 _), trodAll_mk2 (Below.trod laidOut (by kernel_rfl) (of_decide_eq_true (by kernel_rfl)) h0 bel hlt0) (Below.trod laidOut (by kernel_rfl) (of_decide_eq_true (by kernel_rfl)) h1 bel hlt1), rfl, bel.frame _, fun h => by cases h⟩

/-- The statement. -/
theorem proved : Rows.PortOrdersSaid :=
  OpenClaim.holds_of_wide 5 Try.f5 rfl rfl rfl rfl rfl rfl rfl ⟨rfl, rfl, rfl, rfl, rfl⟩ rfl rfl rfl rfl rfl (by kernel_rfl) Try.func5 (by kernel_rfl)
    (of_decide_eq_true (by kernel_rfl)) (by unfold Func.isWrapper; first | (rw [if_pos (by decide +kernel)]; kernel_rfl) | (rw [if_neg (by decide +kernel)]; exact ⟨rfl, rfl⟩))
    (fun os started H enc _ => lifted os started H enc)
#print axioms proved

end Go.Proofs.Ytfkcplnjhelclaa.portOrders
