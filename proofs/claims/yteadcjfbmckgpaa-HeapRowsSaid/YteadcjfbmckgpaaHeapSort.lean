/-
  Layer 2 (heap): Sort.
-/
import Derived.Test.YteadcjfbmckgpaaHeapTake
import Derived.OwnWalk
namespace Go.Proofs.Yteadcjfbmckgpaa
open Go.RowKit
namespace Hp

def sliceLen : Value → Nat
  | .slice _ n _ => n
  | _ => 0

theorem Ow.own_ne {w : World} {base : Nat} {e : TypeId} {c g : Nat} {A : Option Addr} {l : List It} (h : Ow w base e A c l) (hne : A ≠ some ⟨g, 0, none⟩) (n : Nat) : some g ≠ (Value.slice A n c).ownBlock := by
  rcases h.cases with ⟨rfl, _⟩ | ⟨g', rfl, _⟩
  · simp [Value.ownBlock]
  · intro e
    exact hne (by injection e with e; rw [e])

/-- the items in increasing order, in new memory -/
def SortOf (w : World) (l : List It) (e : Ending) (w' : World) : Prop :=
  ∃ (A : Option Addr) (c : Nat), e = .returned (.slice A (srt l).length c) ∧ Ow w' w.heap.size 24 A c (srt l) ∧ Below w.heap.size w w'

def SortRel (w : World) (l : List It) (A B : Option Addr) (c d : Nat) (m s : List It) (wr : World) : Prop :=
  IsHeap m ∧ srt l = s ++ srt m ∧ Ow wr w.heap.size 24 A c m ∧ Ow wr w.heap.size 24 B d s ∧ (∀ g, A = some ⟨g, 0, none⟩ → B ≠ some ⟨g, 0, none⟩) ∧ Below w.heap.size w wr

set_option maxHeartbeats 1600000 in
theorem sort_any (A : Option Addr) (c : Nat) (l : List It) (w : World) (hbig : l.length ≤ 900000) (hr : Rd w A c l) :
    Calls Try.prog 19 #[.slice A l.length c] w (SortOf w l) := by
  obtain ⟨i, hi, hz0, hz1, hz2⟩ := info_parts infoIt
  have HR := Lib.hid hr
  have HI := Lib.hid hi
  have HZ0 := Lib.hid hz0
  have HZ1 := Lib.hid hz1
  have HZ2 := Lib.hid hz2
  clear hr hi hz0 hz1 hz2
  go_enter Try.func19, Try.ntmps19
  go_wp2_with fail
  refine (make_any A c l _ (by omega) HR.out).mono ?_
  rintro e w1 ⟨B, d, m, rfl, m1, m2, o1, b1⟩
  have HM1 := Lib.hid m1
  have HM2 := Lib.hid m2
  have HO1 := Lib.hid o1
  have HB1 := Lib.hid b1
  clear m1 m2 o1 b1
  go_wp2_with (at_make; refine wpList_make_own _ rfl _ _ _ rfl w.heap.size 24 i _ 2 Try.underlying22 HI.out HZ0.out HZ1.out _ _ _ l.length rfl rfl rfl (by rw [HZ2.out]; omega) (by unfold maxLen; omega) HB1.out.size ?_)
  intro w2 o2 g2
  have HO2 : Hid (Ow w2 w.heap.size 24 (some ⟨w1.heap.size, 0, none⟩) l.length []) := o2
  have HO2' := Lib.hid (HO1.out.gb g2 (fun g _ => by simp))
  have HB2 := Lib.hid (HB1.out.grown g2 HB1.out.size (fun k hk => by cases hk))
  have HD : Hid (∀ g, B = some ⟨g, 0, none⟩ → (some ⟨w1.heap.size, 0, none⟩ : Option Addr) ≠ some ⟨g, 0, none⟩) := by
    intro g hg e
    rcases HO1.out.cases with ⟨h1, _⟩ | ⟨g', h1, _, hlt, _⟩
    · rw [h1] at hg; cases hg
    · rw [h1] at hg
      injection hg with hg
      injection hg with hg
      injection e with e
      injection e with e
      omega
  clear o2 g2
  go_wp2_with fail
  go_loopw [3, 4] (fun h s wr => ∃ (A B : Option Addr) (c d : Nat) (m t : List It), h = .slice A m.length c ∧ s = .slice B t.length d ∧ SortRel w l A B c d m t wr) (fun h _ _ => sliceLen h)
  case atStart => exact ⟨B, _, d, _, m, [], rfl, rfl, HM2.out, (srt_of_perm HM1.out).symm, HO2'.out, HO2.out, HD.out, HB2.out⟩
  case round =>
    clear HO2 HO2' HB2 HD HO1 HB1 HM1 HM2 HR
    obtain ⟨A1, B1, c1, d1, m1, t1, rfl, rfl, hh, he, ho, hs, hd, hb⟩ := hrel
    have HH := Lib.hid hh
    have HE := Lib.hid he
    have HO := Lib.hid ho
    have HS := Lib.hid hs
    have HD := Lib.hid hd
    have HB := Lib.hid hb
    have hlen : t1.length + m1.length = l.length := by
      have := congrArg List.length he
      rw [srt_length, List.length_append, srt_length] at this
      omega
    clear hh he hs hd hb
    by_cases h0 : 0 < m1.length
    · obtain ⟨g, rfl, hgw, hgl, _⟩ := ho.form h0
      clear ho
      have h0' : (0 : Int) < (m1.length : Int) := by omega
      have z1 : (wr.alloc (.cells #[.int .i64 0, .int .i64 0] 24)).cell? ⟨wr.heap.size, 0, none⟩ = some (.int .i64 0) := by go_simp
      have z2 : (wr.alloc (.cells #[.int .i64 0, .int .i64 0] 24)).cell? ⟨wr.heap.size, 1, none⟩ = some (.int .i64 0) := by go_simp
      have z3 : (wr.alloc (.cells #[.int .i64 0, .int .i64 0] 24)).frozen? ⟨wr.heap.size, 0, none⟩ = false := by go_simp
      have z4 : (wr.alloc (.cells #[.int .i64 0, .int .i64 0] 24)).frozen? ⟨wr.heap.size, 1, none⟩ = false := by go_simp
      have HO1 := Lib.hid (HO.out.alloc (.cells #[.int .i64 0, .int .i64 0] 24))
      have HS1 := Lib.hid (HS.out.alloc (.cells #[.int .i64 0, .int .i64 0] 24))
      have HB1 := Lib.hid (HB.out.alloc HB.out.size (.cells #[.int .i64 0, .int .i64 0] 24))
      go_wp2_with fail
      generalize wr.alloc (.cells #[.int .i64 0, .int .i64 0] 24) = wa at *
      refine (take_any w.heap.size g c1 m1 _ (by omega) h0 HH.out HO1.out).mono ?_
      rintro e w3 ⟨q, rfl, q1, q2, q3, o3, g3⟩
      have hsg : some wr.heap.size ≠ some g := fun e => by injection e with e; omega
      have k1 := gb_cell g3 z1 hsg
      have k2 := gb_cell g3 z2 hsg
      have k3 : w3.frozen? ⟨wr.heap.size, 0, none⟩ = false := (World.frozen?_of_block (w := wa) (g3.block wr.heap.size (lt_of_cell z1) hsg)).trans z3
      have k4 : w3.frozen? ⟨wr.heap.size, 1, none⟩ = false := (World.frozen?_of_block (w := wa) (g3.block wr.heap.size (lt_of_cell z1) hsg)).trans z4
      have hw3 : wr.heap.size < w3.heap.size := lt_of_cell k1
      have hgw3 : g < w3.heap.size := by have := g3.size; have : wr.heap.size < wa.heap.size := lt_of_cell z1; omega
      have HO3 := Lib.hid o3
      have HS3 := Lib.hid (HS1.out.gb g3 (fun b hb e => HD.out b (by injection e with e; rw [e]) hb))
      have HB3 := Lib.hid (HB1.out.grown g3 HB1.out.size (fun k hk => by injection hk with hk; omega))
      have HQ1 := Lib.hid q1
      have HQ2 := Lib.hid q2
      clear z1 z2 z3 z4 HO1 HS1 HB1 o3 g3 q1 q2 hsg
      have HBn : Hid (∀ g, B1 = some ⟨g, 0, none⟩ → wr.heap.size ≠ g) := fun b hb => by have := HS.out.new b hb; omega
      have hq : Hid (q.length + 1 = m1.length) := q3
      clear q3
      go_wp2_with (at_builtin; refine list_app_it rfl _ _ rfl (base := w.heap.size) (l := t1) (r := [at_ m1 0]) rfl rfl (by exact ((HS3.out.farAny (p := ⟨wr.heap.size, 0, none⟩) HBn.out _).farAny (p := ⟨wr.heap.size, 1, none⟩) HBn.out _).alloc _) (by (refine rd_one ?_ ?_) <;> go_simp) (by simp; omega) (by have := HB3.out.size; simp; omega) ?_)
      intro A' c' w4 o4 g4 l4
      have hBg : B1 ≠ some ⟨g, 0, none⟩ := HD.out g rfl
      have hgr : wr.heap.size ≠ g := by omega
      have HO4 := Lib.hid ((((HO3.out.far (p := ⟨wr.heap.size, 0, none⟩) hgr _).far (p := ⟨wr.heap.size, 1, none⟩) hgr _).alloc _).gb g4 (fun g' hg' => by
        injection hg' with hg'
        injection hg' with hg'
        subst hg'
        exact HS.out.own_ne hBg _))
      have HS4 := Lib.hid o4
      have HB4 := Lib.hid (Below.grown (((HB3.out.setCell (p := ⟨wr.heap.size, 0, none⟩) HB.out.size _).setCell (p := ⟨wr.heap.size, 1, none⟩) HB.out.size _).alloc (by simp; exact HB3.out.size) _) g4 (by have := HB3.out.size; simp; omega) (fun k hk => HS.out.row k hk))
      have HD4 : Hid (∀ g', (some ⟨g, 0, none⟩ : Option Addr) = some ⟨g', 0, none⟩ → A' ≠ some ⟨g', 0, none⟩) := by
        intro g' hg' hA
        injection hg' with hg'
        injection hg' with hg'
        subst hg'
        subst hA
        rcases l4 with l4 | l4
        · exact HS.out.own_ne hBg _ l4
        · simp [Value.ownBlock] at l4
          omega
      have HE4 : Hid (srt l = (t1 ++ [at_ m1 0]) ++ srt q) := by
        show srt l = _
        rw [HE.out, HQ1.out, List.append_assoc]
        rfl
      have HL4 : Hid ((t1 ++ [at_ m1 0]).length = t1.length + 1) := by show List.length _ = _; simp
      clear o4 g4 l4 HS3 HO3 HB3 HE HQ1 HS HO HD HB
      generalize t1 ++ [at_ m1 0] = t2 at *
      go_wp2_with fail
      go_roundw
      case rel => exact ⟨some ⟨g, 0, none⟩, A', c1, c', q, t2, rfl, by rw [HL4.out], HQ2.out, HE4.out, HO4.out, HS4.out, HD4.out, HB4.out⟩
      case measure => simp [sliceLen]; have := hq.out; omega
    · have hm0 : m1 = [] := List.eq_nil_of_length_eq_zero (by omega)
      subst hm0
      clear ho
      go_wp2_with fail
      go_ret
      have e : srt l = t1 := by have := HE.out; simpa [srt] using this
      exact ⟨B1, d1, by rw [e]; rfl, by rw [e]; exact HS.out, HB.out⟩

end Hp
end Go.Proofs.Yteadcjfbmckgpaa
