/-
  Layer 4 (span): the library's slices.SortFunc at spans: the closure; what it leaves.
-/
import Derived.Test.YtdgemmhaddnbdaaSpanWalks
import Derived.Test.YtdgemmhaddnbdaaSpanLaid
import Derived.Shelf.SlSortCmp.NoneTotal
namespace Go.Proofs.Ytdgemmhaddnbdaa
open Go.Shelf Go.RowKit Go.Lib Go.Sort
namespace Hp

/-- a span's two cells -/
def encS (x : It) : List Value := [.int .i64 x.1, .int .i64 x.2]
def cmpS (x y : It) : Int := Lib.compareInt x.1 y.1

theorem ltS (x y : It) : ltOf cmpS x y = decide (x.1 < y.1) := by
  unfold ltOf cmpS Lib.compareInt
  by_cases h1 : x.1 < y.1
  · simp [h1]
  · by_cases h2 : y.1 < x.1 <;> simp [h1, h2]
theorem swoS : SWO (ltOf cmpS) where
  irrefl x := by rw [ltS]; simp
  trans x y z h1 h2 := by rw [ltS] at *; simp at *; omega
  ntrans x y z h1 h2 := by rw [ltS] at *; simp at *; omega

set_option maxHeartbeats 1000000 in
/-- the closure: two blocks are laid -/
theorem cmp_closure (x y : It) (W : World) : Calls Try.prog 32 #[.agg #[.int .i64 x.1, .int .i64 x.2], .agg #[.int .i64 y.1, .int .i64 y.2]] W fun e w' => e = .returned (.int .i64 (cmpS x y)) ∧ ∃ q os', w' = grow (W.drewN q) os' := by
  have hcon := fun W' => AnyG.cmp_Compare_int cmpLaid x.1 y.1 W'
  change ∀ W', Calls Try.prog 33 _ _ _ at hcon
  unfold cmpS
  generalize Lib.compareInt x.1 y.1 = r at hcon ⊢
  go_enter Try.func32, Try.ntmps32
  go_wp2_with (go_at_call 33; refine (hcon _).mono ?_; rintro e w' ⟨rfl, rfl⟩)
  go_ret
  exact ⟨rfl, 0, _, by rw [alloc_eq_grow, alloc_eq_grow, grow_grow]; rfl⟩
theorem cmpLays (blk off size : Nat) (w : World) : CmpLays Try.prog 32 #[] encS 2 cmpS blk off size w :=
  fun _ _ _ _ x y => cmp_closure x y _

theorem toArr_at (l : List It) (i : Nat) (hi : i < l.length) : l.toArray[i]! = at_ l i := by
  simp [at_, List.getD_eq_getElem?_getD, getElem!_pos, hi]
theorem flat_cells (l : List It) (j : Nat) (hj : j < l.length * 2) : (cells l)[j]? = some ((flatK encS 2 l.toArray)[j]!) := by
  rw [get_flatK _ _ _ _ (by simpa using hj), toArr_at l (j / 2) (by omega)]
  obtain ⟨c1, c2⟩ := cells_at l (j / 2) (by omega)
  rcases Nat.mod_two_eq_zero_or_one j with hm | hm
  · rw [show j / 2 * 2 = j from by omega] at c1
    rw [c1, hm]; rfl
  · rw [show j / 2 * 2 + 1 = j from by omega] at c2
    rw [c2, hm]; rfl
theorem holds_of_ow {w : World} {base : Nat} {e : TypeId} {g c : Nat} {l : List It} (h : Ow w base e (some ⟨g, 0, none⟩) c l) : HoldsK encS 2 w g 0 l.toArray := by
  intro j hj
  have hj' : j < l.length * 2 := by simpa using hj
  refine ⟨?_, by simpa using World.ownsRow.frozenAt h (0 + j)⟩
  have := flat_cells l j hj'
  rw [Nat.zero_add]
  exact (World.ownsRow.cellAt h j (by omega)).trans this
theorem ow_sorted {w : World} {base : Nat} {e : TypeId} {g c m : Nat} {l : List It} {d : Array It} {os : Array Obj} (h : Ow w base e (some ⟨g, 0, none⟩) c l) (hd : d.size = l.length) :
    Ow (sortWorldK encS 2 w g 0 m d os) base e (some ⟨g, 0, none⟩) c d.toList := by
  have hdl : d.toList.length = l.length := by simpa using hd
  rcases h.2 with ⟨e0, _⟩ | ⟨g', cap', cur, e0, hb, hg, hn, hm, hs, ht⟩
  · cases e0
  · injection e0 with e1 _ e3
    injection e1 with e1
    injection e1 with e1
    subst e1; subst e3
    have hlt : g < w.heap.size := by
      rcases Nat.lt_or_ge g w.heap.size with h' | h'
      · exact h'
      · rw [Array.getElem?_eq_none h'] at hg; cases hg
    refine ⟨by rw [cells_length], .inr ⟨g, c, putCells id 0 (flatK encS 2 d) cur, rfl, hb, ?_, by omega, hm, by simpa [putCells] using hs, ?_⟩⟩
    · unfold sortWorldK
      rw [heap_grow_old _ _ (by rw [size_putRowK]; exact hlt)]
      simp [putRowK, putRow, mapBlock, Sort.ahead, Array.getElem?_modify, hg, onCells]
    · apply List.ext_getElem?
      intro j
      rw [List.getElem?_take, Array.getElem?_toList]
      by_cases hj : j < d.toList.length * 2
      · have hjc : j < cur.size := by omega
        have hfl := flat_cells d.toList j hj
        rw [if_pos hj, hfl]
        simp only [putCells, Array.getElem?_mapIdx, Array.getElem?_eq_getElem hjc, Option.map_some]
        rw [if_pos ⟨Nat.zero_le _, by simp; simpa using hj⟩]
        simp
      · rw [if_neg hj, List.getElem?_eq_none (by rw [cells_length]; omega)]
theorem gb_sorted (w : World) (g m : Nat) (d : Array It) (os : Array Obj) : w.grownBy (sortWorldK encS 2 w g 0 m d os) (some g) := by
  refine ⟨rfl, rfl, rfl, size_sortWorldK_c encS 2 w g 0 m d os, fun i hi hne => ?_⟩
  unfold sortWorldK
  rw [heap_grow_old _ _ (by rw [size_putRowK]; exact hi)]
  have : g ≠ i := fun e => hne (by rw [e])
  simp [putRowK, putRow, mapBlock, Sort.ahead, Array.getElem?_modify, this]
theorem perm_of_in {d d' : Array It} (h : PermIn 0 d.size d d') : d'.toList.Perm d.toList := by
  have h1 := h.2.2
  rw [Array.extract_eq_self_of_le (Nat.le_of_eq h.1), Array.extract_eq_self_of_le (Nat.le_refl _)] at h1
  exact h1
theorem pairwise_of_in {d : Array It} {n : Nat} (hn : d.size = n) (h : SortedIn (ltOf cmpS) 0 n d) : d.toList.Pairwise fun a b => a.1 ≤ b.1 := by
  rw [List.pairwise_iff_getElem]
  intro i j hi hj hij
  have hi' : i < d.size := by simpa using hi
  have hj' : j < d.size := by simpa using hj
  have := h i j (Nat.zero_le _) hij (by omega)
  rw [ltS, getElem!_pos d i hi', getElem!_pos d j hj'] at this
  simpa using this

/-- sorted in place -/
def Sorts (w : World) (base g c : Nat) (l : List It) (e : Ending) (w' : World) : Prop :=
  e = .returned (.tuple #[]) ∧ ∃ l', l'.Perm l ∧ (l'.Pairwise fun a b => a.1 ≤ b.1) ∧ Ow w' base 29 (some ⟨g, 0, none⟩) c l' ∧ w.grownBy w' (some g)
theorem sort_own (base g c : Nat) (l : List It) (w : World) (hbig : l.length ≤ 1000000) (h : Ow w base 29 (some ⟨g, 0, none⟩) c l) :
    Calls Try.prog 31 #[.slice (some ⟨g, 0, none⟩) l.length c, .func (.func 32) #[] #[]] w (Sorts w base g c l) := by
  have eg : ∀ args w, (callFunc 32 args).run Try.prog w = .ok (.enter 32 args) w := enters_of Try.func32 (by kernel_rfl) rfl
  have hcon := AnyQ.slices_SortFunc sortLaid 2 Try.isAgg29 Try.sizeOf29 encS (fun _ => rfl) (fun x v hv => by simp [encS] at hv; rcases hv with rfl | rfl <;> rfl) cmpS swoS 32 #[] g 0 c l.toArray w eg (cmpLays g 0 _ w) (holds_of_ow h) (h.new g rfl) (by simp; omega)
  change Calls Try.prog 31 _ _ _ at hcon
  rw [show l.toArray.size = l.length from by simp] at hcon
  refine hcon.mono ?_
  rintro e w' ⟨rfl, d', n, os, hp, hs, rfl⟩
  have hsz : d'.size = l.length := by simpa using hp.1
  refine ⟨rfl, d'.toList, ?_, pairwise_of_in hsz hs, ow_sorted h hsz, gb_sorted _ _ _ _ _⟩
  have := perm_of_in (d := l.toArray) (d' := d') (by simpa using hp)
  simpa using this

end Hp
end Go.Proofs.Ytdgemmhaddnbdaa
