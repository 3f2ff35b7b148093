/-
  Layer 3 (ring): plain mathematics of rings: which are right, the messages, a message more, the first one taken.
-/
import Derived.Test.YtilabonjjiiabaaRingMem
namespace Go.Proofs.Ytilabonjjiiabaa
open Go.RowKit
namespace Rn

/-- is a ring with n places right? -/
def rightB (n : Nat) (f m : Int) : Bool := decide (0 ≤ f ∧ f < (n : Int) ∧ 0 ≤ m ∧ m ≤ (n : Int))
theorem rightB_nat {n : Nat} {f m : Int} (h : rightB n f m = true) : ∃ F M : Nat, f = (F : Int) ∧ m = (M : Int) ∧ F < n ∧ M ≤ n := by
  have h := of_decide_eq_true h
  exact ⟨f.toNat, m.toNat, by omega, by omega, by omega, by omega⟩
theorem rightB_of {n F M : Nat} (h1 : F < n) (h2 : M ≤ n) : rightB n (F : Int) (M : Int) = true := decide_eq_true (by omega)

/-- the messages -/
def msgs (b : List Int) (f m : Nat) : List Int := (List.range m).map fun i => at_ b ((f + i) % b.length)
theorem msgs_length (b : List Int) (f m : Nat) : (msgs b f m).length = m := by simp [msgs]
theorem msgs_at (b : List Int) (f m i : Nat) (h : i < m) : at_ (msgs b f m) i = at_ b ((f + i) % b.length) := by
  simp [msgs, at_, List.getD_eq_getElem?_getD, h]
theorem msgs_succ (b : List Int) (f m : Nat) : msgs b f (m + 1) = msgs b f m ++ [at_ b ((f + m) % b.length)] := by
  simp [msgs, List.range_succ]
theorem mod_two {n x : Nat} (h : x < 2 * n) : x % n = if n ≤ x then x - n else x := by
  split
  · rw [Nat.mod_eq_sub_mod (by assumption), Nat.mod_eq_of_lt (by omega)]
  · exact Nat.mod_eq_of_lt (by omega)
theorem at_set (b : List Int) (k j : Nat) (v : Int) (hk : k < b.length) : at_ (b.set k v) j = if j = k then v else at_ b j := by
  unfold at_
  rw [List.getD_eq_getElem?_getD, List.getElem?_set, List.getD_eq_getElem?_getD]
  by_cases h : j = k
  · subst h; simp [hk]
  · rw [if_neg (Ne.symm h), if_neg h]
theorem list_ext {a b : List Int} (hl : a.length = b.length) (h : ∀ i, i < a.length → at_ a i = at_ b i) : a = b := by
  apply List.ext_getElem hl
  intro i h1 h2
  have := h i h1
  simpa [at_, List.getD_eq_getElem?_getD, h1, h2] using this
theorem msgs_push (b : List Int) (f m : Nat) (v : Int) (hf : f < b.length) (hm : m < b.length) : msgs (b.set ((f + m) % b.length) v) f (m + 1) = msgs b f m ++ [v] := by
  have h0 : (f + m) % b.length < b.length := Nat.mod_lt _ (by omega)
  rw [msgs_succ, List.length_set, at_set _ _ _ _ h0, if_pos rfl]
  congr 1
  refine list_ext (by rw [msgs_length, msgs_length]) fun i hi => ?_
  rw [msgs_length] at hi
  rw [msgs_at _ _ _ _ hi, msgs_at _ _ _ _ hi, List.length_set, at_set _ _ _ _ h0, if_neg]
  rw [mod_two (by omega), mod_two (by omega)]
  split <;> split <;> omega
theorem msgs_pop (b : List Int) (f m : Nat) (hf : f < b.length) : msgs b f (m + 1) = at_ b f :: msgs b ((f + 1) % b.length) m := by
  unfold msgs
  rw [List.range_succ_eq_map, List.map_cons, List.map_map, Nat.add_zero, Nat.mod_eq_of_lt hf]
  congr 1
  apply List.map_congr_left
  intro i _
  show at_ b ((f + (i + 1)) % b.length) = _
  congr 1
  rw [Nat.mod_add_mod, Nat.add_assoc, Nat.add_comm 1 i]
/-- the same, by the buffer from the first place on, and then from its beginning -/
theorem msgs_ref (b : List Int) (f m : Nat) (hf : f < b.length) (hm : m ≤ b.length) : (b.drop f ++ b.take f).take m = msgs b f m := by
  refine list_ext (by simp [msgs_length]; omega) fun i hi => ?_
  have hi' : i < m := by simp at hi; omega
  rw [msgs_at _ _ _ _ hi', mod_two (by omega)]
  unfold at_
  rw [List.getD_eq_getElem?_getD, List.getD_eq_getElem?_getD, List.getElem?_take, if_pos hi', List.getElem?_append, List.length_drop]
  by_cases h : i < b.length - f
  · rw [if_pos h, List.getElem?_drop, if_neg (by omega)]
  · rw [if_neg h, if_pos (by omega), List.getElem?_take, if_pos (by omega)]
    congr 2
    omega
theorem msgs_one (b : List Int) (f : Nat) (h : f < b.length) (m : Nat) (h0 : 0 < m) : at_ (msgs b f m) 0 = at_ b f := by
  rw [msgs_at _ _ _ _ h0, Nat.add_zero, Nat.mod_eq_of_lt h]
theorem place_lt {n : Nat} (x : Nat) (h : 0 < n) : x % n < n := Nat.mod_lt _ h

end Rn
end Go.Proofs.Ytilabonjjiiabaa
