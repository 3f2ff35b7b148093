/-
  Layer 8 (block): insert.
-/
import Derived.Test.YtnkgfkmdfplneaaBlockSearch
import Derived.Test.YtnkgfkmdfplneaaMemFull
namespace Go.Proofs.Ytnkgfkmdfplneaa
open Go.RowKit Mm
namespace Bk

/-- l' is l with x at its place, each once -/
def Ins (l : List Int) (x : Int) (l' : List Int) : Prop := l'.Pairwise (· < ·) ∧ (∀ d, d ∈ l' ↔ d = x ∨ d ∈ l) ∧ l'.length ≤ l.length + 1
theorem ins_same {l : List Int} {x : Int} (hs : l.Pairwise (· < ·)) (hx : x ∈ l) : Ins l x l := ⟨hs, fun d => ⟨fun h => .inr h, fun h => by rcases h with rfl | h <;> assumption⟩, by omega⟩
theorem ins_put {l : List Int} {x : Int} {p : Nat} (hs : l.Pairwise (· < ·)) (hc : Cut l x p) (hx : ¬ x ∈ l) : Ins l x (l.take p ++ [x] ++ l.drop p) := by
  have h1 : ∀ y ∈ l.take p, y < x := fun y hy => by
    obtain ⟨j, hj, rfl⟩ := mem_at hy
    rw [List.length_take] at hj
    rw [at_take (by omega)]
    exact hc.2.1 j (by omega)
  have h2 : ∀ y ∈ l.drop p, x < y := fun y hy => by
    have hm : y ∈ l := List.mem_of_mem_drop hy
    obtain ⟨j, hj, rfl⟩ := mem_at hy
    rw [List.length_drop] at hj
    have h3 := hc.2.2 (p + j) (by omega) (by omega)
    rw [← at_drop] at h3
    have h4 : at_ (l.drop p) j ≠ x := fun e => hx (e ▸ hm)
    omega
  have hsp : (l.take p ++ l.drop p).Pairwise (· < ·) := by rw [List.take_append_drop]; exact hs
  obtain ⟨s1, s2, s3⟩ := List.pairwise_append.1 hsp
  refine ⟨?_, fun d => ?_, by simp only [List.length_append, List.length_take, List.length_drop, List.length_singleton]; have := hc.1; omega⟩
  · rw [List.append_assoc, List.pairwise_append]
    refine ⟨s1, List.pairwise_cons.2 ⟨fun y hy => h2 y hy, s2⟩, fun a ha b hb => ?_⟩
    rcases List.mem_cons.1 hb with rfl | hb
    · exact h1 a ha
    · exact s3 a ha b hb
  · rw [List.append_assoc, List.mem_append]
    show _ ∨ d ∈ x :: l.drop p ↔ _
    rw [List.mem_cons]
    constructor
    · rintro (h | h | h)
      · exact .inr (List.mem_of_mem_take h)
      · exact .inl h
      · exact .inr (List.mem_of_mem_drop h)
    · rintro (h | h)
      · exact .inr (.inl h)
      · rw [← List.take_append_drop p l, List.mem_append] at h
        rcases h with h | h
        · exact .inl h
        · exact .inr (.inr h)

/-- what insert answers -/
def InsTo (w : World) (base : Nat) (l : List Int) (x : Int) (e : Ending) (w' : World) : Prop := ∃ A' c' l', e = .returned (.slice A' l'.length c') ∧ Ow w' base 3 A' c' l' ∧ Ins l x l' ∧ Below base w w'

theorem full_front {w : World} {A : Option Addr} {c p : Nat} {l : List Int} (h : Rd w A c l) (hp : p ≤ l.length) (hbig : l.length ≤ 1000000) (hA : A = none → p = 0) : Rd w A p (l.take p) := by
  have h1 := RdS.front h p
  refine ⟨hA, ⟨by rw [List.length_take]; omega, by unfold maxLen; omega⟩, h1.2.2⟩

set_option maxHeartbeats 1600000 in
theorem insert_any (base : Nat) (A : Option Addr) (c : Nat) (l : List Int) (x : Int) (w : World) (hb : base ≤ w.heap.size) (hbig : l.length ≤ 1000) (hx : Fit x) (hs : l.Pairwise (· < ·)) (ho : Ow w base 3 A c l) :
    Calls Try.prog 18 #[.slice A l.length c, .int .i64 x] w (InsTo w base l x) := by
  have HS := Lib.hid hs
  have HO := Lib.hid ho
  clear hs ho
  have HBG := Lib.hid hb
  clear hb
  by_cases hm : x ∈ l
  · have HM := Lib.hid (decide_eq_true hm)
    have HI := Lib.hid (ins_same HS.out hm)
    go_enter Try.func18, Try.ntmps18
    go_wp2_with fail
    refine (search_any A c l x _ (by omega) HS.out HO.out.rd).mono ?_
    rintro e w1 ⟨p, rfl, hc, b1⟩
    rw [HM.out]
    have HC := Lib.hid hc
    have B1 := Lib.hid b1
    clear hc b1
    clear hm
    go_wp2_with fail
    go_ret
    exact ⟨A, c, l, rfl, HO.out.below B1.out (Nat.le_refl _), HI.out, B1.out.mono HBG.out⟩
  · have HM := Lib.hid (decide_eq_false hm)
    have HNM := Lib.hid hm
    clear hm
    have hcases := OwS.cases HO.out
    have hle := HO.out.le
    go_enter Try.func18, Try.ntmps18
    go_wp2_with fail
    refine (search_any A c l x _ (by omega) HS.out HO.out.rd).mono ?_
    rintro e w1 ⟨p, rfl, hc, b1⟩
    rw [HM.out]
    have HI := Lib.hid (ins_put HS.out hc HNM.out)
    have hpl := hc.1
    have HC := Lib.hid hc
    clear hc
    have HO1 := Lib.hid (HO.out.below b1 (Nat.le_refl _))
    have B1 := Lib.hid (b1.mono HBG.out)
    have HS1 : Hid (base ≤ w1.heap.size) := by show base ≤ _; have := HBG.out; have := b1.size; omega
    clear b1
    have HTP : Hid ((l.take p).length = p) := by show _ = _; rw [List.length_take]; omega
    have HTD : Hid ((l.drop p).length = l.length - p) := by show _ = _; rw [List.length_drop]
    have HIL : Hid ((l.take p ++ [x] ++ l.drop p).length = p + 1 + (l.length - p)) := by show _ = _; simp only [List.length_append, List.length_singleton]; rw [HTP.out, HTD.out]
    rcases hcases with ⟨rfl, rfl, rfl⟩ | ⟨g, rfl, hg1, hg2, _⟩
    · obtain rfl : p = 0 := by simpa using hpl
      have BD := Lib.hid ((Below.refl w1.heap.size w1).drew.alloc (Nat.le_refl _) (Obj.cells #[.int .i64 x] 3))
      have HXR := Lib.hid (rd_new1 w1.drew 3 x hx)
      have n1 : 0 < 1 := Nat.one_pos
      have HF1 : Hid (Rd (w1.drew.alloc (Obj.cells #[.int .i64 x] 3)) none 0 ([] : List Int)) := rd_nil (fun _ => rfl) (Nat.zero_le _)
      have HK : Hid (Rd w1 none 0 ([] : List Int)) := rd_nil (fun _ => rfl) (Nat.zero_le _)
      have HT5 : Hid ((([] : List Int) ++ [x]).length = 0 + 1) := rfl
      have n2 : 0 + 1 ≤ 1000000 := by decide
      have n3 : 0 + 1 + 0 ≤ 1000000 := by decide
      have HTP : Hid (([] : List Int).length = 0) := rfl
      have HTD : Hid (([] : List Int).length = 0) := rfl
      have HIL : Hid ((([] : List Int) ++ [x] ++ []).length = 0 + 1 + 0) := rfl
      have HI : Hid (Ins [] x (([] : List Int) ++ [x] ++ [])) := HI.out
      go_wp2_with fail
      go_region_held3 (fun _ => True) (first | trivial | go_keep)
        (first
          | (refine step_app_full slI (by rfl) _ _ (by rfl) (l := ([] : List Int)) (r := [x]) HTP.out (by rfl) (by rfl) (by rfl) (by exact HF1.out) (by exact HXR.out) n1 n2 ?_
             intro A2 c2 w5 k1 k2
             have B5 := Lib.hid (Below.grown (B := w1.heap.size) (a := w1) BD.out k2 BD.out.size (fun k hk => by cases hk))
             have O5 := Lib.hid (k1.rebase (Nat.le_trans HS1.out BD.out.size))
             have S5 : Hid (base ≤ w5.heap.size) := Nat.le_trans HS1.out B5.out.size
             clear k1 k2)
          | (refine step_app_n slI (by rfl) _ _ (by rfl) (base := base) (l := ([] : List Int) ++ [x]) (r := ([] : List Int)) HT5.out HTD.out (by rfl) (by rfl) (by exact O5.out) (by exact HK.out.below B5.out) n3 S5.out ?_
             intro A3 c3 w6 k3 k4 k5
             have B6 := Lib.hid ((B5.out.mono HS1.out).trans k4)
             have O6 := Lib.hid k3
             clear k3 k4 k5))
      go_wp2_with fail
      go_ret
      exact ⟨A3, c3, _, by rw [HIL.out]; rfl, O6.out, HI.out, B1.out.trans B6.out⟩
    · have HF := Lib.hid (full_front HO1.out.rd hpl (by omega) (fun h => by cases h))
      have i1 : (p : Int) ≤ (c : Int) := by omega
      have i2 : (0 : Int) ≤ (p : Int) := by omega
      have i3 : (p : Int) ≤ (l.length : Int) := by omega
      have i4 : (l.length : Int) ≤ (c : Int) := by omega
      by_cases hcp : c = p
      · have HK : Hid (Rd w1 (some ⟨g, 0, none⟩) 0 (l.drop p)) := by
          show Rd _ _ _ _
          rw [List.drop_of_length_le (by omega)]
          exact rd_nil (fun h => by cases h) (Nat.zero_le _)
        have HF1 := Lib.hid ((HF.out.below (Below.refl _ _).drew).alloc (Obj.cells #[.int .i64 x] 3))
        have HXR := Lib.hid (rd_new1 w1.drew 3 x hx)
        have BD := Lib.hid ((Below.refl w1.heap.size w1).drew.alloc (Nat.le_refl _) (Obj.cells #[.int .i64 x] 3))
        have HT5 : Hid ((l.take p ++ [x]).length = p + 1) := by show List.length _ = _; rw [List.length_append, HTP.out]; rfl
        have n1 : 0 < 1 := Nat.one_pos
        have n2 : p + 1 ≤ 1000000 := by omega
        have n3 : p + 1 + (l.length - p) ≤ 1000000 := by omega
        generalize l.take p = t at *
        generalize l.drop p = u at *
        go_wp2_with fail
        go_region_held3 (fun _ => True) (first | trivial | go_keep)
          (first
            | (refine step_app_full slI (by rfl) _ _ (by rfl) (l := t) (r := [x]) HTP.out (by rfl) (by rfl) (by rfl) (by exact HF1.out) (by exact HXR.out) n1 n2 ?_
               intro A2 c2 w5 k1 k2
               have B5 := Lib.hid (Below.grown (B := w1.heap.size) (a := w1) BD.out k2 BD.out.size (fun k hk => by cases hk))
               have O5 := Lib.hid (k1.rebase (Nat.le_trans HS1.out BD.out.size))
               have S5 : Hid (base ≤ w5.heap.size) := Nat.le_trans HS1.out B5.out.size
               clear k1 k2)
            | (refine step_app_n slI (by rfl) _ _ (by rfl) (base := base) (l := t ++ [x]) (r := u) HT5.out HTD.out (by rfl) (by rfl) (by exact O5.out) (by exact HK.out.below B5.out) n3 S5.out ?_
               intro A3 c3 w6 k3 k4 k5
               have B6 := Lib.hid ((B5.out.mono HS1.out).trans k4)
               have O6 := Lib.hid k3
               clear k3 k4 k5))
        go_wp2_with fail
        go_ret
        exact ⟨A3, c3, _, by rw [HIL.out]; rfl, O6.out, HI.out, B1.out.trans B6.out⟩
      · have HK : Hid (Rd w1 (some ⟨g, p, none⟩) (c - p) (l.drop p)) := by show Rd _ _ _ _; have := rd_back_int HO1.out.rd p hpl; rwa [Nat.zero_add] at this
        have HF1 := Lib.hid ((HF.out.below (Below.refl _ _).drew).alloc (Obj.cells #[.int .i64 x] 3))
        have HXR := Lib.hid (rd_new1 w1.drew 3 x hx)
        have BD := Lib.hid ((Below.refl w1.heap.size w1).drew.alloc (Nat.le_refl _) (Obj.cells #[.int .i64 x] 3))
        have HT5 : Hid ((l.take p ++ [x]).length = p + 1) := by show List.length _ = _; rw [List.length_append, HTP.out]; rfl
        have n1 : 0 < 1 := Nat.one_pos
        have n2 : p + 1 ≤ 1000000 := by omega
        have n3 : p + 1 + (l.length - p) ≤ 1000000 := by omega
        generalize l.take p = t at *
        generalize l.drop p = u at *
        go_wp2_with fail
        go_region_held3 (fun _ => True) (first | trivial | go_keep)
          (first
            | (refine step_app_full slI (by rfl) _ _ (by rfl) (l := t) (r := [x]) HTP.out (by rfl) (by rfl) (by rfl) (by exact HF1.out) (by exact HXR.out) n1 n2 ?_
               intro A2 c2 w5 k1 k2
               have B5 := Lib.hid (Below.grown (B := w1.heap.size) (a := w1) BD.out k2 BD.out.size (fun k hk => by cases hk))
               have O5 := Lib.hid (k1.rebase (Nat.le_trans HS1.out BD.out.size))
               have S5 : Hid (base ≤ w5.heap.size) := Nat.le_trans HS1.out B5.out.size
               clear k1 k2)
            | (refine step_app_n slI (by rfl) _ _ (by rfl) (base := base) (l := t ++ [x]) (r := u) HT5.out HTD.out (by rfl) (by rfl) (by exact O5.out) (by exact HK.out.below B5.out) n3 S5.out ?_
               intro A3 c3 w6 k3 k4 k5
               have B6 := Lib.hid ((B5.out.mono HS1.out).trans k4)
               have O6 := Lib.hid k3
               clear k3 k4 k5))
        go_wp2_with fail
        go_ret
        exact ⟨A3, c3, _, by rw [HIL.out]; rfl, O6.out, HI.out, B1.out.trans B6.out⟩

end Bk
end Go.Proofs.Ytnkgfkmdfplneaa
