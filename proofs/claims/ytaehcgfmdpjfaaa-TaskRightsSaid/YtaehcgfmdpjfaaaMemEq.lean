/-
  Memory, for every layer: '==' and '!=' of two structs whose fields are ints.
-/
import Derived.Test.YtaehcgfmdpjfaaaMem
import Derived.Laws.StructEq
namespace Go.Proofs.Ytaehcgfmdpjfaaa
open Go.RowKit
namespace Mm

theorem run_fields_ints {P : Program} {ti : TypeId} (hti : P.underlying ti = some (.int .i64)) (d : Nat) (w : World) (X Y : Array Value) : ∀ (fs : List Field) (s : Nat) (xs ys : List Int),
    (fs.map fun f => (f.name != "_", f.type, f.offset)) = (List.range' s xs.length).map (fun i => (true, ti, i)) → xs.length = ys.length →
    (∀ i x, xs[i]? = some x → X[s + i]? = some (.int .i64 x)) → (∀ i y, ys[i]? = some y → Y[s + i]? = some (.int .i64 y)) →
    (Op.eqFields (d + 1) X Y fs).run P w = .ok (decide (xs = ys)) w := by
  intro fs
  induction fs with
  | nil =>
    intro s xs ys hf hl _ _
    have hx : xs.length = 0 := by
      have := congrArg List.length hf
      simpa using this.symm
    have e1 := List.eq_nil_of_length_eq_zero hx
    have e2 := List.eq_nil_of_length_eq_zero (hl.symm.trans hx)
    subst e1; subst e2
    simp [Op.eqFields]
  | cons f fs ih =>
    intro s xs ys hf hl hx hy
    rcases xs with _ | ⟨x, xs⟩
    · simp at hf
    · rcases ys with _ | ⟨y, ys⟩
      · simp at hl
      · simp only [List.length_cons, List.range'_succ, List.map_cons, List.cons.injEq, Prod.mk.injEq] at hf
        obtain ⟨⟨h1, h2, h3⟩, h4⟩ := hf
        have hX := hx 0 x rfl
        have hY := hy 0 y rfl
        rw [Nat.add_zero] at hX hY
        have hpk : P.plainKey ti = true := by unfold Program.plainKey; rw [hti]
        have hn : f.name ≠ "_" := by simpa using h1
        have hrest := ih (s + 1) xs ys h4 (by simpa using hl) (fun i v hv => by have := hx (i + 1) v (by simpa using hv); rwa [show s + (i + 1) = s + 1 + i from by omega] at this) (fun i v hv => by have := hy (i + 1) v (by simpa using hv); rwa [show s + (i + 1) = s + 1 + i from by omega] at this)
        simp only [Op.eqFields, ne_eq, hn, not_false_eq_true, if_true, Sem.run_bind, h2, h3]
        rw [run_part_plain w hpk hX]
        simp only [Result.andThen_ok]
        rw [run_part_plain w hpk hY]
        simp only [Result.andThen_ok]
        rw [run_equalIn_int w d ti .i64 .i64 x y hti]
        simp only [Result.andThen_ok]
        by_cases e : x = y
        · subst e
          simp [hrest]
        · simp [e]

theorem run_neq_ints {P : Program} {t ti : TypeId} (n : Nat) (hti : P.underlying ti = some (.int .i64)) (hs : P.underlying t = some (.struct (P.fieldsOf t))) (hp : P.stoodInHeld t = false)
    (hf : ((P.fieldsOf t).toList.map fun f => (f.name != "_", f.type, f.offset)) = (List.range' 0 n).map (fun i => (true, ti, i))) (w : World) (xs ys : List Int) (hx : xs.length = n) (hy : ys.length = n) :
    (binOp .neq t (.agg (xs.map (Value.int .i64)).toArray) (.agg (ys.map (Value.int .i64)).toArray)).run P w = .ok (.bool (!decide (xs = ys))) w := by
  subst hx
  rw [run_neq_struct, run_equalIn_struct w 9999 t _ _ hs hp, run_fields_ints hti 9998 w _ _ _ 0 xs ys hf hy.symm (fun i x h => by simp [h]) (fun i x h => by simp [h])]
  rfl
theorem run_eql_ints {P : Program} {t ti : TypeId} (n : Nat) (hti : P.underlying ti = some (.int .i64)) (hs : P.underlying t = some (.struct (P.fieldsOf t))) (hp : P.stoodInHeld t = false)
    (hf : ((P.fieldsOf t).toList.map fun f => (f.name != "_", f.type, f.offset)) = (List.range' 0 n).map (fun i => (true, ti, i))) (w : World) (xs ys : List Int) (hx : xs.length = n) (hy : ys.length = n) :
    (binOp .eql t (.agg (xs.map (Value.int .i64)).toArray) (.agg (ys.map (Value.int .i64)).toArray)).run P w = .ok (.bool (decide (xs = ys))) w := by
  subst hx
  rw [run_eql_struct, run_equalIn_struct w 9999 t _ _ hs hp, run_fields_ints hti 9998 w _ _ _ 0 xs ys hf hy.symm (fun i x h => by simp [h]) (fun i x h => by simp [h])]
  rfl

end Mm
end Go.Proofs.Ytaehcgfmdpjfaaa
