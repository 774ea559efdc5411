/-
  Patterns and data held against one another.
-/
import Derived.Test.YtemhpdhplbcgjaaDoorBj
import Derived.DeepKeys
set_option linter.unusedVariables false
set_option linter.unusedSectionVars false
set_option linter.unusedSimpArgs false
set_option maxRecDepth 20000
namespace Go.Proofs.YtemhpdhplbcgjaaDoor
open Go.RowKit

theorem eq24d (d : Nat) (a0 a1 a2 a3 b0 b1 b2 b3 : Int) (w : World) :
    Sem.run Tryd.prog (Op.equalIn (d + 2) 24 (.agg #[.int .u64 a0, .int .u64 a1, .int .u64 a2, .int .u64 a3]) (.agg #[.int .u64 b0, .int .u64 b1, .int .u64 b2, .int .u64 b3])) w = .ok (decide (a0 = b0 ∧ a1 = b1 ∧ a2 = b2 ∧ a3 = b3)) w := by
  obtain ⟨i22, hi⟩ : ∃ i, Tryd.prog.info? 22 = some i := ⟨_, rfl⟩
  have h := run_equalIn_array (P := Tryd.prog) w (d + 1) (t := 24) (e := 22) (n := 4) #[.int .u64 a0, .int .u64 a1, .int .u64 a2, .int .u64 a3] #[.int .u64 b0, .int .u64 b1, .int .u64 b2, .int .u64 b3] (by kernel_rfl) hi
  refine h.trans ?_
  have hc : Tryd.prog.cellsOf 22 = 1 := by kernel_rfl
  rw [hc]
  simp [List.range_succ, Op.eqItems, go_sem]
  by_cases h0 : a0 = b0 <;> by_cases h1 : a1 = b1 <;> by_cases h2 : a2 = b2 <;> by_cases h3 : a3 = b3 <;> simp [h0, h1, h2, h3]
theorem eq24 (a0 a1 a2 a3 b0 b1 b2 b3 : Int) (w : World) :
    Sem.run Tryd.prog (Op.equalIn 10000 24 (.agg #[.int .u64 a0, .int .u64 a1, .int .u64 a2, .int .u64 a3]) (.agg #[.int .u64 b0, .int .u64 b1, .int .u64 b2, .int .u64 b3])) w = .ok (decide (a0 = b0 ∧ a1 = b1 ∧ a2 = b2 ∧ a3 = b3)) w :=
  eq24d 9998 a0 a1 a2 a3 b0 b1 b2 b3 w
theorem eq27d (d : Nat) (c c' : Int) (s s' g g' : Bool) (x x' : Int) (a0 a1 a2 a3 b0 b1 b2 b3 : Int) (w : World) :
    Sem.run Tryd.prog (Op.equalIn (d + 2 + 1) 27 (.agg #[.int .i64 c, .bool s, .bool g, .int .i64 x, .int .u64 a0, .int .u64 a1, .int .u64 a2, .int .u64 a3]) (.agg #[.int .i64 c', .bool s', .bool g', .int .i64 x', .int .u64 b0, .int .u64 b1, .int .u64 b2, .int .u64 b3])) w = .ok (decide (c = c' ∧ s = s' ∧ g = g' ∧ x = x' ∧ a0 = b0 ∧ a1 = b1 ∧ a2 = b2 ∧ a3 = b3)) w := by
  have hst : Tryd.prog.stoodInHeld 27 = false := by kernel_rfl
  have h24 := eq24d d a0 a1 a2 a3 b0 b1 b2 b3 w
  have hp3 : ∀ (xs : Array Value) (o : Nat) (v : Value), xs[o]? = some v → Sem.run Tryd.prog (part 3 xs o) w = .ok v w := fun xs o v h => by simp [go_sem, part, h]
  rw [Op.equalIn]
  simp only [Sem.run_bind, run_underlying Tryd.underlying27, Result.andThen_ok]
  have hprog : Sem.run Tryd.prog program w = .ok Tryd.prog w := rfl
  rw [hprog]
  simp only [Result.andThen_ok, hst, Bool.false_eq_true, if_false]
  simp [List.forIn_toArray, List.forIn_cons, go_sem, h24]
  by_cases h1 : c = c'
  · by_cases h2 : s = s'
    · by_cases h3 : g = g'
      · by_cases h4 : x = x'
        · by_cases h5 : a0 = b0 <;> by_cases h6 : a1 = b1 <;> by_cases h7 : a2 = b2 <;> by_cases h8 : a3 = b3 <;> simp [h1, h2, h3, h4, h5, h6, h7, h8]
        · simp [h1, h2, h3, h4]
      · simp [h1, h2, h3]
    · simp [h1, h2]
  · simp [h1]
theorem eq27 (c c' : Int) (s s' g g' : Bool) (x x' : Int) (a0 a1 a2 a3 b0 b1 b2 b3 : Int) (w : World) :
    Sem.run Tryd.prog (Op.equalIn 10000 27 (.agg #[.int .i64 c, .bool s, .bool g, .int .i64 x, .int .u64 a0, .int .u64 a1, .int .u64 a2, .int .u64 a3]) (.agg #[.int .i64 c', .bool s', .bool g', .int .i64 x', .int .u64 b0, .int .u64 b1, .int .u64 b2, .int .u64 b3])) w = .ok (decide (c = c' ∧ s = s' ∧ g = g' ∧ x = x' ∧ a0 = b0 ∧ a1 = b1 ∧ a2 = b2 ∧ a3 = b3)) w :=
  eq27d 9997 c c' s s' g g' x x' a0 a1 a2 a3 b0 b1 b2 b3 w
end Go.Proofs.YtemhpdhplbcgjaaDoor
