/-
  What the statements' awake does: a contract.
-/
import Derived.Test.YtjfdmhhglgdfkaaCal
set_option linter.unusedVariables false
set_option linter.unusedSimpArgs false
namespace Go.Proofs.Ytjfdmhhglgdfkaa
open Go.RowKit

set_option maxHeartbeats 400000 in
theorem awake_any (w : World) : Calls Try.prog 8 #[] w fun e w' => e = .returned (.bool true) ∧ Below w.heap.size w w' := by
  have e1 : F (0#4 ||| L 9) = 9 := by decide
  have e2 : F ((0#4 ||| L 9) &&& L 3) = 1 := by decide
  go_enter Try.func8, Try.ntmps8
  go_wp2_with (go_at_call 9; refine (new_any _).mono ?_; rintro e w1 ⟨rfl, rfl⟩)
  have c0 := Ctx.new w
  have b0 : Below w.heap.size w (w.alloc (.cells #[.int .u32 0, .int .i32 0] 34)) := (Below.refl _ _).alloc (Nat.le_refl _) _
  go_wp2_with (go_at_call 10; refine (raise_any w.heap.size 0#4 0 9 _ c0).mono ?_; rintro e w2 ⟨rfl, c1, u1⟩)
  have b1 := b0.trans (u1.below (Nat.le_refl _))
  clear u1 b0 c0
  go_wp2_with (first | (go_at_call 14; refine (flags_any w.heap.size _ 0 _ c1).mono ?_; rintro e w3 ⟨rfl, rfl⟩) | (go_at_call 11; refine (clear_any w.heap.size _ 0 3 _ c1).mono ?_; rintro e w4 ⟨rfl, c2, u2⟩))
  go_ret
  exact ⟨rfl, b1.trans (u2.below (Nat.le_refl _))⟩
end Go.Proofs.Ytjfdmhhglgdfkaa
