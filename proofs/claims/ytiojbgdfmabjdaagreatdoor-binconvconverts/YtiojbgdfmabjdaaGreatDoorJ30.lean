/-
  Texts that the proof leans on.
-/
import Derived.Test.YtiojbgdfmabjdaaGreatDoorJ26
import Derived.Test.YtiojbgdfmabjdaaGreatDoorJ23
import Derived.Test.YtiojbgdfmabjdaaGreatDoorJ17
set_option linter.unusedVariables false
set_option linter.unusedSectionVars false
set_option linter.unusedSimpArgs false
set_option maxRecDepth 20000
namespace Go.Proofs.YtiojbgdfmabjdaaGreatDoor
open Go.RowKit
section
theorem A4_self (B : Nat) (w : World) : Sem.run Tryz.prog (Op.equalIn 10000 24 (A4 B) (A4 B)) w = .ok true w := by
  have := eq24 (W4 B 0) (W4 B 1) (W4 B 2) (W4 B 3) (W4 B 0) (W4 B 1) (W4 B 2) (W4 B 3) w
  rw [decide_eq_true ⟨rfl, rfl, rfl, rfl⟩] at this
  exact this
attribute [local irreducible] W4 Nt
end
end Go.Proofs.YtiojbgdfmabjdaaGreatDoor
