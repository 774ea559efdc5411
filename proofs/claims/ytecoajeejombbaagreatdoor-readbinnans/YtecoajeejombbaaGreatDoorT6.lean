/-
  Texts that the proof leans on, joined: Tc.
-/
import Derived.Test.YtecoajeejombbaaGreatDoorJ21
import Derived.Test.YtecoajeejombbaaGreatDoorT5
import Derived.Test.YtecoajeejombbaaGreatDoorJ19
import Derived.Test.YtecoajeejombbaaGreatDoorTE
set_option linter.unusedVariables false
set_option linter.unusedSectionVars false
set_option linter.unusedSimpArgs false
set_option maxRecDepth 20000
namespace Go.Proofs.YtecoajeejombbaaGreatDoor
open Go.RowKit

theorem DV_self (c : Int) (s g : Bool) (x : Int) (k : Nat) (w : World) : Sem.run Tryz.prog (Op.equalIn 10000 37 (DV c s g x k) (DV c s g x k)) w = .ok true w := by
  have := eq27 c c s s g g x x (W4 k 0) (W4 k 1) (W4 k 2) (W4 k 3) (W4 k 0) (W4 k 1) (W4 k 2) (W4 k 3) w
  rw [decide_eq_true ⟨rfl, rfl, rfl, rfl, rfl, rfl, rfl, rfl⟩] at this
  exact this
attribute [local irreducible] W4 Nt
end Go.Proofs.YtecoajeejombbaaGreatDoor
