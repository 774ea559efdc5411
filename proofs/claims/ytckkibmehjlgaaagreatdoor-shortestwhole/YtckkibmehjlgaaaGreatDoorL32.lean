/-
  Texts that the proof leans on, joined: Sq9.
-/
import Derived.Test.YtckkibmehjlgaaaGreatDoorL31
set_option linter.unusedVariables false
set_option linter.unusedSectionVars false
set_option linter.unusedSimpArgs false
set_option maxRecDepth 20000
namespace Go.Proofs.YtckkibmehjlgaaaGreatDoor
open Go.RowKit

attribute [local irreducible] W4 Nz Nt NT NV
end Go.Proofs.YtckkibmehjlgaaaGreatDoor
