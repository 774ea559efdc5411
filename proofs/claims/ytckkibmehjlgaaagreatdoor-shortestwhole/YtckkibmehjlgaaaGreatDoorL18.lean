/-
  Texts that the proof leans on, joined: Tt.
-/
import Derived.Test.YtckkibmehjlgaaaGreatDoorL2
set_option linter.unusedVariables false
set_option linter.unusedSimpArgs false
set_option maxRecDepth 20000
set_option linter.unusedSectionVars false
namespace Go.Proofs.YtckkibmehjlgaaaGreatDoor
open Go.RowKit
attribute [local go_sem] setCell_drewN alloc_drewN

end Go.Proofs.YtckkibmehjlgaaaGreatDoor
