/-
  Texts that the proof leans on, joined: Gt.
-/
import Derived.Test.YtmommdhnogogdaaDoorJ17
import Derived.RegionTactic
import Derived.ChangeAlike
import Derived.BigRegion
import Derived.Laws.Strings2
import Derived.Lib.AppendStr
import Derived.Lib.Builder
import Derived.Deep.AppendLies
set_option linter.unusedVariables false
set_option linter.unusedSimpArgs false
set_option maxRecDepth 20000
set_option linter.unusedSectionVars false
namespace Go.Proofs.YtmommdhnogogdaaDoor
open Go.RowKit

theorem Tryd.info5 : (Tryd.prog.info? 5).map (fun i => (i.zero, i.size, i.bytes)) = some (some (.int .u8 0), 1, 1) := by kernel_rfl
end Go.Proofs.YtmommdhnogogdaaDoor
