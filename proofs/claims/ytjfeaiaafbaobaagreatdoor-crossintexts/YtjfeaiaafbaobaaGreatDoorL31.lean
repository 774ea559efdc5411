/-
  Texts that the proof leans on.
-/
import Derived.Test.YtjfeaiaafbaobaaGreatDoorL1
import Derived.Test.YtjfeaiaafbaobaaGreatDoorL29
import Derived.Test.YtjfeaiaafbaobaaGreatDoorL19
import Derived.Test.YtjfeaiaafbaobaaGreatDoorL17
import Derived.Test.YtjfeaiaafbaobaaGreatDoorL21
import Derived.Deep.Cut
import Derived.Deep.CutRange
import Derived.Deep.RegionWith
import Derived.Test.YtjfeaiaafbaobaaGreatDoorL23
import Derived.Test.YtjfeaiaafbaobaaGreatDoorL13
set_option linter.unusedVariables false
set_option linter.unusedSectionVars false
set_option linter.unusedSimpArgs false
set_option maxRecDepth 20000
namespace Go.Proofs.YtjfeaiaafbaobaaGreatDoor
open Go.RowKit
section
theorem DV_zero (c:Int)(s g:Bool)(x:Int):DV c s g x 0=.agg #[.int .i64 c,.bool s,.bool g,.int .i64 x,.int .u64 0,.int .u64 0,.int .u64 0,.int .u64 0]:=by
 unfold DV;simp only [W4_zero]
attribute [local irreducible] W4 NT NV Nt
end
end Go.Proofs.YtjfeaiaafbaobaaGreatDoor
