/-
  Texts that the proof leans on.
-/
import Derived.Test.YtpabnhlfbjkmaaaGreatDoorR33
import Derived.Test.YtpabnhlfbjkmaaaGreatDoorR24
import Derived.Test.YtpabnhlfbjkmaaaGreatDoorR27
import Derived.Test.YtpabnhlfbjkmaaaGreatDoorR6
import Derived.Test.YtpabnhlfbjkmaaaGreatDoorR3
set_option linter.unusedVariables false
set_option linter.unusedSectionVars false
set_option linter.unusedSimpArgs false
set_option maxRecDepth 20000
namespace Go.Proofs.YtpabnhlfbjkmaaaGreatDoor
open Go.RowKit
section
attribute [local irreducible] W4 NT NV
section
variable {a:Act}{w:World}{K:Act->World->Prop}{Q:Exit->Act->World->Prop}{d p:Nat}{ty:TypeId}{pos:String}{after:Array Edge}{gd:Option (Nat×Bool)}
end
theorem zJo {a:Act}{d:Nat}{v:Value}:(a.put (some d) v).tmps.size=a.tmps.size:=by simp [Act.put]
end
end Go.Proofs.YtpabnhlfbjkmaaaGreatDoor
