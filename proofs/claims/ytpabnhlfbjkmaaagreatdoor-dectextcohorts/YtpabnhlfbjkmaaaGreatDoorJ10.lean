/-
  Texts that the proof leans on, joined: Gi.
-/
import Derived.Test.YtpabnhlfbjkmaaaGreatDoorJ8
import Derived.RegionTactic
import Derived.ChangeAlike
import Derived.BigRegion
import Derived.Laws.Strings2
set_option linter.unusedVariables false
set_option linter.unusedSimpArgs false
set_option linter.unusedSectionVars false
set_option maxRecDepth 20000
namespace Go.Proofs.YtpabnhlfbjkmaaaGreatDoor
open Go.RowKit
theorem by_app_at (a b:List UInt8) (i:Nat):by_ (a++b) (a.length+i)=by_ b i:=by
 induction a with
 | nil=>simp
 | cons c r ih=>rw [List.cons_append,List.length_cons,show r.length+1+i=(r.length+i)+1 by omega,by_succ,ih]
end Go.Proofs.YtpabnhlfbjkmaaaGreatDoor
