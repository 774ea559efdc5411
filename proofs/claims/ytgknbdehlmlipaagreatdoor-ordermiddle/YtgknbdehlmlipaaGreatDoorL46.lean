/-
  Texts that the proof leans on.
-/
import Derived.Test.YtgknbdehlmlipaaGreatDoorL41
import Derived.Test.YtgknbdehlmlipaaGreatDoorL33
set_option linter.unusedVariables false
set_option linter.unusedSectionVars false
set_option linter.unusedSimpArgs false
set_option maxRecDepth 20000
namespace Go.Proofs.YtgknbdehlmlipaaGreatDoor
open Go.RowKit
def mg (n:Int)(d:Dat):Nat:=if d.c=2 then tpN n else (d.x-leastN n).toNat*2^fN n+d.k
theorem top_is {n:Int}(hb:binN n):tpN n=(mostN n-leastN n).toNat*2^fN n+2^(fN n+1)/\tpN n+2^fN n=2^(fN n+eN n)/\leastN n<=mostN n:=by
 rcases bin_cases hb with rfl|rfl|rfl|rfl|rfl|rfl<;>decide +kernel
def smP (n:Int)(d:Dat):Int:=oG d*(mg n d:Int)
end Go.Proofs.YtgknbdehlmlipaaGreatDoor
