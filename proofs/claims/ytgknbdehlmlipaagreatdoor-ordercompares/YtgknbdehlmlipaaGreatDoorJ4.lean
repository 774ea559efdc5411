/-
  Texts that the proof leans on.
-/
import Derived.Test.YtgknbdehlmlipaaGreatDoorProg
import Derived.WalkKit
import Derived.RowKit
import Derived.Deep.QuietTactic
import Derived.BigQuiet
import Derived.Lib.Strings
set_option linter.unusedVariables false
set_option linter.unusedSimpArgs false
set_option linter.unusedSectionVars false
set_option maxRecDepth 20000
namespace Go.Proofs.YtgknbdehlmlipaaGreatDoor
open Go.RowKit
def B (l:List UInt8):ByteArray:=⟨l.toArray⟩
def dg (c:UInt8):Bool:=decide (48<=c.toNat/\c.toNat<=57)
def rst (l:List UInt8):List UInt8:=l.dropWhile dg
def nv (l:List UInt8):Int:=l.foldl (fun v c=>10*v+((c.toNat:Int)-48)) 0
def vc (l:List UInt8):Int:=min (nv l) 2000000000
end Go.Proofs.YtgknbdehlmlipaaGreatDoor
