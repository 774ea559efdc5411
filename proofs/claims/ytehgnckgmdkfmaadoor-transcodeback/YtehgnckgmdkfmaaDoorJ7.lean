/-
  Texts that the proof leans on.
-/
import Derived.Test.YtehgnckgmdkfmaaDoorJ4
import Derived.Test.YtehgnckgmdkfmaaDoorJ3
set_option linter.unusedVariables false
set_option linter.unusedSimpArgs false
set_option linter.unusedSectionVars false
set_option maxRecDepth 20000
namespace Go.Proofs.YtehgnckgmdkfmaaDoor
open Go.RowKit
/-- parts, as a value -/
def PV (c : Int) (s g : Bool) (d : List UInt8) (e : Int) : Value := .agg #[.int .i64 c, .bool s, .bool g, .string (B d), .int .i64 e]
def behind (s : List UInt8) : List UInt8 := if Lib.hasPrefix (rst s) [46] then rst (Lib.trimPrefix (rst s) [46]) else rst s
/-- a number's parts -/
structure Prt where
  cls : Int
  sg : Bool
  sn : Bool
  dig : List UInt8
  ex : Int
def Prt.v (p : Prt) : Value := PV p.cls p.sg p.sn p.dig p.ex
def Prt.zero : Prt := ⟨0, false, false, [], 0⟩
end Go.Proofs.YtehgnckgmdkfmaaDoor
