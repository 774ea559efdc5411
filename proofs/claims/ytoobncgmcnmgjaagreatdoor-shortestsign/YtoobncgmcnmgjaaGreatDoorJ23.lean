/-
  Texts that the proof leans on, joined: Gh, Gi.
-/
import Derived.Test.YtoobncgmcnmgjaaGreatDoorJ22
import Derived.RegionTactic
import Derived.ChangeAlike
import Derived.BigRegion
import Derived.Laws.Strings2
set_option linter.unusedVariables false
set_option linter.unusedSimpArgs false
set_option maxRecDepth 20000
set_option linter.unusedSectionVars false
namespace Go.Proofs.YtoobncgmcnmgjaaGreatDoor
open Go.RowKit

/-- a number's parts -/
structure Prt where
  cls : Int
  sg : Bool
  sn : Bool
  dig : List UInt8
  ex : Int
def Prt.v (p : Prt) : Value := PV p.cls p.sg p.sn p.dig p.ex
def Prt.zero : Prt := ⟨0, false, false, [], 0⟩
end Go.Proofs.YtoobncgmcnmgjaaGreatDoor

namespace Go.Proofs.YtoobncgmcnmgjaaGreatDoor
open Go.RowKit

theorem by_app_at (a b : List UInt8) (i : Nat) : by_ (a ++ b) (a.length + i) = by_ b i := by
  induction a with
  | nil => simp
  | cons c r ih => rw [List.cons_append, List.length_cons, show r.length + 1 + i = (r.length + i) + 1 by omega, by_succ, ih]
end Go.Proofs.YtoobncgmcnmgjaaGreatDoor
