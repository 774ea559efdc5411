/-
  Texts that the proof leans on, joined: Fi.
-/
import Derived.Test.YtoobncgmcnmgjaaGreatDoorJ11
import Derived.Test.YtoobncgmcnmgjaaGreatDoorJ16
import Derived.Test.YtoobncgmcnmgjaaGreatDoorJ17
import Derived.Laws.IdiomCopy
set_option linter.unusedVariables false
set_option linter.unusedSectionVars false
set_option linter.unusedSimpArgs false
set_option maxRecDepth 20000
namespace Go.Proofs.YtoobncgmcnmgjaaGreatDoor
open Go.RowKit

/-- what desc tells of a binary format -/
abbrev DI (n : Int) (nm : ByteArray) (wd : Int) (f e : Nat) (l m : Int) : Value := .agg #[.int .i64 n, .string nm, .int .i64 2, .int .i64 wd, .int .i64 ((f : Int) + 1), .int .i64 e, .int .i64 l, .int .i64 m, .int .i64 ((f : Int) - 1), .bool false]
attribute [local irreducible] W4
section
variable (n : Int) (nm : ByteArray) (wd : Int) (f e : Nat) (l m : Int) (s : Bool) (x fl E : Int) (R : Nat) (z : Nat → Int) (w : World) (hT : Tab w)
include hT
end
end Go.Proofs.YtoobncgmcnmgjaaGreatDoor
