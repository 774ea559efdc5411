/-
  Texts that the proof leans on, joined: Fv.
-/
import Derived.Test.YtmommdhnogogdaaGreatDoorJ14
set_option linter.unusedVariables false
set_option linter.unusedSectionVars false
set_option linter.unusedSimpArgs false
set_option maxRecDepth 20000
namespace Go.Proofs.YtmommdhnogogdaaGreatDoor
open Go.RowKit

attribute [local irreducible] W4
/-- no format at all -/
abbrev IZ : Value := .agg #[.int .i64 0, .string ⟨#[]⟩, .int .i64 0, .int .i64 0, .int .i64 0, .int .i64 0, .int .i64 0, .int .i64 0, .int .i64 0, .bool false]
end Go.Proofs.YtmommdhnogogdaaGreatDoor
