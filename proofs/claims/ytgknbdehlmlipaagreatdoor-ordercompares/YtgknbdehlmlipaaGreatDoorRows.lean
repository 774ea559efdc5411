/-
  NARROWER THAN 'FOR EVERY INPUT', by the rows' own cells (each row's printed sentence says how): OrderCompares: laid · OrderTotals: laid · OrderNext: laid · OrderSteps: laid · OrderMiddle: laid.
  DERIVED. THE GIVEN ROWS OF THIS SEAT. 5 by the template 'for every input the law returns true; each argument reads behind the call as it read before'; 0 by the template 'total and deterministic' (their statements: YtgknbdehlmlipaaGreatDoorTotals.lean).
  GIVEN WITH THE SEED: the statements are not yours to turn. If you find one false, say at which input.
  Laid BY PROGRAM, IN A SANDBOX (cutbox-rows.mjs): the forced cells as the released guide's own fill.sh prints them over the translation b9654fc1316c2a2c… (all of the seat's roots in one cut). By AI agents, Wed Nov 11 2026. No macro, syntax, notation, axiom, sorry.
-/
import Derived.Test.YtgknbdehlmlipaaGreatDoorChecked
import GoSem.Claim
import GoSem.ClaimJoined
import GoSem.ClaimMapViews
import Derived.JoinedTies
import Derived.KernelRfl
namespace Go.Proofs.YtgknbdehlmlipaaGreatDoor
/- THE CELL 'sum', in the pinned program and in every row, IS THE sha256 OF THE DUMP (.gsa) THAT YtgknbdehlmlipaaGreatDoorProg.lean LOADS. Nothing in Lean hashes anything: it is a label: what it is worth is what the hold of that sum in a sandbox is worth. -/
noncomputable def Tryz.pinned : Pinned := { name := "ytgknbdehlmlipaagreatdoor", sum := "b9654fc1316c2a2c156f34f038d177f1ddd783bfdf9b4bd19ef7fb578ae1eaa5", checked := Tryz.checked }
namespace Rows
def none {H : Type} : Left H := { results := [], args := [] }

/- WHAT THE LISTED PACKAGE-LEVEL VARIABLES READ AS WHEN THE CALL BEGINS. Each datum BY PROGRAM (the guide's laid-datum.mjs) off the statement by which the dump's own 'gosem.cut.vars' lays the variable. In a bare row this is a premise. The card (YtgknbdehlmlipaaGreatDoorCards.lean) ties it to the program's text. -/
def laid_caliper_desc_rows {H : Type} : DataW H := .agg [.agg [.lit (.string [72, 97, 108, 102]), .lit (.int .i64 16), .lit (.int .i64 11), .lit (.int .i64 5)], .agg [.lit (.string [66, 114, 97, 105, 110]), .lit (.int .i64 16), .lit (.int .i64 8), .lit (.int .i64 8)], .agg [.lit (.string [83, 105, 110, 103, 108, 101]), .lit (.int .i64 32), .lit (.int .i64 24), .lit (.int .i64 8)], .agg [.lit (.string [68, 111, 117, 98, 108, 101]), .lit (.int .i64 64), .lit (.int .i64 53), .lit (.int .i64 11)], .agg [.lit (.string [81, 117, 97, 100]), .lit (.int .i64 128), .lit (.int .i64 113), .lit (.int .i64 15)], .agg [.lit (.string [79, 99, 116, 111]), .lit (.int .i64 256), .lit (.int .i64 241), .lit (.int .i64 15)], .agg [.lit (.string [80, 108, 97, 105, 110, 51, 50]), .lit (.int .i64 32), .lit (.int .i64 7), .lit (.int .i64 96)], .agg [.lit (.string [80, 108, 97, 105, 110, 54, 52]), .lit (.int .i64 64), .lit (.int .i64 16), .lit (.int .i64 384)], .agg [.lit (.string [80, 108, 97, 105, 110, 49, 50, 56]), .lit (.int .i64 128), .lit (.int .i64 34), .lit (.int .i64 6144)], .agg [.lit (.string [68, 101, 110, 115, 101, 51, 50]), .lit (.int .i64 32), .lit (.int .i64 7), .lit (.int .i64 96)], .agg [.lit (.string [68, 101, 110, 115, 101, 54, 52]), .lit (.int .i64 64), .lit (.int .i64 16), .lit (.int .i64 384)], .agg [.lit (.string [68, 101, 110, 115, 101, 49, 50, 56]), .lit (.int .i64 128), .lit (.int .i64 34), .lit (.int .i64 6144)]]

/-- 'caliperlaw20.OrderCompares': WHATEVER THE INPUT: true; the input reads as it did. -/
def orderComparesSpec : ChangeSpec := { name := "orderCompares", fn := fun _ => fun
  | [d1, d2, d3, d4] => { results := [.lit (.bool true)], args := [d1, d2, d3, d4] }
  | _ => none }
def orderComparesRow : OpenClaim := { program := "ytgknbdehlmlipaagreatdoor", sum := "b9654fc1316c2a2c156f34f038d177f1ddd783bfdf9b4bd19ef7fb578ae1eaa5", func := "caliper/caliperlaw20.OrderCompares", spec := "orderCompares", inPlace := ["math/bits.Sub64", "math/bits.Add64"], unfollowed := true, recurses := true, named := ["caliper/desc.rows", "math/bits.divideError", "math/bits.overflowError"], apart := false, laid := [("caliper/desc.rows", laid_caliper_desc_rows)] }
def OrderComparesSaid : Prop := orderComparesRow.holds Tryz.pinned (OpenSpec.ofChange orderComparesSpec)

/-- ITS FALSE NEIGHBOUR: 'it returns false'. Refute it at one input. -/
def orderComparesWrong : ChangeSpec := { name := "orderCompares", fn := fun _ => fun
  | [d1, d2, d3, d4] => { results := [.lit (.bool false)], args := [d1, d2, d3, d4] }
  | _ => none }
def OrderComparesWrongFalsely : Prop := orderComparesRow.holds Tryz.pinned (OpenSpec.ofChange orderComparesWrong)

/-- 'caliperlaw20.OrderTotals': WHATEVER THE INPUT: true; the input reads as it did. -/
def orderTotalsSpec : ChangeSpec := { name := "orderTotals", fn := fun _ => fun
  | [d1, d2, d3, d4] => { results := [.lit (.bool true)], args := [d1, d2, d3, d4] }
  | _ => none }
def orderTotalsRow : OpenClaim := { program := "ytgknbdehlmlipaagreatdoor", sum := "b9654fc1316c2a2c156f34f038d177f1ddd783bfdf9b4bd19ef7fb578ae1eaa5", func := "caliper/caliperlaw20.OrderTotals", spec := "orderTotals", inPlace := ["math/bits.Sub64", "math/bits.Add64"], unfollowed := true, recurses := true, named := ["caliper/desc.rows", "math/bits.divideError", "math/bits.overflowError"], apart := false, laid := [("caliper/desc.rows", laid_caliper_desc_rows)] }
def OrderTotalsSaid : Prop := orderTotalsRow.holds Tryz.pinned (OpenSpec.ofChange orderTotalsSpec)

/-- ITS FALSE NEIGHBOUR: 'it returns false'. Refute it at one input. -/
def orderTotalsWrong : ChangeSpec := { name := "orderTotals", fn := fun _ => fun
  | [d1, d2, d3, d4] => { results := [.lit (.bool false)], args := [d1, d2, d3, d4] }
  | _ => none }
def OrderTotalsWrongFalsely : Prop := orderTotalsRow.holds Tryz.pinned (OpenSpec.ofChange orderTotalsWrong)

/-- 'caliperlaw20.OrderNext': WHATEVER THE INPUT: true; the input reads as it did. -/
def orderNextSpec : ChangeSpec := { name := "orderNext", fn := fun _ => fun
  | [d1, d2, d3] => { results := [.lit (.bool true)], args := [d1, d2, d3] }
  | _ => none }
def orderNextRow : OpenClaim := { program := "ytgknbdehlmlipaagreatdoor", sum := "b9654fc1316c2a2c156f34f038d177f1ddd783bfdf9b4bd19ef7fb578ae1eaa5", func := "caliper/caliperlaw20.OrderNext", spec := "orderNext", inPlace := ["math/bits.Sub64", "math/bits.Add64"], unfollowed := true, recurses := true, named := ["caliper/desc.rows", "math/bits.divideError", "math/bits.overflowError"], apart := false, laid := [("caliper/desc.rows", laid_caliper_desc_rows)] }
def OrderNextSaid : Prop := orderNextRow.holds Tryz.pinned (OpenSpec.ofChange orderNextSpec)

/-- ITS FALSE NEIGHBOUR: 'it returns false'. Refute it at one input. -/
def orderNextWrong : ChangeSpec := { name := "orderNext", fn := fun _ => fun
  | [d1, d2, d3] => { results := [.lit (.bool false)], args := [d1, d2, d3] }
  | _ => none }
def OrderNextWrongFalsely : Prop := orderNextRow.holds Tryz.pinned (OpenSpec.ofChange orderNextWrong)

/-- 'caliperlaw20.OrderSteps': WHATEVER THE INPUT: true; the input reads as it did. -/
def orderStepsSpec : ChangeSpec := { name := "orderSteps", fn := fun _ => fun
  | [d1, d2, d3] => { results := [.lit (.bool true)], args := [d1, d2, d3] }
  | _ => none }
def orderStepsRow : OpenClaim := { program := "ytgknbdehlmlipaagreatdoor", sum := "b9654fc1316c2a2c156f34f038d177f1ddd783bfdf9b4bd19ef7fb578ae1eaa5", func := "caliper/caliperlaw20.OrderSteps", spec := "orderSteps", inPlace := ["math/bits.Sub64", "math/bits.Add64"], unfollowed := true, recurses := true, named := ["caliper/desc.rows", "math/bits.divideError", "math/bits.overflowError"], apart := false, laid := [("caliper/desc.rows", laid_caliper_desc_rows)] }
def OrderStepsSaid : Prop := orderStepsRow.holds Tryz.pinned (OpenSpec.ofChange orderStepsSpec)

/-- ITS FALSE NEIGHBOUR: 'it returns false'. Refute it at one input. -/
def orderStepsWrong : ChangeSpec := { name := "orderSteps", fn := fun _ => fun
  | [d1, d2, d3] => { results := [.lit (.bool false)], args := [d1, d2, d3] }
  | _ => none }
def OrderStepsWrongFalsely : Prop := orderStepsRow.holds Tryz.pinned (OpenSpec.ofChange orderStepsWrong)

/-- 'caliperlaw20.OrderMiddle': WHATEVER THE INPUT: true; the input reads as it did. -/
def orderMiddleSpec : ChangeSpec := { name := "orderMiddle", fn := fun _ => fun
  | [d1, d2, d3] => { results := [.lit (.bool true)], args := [d1, d2, d3] }
  | _ => none }
def orderMiddleRow : OpenClaim := { program := "ytgknbdehlmlipaagreatdoor", sum := "b9654fc1316c2a2c156f34f038d177f1ddd783bfdf9b4bd19ef7fb578ae1eaa5", func := "caliper/caliperlaw20.OrderMiddle", spec := "orderMiddle", inPlace := ["math/bits.Sub64", "math/bits.Add64"], unfollowed := true, recurses := true, named := ["caliper/desc.rows", "math/bits.divideError", "math/bits.overflowError"], apart := false, laid := [("caliper/desc.rows", laid_caliper_desc_rows)] }
def OrderMiddleSaid : Prop := orderMiddleRow.holds Tryz.pinned (OpenSpec.ofChange orderMiddleSpec)

/-- ITS FALSE NEIGHBOUR: 'it returns false'. Refute it at one input. -/
def orderMiddleWrong : ChangeSpec := { name := "orderMiddle", fn := fun _ => fun
  | [d1, d2, d3] => { results := [.lit (.bool false)], args := [d1, d2, d3] }
  | _ => none }
def OrderMiddleWrongFalsely : Prop := orderMiddleRow.holds Tryz.pinned (OpenSpec.ofChange orderMiddleWrong)

/- THE SECOND FORM. 'bulk': how many values and letters a reading holds, each counted each time it is reached (what is shared counts as often as it is met; a slice's spare places count too). A statement '..UptoSaid' is the law's where the arguments, and the package variables that the reading takes, are together of bulk at most 1048576: NARROWER than '..Said'. Prove '..Said' where nothing that the law and all that it calls make is longer than what came in: it says more and counts as full. Else prove '..UptoSaid'. A law counts once. -/
mutual
def uptoBulk {H : Type} : DataW H → Nat
  | .lit (.string bytes) => bytes.length + 1
  | .lit _ => 1
  | .nil => 1
  | .ptr d => uptoBulk d + 1
  | .slice elems spare => uptoBulkAll elems + uptoBulkAll spare + 1
  | .agg parts => uptoBulkAll parts + 1
  | .iface _ d => uptoBulk d + 1
  | .map entries => uptoBulkEntries entries + 1
  | .held _ => 1
def uptoBulkAll {H : Type} : List (DataW H) → Nat
  | [] => 0
  | d :: r => uptoBulk d + uptoBulkAll r
def uptoBulkEntries {H : Type} : List (Lit × DataW H) → Nat
  | [] => 0
  | x :: r => uptoBulkEntry x + uptoBulkEntries r
def uptoBulkEntry {H : Type} : Lit × DataW H → Nat
  | (.string bytes, d) => bytes.length + uptoBulk d + 1
  | (_, d) => uptoBulk d + 1
 end
def uptoSmall : (H : Type) → List (DataW H) → Bool := fun _ ds => decide (uptoBulkAll ds ≤ 1048576)
def OpenSpec.upto (s : _root_.Go.ChangeSpec) : _root_.Go.OpenSpec := { _root_.Go.OpenSpec.ofChange s with cond := some uptoSmall }

/-- 'caliperlaw20.OrderCompares', WHERE WHAT IT READS IS OF BULK AT MOST 1048576: true; the input reads as it did. -/
def orderComparesUptoRow : OpenClaim := { program := "ytgknbdehlmlipaagreatdoor", sum := "b9654fc1316c2a2c156f34f038d177f1ddd783bfdf9b4bd19ef7fb578ae1eaa5", func := "caliper/caliperlaw20.OrderCompares", spec := "orderCompares", inPlace := ["math/bits.Sub64", "math/bits.Add64"], unfollowed := true, recurses := true, named := ["caliper/desc.rows", "math/bits.divideError", "math/bits.overflowError"], apart := false, laid := [("caliper/desc.rows", laid_caliper_desc_rows)], narrowed := true }
def OrderComparesUptoSaid : Prop := orderComparesUptoRow.holds Tryz.pinned (OpenSpec.upto orderComparesSpec)

/-- 'caliperlaw20.OrderTotals', WHERE WHAT IT READS IS OF BULK AT MOST 1048576: true; the input reads as it did. -/
def orderTotalsUptoRow : OpenClaim := { program := "ytgknbdehlmlipaagreatdoor", sum := "b9654fc1316c2a2c156f34f038d177f1ddd783bfdf9b4bd19ef7fb578ae1eaa5", func := "caliper/caliperlaw20.OrderTotals", spec := "orderTotals", inPlace := ["math/bits.Sub64", "math/bits.Add64"], unfollowed := true, recurses := true, named := ["caliper/desc.rows", "math/bits.divideError", "math/bits.overflowError"], apart := false, laid := [("caliper/desc.rows", laid_caliper_desc_rows)], narrowed := true }
def OrderTotalsUptoSaid : Prop := orderTotalsUptoRow.holds Tryz.pinned (OpenSpec.upto orderTotalsSpec)

/-- 'caliperlaw20.OrderNext', WHERE WHAT IT READS IS OF BULK AT MOST 1048576: true; the input reads as it did. -/
def orderNextUptoRow : OpenClaim := { program := "ytgknbdehlmlipaagreatdoor", sum := "b9654fc1316c2a2c156f34f038d177f1ddd783bfdf9b4bd19ef7fb578ae1eaa5", func := "caliper/caliperlaw20.OrderNext", spec := "orderNext", inPlace := ["math/bits.Sub64", "math/bits.Add64"], unfollowed := true, recurses := true, named := ["caliper/desc.rows", "math/bits.divideError", "math/bits.overflowError"], apart := false, laid := [("caliper/desc.rows", laid_caliper_desc_rows)], narrowed := true }
def OrderNextUptoSaid : Prop := orderNextUptoRow.holds Tryz.pinned (OpenSpec.upto orderNextSpec)

/-- 'caliperlaw20.OrderSteps', WHERE WHAT IT READS IS OF BULK AT MOST 1048576: true; the input reads as it did. -/
def orderStepsUptoRow : OpenClaim := { program := "ytgknbdehlmlipaagreatdoor", sum := "b9654fc1316c2a2c156f34f038d177f1ddd783bfdf9b4bd19ef7fb578ae1eaa5", func := "caliper/caliperlaw20.OrderSteps", spec := "orderSteps", inPlace := ["math/bits.Sub64", "math/bits.Add64"], unfollowed := true, recurses := true, named := ["caliper/desc.rows", "math/bits.divideError", "math/bits.overflowError"], apart := false, laid := [("caliper/desc.rows", laid_caliper_desc_rows)], narrowed := true }
def OrderStepsUptoSaid : Prop := orderStepsUptoRow.holds Tryz.pinned (OpenSpec.upto orderStepsSpec)

/-- 'caliperlaw20.OrderMiddle', WHERE WHAT IT READS IS OF BULK AT MOST 1048576: true; the input reads as it did. -/
def orderMiddleUptoRow : OpenClaim := { program := "ytgknbdehlmlipaagreatdoor", sum := "b9654fc1316c2a2c156f34f038d177f1ddd783bfdf9b4bd19ef7fb578ae1eaa5", func := "caliper/caliperlaw20.OrderMiddle", spec := "orderMiddle", inPlace := ["math/bits.Sub64", "math/bits.Add64"], unfollowed := true, recurses := true, named := ["caliper/desc.rows", "math/bits.divideError", "math/bits.overflowError"], apart := false, laid := [("caliper/desc.rows", laid_caliper_desc_rows)], narrowed := true }
def OrderMiddleUptoSaid : Prop := orderMiddleUptoRow.holds Tryz.pinned (OpenSpec.upto orderMiddleSpec)

end Rows
end Go.Proofs.YtgknbdehlmlipaaGreatDoor
