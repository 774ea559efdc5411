/-
  NARROWER THAN 'FOR EVERY INPUT', by the rows' own cells (each row's printed sentence says how): DecroundDecimal: laid · DecroundSides: laid · DecroundTurns: laid · DecroundRises: laid.
  DERIVED. THE GIVEN ROWS OF THIS SEAT. 4 by the template 'for every input the law returns true; each argument reads behind the call as it read before'; 0 by the template 'total and deterministic' (their statements: YtmommdhnogogdaaDoorTotals.lean).
  GIVEN WITH THE SEED: the statements are not yours to turn. If you find one false, say at which input.
  Laid BY PROGRAM, IN A SANDBOX (cutbox-rows.mjs): the forced cells as the released guide's own fill.sh prints them over the translation ea575a21d04eb9fc… (all of the seat's roots in one cut). By AI agents, Wed Nov 11 2026. No macro, syntax, notation, axiom, sorry.
-/
import Derived.Test.YtmommdhnogogdaaDoorChecked
import GoSem.PinnedTables
import GoSem.Claim
import GoSem.ClaimJoined
import GoSem.ClaimMapViews
import Derived.JoinedTies
import Derived.KernelRfl
namespace Go.Proofs.YtmommdhnogogdaaDoor
/- THE CELL 'sum', in the pinned program and in every row, IS THE sha256 OF THE DUMP (.gsa) THAT YtmommdhnogogdaaDoorProg.lean LOADS. Nothing in Lean hashes anything: it is a label: what it is worth is what the hold of that sum in a sandbox is worth. -/
noncomputable def Tryd.pinned : Pinned := { name := "ytmommdhnogogdaadoor", sum := "ea575a21d04eb9fcd6226fb95727a7cb57ba6e00eef33e2dd2f303caa9d1b38a", checked := Tryd.checked }
namespace Rows
def none {H : Type} : Left H := { results := [], args := [] }

/- WHAT THE LISTED PACKAGE-LEVEL VARIABLES READ AS WHEN THE CALL BEGINS. Each datum BY PROGRAM (the guide's laid-datum.mjs) off the statement by which the dump's own 'gosem.cut.vars' lays the variable. In a bare row this is a premise. The card (YtmommdhnogogdaaDoorCards.lean) ties it to the program's text. -/
def laid_unicode_utf8_acceptRanges {H : Type} : DataW H := .agg [.agg [.lit (.int .u8 128), .lit (.int .u8 191)], .agg [.lit (.int .u8 160), .lit (.int .u8 191)], .agg [.lit (.int .u8 128), .lit (.int .u8 159)], .agg [.lit (.int .u8 144), .lit (.int .u8 191)], .agg [.lit (.int .u8 128), .lit (.int .u8 143)], .agg [.lit (.int .u8 0), .lit (.int .u8 0)], .agg [.lit (.int .u8 0), .lit (.int .u8 0)], .agg [.lit (.int .u8 0), .lit (.int .u8 0)], .agg [.lit (.int .u8 0), .lit (.int .u8 0)], .agg [.lit (.int .u8 0), .lit (.int .u8 0)], .agg [.lit (.int .u8 0), .lit (.int .u8 0)], .agg [.lit (.int .u8 0), .lit (.int .u8 0)], .agg [.lit (.int .u8 0), .lit (.int .u8 0)], .agg [.lit (.int .u8 0), .lit (.int .u8 0)], .agg [.lit (.int .u8 0), .lit (.int .u8 0)], .agg [.lit (.int .u8 0), .lit (.int .u8 0)]]
def laid_caliper_desc_rows {H : Type} : DataW H := .agg [.agg [.lit (.string [72, 97, 108, 102]), .lit (.int .i64 16), .lit (.int .i64 11), .lit (.int .i64 5)], .agg [.lit (.string [66, 114, 97, 105, 110]), .lit (.int .i64 16), .lit (.int .i64 8), .lit (.int .i64 8)], .agg [.lit (.string [83, 105, 110, 103, 108, 101]), .lit (.int .i64 32), .lit (.int .i64 24), .lit (.int .i64 8)], .agg [.lit (.string [68, 111, 117, 98, 108, 101]), .lit (.int .i64 64), .lit (.int .i64 53), .lit (.int .i64 11)], .agg [.lit (.string [81, 117, 97, 100]), .lit (.int .i64 128), .lit (.int .i64 113), .lit (.int .i64 15)], .agg [.lit (.string [79, 99, 116, 111]), .lit (.int .i64 256), .lit (.int .i64 241), .lit (.int .i64 15)], .agg [.lit (.string [80, 108, 97, 105, 110, 51, 50]), .lit (.int .i64 32), .lit (.int .i64 7), .lit (.int .i64 96)], .agg [.lit (.string [80, 108, 97, 105, 110, 54, 52]), .lit (.int .i64 64), .lit (.int .i64 16), .lit (.int .i64 384)], .agg [.lit (.string [80, 108, 97, 105, 110, 49, 50, 56]), .lit (.int .i64 128), .lit (.int .i64 34), .lit (.int .i64 6144)], .agg [.lit (.string [68, 101, 110, 115, 101, 51, 50]), .lit (.int .i64 32), .lit (.int .i64 7), .lit (.int .i64 96)], .agg [.lit (.string [68, 101, 110, 115, 101, 54, 52]), .lit (.int .i64 64), .lit (.int .i64 16), .lit (.int .i64 384)], .agg [.lit (.string [68, 101, 110, 115, 101, 49, 50, 56]), .lit (.int .i64 128), .lit (.int .i64 34), .lit (.int .i64 6144)]]
/-- One of Go's own tables, pinned by name: the form's constant. -/
def laid_unicode_utf8_first : DataW Unit := Go.Pinned.utf8First

/-- 'caliperlaw15.DecroundDecimal': WHATEVER THE INPUT: true; the input reads as it did. -/
def decroundDecimalSpec : ChangeSpec := { name := "decroundDecimal", fn := fun _ => fun
  | [d1, d2, d3, d4, d5, d6] => { results := [.lit (.bool true)], args := [d1, d2, d3, d4, d5, d6] }
  | _ => none }
def decroundDecimalRow : OpenClaim := { program := "ytmommdhnogogdaadoor", sum := "ea575a21d04eb9fcd6226fb95727a7cb57ba6e00eef33e2dd2f303caa9d1b38a", func := "caliper/caliperlaw15.DecroundDecimal", spec := "decroundDecimal", inPlace := ["math/bits.Add64", "math/bits.Sub64"], named := ["caliper/desc.rows", "math/bits.divideError", "math/bits.overflowError", "unicode/utf8.first", "unicode/utf8.acceptRanges"], apart := false, laid := [("unicode/utf8.acceptRanges", laid_unicode_utf8_acceptRanges), ("caliper/desc.rows", laid_caliper_desc_rows), ("unicode/utf8.first", laid_unicode_utf8_first)] }
def DecroundDecimalSaid : Prop := decroundDecimalRow.holds Tryd.pinned (OpenSpec.ofChange decroundDecimalSpec)

/-- ITS FALSE NEIGHBOUR: 'it returns false'. Refute it at one input. -/
def decroundDecimalWrong : ChangeSpec := { name := "decroundDecimal", fn := fun _ => fun
  | [d1, d2, d3, d4, d5, d6] => { results := [.lit (.bool false)], args := [d1, d2, d3, d4, d5, d6] }
  | _ => none }
def DecroundDecimalWrongFalsely : Prop := decroundDecimalRow.holds Tryd.pinned (OpenSpec.ofChange decroundDecimalWrong)

/-- 'caliperlaw15.DecroundSides': WHATEVER THE INPUT: true; the input reads as it did. -/
def decroundSidesSpec : ChangeSpec := { name := "decroundSides", fn := fun _ => fun
  | [d1, d2, d3, d4, d5] => { results := [.lit (.bool true)], args := [d1, d2, d3, d4, d5] }
  | _ => none }
def decroundSidesRow : OpenClaim := { program := "ytmommdhnogogdaadoor", sum := "ea575a21d04eb9fcd6226fb95727a7cb57ba6e00eef33e2dd2f303caa9d1b38a", func := "caliper/caliperlaw15.DecroundSides", spec := "decroundSides", inPlace := ["math/bits.Add64", "math/bits.Sub64"], named := ["caliper/desc.rows", "math/bits.divideError", "math/bits.overflowError", "unicode/utf8.first", "unicode/utf8.acceptRanges"], apart := false, laid := [("unicode/utf8.acceptRanges", laid_unicode_utf8_acceptRanges), ("caliper/desc.rows", laid_caliper_desc_rows), ("unicode/utf8.first", laid_unicode_utf8_first)] }
def DecroundSidesSaid : Prop := decroundSidesRow.holds Tryd.pinned (OpenSpec.ofChange decroundSidesSpec)

/-- ITS FALSE NEIGHBOUR: 'it returns false'. Refute it at one input. -/
def decroundSidesWrong : ChangeSpec := { name := "decroundSides", fn := fun _ => fun
  | [d1, d2, d3, d4, d5] => { results := [.lit (.bool false)], args := [d1, d2, d3, d4, d5] }
  | _ => none }
def DecroundSidesWrongFalsely : Prop := decroundSidesRow.holds Tryd.pinned (OpenSpec.ofChange decroundSidesWrong)

/-- 'caliperlaw15.DecroundTurns': WHATEVER THE INPUT: true; the input reads as it did. -/
def decroundTurnsSpec : ChangeSpec := { name := "decroundTurns", fn := fun _ => fun
  | [d1, d2, d3, d4, d5, d6] => { results := [.lit (.bool true)], args := [d1, d2, d3, d4, d5, d6] }
  | _ => none }
def decroundTurnsRow : OpenClaim := { program := "ytmommdhnogogdaadoor", sum := "ea575a21d04eb9fcd6226fb95727a7cb57ba6e00eef33e2dd2f303caa9d1b38a", func := "caliper/caliperlaw15.DecroundTurns", spec := "decroundTurns", inPlace := ["math/bits.Add64", "math/bits.Sub64"], named := ["caliper/desc.rows", "math/bits.divideError", "math/bits.overflowError", "unicode/utf8.first", "unicode/utf8.acceptRanges"], apart := false, laid := [("unicode/utf8.acceptRanges", laid_unicode_utf8_acceptRanges), ("caliper/desc.rows", laid_caliper_desc_rows), ("unicode/utf8.first", laid_unicode_utf8_first)] }
def DecroundTurnsSaid : Prop := decroundTurnsRow.holds Tryd.pinned (OpenSpec.ofChange decroundTurnsSpec)

/-- ITS FALSE NEIGHBOUR: 'it returns false'. Refute it at one input. -/
def decroundTurnsWrong : ChangeSpec := { name := "decroundTurns", fn := fun _ => fun
  | [d1, d2, d3, d4, d5, d6] => { results := [.lit (.bool false)], args := [d1, d2, d3, d4, d5, d6] }
  | _ => none }
def DecroundTurnsWrongFalsely : Prop := decroundTurnsRow.holds Tryd.pinned (OpenSpec.ofChange decroundTurnsWrong)

/-- 'caliperlaw15.DecroundRises': WHATEVER THE INPUT: true; the input reads as it did. -/
def decroundRisesSpec : ChangeSpec := { name := "decroundRises", fn := fun _ => fun
  | [d1, d2, d3, d4, d5, d6] => { results := [.lit (.bool true)], args := [d1, d2, d3, d4, d5, d6] }
  | _ => none }
def decroundRisesRow : OpenClaim := { program := "ytmommdhnogogdaadoor", sum := "ea575a21d04eb9fcd6226fb95727a7cb57ba6e00eef33e2dd2f303caa9d1b38a", func := "caliper/caliperlaw15.DecroundRises", spec := "decroundRises", inPlace := ["math/bits.Add64", "math/bits.Sub64"], named := ["caliper/desc.rows", "math/bits.divideError", "math/bits.overflowError", "unicode/utf8.first", "unicode/utf8.acceptRanges"], apart := false, laid := [("unicode/utf8.acceptRanges", laid_unicode_utf8_acceptRanges), ("caliper/desc.rows", laid_caliper_desc_rows), ("unicode/utf8.first", laid_unicode_utf8_first)] }
def DecroundRisesSaid : Prop := decroundRisesRow.holds Tryd.pinned (OpenSpec.ofChange decroundRisesSpec)

/-- ITS FALSE NEIGHBOUR: 'it returns false'. Refute it at one input. -/
def decroundRisesWrong : ChangeSpec := { name := "decroundRises", fn := fun _ => fun
  | [d1, d2, d3, d4, d5, d6] => { results := [.lit (.bool false)], args := [d1, d2, d3, d4, d5, d6] }
  | _ => none }
def DecroundRisesWrongFalsely : Prop := decroundRisesRow.holds Tryd.pinned (OpenSpec.ofChange decroundRisesWrong)

/- THE SECOND FORM. 'bulk': how many values and letters a reading holds, each counted each time it is reached (what is shared counts as often as it is met; a slice's spare places count too). A statement '..UptoSaid' is the law's where the arguments, and the package variables that the reading takes, are together of bulk at most 1048576: NARROWER than '..Said'. Prove '..Said' where nothing that the law and all that it calls make is longer than what came in: it says more and counts as full. Else prove '..UptoSaid'. A law counts once. -/
mutual
def uptoBulk {H : Type} : DataW H → Nat
  | .lit (.string bytes) => bytes.length + 1
  | .lit _ => 1
  | .nil => 1
  | .ptr d => uptoBulk d + 1
  | .slice elems spare => uptoBulkAll elems + uptoBulkAll spare + 1
  | .agg parts => uptoBulkAll parts + 1
  | .iface _ d => uptoBulk d + 1
  | .map entries => uptoBulkEntries entries + 1
  | .held _ => 1
def uptoBulkAll {H : Type} : List (DataW H) → Nat
  | [] => 0
  | d :: r => uptoBulk d + uptoBulkAll r
def uptoBulkEntries {H : Type} : List (Lit × DataW H) → Nat
  | [] => 0
  | x :: r => uptoBulkEntry x + uptoBulkEntries r
def uptoBulkEntry {H : Type} : Lit × DataW H → Nat
  | (.string bytes, d) => bytes.length + uptoBulk d + 1
  | (_, d) => uptoBulk d + 1
 end
def uptoSmall : (H : Type) → List (DataW H) → Bool := fun _ ds => decide (uptoBulkAll ds ≤ 1048576)
def OpenSpec.upto (s : _root_.Go.ChangeSpec) : _root_.Go.OpenSpec := { _root_.Go.OpenSpec.ofChange s with cond := some uptoSmall }

/-- 'caliperlaw15.DecroundDecimal', WHERE WHAT IT READS IS OF BULK AT MOST 1048576: true; the input reads as it did. -/
def decroundDecimalUptoRow : OpenClaim := { program := "ytmommdhnogogdaadoor", sum := "ea575a21d04eb9fcd6226fb95727a7cb57ba6e00eef33e2dd2f303caa9d1b38a", func := "caliper/caliperlaw15.DecroundDecimal", spec := "decroundDecimal", inPlace := ["math/bits.Add64", "math/bits.Sub64"], named := ["caliper/desc.rows", "math/bits.divideError", "math/bits.overflowError", "unicode/utf8.first", "unicode/utf8.acceptRanges"], apart := false, laid := [("unicode/utf8.acceptRanges", laid_unicode_utf8_acceptRanges), ("caliper/desc.rows", laid_caliper_desc_rows), ("unicode/utf8.first", laid_unicode_utf8_first)], narrowed := true }
def DecroundDecimalUptoSaid : Prop := decroundDecimalUptoRow.holds Tryd.pinned (OpenSpec.upto decroundDecimalSpec)

/-- 'caliperlaw15.DecroundSides', WHERE WHAT IT READS IS OF BULK AT MOST 1048576: true; the input reads as it did. -/
def decroundSidesUptoRow : OpenClaim := { program := "ytmommdhnogogdaadoor", sum := "ea575a21d04eb9fcd6226fb95727a7cb57ba6e00eef33e2dd2f303caa9d1b38a", func := "caliper/caliperlaw15.DecroundSides", spec := "decroundSides", inPlace := ["math/bits.Add64", "math/bits.Sub64"], named := ["caliper/desc.rows", "math/bits.divideError", "math/bits.overflowError", "unicode/utf8.first", "unicode/utf8.acceptRanges"], apart := false, laid := [("unicode/utf8.acceptRanges", laid_unicode_utf8_acceptRanges), ("caliper/desc.rows", laid_caliper_desc_rows), ("unicode/utf8.first", laid_unicode_utf8_first)], narrowed := true }
def DecroundSidesUptoSaid : Prop := decroundSidesUptoRow.holds Tryd.pinned (OpenSpec.upto decroundSidesSpec)

/-- 'caliperlaw15.DecroundTurns', WHERE WHAT IT READS IS OF BULK AT MOST 1048576: true; the input reads as it did. -/
def decroundTurnsUptoRow : OpenClaim := { program := "ytmommdhnogogdaadoor", sum := "ea575a21d04eb9fcd6226fb95727a7cb57ba6e00eef33e2dd2f303caa9d1b38a", func := "caliper/caliperlaw15.DecroundTurns", spec := "decroundTurns", inPlace := ["math/bits.Add64", "math/bits.Sub64"], named := ["caliper/desc.rows", "math/bits.divideError", "math/bits.overflowError", "unicode/utf8.first", "unicode/utf8.acceptRanges"], apart := false, laid := [("unicode/utf8.acceptRanges", laid_unicode_utf8_acceptRanges), ("caliper/desc.rows", laid_caliper_desc_rows), ("unicode/utf8.first", laid_unicode_utf8_first)], narrowed := true }
def DecroundTurnsUptoSaid : Prop := decroundTurnsUptoRow.holds Tryd.pinned (OpenSpec.upto decroundTurnsSpec)

/-- 'caliperlaw15.DecroundRises', WHERE WHAT IT READS IS OF BULK AT MOST 1048576: true; the input reads as it did. -/
def decroundRisesUptoRow : OpenClaim := { program := "ytmommdhnogogdaadoor", sum := "ea575a21d04eb9fcd6226fb95727a7cb57ba6e00eef33e2dd2f303caa9d1b38a", func := "caliper/caliperlaw15.DecroundRises", spec := "decroundRises", inPlace := ["math/bits.Add64", "math/bits.Sub64"], named := ["caliper/desc.rows", "math/bits.divideError", "math/bits.overflowError", "unicode/utf8.first", "unicode/utf8.acceptRanges"], apart := false, laid := [("unicode/utf8.acceptRanges", laid_unicode_utf8_acceptRanges), ("caliper/desc.rows", laid_caliper_desc_rows), ("unicode/utf8.first", laid_unicode_utf8_first)], narrowed := true }
def DecroundRisesUptoSaid : Prop := decroundRisesUptoRow.holds Tryd.pinned (OpenSpec.upto decroundRisesSpec)

end Rows
end Go.Proofs.YtmommdhnogogdaaDoor
