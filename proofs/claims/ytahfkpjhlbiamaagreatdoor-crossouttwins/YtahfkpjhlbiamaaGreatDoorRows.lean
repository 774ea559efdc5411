/-
  NARROWER THAN 'FOR EVERY INPUT', by the rows' own cells (each row's printed sentence says how): CrossoutConverts: laid · CrossoutDouble: laid · CrossoutTwins: laid · CrossoutFixed: laid · CrossoutWhole: laid · CrossoutTurns: laid.
  DERIVED. THE GIVEN ROWS OF THIS SEAT. 6 by the template 'for every input the law returns true; each argument reads behind the call as it read before'; 0 by the template 'total and deterministic' (their statements: YtahfkpjhlbiamaaGreatDoorTotals.lean).
  GIVEN WITH THE SEED: the statements are not yours to turn. If you find one false, say at which input.
  Laid BY PROGRAM, IN A SANDBOX (cutbox-rows.mjs): the forced cells as the released guide's own fill.sh prints them over the translation a50715f307e8cdaf… (all of the seat's roots in one cut). By AI agents, Wed Nov 11 2026. No macro, syntax, notation, axiom, sorry.
-/
import Derived.Test.YtahfkpjhlbiamaaGreatDoorChecked
import GoSem.PinnedTables
import GoSem.Claim
import GoSem.ClaimJoined
import GoSem.ClaimMapViews
import Derived.JoinedTies
import Derived.KernelRfl
namespace Go.Proofs.YtahfkpjhlbiamaaGreatDoor
/- THE CELL 'sum', in the pinned program and in every row, IS THE sha256 OF THE DUMP (.gsa) THAT YtahfkpjhlbiamaaGreatDoorProg.lean LOADS. Nothing in Lean hashes anything: it is a label: what it is worth is what the hold of that sum in a sandbox is worth. -/
noncomputable def Tryz.pinned : Pinned := { name := "ytahfkpjhlbiamaagreatdoor", sum := "a50715f307e8cdafb27ff65f7f7b88897da843b760763635309dca5430e88f1d", checked := Tryz.checked }
namespace Rows
def none {H : Type} : Left H := { results := [], args := [] }

/- WHAT THE LISTED PACKAGE-LEVEL VARIABLES READ AS WHEN THE CALL BEGINS. Each datum BY PROGRAM (the guide's laid-datum.mjs) off the statement by which the dump's own 'gosem.cut.vars' lays the variable. In a bare row this is a premise. The card (YtahfkpjhlbiamaaGreatDoorCards.lean) ties it to the program's text. -/
def laid_math_bits_deBruijn32tab {H : Type} : DataW H := .agg [.lit (.int .u8 0), .lit (.int .u8 1), .lit (.int .u8 28), .lit (.int .u8 2), .lit (.int .u8 29), .lit (.int .u8 14), .lit (.int .u8 24), .lit (.int .u8 3), .lit (.int .u8 30), .lit (.int .u8 22), .lit (.int .u8 20), .lit (.int .u8 15), .lit (.int .u8 25), .lit (.int .u8 17), .lit (.int .u8 4), .lit (.int .u8 8), .lit (.int .u8 31), .lit (.int .u8 27), .lit (.int .u8 13), .lit (.int .u8 23), .lit (.int .u8 21), .lit (.int .u8 19), .lit (.int .u8 16), .lit (.int .u8 7), .lit (.int .u8 26), .lit (.int .u8 12), .lit (.int .u8 18), .lit (.int .u8 6), .lit (.int .u8 11), .lit (.int .u8 5), .lit (.int .u8 10), .lit (.int .u8 9)]
def laid_math_bits_deBruijn64tab {H : Type} : DataW H := .agg [.lit (.int .u8 0), .lit (.int .u8 1), .lit (.int .u8 56), .lit (.int .u8 2), .lit (.int .u8 57), .lit (.int .u8 49), .lit (.int .u8 28), .lit (.int .u8 3), .lit (.int .u8 61), .lit (.int .u8 58), .lit (.int .u8 42), .lit (.int .u8 50), .lit (.int .u8 38), .lit (.int .u8 29), .lit (.int .u8 17), .lit (.int .u8 4), .lit (.int .u8 62), .lit (.int .u8 47), .lit (.int .u8 59), .lit (.int .u8 36), .lit (.int .u8 45), .lit (.int .u8 43), .lit (.int .u8 51), .lit (.int .u8 22), .lit (.int .u8 53), .lit (.int .u8 39), .lit (.int .u8 33), .lit (.int .u8 30), .lit (.int .u8 24), .lit (.int .u8 18), .lit (.int .u8 12), .lit (.int .u8 5), .lit (.int .u8 63), .lit (.int .u8 55), .lit (.int .u8 48), .lit (.int .u8 27), .lit (.int .u8 60), .lit (.int .u8 41), .lit (.int .u8 37), .lit (.int .u8 16), .lit (.int .u8 46), .lit (.int .u8 35), .lit (.int .u8 44), .lit (.int .u8 21), .lit (.int .u8 52), .lit (.int .u8 32), .lit (.int .u8 23), .lit (.int .u8 11), .lit (.int .u8 54), .lit (.int .u8 26), .lit (.int .u8 40), .lit (.int .u8 15), .lit (.int .u8 34), .lit (.int .u8 20), .lit (.int .u8 31), .lit (.int .u8 10), .lit (.int .u8 25), .lit (.int .u8 14), .lit (.int .u8 19), .lit (.int .u8 9), .lit (.int .u8 13), .lit (.int .u8 8), .lit (.int .u8 7), .lit (.int .u8 6)]
def laid_internal_strconv_uint64pow10 {H : Type} : DataW H := .agg [.lit (.int .u64 1), .lit (.int .u64 10), .lit (.int .u64 100), .lit (.int .u64 1000), .lit (.int .u64 10000), .lit (.int .u64 100000), .lit (.int .u64 1000000), .lit (.int .u64 10000000), .lit (.int .u64 100000000), .lit (.int .u64 1000000000), .lit (.int .u64 10000000000), .lit (.int .u64 100000000000), .lit (.int .u64 1000000000000), .lit (.int .u64 10000000000000), .lit (.int .u64 100000000000000), .lit (.int .u64 1000000000000000), .lit (.int .u64 10000000000000000), .lit (.int .u64 100000000000000000), .lit (.int .u64 1000000000000000000), .lit (.int .u64 10000000000000000000)]
def laid_unicode_utf8_acceptRanges {H : Type} : DataW H := .agg [.agg [.lit (.int .u8 128), .lit (.int .u8 191)], .agg [.lit (.int .u8 160), .lit (.int .u8 191)], .agg [.lit (.int .u8 128), .lit (.int .u8 159)], .agg [.lit (.int .u8 144), .lit (.int .u8 191)], .agg [.lit (.int .u8 128), .lit (.int .u8 143)], .agg [.lit (.int .u8 0), .lit (.int .u8 0)], .agg [.lit (.int .u8 0), .lit (.int .u8 0)], .agg [.lit (.int .u8 0), .lit (.int .u8 0)], .agg [.lit (.int .u8 0), .lit (.int .u8 0)], .agg [.lit (.int .u8 0), .lit (.int .u8 0)], .agg [.lit (.int .u8 0), .lit (.int .u8 0)], .agg [.lit (.int .u8 0), .lit (.int .u8 0)], .agg [.lit (.int .u8 0), .lit (.int .u8 0)], .agg [.lit (.int .u8 0), .lit (.int .u8 0)], .agg [.lit (.int .u8 0), .lit (.int .u8 0)], .agg [.lit (.int .u8 0), .lit (.int .u8 0)]]
def laid_caliper_desc_rows {H : Type} : DataW H := .agg [.agg [.lit (.string [72, 97, 108, 102]), .lit (.int .i64 16), .lit (.int .i64 11), .lit (.int .i64 5)], .agg [.lit (.string [66, 114, 97, 105, 110]), .lit (.int .i64 16), .lit (.int .i64 8), .lit (.int .i64 8)], .agg [.lit (.string [83, 105, 110, 103, 108, 101]), .lit (.int .i64 32), .lit (.int .i64 24), .lit (.int .i64 8)], .agg [.lit (.string [68, 111, 117, 98, 108, 101]), .lit (.int .i64 64), .lit (.int .i64 53), .lit (.int .i64 11)], .agg [.lit (.string [81, 117, 97, 100]), .lit (.int .i64 128), .lit (.int .i64 113), .lit (.int .i64 15)], .agg [.lit (.string [79, 99, 116, 111]), .lit (.int .i64 256), .lit (.int .i64 241), .lit (.int .i64 15)], .agg [.lit (.string [80, 108, 97, 105, 110, 51, 50]), .lit (.int .i64 32), .lit (.int .i64 7), .lit (.int .i64 96)], .agg [.lit (.string [80, 108, 97, 105, 110, 54, 52]), .lit (.int .i64 64), .lit (.int .i64 16), .lit (.int .i64 384)], .agg [.lit (.string [80, 108, 97, 105, 110, 49, 50, 56]), .lit (.int .i64 128), .lit (.int .i64 34), .lit (.int .i64 6144)], .agg [.lit (.string [68, 101, 110, 115, 101, 51, 50]), .lit (.int .i64 32), .lit (.int .i64 7), .lit (.int .i64 96)], .agg [.lit (.string [68, 101, 110, 115, 101, 54, 52]), .lit (.int .i64 64), .lit (.int .i64 16), .lit (.int .i64 384)], .agg [.lit (.string [68, 101, 110, 115, 101, 49, 50, 56]), .lit (.int .i64 128), .lit (.int .i64 34), .lit (.int .i64 6144)]]
/-- One of Go's own tables, pinned by name: the form's constant. -/
def laid_unicode_utf8_first : DataW Unit := Go.Pinned.utf8First

/-- 'caliperlaw19.CrossoutConverts': WHATEVER THE INPUT: true; the input reads as it did. -/
def crossoutConvertsSpec : ChangeSpec := { name := "crossoutConverts", fn := fun _ => fun
  | [d1, d2, d3, d4] => { results := [.lit (.bool true)], args := [d1, d2, d3, d4] }
  | _ => none }
def crossoutConvertsRow : OpenClaim := { program := "ytahfkpjhlbiamaagreatdoor", sum := "a50715f307e8cdafb27ff65f7f7b88897da843b760763635309dca5430e88f1d", func := "caliper/caliperlaw19.CrossoutConverts", spec := "crossoutConverts", inPlace := ["math/bits.Sub64", "math/bits.Add64", "internal/bytealg.IndexByteString", "internal/bytealg.IndexString"], named := ["caliper/desc.rows", "math/bits.divideError", "math/bits.overflowError", "unicode/utf8.first", "unicode/utf8.acceptRanges", "internal/strconv.uint64pow10", "math/bits.deBruijn32tab", "math/bits.deBruijn64tab", "internal/bytealg.MaxLen"], apart := false, laid := [("math/bits.deBruijn32tab", laid_math_bits_deBruijn32tab), ("math/bits.deBruijn64tab", laid_math_bits_deBruijn64tab), ("internal/strconv.uint64pow10", laid_internal_strconv_uint64pow10), ("unicode/utf8.acceptRanges", laid_unicode_utf8_acceptRanges), ("caliper/desc.rows", laid_caliper_desc_rows), ("unicode/utf8.first", laid_unicode_utf8_first)] }
def CrossoutConvertsSaid : Prop := crossoutConvertsRow.holds Tryz.pinned (OpenSpec.ofChange crossoutConvertsSpec)

/-- ITS FALSE NEIGHBOUR: 'it returns false'. Refute it at one input. -/
def crossoutConvertsWrong : ChangeSpec := { name := "crossoutConverts", fn := fun _ => fun
  | [d1, d2, d3, d4] => { results := [.lit (.bool false)], args := [d1, d2, d3, d4] }
  | _ => none }
def CrossoutConvertsWrongFalsely : Prop := crossoutConvertsRow.holds Tryz.pinned (OpenSpec.ofChange crossoutConvertsWrong)

/-- 'caliperlaw19.CrossoutDouble': WHATEVER THE INPUT: true; the input reads as it did. -/
def crossoutDoubleSpec : ChangeSpec := { name := "crossoutDouble", fn := fun _ => fun
  | [d1, d2, d3] => { results := [.lit (.bool true)], args := [d1, d2, d3] }
  | _ => none }
def crossoutDoubleRow : OpenClaim := { program := "ytahfkpjhlbiamaagreatdoor", sum := "a50715f307e8cdafb27ff65f7f7b88897da843b760763635309dca5430e88f1d", func := "caliper/caliperlaw19.CrossoutDouble", spec := "crossoutDouble", inPlace := ["math/bits.Sub64", "math/bits.Add64", "internal/bytealg.IndexByteString", "internal/bytealg.IndexString"], named := ["caliper/desc.rows", "math/bits.divideError", "math/bits.overflowError", "unicode/utf8.first", "unicode/utf8.acceptRanges", "internal/strconv.uint64pow10", "math/bits.deBruijn32tab", "math/bits.deBruijn64tab", "internal/bytealg.MaxLen"], apart := false, laid := [("math/bits.deBruijn32tab", laid_math_bits_deBruijn32tab), ("math/bits.deBruijn64tab", laid_math_bits_deBruijn64tab), ("internal/strconv.uint64pow10", laid_internal_strconv_uint64pow10), ("unicode/utf8.acceptRanges", laid_unicode_utf8_acceptRanges), ("caliper/desc.rows", laid_caliper_desc_rows), ("unicode/utf8.first", laid_unicode_utf8_first)] }
def CrossoutDoubleSaid : Prop := crossoutDoubleRow.holds Tryz.pinned (OpenSpec.ofChange crossoutDoubleSpec)

/-- ITS FALSE NEIGHBOUR: 'it returns false'. Refute it at one input. -/
def crossoutDoubleWrong : ChangeSpec := { name := "crossoutDouble", fn := fun _ => fun
  | [d1, d2, d3] => { results := [.lit (.bool false)], args := [d1, d2, d3] }
  | _ => none }
def CrossoutDoubleWrongFalsely : Prop := crossoutDoubleRow.holds Tryz.pinned (OpenSpec.ofChange crossoutDoubleWrong)

/-- 'caliperlaw19.CrossoutTwins': WHATEVER THE INPUT: true; the input reads as it did. -/
def crossoutTwinsSpec : ChangeSpec := { name := "crossoutTwins", fn := fun _ => fun
  | [d1, d2, d3, d4] => { results := [.lit (.bool true)], args := [d1, d2, d3, d4] }
  | _ => none }
def crossoutTwinsRow : OpenClaim := { program := "ytahfkpjhlbiamaagreatdoor", sum := "a50715f307e8cdafb27ff65f7f7b88897da843b760763635309dca5430e88f1d", func := "caliper/caliperlaw19.CrossoutTwins", spec := "crossoutTwins", inPlace := ["math/bits.Sub64", "math/bits.Add64", "internal/bytealg.IndexByteString", "internal/bytealg.IndexString"], named := ["caliper/desc.rows", "math/bits.divideError", "math/bits.overflowError", "unicode/utf8.first", "unicode/utf8.acceptRanges", "internal/strconv.uint64pow10", "math/bits.deBruijn32tab", "math/bits.deBruijn64tab", "internal/bytealg.MaxLen"], apart := false, laid := [("math/bits.deBruijn32tab", laid_math_bits_deBruijn32tab), ("math/bits.deBruijn64tab", laid_math_bits_deBruijn64tab), ("internal/strconv.uint64pow10", laid_internal_strconv_uint64pow10), ("unicode/utf8.acceptRanges", laid_unicode_utf8_acceptRanges), ("caliper/desc.rows", laid_caliper_desc_rows), ("unicode/utf8.first", laid_unicode_utf8_first)] }
def CrossoutTwinsSaid : Prop := crossoutTwinsRow.holds Tryz.pinned (OpenSpec.ofChange crossoutTwinsSpec)

/-- ITS FALSE NEIGHBOUR: 'it returns false'. Refute it at one input. -/
def crossoutTwinsWrong : ChangeSpec := { name := "crossoutTwins", fn := fun _ => fun
  | [d1, d2, d3, d4] => { results := [.lit (.bool false)], args := [d1, d2, d3, d4] }
  | _ => none }
def CrossoutTwinsWrongFalsely : Prop := crossoutTwinsRow.holds Tryz.pinned (OpenSpec.ofChange crossoutTwinsWrong)

/-- 'caliperlaw19.CrossoutFixed': WHATEVER THE INPUT: true; the input reads as it did. -/
def crossoutFixedSpec : ChangeSpec := { name := "crossoutFixed", fn := fun _ => fun
  | [d1, d2, d3, d4] => { results := [.lit (.bool true)], args := [d1, d2, d3, d4] }
  | _ => none }
def crossoutFixedRow : OpenClaim := { program := "ytahfkpjhlbiamaagreatdoor", sum := "a50715f307e8cdafb27ff65f7f7b88897da843b760763635309dca5430e88f1d", func := "caliper/caliperlaw19.CrossoutFixed", spec := "crossoutFixed", inPlace := ["math/bits.Sub64", "math/bits.Add64", "internal/bytealg.IndexByteString", "internal/bytealg.IndexString", "internal/abi.NoEscape", "internal/bytealg.MakeNoZero"], named := ["caliper/desc.rows", "math/bits.divideError", "math/bits.overflowError", "unicode/utf8.first", "unicode/utf8.acceptRanges", "internal/strconv.uint64pow10", "math/bits.deBruijn32tab", "math/bits.deBruijn64tab", "internal/bytealg.MaxLen"], apart := false, laid := [("math/bits.deBruijn32tab", laid_math_bits_deBruijn32tab), ("math/bits.deBruijn64tab", laid_math_bits_deBruijn64tab), ("internal/strconv.uint64pow10", laid_internal_strconv_uint64pow10), ("unicode/utf8.acceptRanges", laid_unicode_utf8_acceptRanges), ("caliper/desc.rows", laid_caliper_desc_rows), ("unicode/utf8.first", laid_unicode_utf8_first)] }
def CrossoutFixedSaid : Prop := crossoutFixedRow.holds Tryz.pinned (OpenSpec.ofChange crossoutFixedSpec)

/-- ITS FALSE NEIGHBOUR: 'it returns false'. Refute it at one input. -/
def crossoutFixedWrong : ChangeSpec := { name := "crossoutFixed", fn := fun _ => fun
  | [d1, d2, d3, d4] => { results := [.lit (.bool false)], args := [d1, d2, d3, d4] }
  | _ => none }
def CrossoutFixedWrongFalsely : Prop := crossoutFixedRow.holds Tryz.pinned (OpenSpec.ofChange crossoutFixedWrong)

/-- 'caliperlaw19.CrossoutWhole': WHATEVER THE INPUT: true; the input reads as it did. -/
def crossoutWholeSpec : ChangeSpec := { name := "crossoutWhole", fn := fun _ => fun
  | [d1, d2, d3, d4, d5] => { results := [.lit (.bool true)], args := [d1, d2, d3, d4, d5] }
  | _ => none }
def crossoutWholeRow : OpenClaim := { program := "ytahfkpjhlbiamaagreatdoor", sum := "a50715f307e8cdafb27ff65f7f7b88897da843b760763635309dca5430e88f1d", func := "caliper/caliperlaw19.CrossoutWhole", spec := "crossoutWhole", inPlace := ["math/bits.Sub64", "math/bits.Add64", "internal/bytealg.IndexByteString", "internal/bytealg.IndexString"], named := ["caliper/desc.rows", "math/bits.divideError", "math/bits.overflowError", "unicode/utf8.first", "unicode/utf8.acceptRanges", "internal/strconv.uint64pow10", "math/bits.deBruijn32tab", "math/bits.deBruijn64tab", "internal/bytealg.MaxLen"], apart := false, laid := [("math/bits.deBruijn32tab", laid_math_bits_deBruijn32tab), ("math/bits.deBruijn64tab", laid_math_bits_deBruijn64tab), ("internal/strconv.uint64pow10", laid_internal_strconv_uint64pow10), ("unicode/utf8.acceptRanges", laid_unicode_utf8_acceptRanges), ("caliper/desc.rows", laid_caliper_desc_rows), ("unicode/utf8.first", laid_unicode_utf8_first)] }
def CrossoutWholeSaid : Prop := crossoutWholeRow.holds Tryz.pinned (OpenSpec.ofChange crossoutWholeSpec)

/-- ITS FALSE NEIGHBOUR: 'it returns false'. Refute it at one input. -/
def crossoutWholeWrong : ChangeSpec := { name := "crossoutWhole", fn := fun _ => fun
  | [d1, d2, d3, d4, d5] => { results := [.lit (.bool false)], args := [d1, d2, d3, d4, d5] }
  | _ => none }
def CrossoutWholeWrongFalsely : Prop := crossoutWholeRow.holds Tryz.pinned (OpenSpec.ofChange crossoutWholeWrong)

/-- 'caliperlaw19.CrossoutTurns': WHATEVER THE INPUT: true; the input reads as it did. -/
def crossoutTurnsSpec : ChangeSpec := { name := "crossoutTurns", fn := fun _ => fun
  | [d1, d2, d3, d4] => { results := [.lit (.bool true)], args := [d1, d2, d3, d4] }
  | _ => none }
def crossoutTurnsRow : OpenClaim := { program := "ytahfkpjhlbiamaagreatdoor", sum := "a50715f307e8cdafb27ff65f7f7b88897da843b760763635309dca5430e88f1d", func := "caliper/caliperlaw19.CrossoutTurns", spec := "crossoutTurns", inPlace := ["math/bits.Sub64", "math/bits.Add64", "internal/bytealg.IndexByteString", "internal/bytealg.IndexString"], named := ["caliper/desc.rows", "math/bits.divideError", "math/bits.overflowError", "unicode/utf8.first", "unicode/utf8.acceptRanges", "internal/strconv.uint64pow10", "math/bits.deBruijn32tab", "math/bits.deBruijn64tab", "internal/bytealg.MaxLen"], apart := false, laid := [("math/bits.deBruijn32tab", laid_math_bits_deBruijn32tab), ("math/bits.deBruijn64tab", laid_math_bits_deBruijn64tab), ("internal/strconv.uint64pow10", laid_internal_strconv_uint64pow10), ("unicode/utf8.acceptRanges", laid_unicode_utf8_acceptRanges), ("caliper/desc.rows", laid_caliper_desc_rows), ("unicode/utf8.first", laid_unicode_utf8_first)] }
def CrossoutTurnsSaid : Prop := crossoutTurnsRow.holds Tryz.pinned (OpenSpec.ofChange crossoutTurnsSpec)

/-- ITS FALSE NEIGHBOUR: 'it returns false'. Refute it at one input. -/
def crossoutTurnsWrong : ChangeSpec := { name := "crossoutTurns", fn := fun _ => fun
  | [d1, d2, d3, d4] => { results := [.lit (.bool false)], args := [d1, d2, d3, d4] }
  | _ => none }
def CrossoutTurnsWrongFalsely : Prop := crossoutTurnsRow.holds Tryz.pinned (OpenSpec.ofChange crossoutTurnsWrong)

/- THE SECOND FORM. 'bulk': how many values and letters a reading holds, each counted each time it is reached (what is shared counts as often as it is met; a slice's spare places count too). A statement '..UptoSaid' is the law's where the arguments, and the package variables that the reading takes, are together of bulk at most 1048576: NARROWER than '..Said'. Prove '..Said' where nothing that the law and all that it calls make is longer than what came in: it says more and counts as full. Else prove '..UptoSaid'. A law counts once. -/
mutual
def uptoBulk {H : Type} : DataW H → Nat
  | .lit (.string bytes) => bytes.length + 1
  | .lit _ => 1
  | .nil => 1
  | .ptr d => uptoBulk d + 1
  | .slice elems spare => uptoBulkAll elems + uptoBulkAll spare + 1
  | .agg parts => uptoBulkAll parts + 1
  | .iface _ d => uptoBulk d + 1
  | .map entries => uptoBulkEntries entries + 1
  | .held _ => 1
def uptoBulkAll {H : Type} : List (DataW H) → Nat
  | [] => 0
  | d :: r => uptoBulk d + uptoBulkAll r
def uptoBulkEntries {H : Type} : List (Lit × DataW H) → Nat
  | [] => 0
  | x :: r => uptoBulkEntry x + uptoBulkEntries r
def uptoBulkEntry {H : Type} : Lit × DataW H → Nat
  | (.string bytes, d) => bytes.length + uptoBulk d + 1
  | (_, d) => uptoBulk d + 1
 end
def uptoSmall : (H : Type) → List (DataW H) → Bool := fun _ ds => decide (uptoBulkAll ds ≤ 1048576)
def OpenSpec.upto (s : _root_.Go.ChangeSpec) : _root_.Go.OpenSpec := { _root_.Go.OpenSpec.ofChange s with cond := some uptoSmall }

/-- 'caliperlaw19.CrossoutConverts', WHERE WHAT IT READS IS OF BULK AT MOST 1048576: true; the input reads as it did. -/
def crossoutConvertsUptoRow : OpenClaim := { program := "ytahfkpjhlbiamaagreatdoor", sum := "a50715f307e8cdafb27ff65f7f7b88897da843b760763635309dca5430e88f1d", func := "caliper/caliperlaw19.CrossoutConverts", spec := "crossoutConverts", inPlace := ["math/bits.Sub64", "math/bits.Add64", "internal/bytealg.IndexByteString", "internal/bytealg.IndexString"], named := ["caliper/desc.rows", "math/bits.divideError", "math/bits.overflowError", "unicode/utf8.first", "unicode/utf8.acceptRanges", "internal/strconv.uint64pow10", "math/bits.deBruijn32tab", "math/bits.deBruijn64tab", "internal/bytealg.MaxLen"], apart := false, laid := [("math/bits.deBruijn32tab", laid_math_bits_deBruijn32tab), ("math/bits.deBruijn64tab", laid_math_bits_deBruijn64tab), ("internal/strconv.uint64pow10", laid_internal_strconv_uint64pow10), ("unicode/utf8.acceptRanges", laid_unicode_utf8_acceptRanges), ("caliper/desc.rows", laid_caliper_desc_rows), ("unicode/utf8.first", laid_unicode_utf8_first)], narrowed := true }
def CrossoutConvertsUptoSaid : Prop := crossoutConvertsUptoRow.holds Tryz.pinned (OpenSpec.upto crossoutConvertsSpec)

/-- 'caliperlaw19.CrossoutDouble', WHERE WHAT IT READS IS OF BULK AT MOST 1048576: true; the input reads as it did. -/
def crossoutDoubleUptoRow : OpenClaim := { program := "ytahfkpjhlbiamaagreatdoor", sum := "a50715f307e8cdafb27ff65f7f7b88897da843b760763635309dca5430e88f1d", func := "caliper/caliperlaw19.CrossoutDouble", spec := "crossoutDouble", inPlace := ["math/bits.Sub64", "math/bits.Add64", "internal/bytealg.IndexByteString", "internal/bytealg.IndexString"], named := ["caliper/desc.rows", "math/bits.divideError", "math/bits.overflowError", "unicode/utf8.first", "unicode/utf8.acceptRanges", "internal/strconv.uint64pow10", "math/bits.deBruijn32tab", "math/bits.deBruijn64tab", "internal/bytealg.MaxLen"], apart := false, laid := [("math/bits.deBruijn32tab", laid_math_bits_deBruijn32tab), ("math/bits.deBruijn64tab", laid_math_bits_deBruijn64tab), ("internal/strconv.uint64pow10", laid_internal_strconv_uint64pow10), ("unicode/utf8.acceptRanges", laid_unicode_utf8_acceptRanges), ("caliper/desc.rows", laid_caliper_desc_rows), ("unicode/utf8.first", laid_unicode_utf8_first)], narrowed := true }
def CrossoutDoubleUptoSaid : Prop := crossoutDoubleUptoRow.holds Tryz.pinned (OpenSpec.upto crossoutDoubleSpec)

/-- 'caliperlaw19.CrossoutTwins', WHERE WHAT IT READS IS OF BULK AT MOST 1048576: true; the input reads as it did. -/
def crossoutTwinsUptoRow : OpenClaim := { program := "ytahfkpjhlbiamaagreatdoor", sum := "a50715f307e8cdafb27ff65f7f7b88897da843b760763635309dca5430e88f1d", func := "caliper/caliperlaw19.CrossoutTwins", spec := "crossoutTwins", inPlace := ["math/bits.Sub64", "math/bits.Add64", "internal/bytealg.IndexByteString", "internal/bytealg.IndexString"], named := ["caliper/desc.rows", "math/bits.divideError", "math/bits.overflowError", "unicode/utf8.first", "unicode/utf8.acceptRanges", "internal/strconv.uint64pow10", "math/bits.deBruijn32tab", "math/bits.deBruijn64tab", "internal/bytealg.MaxLen"], apart := false, laid := [("math/bits.deBruijn32tab", laid_math_bits_deBruijn32tab), ("math/bits.deBruijn64tab", laid_math_bits_deBruijn64tab), ("internal/strconv.uint64pow10", laid_internal_strconv_uint64pow10), ("unicode/utf8.acceptRanges", laid_unicode_utf8_acceptRanges), ("caliper/desc.rows", laid_caliper_desc_rows), ("unicode/utf8.first", laid_unicode_utf8_first)], narrowed := true }
def CrossoutTwinsUptoSaid : Prop := crossoutTwinsUptoRow.holds Tryz.pinned (OpenSpec.upto crossoutTwinsSpec)

/-- 'caliperlaw19.CrossoutFixed', WHERE WHAT IT READS IS OF BULK AT MOST 1048576: true; the input reads as it did. -/
def crossoutFixedUptoRow : OpenClaim := { program := "ytahfkpjhlbiamaagreatdoor", sum := "a50715f307e8cdafb27ff65f7f7b88897da843b760763635309dca5430e88f1d", func := "caliper/caliperlaw19.CrossoutFixed", spec := "crossoutFixed", inPlace := ["math/bits.Sub64", "math/bits.Add64", "internal/bytealg.IndexByteString", "internal/bytealg.IndexString", "internal/abi.NoEscape", "internal/bytealg.MakeNoZero"], named := ["caliper/desc.rows", "math/bits.divideError", "math/bits.overflowError", "unicode/utf8.first", "unicode/utf8.acceptRanges", "internal/strconv.uint64pow10", "math/bits.deBruijn32tab", "math/bits.deBruijn64tab", "internal/bytealg.MaxLen"], apart := false, laid := [("math/bits.deBruijn32tab", laid_math_bits_deBruijn32tab), ("math/bits.deBruijn64tab", laid_math_bits_deBruijn64tab), ("internal/strconv.uint64pow10", laid_internal_strconv_uint64pow10), ("unicode/utf8.acceptRanges", laid_unicode_utf8_acceptRanges), ("caliper/desc.rows", laid_caliper_desc_rows), ("unicode/utf8.first", laid_unicode_utf8_first)], narrowed := true }
def CrossoutFixedUptoSaid : Prop := crossoutFixedUptoRow.holds Tryz.pinned (OpenSpec.upto crossoutFixedSpec)

/-- 'caliperlaw19.CrossoutWhole', WHERE WHAT IT READS IS OF BULK AT MOST 1048576: true; the input reads as it did. -/
def crossoutWholeUptoRow : OpenClaim := { program := "ytahfkpjhlbiamaagreatdoor", sum := "a50715f307e8cdafb27ff65f7f7b88897da843b760763635309dca5430e88f1d", func := "caliper/caliperlaw19.CrossoutWhole", spec := "crossoutWhole", inPlace := ["math/bits.Sub64", "math/bits.Add64", "internal/bytealg.IndexByteString", "internal/bytealg.IndexString"], named := ["caliper/desc.rows", "math/bits.divideError", "math/bits.overflowError", "unicode/utf8.first", "unicode/utf8.acceptRanges", "internal/strconv.uint64pow10", "math/bits.deBruijn32tab", "math/bits.deBruijn64tab", "internal/bytealg.MaxLen"], apart := false, laid := [("math/bits.deBruijn32tab", laid_math_bits_deBruijn32tab), ("math/bits.deBruijn64tab", laid_math_bits_deBruijn64tab), ("internal/strconv.uint64pow10", laid_internal_strconv_uint64pow10), ("unicode/utf8.acceptRanges", laid_unicode_utf8_acceptRanges), ("caliper/desc.rows", laid_caliper_desc_rows), ("unicode/utf8.first", laid_unicode_utf8_first)], narrowed := true }
def CrossoutWholeUptoSaid : Prop := crossoutWholeUptoRow.holds Tryz.pinned (OpenSpec.upto crossoutWholeSpec)

/-- 'caliperlaw19.CrossoutTurns', WHERE WHAT IT READS IS OF BULK AT MOST 1048576: true; the input reads as it did. -/
def crossoutTurnsUptoRow : OpenClaim := { program := "ytahfkpjhlbiamaagreatdoor", sum := "a50715f307e8cdafb27ff65f7f7b88897da843b760763635309dca5430e88f1d", func := "caliper/caliperlaw19.CrossoutTurns", spec := "crossoutTurns", inPlace := ["math/bits.Sub64", "math/bits.Add64", "internal/bytealg.IndexByteString", "internal/bytealg.IndexString"], named := ["caliper/desc.rows", "math/bits.divideError", "math/bits.overflowError", "unicode/utf8.first", "unicode/utf8.acceptRanges", "internal/strconv.uint64pow10", "math/bits.deBruijn32tab", "math/bits.deBruijn64tab", "internal/bytealg.MaxLen"], apart := false, laid := [("math/bits.deBruijn32tab", laid_math_bits_deBruijn32tab), ("math/bits.deBruijn64tab", laid_math_bits_deBruijn64tab), ("internal/strconv.uint64pow10", laid_internal_strconv_uint64pow10), ("unicode/utf8.acceptRanges", laid_unicode_utf8_acceptRanges), ("caliper/desc.rows", laid_caliper_desc_rows), ("unicode/utf8.first", laid_unicode_utf8_first)], narrowed := true }
def CrossoutTurnsUptoSaid : Prop := crossoutTurnsUptoRow.holds Tryz.pinned (OpenSpec.upto crossoutTurnsSpec)

end Rows
end Go.Proofs.YtahfkpjhlbiamaaGreatDoor
