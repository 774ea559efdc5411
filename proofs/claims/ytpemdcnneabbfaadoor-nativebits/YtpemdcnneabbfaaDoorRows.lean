/-
  NARROWER THAN 'FOR EVERY INPUT', by the rows' own cells (each row's printed sentence says how): NativeBits: laid · NativeNarrows: laid · NativeWidens: laid · NativeHalves: laid.
  DERIVED. THE GIVEN ROWS OF THIS SEAT. 4 by the template 'for every input the law returns true; each argument reads behind the call as it read before'; 0 by the template 'total and deterministic' (their statements: YtpemdcnneabbfaaDoorTotals.lean).
  GIVEN WITH THE SEED: the statements are not yours to turn. If you find one false, say at which input.
  Laid BY PROGRAM, IN A SANDBOX (cutbox-rows.mjs): the forced cells as the released guide's own fill.sh prints them over the translation 1383a6e4b5ada244… (all of the seat's roots in one cut). By AI agents, Wed Nov 11 2026. No macro, syntax, notation, axiom, sorry.
-/
import Derived.Test.YtpemdcnneabbfaaDoorChecked
import GoSem.Claim
import GoSem.ClaimJoined
import GoSem.ClaimMapViews
import Derived.JoinedTies
import Derived.KernelRfl
namespace Go.Proofs.YtpemdcnneabbfaaDoor
/- THE CELL 'sum', in the pinned program and in every row, IS THE sha256 OF THE DUMP (.gsa) THAT YtpemdcnneabbfaaDoorProg.lean LOADS. Nothing in Lean hashes anything: it is a label: what it is worth is what the hold of that sum in a sandbox is worth. -/
noncomputable def Tryd.pinned : Pinned := { name := "ytpemdcnneabbfaadoor", sum := "1383a6e4b5ada2448ca4482fcaa18b42b4054ad6388d7252789c169d4301ef14", checked := Tryd.checked }
namespace Rows
def none {H : Type} : Left H := { results := [], args := [] }

/- WHAT THE LISTED PACKAGE-LEVEL VARIABLES READ AS WHEN THE CALL BEGINS. Each datum BY PROGRAM (the guide's laid-datum.mjs) off the statement by which the dump's own 'gosem.cut.vars' lays the variable. In a bare row this is a premise. The card (YtpemdcnneabbfaaDoorCards.lean) ties it to the program's text. -/
def laid_caliper_desc_rows {H : Type} : DataW H := .agg [.agg [.lit (.string [72, 97, 108, 102]), .lit (.int .i64 16), .lit (.int .i64 11), .lit (.int .i64 5)], .agg [.lit (.string [66, 114, 97, 105, 110]), .lit (.int .i64 16), .lit (.int .i64 8), .lit (.int .i64 8)], .agg [.lit (.string [83, 105, 110, 103, 108, 101]), .lit (.int .i64 32), .lit (.int .i64 24), .lit (.int .i64 8)], .agg [.lit (.string [68, 111, 117, 98, 108, 101]), .lit (.int .i64 64), .lit (.int .i64 53), .lit (.int .i64 11)], .agg [.lit (.string [81, 117, 97, 100]), .lit (.int .i64 128), .lit (.int .i64 113), .lit (.int .i64 15)], .agg [.lit (.string [79, 99, 116, 111]), .lit (.int .i64 256), .lit (.int .i64 241), .lit (.int .i64 15)], .agg [.lit (.string [80, 108, 97, 105, 110, 51, 50]), .lit (.int .i64 32), .lit (.int .i64 7), .lit (.int .i64 96)], .agg [.lit (.string [80, 108, 97, 105, 110, 54, 52]), .lit (.int .i64 64), .lit (.int .i64 16), .lit (.int .i64 384)], .agg [.lit (.string [80, 108, 97, 105, 110, 49, 50, 56]), .lit (.int .i64 128), .lit (.int .i64 34), .lit (.int .i64 6144)], .agg [.lit (.string [68, 101, 110, 115, 101, 51, 50]), .lit (.int .i64 32), .lit (.int .i64 7), .lit (.int .i64 96)], .agg [.lit (.string [68, 101, 110, 115, 101, 54, 52]), .lit (.int .i64 64), .lit (.int .i64 16), .lit (.int .i64 384)], .agg [.lit (.string [68, 101, 110, 115, 101, 49, 50, 56]), .lit (.int .i64 128), .lit (.int .i64 34), .lit (.int .i64 6144)]]

/-- 'caliperlaw21.NativeBits': WHATEVER THE INPUT: true; the input reads as it did. -/
def nativeBitsSpec : ChangeSpec := { name := "nativeBits", fn := fun _ => fun
  | [d1, d2, d3] => { results := [.lit (.bool true)], args := [d1, d2, d3] }
  | _ => none }
def nativeBitsRow : OpenClaim := { program := "ytpemdcnneabbfaadoor", sum := "1383a6e4b5ada2448ca4482fcaa18b42b4054ad6388d7252789c169d4301ef14", func := "caliper/caliperlaw21.NativeBits", spec := "nativeBits", inPlace := ["math.Float64bits", "math/bits.Sub64", "math/bits.Add64", "math.Float32frombits", "math.Float32bits", "math.Float64frombits"], named := ["caliper/desc.rows", "math/bits.divideError", "math/bits.overflowError"], apart := false, laid := [("caliper/desc.rows", laid_caliper_desc_rows)] }
def NativeBitsSaid : Prop := nativeBitsRow.holds Tryd.pinned (OpenSpec.ofChange nativeBitsSpec)

/-- ITS FALSE NEIGHBOUR: 'it returns false'. Refute it at one input. -/
def nativeBitsWrong : ChangeSpec := { name := "nativeBits", fn := fun _ => fun
  | [d1, d2, d3] => { results := [.lit (.bool false)], args := [d1, d2, d3] }
  | _ => none }
def NativeBitsWrongFalsely : Prop := nativeBitsRow.holds Tryd.pinned (OpenSpec.ofChange nativeBitsWrong)

/-- 'caliperlaw21.NativeNarrows': WHATEVER THE INPUT: true; the input reads as it did. -/
def nativeNarrowsSpec : ChangeSpec := { name := "nativeNarrows", fn := fun _ => fun
  | [d] => { results := [.lit (.bool true)], args := [d] }
  | _ => none }
def nativeNarrowsRow : OpenClaim := { program := "ytpemdcnneabbfaadoor", sum := "1383a6e4b5ada2448ca4482fcaa18b42b4054ad6388d7252789c169d4301ef14", func := "caliper/caliperlaw21.NativeNarrows", spec := "nativeNarrows", inPlace := ["math.Float64bits", "math/bits.Sub64", "math/bits.Add64", "math.Float32frombits", "math.Float32bits", "math.Float64frombits"], named := ["caliper/desc.rows", "math/bits.divideError", "math/bits.overflowError"], apart := false, laid := [("caliper/desc.rows", laid_caliper_desc_rows)] }
def NativeNarrowsSaid : Prop := nativeNarrowsRow.holds Tryd.pinned (OpenSpec.ofChange nativeNarrowsSpec)

/-- ITS FALSE NEIGHBOUR: 'it returns false'. Refute it at one input. -/
def nativeNarrowsWrong : ChangeSpec := { name := "nativeNarrows", fn := fun _ => fun
  | [d] => { results := [.lit (.bool false)], args := [d] }
  | _ => none }
def NativeNarrowsWrongFalsely : Prop := nativeNarrowsRow.holds Tryd.pinned (OpenSpec.ofChange nativeNarrowsWrong)

/-- 'caliperlaw21.NativeWidens': WHATEVER THE INPUT: true; the input reads as it did. -/
def nativeWidensSpec : ChangeSpec := { name := "nativeWidens", fn := fun _ => fun
  | [d1, d2] => { results := [.lit (.bool true)], args := [d1, d2] }
  | _ => none }
def nativeWidensRow : OpenClaim := { program := "ytpemdcnneabbfaadoor", sum := "1383a6e4b5ada2448ca4482fcaa18b42b4054ad6388d7252789c169d4301ef14", func := "caliper/caliperlaw21.NativeWidens", spec := "nativeWidens", inPlace := ["math.Float64bits", "math/bits.Sub64", "math/bits.Add64", "math.Float32frombits", "math.Float32bits"], named := ["caliper/desc.rows", "math/bits.divideError", "math/bits.overflowError"], apart := false, laid := [("caliper/desc.rows", laid_caliper_desc_rows)] }
def NativeWidensSaid : Prop := nativeWidensRow.holds Tryd.pinned (OpenSpec.ofChange nativeWidensSpec)

/-- ITS FALSE NEIGHBOUR: 'it returns false'. Refute it at one input. -/
def nativeWidensWrong : ChangeSpec := { name := "nativeWidens", fn := fun _ => fun
  | [d1, d2] => { results := [.lit (.bool false)], args := [d1, d2] }
  | _ => none }
def NativeWidensWrongFalsely : Prop := nativeWidensRow.holds Tryd.pinned (OpenSpec.ofChange nativeWidensWrong)

/-- 'caliperlaw21.NativeHalves': WHATEVER THE INPUT: true; the input reads as it did. -/
def nativeHalvesSpec : ChangeSpec := { name := "nativeHalves", fn := fun _ => fun
  | [d] => { results := [.lit (.bool true)], args := [d] }
  | _ => none }
def nativeHalvesRow : OpenClaim := { program := "ytpemdcnneabbfaadoor", sum := "1383a6e4b5ada2448ca4482fcaa18b42b4054ad6388d7252789c169d4301ef14", func := "caliper/caliperlaw21.NativeHalves", spec := "nativeHalves", inPlace := ["math.Float64bits", "math/bits.Sub64", "math/bits.Add64", "math.Float32frombits", "math.Float32bits", "math.Float64frombits"], named := ["caliper/desc.rows", "math/bits.divideError", "math/bits.overflowError"], apart := false, laid := [("caliper/desc.rows", laid_caliper_desc_rows)] }
def NativeHalvesSaid : Prop := nativeHalvesRow.holds Tryd.pinned (OpenSpec.ofChange nativeHalvesSpec)

/-- ITS FALSE NEIGHBOUR: 'it returns false'. Refute it at one input. -/
def nativeHalvesWrong : ChangeSpec := { name := "nativeHalves", fn := fun _ => fun
  | [d] => { results := [.lit (.bool false)], args := [d] }
  | _ => none }
def NativeHalvesWrongFalsely : Prop := nativeHalvesRow.holds Tryd.pinned (OpenSpec.ofChange nativeHalvesWrong)

/- THE SECOND FORM. 'bulk': how many values and letters a reading holds, each counted each time it is reached (what is shared counts as often as it is met; a slice's spare places count too). A statement '..UptoSaid' is the law's where the arguments, and the package variables that the reading takes, are together of bulk at most 1048576: NARROWER than '..Said'. Prove '..Said' where nothing that the law and all that it calls make is longer than what came in: it says more and counts as full. Else prove '..UptoSaid'. A law counts once. -/
mutual
def uptoBulk {H : Type} : DataW H → Nat
  | .lit (.string bytes) => bytes.length + 1
  | .lit _ => 1
  | .nil => 1
  | .ptr d => uptoBulk d + 1
  | .slice elems spare => uptoBulkAll elems + uptoBulkAll spare + 1
  | .agg parts => uptoBulkAll parts + 1
  | .iface _ d => uptoBulk d + 1
  | .map entries => uptoBulkEntries entries + 1
  | .held _ => 1
def uptoBulkAll {H : Type} : List (DataW H) → Nat
  | [] => 0
  | d :: r => uptoBulk d + uptoBulkAll r
def uptoBulkEntries {H : Type} : List (Lit × DataW H) → Nat
  | [] => 0
  | x :: r => uptoBulkEntry x + uptoBulkEntries r
def uptoBulkEntry {H : Type} : Lit × DataW H → Nat
  | (.string bytes, d) => bytes.length + uptoBulk d + 1
  | (_, d) => uptoBulk d + 1
 end
def uptoSmall : (H : Type) → List (DataW H) → Bool := fun _ ds => decide (uptoBulkAll ds ≤ 1048576)
def OpenSpec.upto (s : _root_.Go.ChangeSpec) : _root_.Go.OpenSpec := { _root_.Go.OpenSpec.ofChange s with cond := some uptoSmall }

/-- 'caliperlaw21.NativeBits', WHERE WHAT IT READS IS OF BULK AT MOST 1048576: true; the input reads as it did. -/
def nativeBitsUptoRow : OpenClaim := { program := "ytpemdcnneabbfaadoor", sum := "1383a6e4b5ada2448ca4482fcaa18b42b4054ad6388d7252789c169d4301ef14", func := "caliper/caliperlaw21.NativeBits", spec := "nativeBits", inPlace := ["math.Float64bits", "math/bits.Sub64", "math/bits.Add64", "math.Float32frombits", "math.Float32bits", "math.Float64frombits"], named := ["caliper/desc.rows", "math/bits.divideError", "math/bits.overflowError"], apart := false, laid := [("caliper/desc.rows", laid_caliper_desc_rows)], narrowed := true }
def NativeBitsUptoSaid : Prop := nativeBitsUptoRow.holds Tryd.pinned (OpenSpec.upto nativeBitsSpec)

/-- 'caliperlaw21.NativeNarrows', WHERE WHAT IT READS IS OF BULK AT MOST 1048576: true; the input reads as it did. -/
def nativeNarrowsUptoRow : OpenClaim := { program := "ytpemdcnneabbfaadoor", sum := "1383a6e4b5ada2448ca4482fcaa18b42b4054ad6388d7252789c169d4301ef14", func := "caliper/caliperlaw21.NativeNarrows", spec := "nativeNarrows", inPlace := ["math.Float64bits", "math/bits.Sub64", "math/bits.Add64", "math.Float32frombits", "math.Float32bits", "math.Float64frombits"], named := ["caliper/desc.rows", "math/bits.divideError", "math/bits.overflowError"], apart := false, laid := [("caliper/desc.rows", laid_caliper_desc_rows)], narrowed := true }
def NativeNarrowsUptoSaid : Prop := nativeNarrowsUptoRow.holds Tryd.pinned (OpenSpec.upto nativeNarrowsSpec)

/-- 'caliperlaw21.NativeWidens', WHERE WHAT IT READS IS OF BULK AT MOST 1048576: true; the input reads as it did. -/
def nativeWidensUptoRow : OpenClaim := { program := "ytpemdcnneabbfaadoor", sum := "1383a6e4b5ada2448ca4482fcaa18b42b4054ad6388d7252789c169d4301ef14", func := "caliper/caliperlaw21.NativeWidens", spec := "nativeWidens", inPlace := ["math.Float64bits", "math/bits.Sub64", "math/bits.Add64", "math.Float32frombits", "math.Float32bits"], named := ["caliper/desc.rows", "math/bits.divideError", "math/bits.overflowError"], apart := false, laid := [("caliper/desc.rows", laid_caliper_desc_rows)], narrowed := true }
def NativeWidensUptoSaid : Prop := nativeWidensUptoRow.holds Tryd.pinned (OpenSpec.upto nativeWidensSpec)

/-- 'caliperlaw21.NativeHalves', WHERE WHAT IT READS IS OF BULK AT MOST 1048576: true; the input reads as it did. -/
def nativeHalvesUptoRow : OpenClaim := { program := "ytpemdcnneabbfaadoor", sum := "1383a6e4b5ada2448ca4482fcaa18b42b4054ad6388d7252789c169d4301ef14", func := "caliper/caliperlaw21.NativeHalves", spec := "nativeHalves", inPlace := ["math.Float64bits", "math/bits.Sub64", "math/bits.Add64", "math.Float32frombits", "math.Float32bits", "math.Float64frombits"], named := ["caliper/desc.rows", "math/bits.divideError", "math/bits.overflowError"], apart := false, laid := [("caliper/desc.rows", laid_caliper_desc_rows)], narrowed := true }
def NativeHalvesUptoSaid : Prop := nativeHalvesUptoRow.holds Tryd.pinned (OpenSpec.upto nativeHalvesSpec)

end Rows
end Go.Proofs.YtpemdcnneabbfaaDoor
