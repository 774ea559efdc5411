/-
  NARROWER THAN 'FOR EVERY INPUT', by the rows' own cells (each row's printed sentence says how): DecimalUnpacks: laid · DecimalPacks: laid · DecimalBack: laid · DecimalCanonical: laid · DecimalApart: laid · DecimalSigns: laid.
  DERIVED. THE GIVEN ROWS OF THIS SEAT. 6 by the template 'for every input the law returns true; each argument reads behind the call as it read before'; 0 by the template 'total and deterministic' (their statements: YtjjaamdgochilaaDoorTotals.lean).
  GIVEN WITH THE SEED: the statements are not yours to turn. If you find one false, say at which input.
  Laid BY PROGRAM, IN A SANDBOX (cutbox-rows.mjs): the forced cells as the released guide's own fill.sh prints them over the translation d1c1315fab48f3c7… (all of the seat's roots in one cut). By AI agents, Wed Nov 11 2026. No macro, syntax, notation, axiom, sorry.
-/
import Derived.Test.YtjjaamdgochilaaDoorChecked
import GoSem.Claim
import GoSem.ClaimJoined
import GoSem.ClaimMapViews
import Derived.JoinedTies
import Derived.KernelRfl
namespace Go.Proofs.YtjjaamdgochilaaDoor
/- THE CELL 'sum', in the pinned program and in every row, IS THE sha256 OF THE DUMP (.gsa) THAT YtjjaamdgochilaaDoorProg.lean LOADS. Nothing in Lean hashes anything: it is a label: what it is worth is what the hold of that sum in a sandbox is worth. -/
noncomputable def Tryd.pinned : Pinned := { name := "ytjjaamdgochilaadoor", sum := "d1c1315fab48f3c7fc31b394da09823007ad77eba35fe7e4d0286802e8e15056", checked := Tryd.checked }
namespace Rows
def none {H : Type} : Left H := { results := [], args := [] }

/- WHAT THE LISTED PACKAGE-LEVEL VARIABLES READ AS WHEN THE CALL BEGINS. Each datum BY PROGRAM (the guide's laid-datum.mjs) off the statement by which the dump's own 'gosem.cut.vars' lays the variable. In a bare row this is a premise. The card (YtjjaamdgochilaaDoorCards.lean) ties it to the program's text. -/
def laid_caliper_desc_rows {H : Type} : DataW H := .agg [.agg [.lit (.string [72, 97, 108, 102]), .lit (.int .i64 16), .lit (.int .i64 11), .lit (.int .i64 5)], .agg [.lit (.string [66, 114, 97, 105, 110]), .lit (.int .i64 16), .lit (.int .i64 8), .lit (.int .i64 8)], .agg [.lit (.string [83, 105, 110, 103, 108, 101]), .lit (.int .i64 32), .lit (.int .i64 24), .lit (.int .i64 8)], .agg [.lit (.string [68, 111, 117, 98, 108, 101]), .lit (.int .i64 64), .lit (.int .i64 53), .lit (.int .i64 11)], .agg [.lit (.string [81, 117, 97, 100]), .lit (.int .i64 128), .lit (.int .i64 113), .lit (.int .i64 15)], .agg [.lit (.string [79, 99, 116, 111]), .lit (.int .i64 256), .lit (.int .i64 241), .lit (.int .i64 15)], .agg [.lit (.string [80, 108, 97, 105, 110, 51, 50]), .lit (.int .i64 32), .lit (.int .i64 7), .lit (.int .i64 96)], .agg [.lit (.string [80, 108, 97, 105, 110, 54, 52]), .lit (.int .i64 64), .lit (.int .i64 16), .lit (.int .i64 384)], .agg [.lit (.string [80, 108, 97, 105, 110, 49, 50, 56]), .lit (.int .i64 128), .lit (.int .i64 34), .lit (.int .i64 6144)], .agg [.lit (.string [68, 101, 110, 115, 101, 51, 50]), .lit (.int .i64 32), .lit (.int .i64 7), .lit (.int .i64 96)], .agg [.lit (.string [68, 101, 110, 115, 101, 54, 52]), .lit (.int .i64 64), .lit (.int .i64 16), .lit (.int .i64 384)], .agg [.lit (.string [68, 101, 110, 115, 101, 49, 50, 56]), .lit (.int .i64 128), .lit (.int .i64 34), .lit (.int .i64 6144)]]

/-- 'caliperlaw14.DecimalUnpacks': WHATEVER THE INPUT: true; the input reads as it did. -/
def decimalUnpacksSpec : ChangeSpec := { name := "decimalUnpacks", fn := fun _ => fun
  | [d1, d2] => { results := [.lit (.bool true)], args := [d1, d2] }
  | _ => none }
def decimalUnpacksRow : OpenClaim := { program := "ytjjaamdgochilaadoor", sum := "d1c1315fab48f3c7fc31b394da09823007ad77eba35fe7e4d0286802e8e15056", func := "caliper/caliperlaw14.DecimalUnpacks", spec := "decimalUnpacks", inPlace := ["math/bits.Add64", "math/bits.Sub64"], named := ["caliper/desc.rows", "math/bits.divideError", "math/bits.overflowError"], apart := false, laid := [("caliper/desc.rows", laid_caliper_desc_rows)] }
def DecimalUnpacksSaid : Prop := decimalUnpacksRow.holds Tryd.pinned (OpenSpec.ofChange decimalUnpacksSpec)

/-- ITS FALSE NEIGHBOUR: 'it returns false'. Refute it at one input. -/
def decimalUnpacksWrong : ChangeSpec := { name := "decimalUnpacks", fn := fun _ => fun
  | [d1, d2] => { results := [.lit (.bool false)], args := [d1, d2] }
  | _ => none }
def DecimalUnpacksWrongFalsely : Prop := decimalUnpacksRow.holds Tryd.pinned (OpenSpec.ofChange decimalUnpacksWrong)

/-- 'caliperlaw14.DecimalPacks': WHATEVER THE INPUT: true; the input reads as it did. -/
def decimalPacksSpec : ChangeSpec := { name := "decimalPacks", fn := fun _ => fun
  | [d1, d2] => { results := [.lit (.bool true)], args := [d1, d2] }
  | _ => none }
def decimalPacksRow : OpenClaim := { program := "ytjjaamdgochilaadoor", sum := "d1c1315fab48f3c7fc31b394da09823007ad77eba35fe7e4d0286802e8e15056", func := "caliper/caliperlaw14.DecimalPacks", spec := "decimalPacks", inPlace := ["math/bits.Add64", "math/bits.Sub64"], named := ["caliper/desc.rows", "math/bits.divideError", "math/bits.overflowError"], apart := false, laid := [("caliper/desc.rows", laid_caliper_desc_rows)] }
def DecimalPacksSaid : Prop := decimalPacksRow.holds Tryd.pinned (OpenSpec.ofChange decimalPacksSpec)

/-- ITS FALSE NEIGHBOUR: 'it returns false'. Refute it at one input. -/
def decimalPacksWrong : ChangeSpec := { name := "decimalPacks", fn := fun _ => fun
  | [d1, d2] => { results := [.lit (.bool false)], args := [d1, d2] }
  | _ => none }
def DecimalPacksWrongFalsely : Prop := decimalPacksRow.holds Tryd.pinned (OpenSpec.ofChange decimalPacksWrong)

/-- 'caliperlaw14.DecimalBack': WHATEVER THE INPUT: true; the input reads as it did. -/
def decimalBackSpec : ChangeSpec := { name := "decimalBack", fn := fun _ => fun
  | [d1, d2, d3] => { results := [.lit (.bool true)], args := [d1, d2, d3] }
  | _ => none }
def decimalBackRow : OpenClaim := { program := "ytjjaamdgochilaadoor", sum := "d1c1315fab48f3c7fc31b394da09823007ad77eba35fe7e4d0286802e8e15056", func := "caliper/caliperlaw14.DecimalBack", spec := "decimalBack", inPlace := ["math/bits.Add64", "math/bits.Sub64"], named := ["caliper/desc.rows", "math/bits.divideError", "math/bits.overflowError"], apart := false, laid := [("caliper/desc.rows", laid_caliper_desc_rows)] }
def DecimalBackSaid : Prop := decimalBackRow.holds Tryd.pinned (OpenSpec.ofChange decimalBackSpec)

/-- ITS FALSE NEIGHBOUR: 'it returns false'. Refute it at one input. -/
def decimalBackWrong : ChangeSpec := { name := "decimalBack", fn := fun _ => fun
  | [d1, d2, d3] => { results := [.lit (.bool false)], args := [d1, d2, d3] }
  | _ => none }
def DecimalBackWrongFalsely : Prop := decimalBackRow.holds Tryd.pinned (OpenSpec.ofChange decimalBackWrong)

/-- 'caliperlaw14.DecimalCanonical': WHATEVER THE INPUT: true; the input reads as it did. -/
def decimalCanonicalSpec : ChangeSpec := { name := "decimalCanonical", fn := fun _ => fun
  | [d1, d2] => { results := [.lit (.bool true)], args := [d1, d2] }
  | _ => none }
def decimalCanonicalRow : OpenClaim := { program := "ytjjaamdgochilaadoor", sum := "d1c1315fab48f3c7fc31b394da09823007ad77eba35fe7e4d0286802e8e15056", func := "caliper/caliperlaw14.DecimalCanonical", spec := "decimalCanonical", inPlace := ["math/bits.Add64", "math/bits.Sub64"], named := ["caliper/desc.rows", "math/bits.divideError", "math/bits.overflowError"], apart := false, laid := [("caliper/desc.rows", laid_caliper_desc_rows)] }
def DecimalCanonicalSaid : Prop := decimalCanonicalRow.holds Tryd.pinned (OpenSpec.ofChange decimalCanonicalSpec)

/-- ITS FALSE NEIGHBOUR: 'it returns false'. Refute it at one input. -/
def decimalCanonicalWrong : ChangeSpec := { name := "decimalCanonical", fn := fun _ => fun
  | [d1, d2] => { results := [.lit (.bool false)], args := [d1, d2] }
  | _ => none }
def DecimalCanonicalWrongFalsely : Prop := decimalCanonicalRow.holds Tryd.pinned (OpenSpec.ofChange decimalCanonicalWrong)

/-- 'caliperlaw14.DecimalApart': WHATEVER THE INPUT: true; the input reads as it did. -/
def decimalApartSpec : ChangeSpec := { name := "decimalApart", fn := fun _ => fun
  | [d1, d2, d3] => { results := [.lit (.bool true)], args := [d1, d2, d3] }
  | _ => none }
def decimalApartRow : OpenClaim := { program := "ytjjaamdgochilaadoor", sum := "d1c1315fab48f3c7fc31b394da09823007ad77eba35fe7e4d0286802e8e15056", func := "caliper/caliperlaw14.DecimalApart", spec := "decimalApart", inPlace := ["math/bits.Add64", "math/bits.Sub64"], named := ["caliper/desc.rows", "math/bits.divideError", "math/bits.overflowError"], apart := false, laid := [("caliper/desc.rows", laid_caliper_desc_rows)] }
def DecimalApartSaid : Prop := decimalApartRow.holds Tryd.pinned (OpenSpec.ofChange decimalApartSpec)

/-- ITS FALSE NEIGHBOUR: 'it returns false'. Refute it at one input. -/
def decimalApartWrong : ChangeSpec := { name := "decimalApart", fn := fun _ => fun
  | [d1, d2, d3] => { results := [.lit (.bool false)], args := [d1, d2, d3] }
  | _ => none }
def DecimalApartWrongFalsely : Prop := decimalApartRow.holds Tryd.pinned (OpenSpec.ofChange decimalApartWrong)

/-- 'caliperlaw14.DecimalSigns': WHATEVER THE INPUT: true; the input reads as it did. -/
def decimalSignsSpec : ChangeSpec := { name := "decimalSigns", fn := fun _ => fun
  | [d1, d2] => { results := [.lit (.bool true)], args := [d1, d2] }
  | _ => none }
def decimalSignsRow : OpenClaim := { program := "ytjjaamdgochilaadoor", sum := "d1c1315fab48f3c7fc31b394da09823007ad77eba35fe7e4d0286802e8e15056", func := "caliper/caliperlaw14.DecimalSigns", spec := "decimalSigns", inPlace := ["math/bits.Add64", "math/bits.Sub64"], named := ["caliper/desc.rows", "math/bits.divideError", "math/bits.overflowError"], apart := false, laid := [("caliper/desc.rows", laid_caliper_desc_rows)] }
def DecimalSignsSaid : Prop := decimalSignsRow.holds Tryd.pinned (OpenSpec.ofChange decimalSignsSpec)

/-- ITS FALSE NEIGHBOUR: 'it returns false'. Refute it at one input. -/
def decimalSignsWrong : ChangeSpec := { name := "decimalSigns", fn := fun _ => fun
  | [d1, d2] => { results := [.lit (.bool false)], args := [d1, d2] }
  | _ => none }
def DecimalSignsWrongFalsely : Prop := decimalSignsRow.holds Tryd.pinned (OpenSpec.ofChange decimalSignsWrong)

/- THE SECOND FORM. 'bulk': how many values and letters a reading holds, each counted each time it is reached (what is shared counts as often as it is met; a slice's spare places count too). A statement '..UptoSaid' is the law's where the arguments, and the package variables that the reading takes, are together of bulk at most 1048576: NARROWER than '..Said'. Prove '..Said' where nothing that the law and all that it calls make is longer than what came in: it says more and counts as full. Else prove '..UptoSaid'. A law counts once. -/
mutual
def uptoBulk {H : Type} : DataW H → Nat
  | .lit (.string bytes) => bytes.length + 1
  | .lit _ => 1
  | .nil => 1
  | .ptr d => uptoBulk d + 1
  | .slice elems spare => uptoBulkAll elems + uptoBulkAll spare + 1
  | .agg parts => uptoBulkAll parts + 1
  | .iface _ d => uptoBulk d + 1
  | .map entries => uptoBulkEntries entries + 1
  | .held _ => 1
def uptoBulkAll {H : Type} : List (DataW H) → Nat
  | [] => 0
  | d :: r => uptoBulk d + uptoBulkAll r
def uptoBulkEntries {H : Type} : List (Lit × DataW H) → Nat
  | [] => 0
  | x :: r => uptoBulkEntry x + uptoBulkEntries r
def uptoBulkEntry {H : Type} : Lit × DataW H → Nat
  | (.string bytes, d) => bytes.length + uptoBulk d + 1
  | (_, d) => uptoBulk d + 1
 end
def uptoSmall : (H : Type) → List (DataW H) → Bool := fun _ ds => decide (uptoBulkAll ds ≤ 1048576)
def OpenSpec.upto (s : _root_.Go.ChangeSpec) : _root_.Go.OpenSpec := { _root_.Go.OpenSpec.ofChange s with cond := some uptoSmall }

/-- 'caliperlaw14.DecimalUnpacks', WHERE WHAT IT READS IS OF BULK AT MOST 1048576: true; the input reads as it did. -/
def decimalUnpacksUptoRow : OpenClaim := { program := "ytjjaamdgochilaadoor", sum := "d1c1315fab48f3c7fc31b394da09823007ad77eba35fe7e4d0286802e8e15056", func := "caliper/caliperlaw14.DecimalUnpacks", spec := "decimalUnpacks", inPlace := ["math/bits.Add64", "math/bits.Sub64"], named := ["caliper/desc.rows", "math/bits.divideError", "math/bits.overflowError"], apart := false, laid := [("caliper/desc.rows", laid_caliper_desc_rows)], narrowed := true }
def DecimalUnpacksUptoSaid : Prop := decimalUnpacksUptoRow.holds Tryd.pinned (OpenSpec.upto decimalUnpacksSpec)

/-- 'caliperlaw14.DecimalPacks', WHERE WHAT IT READS IS OF BULK AT MOST 1048576: true; the input reads as it did. -/
def decimalPacksUptoRow : OpenClaim := { program := "ytjjaamdgochilaadoor", sum := "d1c1315fab48f3c7fc31b394da09823007ad77eba35fe7e4d0286802e8e15056", func := "caliper/caliperlaw14.DecimalPacks", spec := "decimalPacks", inPlace := ["math/bits.Add64", "math/bits.Sub64"], named := ["caliper/desc.rows", "math/bits.divideError", "math/bits.overflowError"], apart := false, laid := [("caliper/desc.rows", laid_caliper_desc_rows)], narrowed := true }
def DecimalPacksUptoSaid : Prop := decimalPacksUptoRow.holds Tryd.pinned (OpenSpec.upto decimalPacksSpec)

/-- 'caliperlaw14.DecimalBack', WHERE WHAT IT READS IS OF BULK AT MOST 1048576: true; the input reads as it did. -/
def decimalBackUptoRow : OpenClaim := { program := "ytjjaamdgochilaadoor", sum := "d1c1315fab48f3c7fc31b394da09823007ad77eba35fe7e4d0286802e8e15056", func := "caliper/caliperlaw14.DecimalBack", spec := "decimalBack", inPlace := ["math/bits.Add64", "math/bits.Sub64"], named := ["caliper/desc.rows", "math/bits.divideError", "math/bits.overflowError"], apart := false, laid := [("caliper/desc.rows", laid_caliper_desc_rows)], narrowed := true }
def DecimalBackUptoSaid : Prop := decimalBackUptoRow.holds Tryd.pinned (OpenSpec.upto decimalBackSpec)

/-- 'caliperlaw14.DecimalCanonical', WHERE WHAT IT READS IS OF BULK AT MOST 1048576: true; the input reads as it did. -/
def decimalCanonicalUptoRow : OpenClaim := { program := "ytjjaamdgochilaadoor", sum := "d1c1315fab48f3c7fc31b394da09823007ad77eba35fe7e4d0286802e8e15056", func := "caliper/caliperlaw14.DecimalCanonical", spec := "decimalCanonical", inPlace := ["math/bits.Add64", "math/bits.Sub64"], named := ["caliper/desc.rows", "math/bits.divideError", "math/bits.overflowError"], apart := false, laid := [("caliper/desc.rows", laid_caliper_desc_rows)], narrowed := true }
def DecimalCanonicalUptoSaid : Prop := decimalCanonicalUptoRow.holds Tryd.pinned (OpenSpec.upto decimalCanonicalSpec)

/-- 'caliperlaw14.DecimalApart', WHERE WHAT IT READS IS OF BULK AT MOST 1048576: true; the input reads as it did. -/
def decimalApartUptoRow : OpenClaim := { program := "ytjjaamdgochilaadoor", sum := "d1c1315fab48f3c7fc31b394da09823007ad77eba35fe7e4d0286802e8e15056", func := "caliper/caliperlaw14.DecimalApart", spec := "decimalApart", inPlace := ["math/bits.Add64", "math/bits.Sub64"], named := ["caliper/desc.rows", "math/bits.divideError", "math/bits.overflowError"], apart := false, laid := [("caliper/desc.rows", laid_caliper_desc_rows)], narrowed := true }
def DecimalApartUptoSaid : Prop := decimalApartUptoRow.holds Tryd.pinned (OpenSpec.upto decimalApartSpec)

/-- 'caliperlaw14.DecimalSigns', WHERE WHAT IT READS IS OF BULK AT MOST 1048576: true; the input reads as it did. -/
def decimalSignsUptoRow : OpenClaim := { program := "ytjjaamdgochilaadoor", sum := "d1c1315fab48f3c7fc31b394da09823007ad77eba35fe7e4d0286802e8e15056", func := "caliper/caliperlaw14.DecimalSigns", spec := "decimalSigns", inPlace := ["math/bits.Add64", "math/bits.Sub64"], named := ["caliper/desc.rows", "math/bits.divideError", "math/bits.overflowError"], apart := false, laid := [("caliper/desc.rows", laid_caliper_desc_rows)], narrowed := true }
def DecimalSignsUptoSaid : Prop := decimalSignsUptoRow.holds Tryd.pinned (OpenSpec.upto decimalSignsSpec)

end Rows
end Go.Proofs.YtjjaamdgochilaaDoor
