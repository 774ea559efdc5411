/-
  NARROWER THAN 'FOR EVERY INPUT', by the rows' own cells (each row's printed sentence says how): BinaryUnpacks: laid · BinaryPacks: laid · BinaryBack: laid · BinaryQuiets: laid · BinaryRises: laid · BinarySigns: laid.
  DERIVED. THE GIVEN ROWS OF THIS SEAT. 6 by the template 'for every input the law returns true; each argument reads behind the call as it read before'; 0 by the template 'total and deterministic' (their statements: YtemhpdhplbcgjaaDoorTotals.lean).
  GIVEN WITH THE SEED: the statements are not yours to turn. If you find one false, say at which input.
  Laid BY PROGRAM, IN A SANDBOX (cutbox-rows.mjs): the forced cells as the released guide's own fill.sh prints them over the translation 7388216cca23b9dc… (all of the seat's roots in one cut). By AI agents, Wed Nov 11 2026. No macro, syntax, notation, axiom, sorry.
-/
import Derived.Test.YtemhpdhplbcgjaaDoorChecked
import GoSem.Claim
import GoSem.ClaimJoined
import GoSem.ClaimMapViews
import Derived.JoinedTies
import Derived.KernelRfl
namespace Go.Proofs.YtemhpdhplbcgjaaDoor
/- THE CELL 'sum', in the pinned program and in every row, IS THE sha256 OF THE DUMP (.gsa) THAT YtemhpdhplbcgjaaDoorProg.lean LOADS. Nothing in Lean hashes anything: it is a label: what it is worth is what the hold of that sum in a sandbox is worth. -/
noncomputable def Tryd.pinned : Pinned := { name := "ytemhpdhplbcgjaadoor", sum := "7388216cca23b9dceb86329864b0bf88b1debdda5562688fe46648d35c61cda5", checked := Tryd.checked }
namespace Rows
def none {H : Type} : Left H := { results := [], args := [] }

/- WHAT THE LISTED PACKAGE-LEVEL VARIABLES READ AS WHEN THE CALL BEGINS. Each datum BY PROGRAM (the guide's laid-datum.mjs) off the statement by which the dump's own 'gosem.cut.vars' lays the variable. In a bare row this is a premise. The card (YtemhpdhplbcgjaaDoorCards.lean) ties it to the program's text. -/
def laid_caliper_desc_rows {H : Type} : DataW H := .agg [.agg [.lit (.string [72, 97, 108, 102]), .lit (.int .i64 16), .lit (.int .i64 11), .lit (.int .i64 5)], .agg [.lit (.string [66, 114, 97, 105, 110]), .lit (.int .i64 16), .lit (.int .i64 8), .lit (.int .i64 8)], .agg [.lit (.string [83, 105, 110, 103, 108, 101]), .lit (.int .i64 32), .lit (.int .i64 24), .lit (.int .i64 8)], .agg [.lit (.string [68, 111, 117, 98, 108, 101]), .lit (.int .i64 64), .lit (.int .i64 53), .lit (.int .i64 11)], .agg [.lit (.string [81, 117, 97, 100]), .lit (.int .i64 128), .lit (.int .i64 113), .lit (.int .i64 15)], .agg [.lit (.string [79, 99, 116, 111]), .lit (.int .i64 256), .lit (.int .i64 241), .lit (.int .i64 15)], .agg [.lit (.string [80, 108, 97, 105, 110, 51, 50]), .lit (.int .i64 32), .lit (.int .i64 7), .lit (.int .i64 96)], .agg [.lit (.string [80, 108, 97, 105, 110, 54, 52]), .lit (.int .i64 64), .lit (.int .i64 16), .lit (.int .i64 384)], .agg [.lit (.string [80, 108, 97, 105, 110, 49, 50, 56]), .lit (.int .i64 128), .lit (.int .i64 34), .lit (.int .i64 6144)], .agg [.lit (.string [68, 101, 110, 115, 101, 51, 50]), .lit (.int .i64 32), .lit (.int .i64 7), .lit (.int .i64 96)], .agg [.lit (.string [68, 101, 110, 115, 101, 54, 52]), .lit (.int .i64 64), .lit (.int .i64 16), .lit (.int .i64 384)], .agg [.lit (.string [68, 101, 110, 115, 101, 49, 50, 56]), .lit (.int .i64 128), .lit (.int .i64 34), .lit (.int .i64 6144)]]

/-- 'caliperlaw05.BinaryUnpacks': WHATEVER THE INPUT: true; the input reads as it did. -/
def binaryUnpacksSpec : ChangeSpec := { name := "binaryUnpacks", fn := fun _ => fun
  | [d1, d2] => { results := [.lit (.bool true)], args := [d1, d2] }
  | _ => none }
def binaryUnpacksRow : OpenClaim := { program := "ytemhpdhplbcgjaadoor", sum := "7388216cca23b9dceb86329864b0bf88b1debdda5562688fe46648d35c61cda5", func := "caliper/caliperlaw05.BinaryUnpacks", spec := "binaryUnpacks", inPlace := ["math/bits.Sub64", "math/bits.Add64"], named := ["caliper/desc.rows"], apart := false, laid := [("caliper/desc.rows", laid_caliper_desc_rows)] }
def BinaryUnpacksSaid : Prop := binaryUnpacksRow.holds Tryd.pinned (OpenSpec.ofChange binaryUnpacksSpec)

/-- ITS FALSE NEIGHBOUR: 'it returns false'. Refute it at one input. -/
def binaryUnpacksWrong : ChangeSpec := { name := "binaryUnpacks", fn := fun _ => fun
  | [d1, d2] => { results := [.lit (.bool false)], args := [d1, d2] }
  | _ => none }
def BinaryUnpacksWrongFalsely : Prop := binaryUnpacksRow.holds Tryd.pinned (OpenSpec.ofChange binaryUnpacksWrong)

/-- 'caliperlaw05.BinaryPacks': WHATEVER THE INPUT: true; the input reads as it did. -/
def binaryPacksSpec : ChangeSpec := { name := "binaryPacks", fn := fun _ => fun
  | [d1, d2, d3] => { results := [.lit (.bool true)], args := [d1, d2, d3] }
  | _ => none }
def binaryPacksRow : OpenClaim := { program := "ytemhpdhplbcgjaadoor", sum := "7388216cca23b9dceb86329864b0bf88b1debdda5562688fe46648d35c61cda5", func := "caliper/caliperlaw05.BinaryPacks", spec := "binaryPacks", inPlace := ["math/bits.Sub64", "math/bits.Add64"], named := ["caliper/desc.rows"], apart := false, laid := [("caliper/desc.rows", laid_caliper_desc_rows)] }
def BinaryPacksSaid : Prop := binaryPacksRow.holds Tryd.pinned (OpenSpec.ofChange binaryPacksSpec)

/-- ITS FALSE NEIGHBOUR: 'it returns false'. Refute it at one input. -/
def binaryPacksWrong : ChangeSpec := { name := "binaryPacks", fn := fun _ => fun
  | [d1, d2, d3] => { results := [.lit (.bool false)], args := [d1, d2, d3] }
  | _ => none }
def BinaryPacksWrongFalsely : Prop := binaryPacksRow.holds Tryd.pinned (OpenSpec.ofChange binaryPacksWrong)

/-- 'caliperlaw05.BinaryBack': WHATEVER THE INPUT: true; the input reads as it did. -/
def binaryBackSpec : ChangeSpec := { name := "binaryBack", fn := fun _ => fun
  | [d1, d2, d3] => { results := [.lit (.bool true)], args := [d1, d2, d3] }
  | _ => none }
def binaryBackRow : OpenClaim := { program := "ytemhpdhplbcgjaadoor", sum := "7388216cca23b9dceb86329864b0bf88b1debdda5562688fe46648d35c61cda5", func := "caliper/caliperlaw05.BinaryBack", spec := "binaryBack", inPlace := ["math/bits.Sub64", "math/bits.Add64"], named := ["caliper/desc.rows"], apart := false, laid := [("caliper/desc.rows", laid_caliper_desc_rows)] }
def BinaryBackSaid : Prop := binaryBackRow.holds Tryd.pinned (OpenSpec.ofChange binaryBackSpec)

/-- ITS FALSE NEIGHBOUR: 'it returns false'. Refute it at one input. -/
def binaryBackWrong : ChangeSpec := { name := "binaryBack", fn := fun _ => fun
  | [d1, d2, d3] => { results := [.lit (.bool false)], args := [d1, d2, d3] }
  | _ => none }
def BinaryBackWrongFalsely : Prop := binaryBackRow.holds Tryd.pinned (OpenSpec.ofChange binaryBackWrong)

/-- 'caliperlaw05.BinaryQuiets': WHATEVER THE INPUT: true; the input reads as it did. -/
def binaryQuietsSpec : ChangeSpec := { name := "binaryQuiets", fn := fun _ => fun
  | [d1, d2] => { results := [.lit (.bool true)], args := [d1, d2] }
  | _ => none }
def binaryQuietsRow : OpenClaim := { program := "ytemhpdhplbcgjaadoor", sum := "7388216cca23b9dceb86329864b0bf88b1debdda5562688fe46648d35c61cda5", func := "caliper/caliperlaw05.BinaryQuiets", spec := "binaryQuiets", inPlace := ["math/bits.Sub64", "math/bits.Add64"], named := ["caliper/desc.rows"], apart := false, laid := [("caliper/desc.rows", laid_caliper_desc_rows)] }
def BinaryQuietsSaid : Prop := binaryQuietsRow.holds Tryd.pinned (OpenSpec.ofChange binaryQuietsSpec)

/-- ITS FALSE NEIGHBOUR: 'it returns false'. Refute it at one input. -/
def binaryQuietsWrong : ChangeSpec := { name := "binaryQuiets", fn := fun _ => fun
  | [d1, d2] => { results := [.lit (.bool false)], args := [d1, d2] }
  | _ => none }
def BinaryQuietsWrongFalsely : Prop := binaryQuietsRow.holds Tryd.pinned (OpenSpec.ofChange binaryQuietsWrong)

/-- 'caliperlaw05.BinaryRises': WHATEVER THE INPUT: true; the input reads as it did. -/
def binaryRisesSpec : ChangeSpec := { name := "binaryRises", fn := fun _ => fun
  | [d1, d2, d3] => { results := [.lit (.bool true)], args := [d1, d2, d3] }
  | _ => none }
def binaryRisesRow : OpenClaim := { program := "ytemhpdhplbcgjaadoor", sum := "7388216cca23b9dceb86329864b0bf88b1debdda5562688fe46648d35c61cda5", func := "caliper/caliperlaw05.BinaryRises", spec := "binaryRises", inPlace := ["math/bits.Sub64", "math/bits.Add64"], named := ["caliper/desc.rows"], apart := false, laid := [("caliper/desc.rows", laid_caliper_desc_rows)] }
def BinaryRisesSaid : Prop := binaryRisesRow.holds Tryd.pinned (OpenSpec.ofChange binaryRisesSpec)

/-- ITS FALSE NEIGHBOUR: 'it returns false'. Refute it at one input. -/
def binaryRisesWrong : ChangeSpec := { name := "binaryRises", fn := fun _ => fun
  | [d1, d2, d3] => { results := [.lit (.bool false)], args := [d1, d2, d3] }
  | _ => none }
def BinaryRisesWrongFalsely : Prop := binaryRisesRow.holds Tryd.pinned (OpenSpec.ofChange binaryRisesWrong)

/-- 'caliperlaw05.BinarySigns': WHATEVER THE INPUT: true; the input reads as it did. -/
def binarySignsSpec : ChangeSpec := { name := "binarySigns", fn := fun _ => fun
  | [d1, d2] => { results := [.lit (.bool true)], args := [d1, d2] }
  | _ => none }
def binarySignsRow : OpenClaim := { program := "ytemhpdhplbcgjaadoor", sum := "7388216cca23b9dceb86329864b0bf88b1debdda5562688fe46648d35c61cda5", func := "caliper/caliperlaw05.BinarySigns", spec := "binarySigns", inPlace := ["math/bits.Sub64", "math/bits.Add64"], named := ["caliper/desc.rows"], apart := false, laid := [("caliper/desc.rows", laid_caliper_desc_rows)] }
def BinarySignsSaid : Prop := binarySignsRow.holds Tryd.pinned (OpenSpec.ofChange binarySignsSpec)

/-- ITS FALSE NEIGHBOUR: 'it returns false'. Refute it at one input. -/
def binarySignsWrong : ChangeSpec := { name := "binarySigns", fn := fun _ => fun
  | [d1, d2] => { results := [.lit (.bool false)], args := [d1, d2] }
  | _ => none }
def BinarySignsWrongFalsely : Prop := binarySignsRow.holds Tryd.pinned (OpenSpec.ofChange binarySignsWrong)

/- THE SECOND FORM. 'bulk': how many values and letters a reading holds, each counted each time it is reached (what is shared counts as often as it is met; a slice's spare places count too). A statement '..UptoSaid' is the law's where the arguments, and the package variables that the reading takes, are together of bulk at most 1048576: NARROWER than '..Said'. Prove '..Said' where nothing that the law and all that it calls make is longer than what came in: it says more and counts as full. Else prove '..UptoSaid'. A law counts once. -/
mutual
def uptoBulk {H : Type} : DataW H → Nat
  | .lit (.string bytes) => bytes.length + 1
  | .lit _ => 1
  | .nil => 1
  | .ptr d => uptoBulk d + 1
  | .slice elems spare => uptoBulkAll elems + uptoBulkAll spare + 1
  | .agg parts => uptoBulkAll parts + 1
  | .iface _ d => uptoBulk d + 1
  | .map entries => uptoBulkEntries entries + 1
  | .held _ => 1
def uptoBulkAll {H : Type} : List (DataW H) → Nat
  | [] => 0
  | d :: r => uptoBulk d + uptoBulkAll r
def uptoBulkEntries {H : Type} : List (Lit × DataW H) → Nat
  | [] => 0
  | x :: r => uptoBulkEntry x + uptoBulkEntries r
def uptoBulkEntry {H : Type} : Lit × DataW H → Nat
  | (.string bytes, d) => bytes.length + uptoBulk d + 1
  | (_, d) => uptoBulk d + 1
 end
def uptoSmall : (H : Type) → List (DataW H) → Bool := fun _ ds => decide (uptoBulkAll ds ≤ 1048576)
def OpenSpec.upto (s : _root_.Go.ChangeSpec) : _root_.Go.OpenSpec := { _root_.Go.OpenSpec.ofChange s with cond := some uptoSmall }

/-- 'caliperlaw05.BinaryUnpacks', WHERE WHAT IT READS IS OF BULK AT MOST 1048576: true; the input reads as it did. -/
def binaryUnpacksUptoRow : OpenClaim := { program := "ytemhpdhplbcgjaadoor", sum := "7388216cca23b9dceb86329864b0bf88b1debdda5562688fe46648d35c61cda5", func := "caliper/caliperlaw05.BinaryUnpacks", spec := "binaryUnpacks", inPlace := ["math/bits.Sub64", "math/bits.Add64"], named := ["caliper/desc.rows"], apart := false, laid := [("caliper/desc.rows", laid_caliper_desc_rows)], narrowed := true }
def BinaryUnpacksUptoSaid : Prop := binaryUnpacksUptoRow.holds Tryd.pinned (OpenSpec.upto binaryUnpacksSpec)

/-- 'caliperlaw05.BinaryPacks', WHERE WHAT IT READS IS OF BULK AT MOST 1048576: true; the input reads as it did. -/
def binaryPacksUptoRow : OpenClaim := { program := "ytemhpdhplbcgjaadoor", sum := "7388216cca23b9dceb86329864b0bf88b1debdda5562688fe46648d35c61cda5", func := "caliper/caliperlaw05.BinaryPacks", spec := "binaryPacks", inPlace := ["math/bits.Sub64", "math/bits.Add64"], named := ["caliper/desc.rows"], apart := false, laid := [("caliper/desc.rows", laid_caliper_desc_rows)], narrowed := true }
def BinaryPacksUptoSaid : Prop := binaryPacksUptoRow.holds Tryd.pinned (OpenSpec.upto binaryPacksSpec)

/-- 'caliperlaw05.BinaryBack', WHERE WHAT IT READS IS OF BULK AT MOST 1048576: true; the input reads as it did. -/
def binaryBackUptoRow : OpenClaim := { program := "ytemhpdhplbcgjaadoor", sum := "7388216cca23b9dceb86329864b0bf88b1debdda5562688fe46648d35c61cda5", func := "caliper/caliperlaw05.BinaryBack", spec := "binaryBack", inPlace := ["math/bits.Sub64", "math/bits.Add64"], named := ["caliper/desc.rows"], apart := false, laid := [("caliper/desc.rows", laid_caliper_desc_rows)], narrowed := true }
def BinaryBackUptoSaid : Prop := binaryBackUptoRow.holds Tryd.pinned (OpenSpec.upto binaryBackSpec)

/-- 'caliperlaw05.BinaryQuiets', WHERE WHAT IT READS IS OF BULK AT MOST 1048576: true; the input reads as it did. -/
def binaryQuietsUptoRow : OpenClaim := { program := "ytemhpdhplbcgjaadoor", sum := "7388216cca23b9dceb86329864b0bf88b1debdda5562688fe46648d35c61cda5", func := "caliper/caliperlaw05.BinaryQuiets", spec := "binaryQuiets", inPlace := ["math/bits.Sub64", "math/bits.Add64"], named := ["caliper/desc.rows"], apart := false, laid := [("caliper/desc.rows", laid_caliper_desc_rows)], narrowed := true }
def BinaryQuietsUptoSaid : Prop := binaryQuietsUptoRow.holds Tryd.pinned (OpenSpec.upto binaryQuietsSpec)

/-- 'caliperlaw05.BinaryRises', WHERE WHAT IT READS IS OF BULK AT MOST 1048576: true; the input reads as it did. -/
def binaryRisesUptoRow : OpenClaim := { program := "ytemhpdhplbcgjaadoor", sum := "7388216cca23b9dceb86329864b0bf88b1debdda5562688fe46648d35c61cda5", func := "caliper/caliperlaw05.BinaryRises", spec := "binaryRises", inPlace := ["math/bits.Sub64", "math/bits.Add64"], named := ["caliper/desc.rows"], apart := false, laid := [("caliper/desc.rows", laid_caliper_desc_rows)], narrowed := true }
def BinaryRisesUptoSaid : Prop := binaryRisesUptoRow.holds Tryd.pinned (OpenSpec.upto binaryRisesSpec)

/-- 'caliperlaw05.BinarySigns', WHERE WHAT IT READS IS OF BULK AT MOST 1048576: true; the input reads as it did. -/
def binarySignsUptoRow : OpenClaim := { program := "ytemhpdhplbcgjaadoor", sum := "7388216cca23b9dceb86329864b0bf88b1debdda5562688fe46648d35c61cda5", func := "caliper/caliperlaw05.BinarySigns", spec := "binarySigns", inPlace := ["math/bits.Sub64", "math/bits.Add64"], named := ["caliper/desc.rows"], apart := false, laid := [("caliper/desc.rows", laid_caliper_desc_rows)], narrowed := true }
def BinarySignsUptoSaid : Prop := binarySignsUptoRow.holds Tryd.pinned (OpenSpec.upto binarySignsSpec)

end Rows
end Go.Proofs.YtemhpdhplbcgjaaDoor
