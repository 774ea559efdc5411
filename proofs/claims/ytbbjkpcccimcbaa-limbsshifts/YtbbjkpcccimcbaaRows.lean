/-
  No cell of these rows narrows 'for every input' (looked for: loops, veiled, ifaces, maps, wideKeys, modest, calm, conditions, laid).
  DERIVED. THE GIVEN ROWS OF THIS SEAT. 6 by the template 'for every input the law returns true; each argument reads behind the call as it read before'; 0 by the template 'total and deterministic' (their statements: YtbbjkpcccimcbaaTotals.lean).
  GIVEN WITH THE SEED: the statements are not yours to turn. If you find one false, say at which input.
  Laid BY PROGRAM, IN A SANDBOX (cutbox-rows.mjs): the forced cells as the released guide's own fill.sh prints them over the translation 76487f657b89c16b… (all of the seat's roots in one cut). By AI agents, Wed Nov 11 2026. No macro, syntax, notation, axiom, sorry.
-/
import Derived.Test.YtbbjkpcccimcbaaChecked
import GoSem.Claim
import GoSem.ClaimJoined
import GoSem.ClaimMapViews
import Derived.JoinedTies
import Derived.KernelRfl
namespace Go.Proofs.Ytbbjkpcccimcbaa
/- THE CELL 'sum', in the pinned program and in every row, IS THE sha256 OF THE DUMP (.gsa) THAT YtbbjkpcccimcbaaProg.lean LOADS. Nothing in Lean hashes anything: it is a label: what it is worth is what the hold of that sum in a sandbox is worth. -/
noncomputable def Try.pinned : Pinned := { name := "ytbbjkpcccimcbaa", sum := "76487f657b89c16b8a389f8dd3fba24e90ca861a02688faa4088301a78d2a21c", checked := Try.checked }
namespace Rows
def none {H : Type} : Left H := { results := [], args := [] }

/-- 'caliperlaw01.LimbsAdds': WHATEVER THE INPUT: true; the input reads as it did. -/
def limbsAddsSpec : ChangeSpec := { name := "limbsAdds", fn := fun _ => fun
  | [d1, d2] => { results := [.lit (.bool true)], args := [d1, d2] }
  | _ => none }
def limbsAddsRow : OpenClaim := { program := "ytbbjkpcccimcbaa", sum := "76487f657b89c16b8a389f8dd3fba24e90ca861a02688faa4088301a78d2a21c", func := "caliper/caliperlaw01.LimbsAdds", spec := "limbsAdds", inPlace := ["math/bits.Add64", "math/bits.Sub64"], named := ["math/bits.divideError", "math/bits.overflowError"], apart := false }
def LimbsAddsSaid : Prop := limbsAddsRow.holds Try.pinned (OpenSpec.ofChange limbsAddsSpec)

/-- ITS FALSE NEIGHBOUR: 'it returns false'. Refute it at one input. -/
def limbsAddsWrong : ChangeSpec := { name := "limbsAdds", fn := fun _ => fun
  | [d1, d2] => { results := [.lit (.bool false)], args := [d1, d2] }
  | _ => none }
def LimbsAddsWrongFalsely : Prop := limbsAddsRow.holds Try.pinned (OpenSpec.ofChange limbsAddsWrong)

/-- 'caliperlaw01.LimbsSubs': WHATEVER THE INPUT: true; the input reads as it did. -/
def limbsSubsSpec : ChangeSpec := { name := "limbsSubs", fn := fun _ => fun
  | [d1, d2] => { results := [.lit (.bool true)], args := [d1, d2] }
  | _ => none }
def limbsSubsRow : OpenClaim := { program := "ytbbjkpcccimcbaa", sum := "76487f657b89c16b8a389f8dd3fba24e90ca861a02688faa4088301a78d2a21c", func := "caliper/caliperlaw01.LimbsSubs", spec := "limbsSubs", inPlace := ["math/bits.Add64", "math/bits.Sub64"], named := ["math/bits.divideError", "math/bits.overflowError"], apart := false }
def LimbsSubsSaid : Prop := limbsSubsRow.holds Try.pinned (OpenSpec.ofChange limbsSubsSpec)

/-- ITS FALSE NEIGHBOUR: 'it returns false'. Refute it at one input. -/
def limbsSubsWrong : ChangeSpec := { name := "limbsSubs", fn := fun _ => fun
  | [d1, d2] => { results := [.lit (.bool false)], args := [d1, d2] }
  | _ => none }
def LimbsSubsWrongFalsely : Prop := limbsSubsRow.holds Try.pinned (OpenSpec.ofChange limbsSubsWrong)

/-- 'caliperlaw01.LimbsShifts': WHATEVER THE INPUT: true; the input reads as it did. -/
def limbsShiftsSpec : ChangeSpec := { name := "limbsShifts", fn := fun _ => fun
  | [d1, d2] => { results := [.lit (.bool true)], args := [d1, d2] }
  | _ => none }
def limbsShiftsRow : OpenClaim := { program := "ytbbjkpcccimcbaa", sum := "76487f657b89c16b8a389f8dd3fba24e90ca861a02688faa4088301a78d2a21c", func := "caliper/caliperlaw01.LimbsShifts", spec := "limbsShifts", inPlace := ["math/bits.Add64", "math/bits.Sub64"], named := ["math/bits.divideError", "math/bits.overflowError"], apart := false }
def LimbsShiftsSaid : Prop := limbsShiftsRow.holds Try.pinned (OpenSpec.ofChange limbsShiftsSpec)

/-- ITS FALSE NEIGHBOUR: 'it returns false'. Refute it at one input. -/
def limbsShiftsWrong : ChangeSpec := { name := "limbsShifts", fn := fun _ => fun
  | [d1, d2] => { results := [.lit (.bool false)], args := [d1, d2] }
  | _ => none }
def LimbsShiftsWrongFalsely : Prop := limbsShiftsRow.holds Try.pinned (OpenSpec.ofChange limbsShiftsWrong)

/-- 'caliperlaw01.LimbsBits': WHATEVER THE INPUT: true; the input reads as it did. -/
def limbsBitsSpec : ChangeSpec := { name := "limbsBits", fn := fun _ => fun
  | [d1, d2] => { results := [.lit (.bool true)], args := [d1, d2] }
  | _ => none }
def limbsBitsRow : OpenClaim := { program := "ytbbjkpcccimcbaa", sum := "76487f657b89c16b8a389f8dd3fba24e90ca861a02688faa4088301a78d2a21c", func := "caliper/caliperlaw01.LimbsBits", spec := "limbsBits", inPlace := ["math/bits.Add64"], named := ["math/bits.divideError", "math/bits.overflowError"], apart := false }
def LimbsBitsSaid : Prop := limbsBitsRow.holds Try.pinned (OpenSpec.ofChange limbsBitsSpec)

/-- ITS FALSE NEIGHBOUR: 'it returns false'. Refute it at one input. -/
def limbsBitsWrong : ChangeSpec := { name := "limbsBits", fn := fun _ => fun
  | [d1, d2] => { results := [.lit (.bool false)], args := [d1, d2] }
  | _ => none }
def LimbsBitsWrongFalsely : Prop := limbsBitsRow.holds Try.pinned (OpenSpec.ofChange limbsBitsWrong)

/-- 'caliperlaw01.LimbsMuls': WHATEVER THE INPUT: true; the input reads as it did. -/
def limbsMulsSpec : ChangeSpec := { name := "limbsMuls", fn := fun _ => fun
  | [d1, d2] => { results := [.lit (.bool true)], args := [d1, d2] }
  | _ => none }
def limbsMulsRow : OpenClaim := { program := "ytbbjkpcccimcbaa", sum := "76487f657b89c16b8a389f8dd3fba24e90ca861a02688faa4088301a78d2a21c", func := "caliper/caliperlaw01.LimbsMuls", spec := "limbsMuls", inPlace := ["math/bits.Add64", "math/bits.Sub64"], named := ["math/bits.divideError", "math/bits.overflowError"], apart := false }
def LimbsMulsSaid : Prop := limbsMulsRow.holds Try.pinned (OpenSpec.ofChange limbsMulsSpec)

/-- ITS FALSE NEIGHBOUR: 'it returns false'. Refute it at one input. -/
def limbsMulsWrong : ChangeSpec := { name := "limbsMuls", fn := fun _ => fun
  | [d1, d2] => { results := [.lit (.bool false)], args := [d1, d2] }
  | _ => none }
def LimbsMulsWrongFalsely : Prop := limbsMulsRow.holds Try.pinned (OpenSpec.ofChange limbsMulsWrong)

/-- 'caliperlaw01.LimbsDivs': WHATEVER THE INPUT: true; the input reads as it did. -/
def limbsDivsSpec : ChangeSpec := { name := "limbsDivs", fn := fun _ => fun
  | [d1, d2] => { results := [.lit (.bool true)], args := [d1, d2] }
  | _ => none }
def limbsDivsRow : OpenClaim := { program := "ytbbjkpcccimcbaa", sum := "76487f657b89c16b8a389f8dd3fba24e90ca861a02688faa4088301a78d2a21c", func := "caliper/caliperlaw01.LimbsDivs", spec := "limbsDivs", inPlace := ["math/bits.Add64"], named := ["math/bits.divideError", "math/bits.overflowError"], apart := false }
def LimbsDivsSaid : Prop := limbsDivsRow.holds Try.pinned (OpenSpec.ofChange limbsDivsSpec)

/-- ITS FALSE NEIGHBOUR: 'it returns false'. Refute it at one input. -/
def limbsDivsWrong : ChangeSpec := { name := "limbsDivs", fn := fun _ => fun
  | [d1, d2] => { results := [.lit (.bool false)], args := [d1, d2] }
  | _ => none }
def LimbsDivsWrongFalsely : Prop := limbsDivsRow.holds Try.pinned (OpenSpec.ofChange limbsDivsWrong)

/- THE SECOND FORM. 'bulk': how many values and letters a reading holds, each counted each time it is reached (what is shared counts as often as it is met; a slice's spare places count too). A statement '..UptoSaid' is the law's where the arguments, and the package variables that the reading takes, are together of bulk at most 1048576: NARROWER than '..Said'. Prove '..Said' where nothing that the law and all that it calls make is longer than what came in: it says more and counts as full. Else prove '..UptoSaid'. A law counts once. -/
mutual
def uptoBulk {H : Type} : DataW H → Nat
  | .lit (.string bytes) => bytes.length + 1
  | .lit _ => 1
  | .nil => 1
  | .ptr d => uptoBulk d + 1
  | .slice elems spare => uptoBulkAll elems + uptoBulkAll spare + 1
  | .agg parts => uptoBulkAll parts + 1
  | .iface _ d => uptoBulk d + 1
  | .map entries => uptoBulkEntries entries + 1
  | .held _ => 1
def uptoBulkAll {H : Type} : List (DataW H) → Nat
  | [] => 0
  | d :: r => uptoBulk d + uptoBulkAll r
def uptoBulkEntries {H : Type} : List (Lit × DataW H) → Nat
  | [] => 0
  | x :: r => uptoBulkEntry x + uptoBulkEntries r
def uptoBulkEntry {H : Type} : Lit × DataW H → Nat
  | (.string bytes, d) => bytes.length + uptoBulk d + 1
  | (_, d) => uptoBulk d + 1
 end
def uptoSmall : (H : Type) → List (DataW H) → Bool := fun _ ds => decide (uptoBulkAll ds ≤ 1048576)
def OpenSpec.upto (s : _root_.Go.ChangeSpec) : _root_.Go.OpenSpec := { _root_.Go.OpenSpec.ofChange s with cond := some uptoSmall }

/-- 'caliperlaw01.LimbsAdds', WHERE WHAT IT READS IS OF BULK AT MOST 1048576: true; the input reads as it did. -/
def limbsAddsUptoRow : OpenClaim := { program := "ytbbjkpcccimcbaa", sum := "76487f657b89c16b8a389f8dd3fba24e90ca861a02688faa4088301a78d2a21c", func := "caliper/caliperlaw01.LimbsAdds", spec := "limbsAdds", inPlace := ["math/bits.Add64", "math/bits.Sub64"], named := ["math/bits.divideError", "math/bits.overflowError"], apart := false, narrowed := true }
def LimbsAddsUptoSaid : Prop := limbsAddsUptoRow.holds Try.pinned (OpenSpec.upto limbsAddsSpec)

/-- 'caliperlaw01.LimbsSubs', WHERE WHAT IT READS IS OF BULK AT MOST 1048576: true; the input reads as it did. -/
def limbsSubsUptoRow : OpenClaim := { program := "ytbbjkpcccimcbaa", sum := "76487f657b89c16b8a389f8dd3fba24e90ca861a02688faa4088301a78d2a21c", func := "caliper/caliperlaw01.LimbsSubs", spec := "limbsSubs", inPlace := ["math/bits.Add64", "math/bits.Sub64"], named := ["math/bits.divideError", "math/bits.overflowError"], apart := false, narrowed := true }
def LimbsSubsUptoSaid : Prop := limbsSubsUptoRow.holds Try.pinned (OpenSpec.upto limbsSubsSpec)

/-- 'caliperlaw01.LimbsShifts', WHERE WHAT IT READS IS OF BULK AT MOST 1048576: true; the input reads as it did. -/
def limbsShiftsUptoRow : OpenClaim := { program := "ytbbjkpcccimcbaa", sum := "76487f657b89c16b8a389f8dd3fba24e90ca861a02688faa4088301a78d2a21c", func := "caliper/caliperlaw01.LimbsShifts", spec := "limbsShifts", inPlace := ["math/bits.Add64", "math/bits.Sub64"], named := ["math/bits.divideError", "math/bits.overflowError"], apart := false, narrowed := true }
def LimbsShiftsUptoSaid : Prop := limbsShiftsUptoRow.holds Try.pinned (OpenSpec.upto limbsShiftsSpec)

/-- 'caliperlaw01.LimbsBits', WHERE WHAT IT READS IS OF BULK AT MOST 1048576: true; the input reads as it did. -/
def limbsBitsUptoRow : OpenClaim := { program := "ytbbjkpcccimcbaa", sum := "76487f657b89c16b8a389f8dd3fba24e90ca861a02688faa4088301a78d2a21c", func := "caliper/caliperlaw01.LimbsBits", spec := "limbsBits", inPlace := ["math/bits.Add64"], named := ["math/bits.divideError", "math/bits.overflowError"], apart := false, narrowed := true }
def LimbsBitsUptoSaid : Prop := limbsBitsUptoRow.holds Try.pinned (OpenSpec.upto limbsBitsSpec)

/-- 'caliperlaw01.LimbsMuls', WHERE WHAT IT READS IS OF BULK AT MOST 1048576: true; the input reads as it did. -/
def limbsMulsUptoRow : OpenClaim := { program := "ytbbjkpcccimcbaa", sum := "76487f657b89c16b8a389f8dd3fba24e90ca861a02688faa4088301a78d2a21c", func := "caliper/caliperlaw01.LimbsMuls", spec := "limbsMuls", inPlace := ["math/bits.Add64", "math/bits.Sub64"], named := ["math/bits.divideError", "math/bits.overflowError"], apart := false, narrowed := true }
def LimbsMulsUptoSaid : Prop := limbsMulsUptoRow.holds Try.pinned (OpenSpec.upto limbsMulsSpec)

/-- 'caliperlaw01.LimbsDivs', WHERE WHAT IT READS IS OF BULK AT MOST 1048576: true; the input reads as it did. -/
def limbsDivsUptoRow : OpenClaim := { program := "ytbbjkpcccimcbaa", sum := "76487f657b89c16b8a389f8dd3fba24e90ca861a02688faa4088301a78d2a21c", func := "caliper/caliperlaw01.LimbsDivs", spec := "limbsDivs", inPlace := ["math/bits.Add64"], named := ["math/bits.divideError", "math/bits.overflowError"], apart := false, narrowed := true }
def LimbsDivsUptoSaid : Prop := limbsDivsUptoRow.holds Try.pinned (OpenSpec.upto limbsDivsSpec)

end Rows
end Go.Proofs.Ytbbjkpcccimcbaa
