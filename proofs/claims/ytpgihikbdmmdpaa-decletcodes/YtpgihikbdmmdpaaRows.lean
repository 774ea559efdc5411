/-
  No cell of these rows narrows 'for every input' (looked for: loops, veiled, ifaces, maps, wideKeys, modest, calm, conditions, laid).
  DERIVED. THE GIVEN ROWS OF THIS SEAT. 5 by the template 'for every input the law returns true; each argument reads behind the call as it read before'; 0 by the template 'total and deterministic' (their statements: YtpgihikbdmmdpaaTotals.lean).
  GIVEN WITH THE SEED: the statements are not yours to turn. If you find one false, say at which input.
  Laid BY PROGRAM, IN A SANDBOX (cutbox-rows.mjs): the forced cells as the released guide's own fill.sh prints them over the translation 4bf26097040603a2… (all of the seat's roots in one cut). By AI agents, Wed Nov 11 2026. No macro, syntax, notation, axiom, sorry.
-/
import Derived.Test.YtpgihikbdmmdpaaChecked
import GoSem.Claim
import GoSem.ClaimJoined
import GoSem.ClaimMapViews
import Derived.JoinedTies
import Derived.KernelRfl
namespace Go.Proofs.Ytpgihikbdmmdpaa
/- THE CELL 'sum', in the pinned program and in every row, IS THE sha256 OF THE DUMP (.gsa) THAT YtpgihikbdmmdpaaProg.lean LOADS. Nothing in Lean hashes anything: it is a label: what it is worth is what the hold of that sum in a sandbox is worth. -/
noncomputable def Try.pinned : Pinned := { name := "ytpgihikbdmmdpaa", sum := "4bf26097040603a2cf5dd912a78b5391a38976f7d42b2eb2e03b158a8a5497ee", checked := Try.checked }
namespace Rows
def none {H : Type} : Left H := { results := [], args := [] }

/-- 'caliperlaw13.DecletCodes': WHATEVER THE INPUT: true; the input reads as it did. -/
def decletCodesSpec : ChangeSpec := { name := "decletCodes", fn := fun _ => fun
  | [d1, d2] => { results := [.lit (.bool true)], args := [d1, d2] }
  | _ => none }
def decletCodesRow : OpenClaim := { program := "ytpgihikbdmmdpaa", sum := "4bf26097040603a2cf5dd912a78b5391a38976f7d42b2eb2e03b158a8a5497ee", func := "caliper/caliperlaw13.DecletCodes", spec := "decletCodes", apart := false }
def DecletCodesSaid : Prop := decletCodesRow.holds Try.pinned (OpenSpec.ofChange decletCodesSpec)

/-- ITS FALSE NEIGHBOUR: 'it returns false'. Refute it at one input. -/
def decletCodesWrong : ChangeSpec := { name := "decletCodes", fn := fun _ => fun
  | [d1, d2] => { results := [.lit (.bool false)], args := [d1, d2] }
  | _ => none }
def DecletCodesWrongFalsely : Prop := decletCodesRow.holds Try.pinned (OpenSpec.ofChange decletCodesWrong)

/-- 'caliperlaw13.DecletBack': WHATEVER THE INPUT: true; the input reads as it did. -/
def decletBackSpec : ChangeSpec := { name := "decletBack", fn := fun _ => fun
  | [d] => { results := [.lit (.bool true)], args := [d] }
  | _ => none }
def decletBackRow : OpenClaim := { program := "ytpgihikbdmmdpaa", sum := "4bf26097040603a2cf5dd912a78b5391a38976f7d42b2eb2e03b158a8a5497ee", func := "caliper/caliperlaw13.DecletBack", spec := "decletBack", apart := false }
def DecletBackSaid : Prop := decletBackRow.holds Try.pinned (OpenSpec.ofChange decletBackSpec)

/-- ITS FALSE NEIGHBOUR: 'it returns false'. Refute it at one input. -/
def decletBackWrong : ChangeSpec := { name := "decletBack", fn := fun _ => fun
  | [d] => { results := [.lit (.bool false)], args := [d] }
  | _ => none }
def DecletBackWrongFalsely : Prop := decletBackRow.holds Try.pinned (OpenSpec.ofChange decletBackWrong)

/-- 'caliperlaw13.DecletSmall': WHATEVER THE INPUT: true; the input reads as it did. -/
def decletSmallSpec : ChangeSpec := { name := "decletSmall", fn := fun _ => fun
  | [d1, d2, d3] => { results := [.lit (.bool true)], args := [d1, d2, d3] }
  | _ => none }
def decletSmallRow : OpenClaim := { program := "ytpgihikbdmmdpaa", sum := "4bf26097040603a2cf5dd912a78b5391a38976f7d42b2eb2e03b158a8a5497ee", func := "caliper/caliperlaw13.DecletSmall", spec := "decletSmall", apart := false }
def DecletSmallSaid : Prop := decletSmallRow.holds Try.pinned (OpenSpec.ofChange decletSmallSpec)

/-- ITS FALSE NEIGHBOUR: 'it returns false'. Refute it at one input. -/
def decletSmallWrong : ChangeSpec := { name := "decletSmall", fn := fun _ => fun
  | [d1, d2, d3] => { results := [.lit (.bool false)], args := [d1, d2, d3] }
  | _ => none }
def DecletSmallWrongFalsely : Prop := decletSmallRow.holds Try.pinned (OpenSpec.ofChange decletSmallWrong)

/-- 'caliperlaw13.DecletPacks': WHATEVER THE INPUT: true; the input reads as it did. -/
def decletPacksSpec : ChangeSpec := { name := "decletPacks", fn := fun _ => fun
  | [d1, d2, d3] => { results := [.lit (.bool true)], args := [d1, d2, d3] }
  | _ => none }
def decletPacksRow : OpenClaim := { program := "ytpgihikbdmmdpaa", sum := "4bf26097040603a2cf5dd912a78b5391a38976f7d42b2eb2e03b158a8a5497ee", func := "caliper/caliperlaw13.DecletPacks", spec := "decletPacks", inPlace := ["math/bits.Add64", "math/bits.Sub64"], named := ["math/bits.divideError", "math/bits.overflowError"], apart := false }
def DecletPacksSaid : Prop := decletPacksRow.holds Try.pinned (OpenSpec.ofChange decletPacksSpec)

/-- ITS FALSE NEIGHBOUR: 'it returns false'. Refute it at one input. -/
def decletPacksWrong : ChangeSpec := { name := "decletPacks", fn := fun _ => fun
  | [d1, d2, d3] => { results := [.lit (.bool false)], args := [d1, d2, d3] }
  | _ => none }
def DecletPacksWrongFalsely : Prop := decletPacksRow.holds Try.pinned (OpenSpec.ofChange decletPacksWrong)

/-- 'caliperlaw13.DecletThere': WHATEVER THE INPUT: true; the input reads as it did. -/
def decletThereSpec : ChangeSpec := { name := "decletThere", fn := fun _ => fun
  | [d1, d2] => { results := [.lit (.bool true)], args := [d1, d2] }
  | _ => none }
def decletThereRow : OpenClaim := { program := "ytpgihikbdmmdpaa", sum := "4bf26097040603a2cf5dd912a78b5391a38976f7d42b2eb2e03b158a8a5497ee", func := "caliper/caliperlaw13.DecletThere", spec := "decletThere", inPlace := ["math/bits.Add64"], named := ["math/bits.divideError", "math/bits.overflowError"], apart := false }
def DecletThereSaid : Prop := decletThereRow.holds Try.pinned (OpenSpec.ofChange decletThereSpec)

/-- ITS FALSE NEIGHBOUR: 'it returns false'. Refute it at one input. -/
def decletThereWrong : ChangeSpec := { name := "decletThere", fn := fun _ => fun
  | [d1, d2] => { results := [.lit (.bool false)], args := [d1, d2] }
  | _ => none }
def DecletThereWrongFalsely : Prop := decletThereRow.holds Try.pinned (OpenSpec.ofChange decletThereWrong)

/- THE SECOND FORM. 'bulk': how many values and letters a reading holds, each counted each time it is reached (what is shared counts as often as it is met; a slice's spare places count too). A statement '..UptoSaid' is the law's where the arguments, and the package variables that the reading takes, are together of bulk at most 1048576: NARROWER than '..Said'. Prove '..Said' where nothing that the law and all that it calls make is longer than what came in: it says more and counts as full. Else prove '..UptoSaid'. A law counts once. -/
mutual
def uptoBulk {H : Type} : DataW H → Nat
  | .lit (.string bytes) => bytes.length + 1
  | .lit _ => 1
  | .nil => 1
  | .ptr d => uptoBulk d + 1
  | .slice elems spare => uptoBulkAll elems + uptoBulkAll spare + 1
  | .agg parts => uptoBulkAll parts + 1
  | .iface _ d => uptoBulk d + 1
  | .map entries => uptoBulkEntries entries + 1
  | .held _ => 1
def uptoBulkAll {H : Type} : List (DataW H) → Nat
  | [] => 0
  | d :: r => uptoBulk d + uptoBulkAll r
def uptoBulkEntries {H : Type} : List (Lit × DataW H) → Nat
  | [] => 0
  | x :: r => uptoBulkEntry x + uptoBulkEntries r
def uptoBulkEntry {H : Type} : Lit × DataW H → Nat
  | (.string bytes, d) => bytes.length + uptoBulk d + 1
  | (_, d) => uptoBulk d + 1
 end
def uptoSmall : (H : Type) → List (DataW H) → Bool := fun _ ds => decide (uptoBulkAll ds ≤ 1048576)
def OpenSpec.upto (s : _root_.Go.ChangeSpec) : _root_.Go.OpenSpec := { _root_.Go.OpenSpec.ofChange s with cond := some uptoSmall }

/-- 'caliperlaw13.DecletCodes', WHERE WHAT IT READS IS OF BULK AT MOST 1048576: true; the input reads as it did. -/
def decletCodesUptoRow : OpenClaim := { program := "ytpgihikbdmmdpaa", sum := "4bf26097040603a2cf5dd912a78b5391a38976f7d42b2eb2e03b158a8a5497ee", func := "caliper/caliperlaw13.DecletCodes", spec := "decletCodes", apart := false, narrowed := true }
def DecletCodesUptoSaid : Prop := decletCodesUptoRow.holds Try.pinned (OpenSpec.upto decletCodesSpec)

/-- 'caliperlaw13.DecletBack', WHERE WHAT IT READS IS OF BULK AT MOST 1048576: true; the input reads as it did. -/
def decletBackUptoRow : OpenClaim := { program := "ytpgihikbdmmdpaa", sum := "4bf26097040603a2cf5dd912a78b5391a38976f7d42b2eb2e03b158a8a5497ee", func := "caliper/caliperlaw13.DecletBack", spec := "decletBack", apart := false, narrowed := true }
def DecletBackUptoSaid : Prop := decletBackUptoRow.holds Try.pinned (OpenSpec.upto decletBackSpec)

/-- 'caliperlaw13.DecletSmall', WHERE WHAT IT READS IS OF BULK AT MOST 1048576: true; the input reads as it did. -/
def decletSmallUptoRow : OpenClaim := { program := "ytpgihikbdmmdpaa", sum := "4bf26097040603a2cf5dd912a78b5391a38976f7d42b2eb2e03b158a8a5497ee", func := "caliper/caliperlaw13.DecletSmall", spec := "decletSmall", apart := false, narrowed := true }
def DecletSmallUptoSaid : Prop := decletSmallUptoRow.holds Try.pinned (OpenSpec.upto decletSmallSpec)

/-- 'caliperlaw13.DecletPacks', WHERE WHAT IT READS IS OF BULK AT MOST 1048576: true; the input reads as it did. -/
def decletPacksUptoRow : OpenClaim := { program := "ytpgihikbdmmdpaa", sum := "4bf26097040603a2cf5dd912a78b5391a38976f7d42b2eb2e03b158a8a5497ee", func := "caliper/caliperlaw13.DecletPacks", spec := "decletPacks", inPlace := ["math/bits.Add64", "math/bits.Sub64"], named := ["math/bits.divideError", "math/bits.overflowError"], apart := false, narrowed := true }
def DecletPacksUptoSaid : Prop := decletPacksUptoRow.holds Try.pinned (OpenSpec.upto decletPacksSpec)

/-- 'caliperlaw13.DecletThere', WHERE WHAT IT READS IS OF BULK AT MOST 1048576: true; the input reads as it did. -/
def decletThereUptoRow : OpenClaim := { program := "ytpgihikbdmmdpaa", sum := "4bf26097040603a2cf5dd912a78b5391a38976f7d42b2eb2e03b158a8a5497ee", func := "caliper/caliperlaw13.DecletThere", spec := "decletThere", inPlace := ["math/bits.Add64"], named := ["math/bits.divideError", "math/bits.overflowError"], apart := false, narrowed := true }
def DecletThereUptoSaid : Prop := decletThereUptoRow.holds Try.pinned (OpenSpec.upto decletThereSpec)

end Rows
end Go.Proofs.Ytpgihikbdmmdpaa
