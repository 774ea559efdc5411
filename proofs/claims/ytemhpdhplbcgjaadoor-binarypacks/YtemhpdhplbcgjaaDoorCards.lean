/-
  DERIVED. GIVEN WITH THE SEED: THE CARDS: each row of YtemhpdhplbcgjaaDoorRows.lean that lists a variable, with what it lists TIED to the program's text (the seventh form; the later family's looks); each row that meets fmt, with fmt's text TOLD by the authors' own Lean function (tested against real Go, not proved from fmt's source: count such statements apart). THE CARD IS WHAT COUNTS. Prove the row's statement (the work); the ties are given (YtemhpdhplbcgjaaDoorTie.lean); close each card by the builder's one call (the guide's Derived/Test/ToyasCard.lean, 'card_holds'). Laid BY PROGRAM, IN A SANDBOX (cutbox-door.mjs). By AI agents, Wed Nov 11 2026. No macro, syntax, notation, axiom, sorry.
-/
import Derived.Test.YtemhpdhplbcgjaaDoorRows
import GoSem.ClaimSeven
namespace Go.Proofs.YtemhpdhplbcgjaaDoor
namespace Rows

/-- THE TIED CARD OF 'caliperlaw05.BinaryUnpacks'. -/
def binaryUnpacksCard : Claim7 := { stood := { row := binaryUnpacksRow, standIns := [], harness := (true, "2d1bab5c5248c1c6befe83639c2bccee64399519c26ae8d94e4de3a5ff38ce78"), looks := false }, kinds := [], alts := [], laidByText := true, laidKinds := [.data], laidTests := true, laidLooks := .later }
def BinaryUnpacksCardSaid : Prop := Claim7.holds Tryd.pinned (.plain (OpenSpec.ofChange binaryUnpacksSpec)) binaryUnpacksCard

/-- THE TIED CARD OF 'caliperlaw05.BinaryPacks'. -/
def binaryPacksCard : Claim7 := { stood := { row := binaryPacksRow, standIns := [], harness := (true, "2d1bab5c5248c1c6befe83639c2bccee64399519c26ae8d94e4de3a5ff38ce78"), looks := false }, kinds := [], alts := [], laidByText := true, laidKinds := [.data], laidTests := true, laidLooks := .later }
def BinaryPacksCardSaid : Prop := Claim7.holds Tryd.pinned (.plain (OpenSpec.ofChange binaryPacksSpec)) binaryPacksCard

/-- THE TIED CARD OF 'caliperlaw05.BinaryBack'. -/
def binaryBackCard : Claim7 := { stood := { row := binaryBackRow, standIns := [], harness := (true, "2d1bab5c5248c1c6befe83639c2bccee64399519c26ae8d94e4de3a5ff38ce78"), looks := false }, kinds := [], alts := [], laidByText := true, laidKinds := [.data], laidTests := true, laidLooks := .later }
def BinaryBackCardSaid : Prop := Claim7.holds Tryd.pinned (.plain (OpenSpec.ofChange binaryBackSpec)) binaryBackCard

/-- THE TIED CARD OF 'caliperlaw05.BinaryQuiets'. -/
def binaryQuietsCard : Claim7 := { stood := { row := binaryQuietsRow, standIns := [], harness := (true, "2d1bab5c5248c1c6befe83639c2bccee64399519c26ae8d94e4de3a5ff38ce78"), looks := false }, kinds := [], alts := [], laidByText := true, laidKinds := [.data], laidTests := true, laidLooks := .later }
def BinaryQuietsCardSaid : Prop := Claim7.holds Tryd.pinned (.plain (OpenSpec.ofChange binaryQuietsSpec)) binaryQuietsCard

/-- THE TIED CARD OF 'caliperlaw05.BinaryRises'. -/
def binaryRisesCard : Claim7 := { stood := { row := binaryRisesRow, standIns := [], harness := (true, "2d1bab5c5248c1c6befe83639c2bccee64399519c26ae8d94e4de3a5ff38ce78"), looks := false }, kinds := [], alts := [], laidByText := true, laidKinds := [.data], laidTests := true, laidLooks := .later }
def BinaryRisesCardSaid : Prop := Claim7.holds Tryd.pinned (.plain (OpenSpec.ofChange binaryRisesSpec)) binaryRisesCard

/-- THE TIED CARD OF 'caliperlaw05.BinarySigns'. -/
def binarySignsCard : Claim7 := { stood := { row := binarySignsRow, standIns := [], harness := (true, "2d1bab5c5248c1c6befe83639c2bccee64399519c26ae8d94e4de3a5ff38ce78"), looks := false }, kinds := [], alts := [], laidByText := true, laidKinds := [.data], laidTests := true, laidLooks := .later }
def BinarySignsCardSaid : Prop := Claim7.holds Tryd.pinned (.plain (OpenSpec.ofChange binarySignsSpec)) binarySignsCard

/-- THE SECOND FORM's CARD OF 'caliperlaw05.BinaryUnpacks'. -/
def binaryUnpacksUptoCard : Claim7 := { stood := { row := binaryUnpacksUptoRow, standIns := [], harness := (true, "2d1bab5c5248c1c6befe83639c2bccee64399519c26ae8d94e4de3a5ff38ce78"), looks := false }, kinds := [], alts := [], laidByText := true, laidKinds := [.data], laidTests := true, laidLooks := .later }
def BinaryUnpacksUptoCardSaid : Prop := Claim7.holds Tryd.pinned (.plain (OpenSpec.upto binaryUnpacksSpec)) binaryUnpacksUptoCard

/-- THE SECOND FORM's CARD OF 'caliperlaw05.BinaryPacks'. -/
def binaryPacksUptoCard : Claim7 := { stood := { row := binaryPacksUptoRow, standIns := [], harness := (true, "2d1bab5c5248c1c6befe83639c2bccee64399519c26ae8d94e4de3a5ff38ce78"), looks := false }, kinds := [], alts := [], laidByText := true, laidKinds := [.data], laidTests := true, laidLooks := .later }
def BinaryPacksUptoCardSaid : Prop := Claim7.holds Tryd.pinned (.plain (OpenSpec.upto binaryPacksSpec)) binaryPacksUptoCard

/-- THE SECOND FORM's CARD OF 'caliperlaw05.BinaryBack'. -/
def binaryBackUptoCard : Claim7 := { stood := { row := binaryBackUptoRow, standIns := [], harness := (true, "2d1bab5c5248c1c6befe83639c2bccee64399519c26ae8d94e4de3a5ff38ce78"), looks := false }, kinds := [], alts := [], laidByText := true, laidKinds := [.data], laidTests := true, laidLooks := .later }
def BinaryBackUptoCardSaid : Prop := Claim7.holds Tryd.pinned (.plain (OpenSpec.upto binaryBackSpec)) binaryBackUptoCard

/-- THE SECOND FORM's CARD OF 'caliperlaw05.BinaryQuiets'. -/
def binaryQuietsUptoCard : Claim7 := { stood := { row := binaryQuietsUptoRow, standIns := [], harness := (true, "2d1bab5c5248c1c6befe83639c2bccee64399519c26ae8d94e4de3a5ff38ce78"), looks := false }, kinds := [], alts := [], laidByText := true, laidKinds := [.data], laidTests := true, laidLooks := .later }
def BinaryQuietsUptoCardSaid : Prop := Claim7.holds Tryd.pinned (.plain (OpenSpec.upto binaryQuietsSpec)) binaryQuietsUptoCard

/-- THE SECOND FORM's CARD OF 'caliperlaw05.BinaryRises'. -/
def binaryRisesUptoCard : Claim7 := { stood := { row := binaryRisesUptoRow, standIns := [], harness := (true, "2d1bab5c5248c1c6befe83639c2bccee64399519c26ae8d94e4de3a5ff38ce78"), looks := false }, kinds := [], alts := [], laidByText := true, laidKinds := [.data], laidTests := true, laidLooks := .later }
def BinaryRisesUptoCardSaid : Prop := Claim7.holds Tryd.pinned (.plain (OpenSpec.upto binaryRisesSpec)) binaryRisesUptoCard

/-- THE SECOND FORM's CARD OF 'caliperlaw05.BinarySigns'. -/
def binarySignsUptoCard : Claim7 := { stood := { row := binarySignsUptoRow, standIns := [], harness := (true, "2d1bab5c5248c1c6befe83639c2bccee64399519c26ae8d94e4de3a5ff38ce78"), looks := false }, kinds := [], alts := [], laidByText := true, laidKinds := [.data], laidTests := true, laidLooks := .later }
def BinarySignsUptoCardSaid : Prop := Claim7.holds Tryd.pinned (.plain (OpenSpec.upto binarySignsSpec)) binarySignsUptoCard
end Rows
end Go.Proofs.YtemhpdhplbcgjaaDoor
