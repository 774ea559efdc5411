/-
  DERIVED. GIVEN WITH THE SEED: THE CARDS: each row of YthcndcanahhbcaaDoorRows.lean that lists a variable, with what it lists TIED to the program's text (the seventh form; the later family's looks); each row that meets fmt, with fmt's text TOLD by the authors' own Lean function (tested against real Go, not proved from fmt's source: count such statements apart). THE CARD IS WHAT COUNTS. Prove the row's statement (the work); the ties are given (YthcndcanahhbcaaDoorTie.lean); close each card by the builder's one call (the guide's Derived/Test/ToyasCard.lean, 'card_holds'). Laid BY PROGRAM, IN A SANDBOX (cutbox-door.mjs). By AI agents, Wed Nov 11 2026. No macro, syntax, notation, axiom, sorry.
-/
import Derived.Test.YthcndcanahhbcaaDoorRows
import GoSem.ClaimSeven
namespace Go.Proofs.YthcndcanahhbcaaDoor
namespace Rows

/-- THE TIED CARD OF 'caliperlaw06.RoundBinary'. -/
def roundBinaryCard : Claim7 := { stood := { row := roundBinaryRow, standIns := [], harness := (true, "03dd806b6c02faebe0cf170fcb8fcf918b712308d14c9827f772cfaf759b449b"), looks := false }, kinds := [], alts := [], laidByText := true, laidKinds := [.data], laidTests := true, laidLooks := .later }
def RoundBinaryCardSaid : Prop := Claim7.holds Tryd.pinned (.plain (OpenSpec.ofChange roundBinarySpec)) roundBinaryCard

/-- THE TIED CARD OF 'caliperlaw06.RoundScaled'. -/
def roundScaledCard : Claim7 := { stood := { row := roundScaledRow, standIns := [], harness := (true, "03dd806b6c02faebe0cf170fcb8fcf918b712308d14c9827f772cfaf759b449b"), looks := false }, kinds := [], alts := [], laidByText := true, laidKinds := [.data], laidTests := true, laidLooks := .later }
def RoundScaledCardSaid : Prop := Claim7.holds Tryd.pinned (.plain (OpenSpec.ofChange roundScaledSpec)) roundScaledCard

/-- THE TIED CARD OF 'caliperlaw06.RoundKeeps'. -/
def roundKeepsCard : Claim7 := { stood := { row := roundKeepsRow, standIns := [], harness := (true, "03dd806b6c02faebe0cf170fcb8fcf918b712308d14c9827f772cfaf759b449b"), looks := false }, kinds := [], alts := [], laidByText := true, laidKinds := [.data], laidTests := true, laidLooks := .later }
def RoundKeepsCardSaid : Prop := Claim7.holds Tryd.pinned (.plain (OpenSpec.ofChange roundKeepsSpec)) roundKeepsCard

/-- THE TIED CARD OF 'caliperlaw06.RoundSides'. -/
def roundSidesCard : Claim7 := { stood := { row := roundSidesRow, standIns := [], harness := (true, "03dd806b6c02faebe0cf170fcb8fcf918b712308d14c9827f772cfaf759b449b"), looks := false }, kinds := [], alts := [], laidByText := true, laidKinds := [.data], laidTests := true, laidLooks := .later }
def RoundSidesCardSaid : Prop := Claim7.holds Tryd.pinned (.plain (OpenSpec.ofChange roundSidesSpec)) roundSidesCard

/-- THE TIED CARD OF 'caliperlaw06.RoundTurns'. -/
def roundTurnsCard : Claim7 := { stood := { row := roundTurnsRow, standIns := [], harness := (true, "03dd806b6c02faebe0cf170fcb8fcf918b712308d14c9827f772cfaf759b449b"), looks := false }, kinds := [], alts := [], laidByText := true, laidKinds := [.data], laidTests := true, laidLooks := .later }
def RoundTurnsCardSaid : Prop := Claim7.holds Tryd.pinned (.plain (OpenSpec.ofChange roundTurnsSpec)) roundTurnsCard

/-- THE TIED CARD OF 'caliperlaw06.RoundRises'. -/
def roundRisesCard : Claim7 := { stood := { row := roundRisesRow, standIns := [], harness := (true, "03dd806b6c02faebe0cf170fcb8fcf918b712308d14c9827f772cfaf759b449b"), looks := false }, kinds := [], alts := [], laidByText := true, laidKinds := [.data], laidTests := true, laidLooks := .later }
def RoundRisesCardSaid : Prop := Claim7.holds Tryd.pinned (.plain (OpenSpec.ofChange roundRisesSpec)) roundRisesCard

/-- THE SECOND FORM's CARD OF 'caliperlaw06.RoundBinary'. -/
def roundBinaryUptoCard : Claim7 := { stood := { row := roundBinaryUptoRow, standIns := [], harness := (true, "03dd806b6c02faebe0cf170fcb8fcf918b712308d14c9827f772cfaf759b449b"), looks := false }, kinds := [], alts := [], laidByText := true, laidKinds := [.data], laidTests := true, laidLooks := .later }
def RoundBinaryUptoCardSaid : Prop := Claim7.holds Tryd.pinned (.plain (OpenSpec.upto roundBinarySpec)) roundBinaryUptoCard

/-- THE SECOND FORM's CARD OF 'caliperlaw06.RoundScaled'. -/
def roundScaledUptoCard : Claim7 := { stood := { row := roundScaledUptoRow, standIns := [], harness := (true, "03dd806b6c02faebe0cf170fcb8fcf918b712308d14c9827f772cfaf759b449b"), looks := false }, kinds := [], alts := [], laidByText := true, laidKinds := [.data], laidTests := true, laidLooks := .later }
def RoundScaledUptoCardSaid : Prop := Claim7.holds Tryd.pinned (.plain (OpenSpec.upto roundScaledSpec)) roundScaledUptoCard

/-- THE SECOND FORM's CARD OF 'caliperlaw06.RoundKeeps'. -/
def roundKeepsUptoCard : Claim7 := { stood := { row := roundKeepsUptoRow, standIns := [], harness := (true, "03dd806b6c02faebe0cf170fcb8fcf918b712308d14c9827f772cfaf759b449b"), looks := false }, kinds := [], alts := [], laidByText := true, laidKinds := [.data], laidTests := true, laidLooks := .later }
def RoundKeepsUptoCardSaid : Prop := Claim7.holds Tryd.pinned (.plain (OpenSpec.upto roundKeepsSpec)) roundKeepsUptoCard

/-- THE SECOND FORM's CARD OF 'caliperlaw06.RoundSides'. -/
def roundSidesUptoCard : Claim7 := { stood := { row := roundSidesUptoRow, standIns := [], harness := (true, "03dd806b6c02faebe0cf170fcb8fcf918b712308d14c9827f772cfaf759b449b"), looks := false }, kinds := [], alts := [], laidByText := true, laidKinds := [.data], laidTests := true, laidLooks := .later }
def RoundSidesUptoCardSaid : Prop := Claim7.holds Tryd.pinned (.plain (OpenSpec.upto roundSidesSpec)) roundSidesUptoCard

/-- THE SECOND FORM's CARD OF 'caliperlaw06.RoundTurns'. -/
def roundTurnsUptoCard : Claim7 := { stood := { row := roundTurnsUptoRow, standIns := [], harness := (true, "03dd806b6c02faebe0cf170fcb8fcf918b712308d14c9827f772cfaf759b449b"), looks := false }, kinds := [], alts := [], laidByText := true, laidKinds := [.data], laidTests := true, laidLooks := .later }
def RoundTurnsUptoCardSaid : Prop := Claim7.holds Tryd.pinned (.plain (OpenSpec.upto roundTurnsSpec)) roundTurnsUptoCard

/-- THE SECOND FORM's CARD OF 'caliperlaw06.RoundRises'. -/
def roundRisesUptoCard : Claim7 := { stood := { row := roundRisesUptoRow, standIns := [], harness := (true, "03dd806b6c02faebe0cf170fcb8fcf918b712308d14c9827f772cfaf759b449b"), looks := false }, kinds := [], alts := [], laidByText := true, laidKinds := [.data], laidTests := true, laidLooks := .later }
def RoundRisesUptoCardSaid : Prop := Claim7.holds Tryd.pinned (.plain (OpenSpec.upto roundRisesSpec)) roundRisesUptoCard
end Rows
end Go.Proofs.YthcndcanahhbcaaDoor
