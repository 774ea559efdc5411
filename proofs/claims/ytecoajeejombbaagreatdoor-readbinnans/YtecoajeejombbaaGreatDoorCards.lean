/-
  DERIVED. GIVEN WITH THE SEED: THE CARDS: each row of YtecoajeejombbaaGreatDoorRows.lean that lists a variable, with what it lists TIED to the program's text (the seventh form; the later family's looks); each row that meets fmt, with fmt's text TOLD by the authors' own Lean function (tested against real Go, not proved from fmt's source: count such statements apart). THE CARD IS WHAT COUNTS. Prove the row's statement (the work); the ties are given (YtecoajeejombbaaGreatDoorTie.lean); close each card by the builder's one call (the guide's Derived/Test/ToyasCard.lean, 'card_holds'). Laid BY PROGRAM, IN A SANDBOX (cutbox-door.mjs). By AI agents, Wed Nov 11 2026. No macro, syntax, notation, axiom, sorry.
-/
import Derived.Test.YtecoajeejombbaaGreatDoorRows
import GoSem.ClaimSeven
namespace Go.Proofs.YtecoajeejombbaaGreatDoor
namespace Rows

/-- THE TIED CARD OF 'caliperlaw08.ReadbinReads'. -/
def readbinReadsCard : Claim7 := { stood := { row := readbinReadsRow, standIns := [], harness := (true, "8bd990c2d36524bb49dde70bcd7d8f1ec1709f937df8b8e5e11e35f630162ba7"), looks := false }, kinds := [], alts := [], laidByText := true, laidKinds := [.data, .data, .data, .data, .data, .pinned], laidTests := true, laidLooks := .later }
def ReadbinReadsCardSaid : Prop := Claim7.holds Tryz.pinned (.plain (OpenSpec.ofChange readbinReadsSpec)) readbinReadsCard

/-- THE TIED CARD OF 'caliperlaw08.ReadbinMakes'. -/
def readbinMakesCard : Claim7 := { stood := { row := readbinMakesRow, standIns := [], harness := (true, "8bd990c2d36524bb49dde70bcd7d8f1ec1709f937df8b8e5e11e35f630162ba7"), looks := false }, kinds := [], alts := [], laidByText := true, laidKinds := [.data, .data, .data, .data, .data, .pinned], laidTests := true, laidLooks := .later }
def ReadbinMakesCardSaid : Prop := Claim7.holds Tryz.pinned (.plain (OpenSpec.ofChange readbinMakesSpec)) readbinMakesCard

/-- THE TIED CARD OF 'caliperlaw08.ReadbinExact'. -/
def readbinExactCard : Claim7 := { stood := { row := readbinExactRow, standIns := [], harness := (true, "8bd990c2d36524bb49dde70bcd7d8f1ec1709f937df8b8e5e11e35f630162ba7"), looks := false }, kinds := [], alts := [], laidByText := true, laidKinds := [.data, .data, .data, .data, .data, .pinned], laidTests := true, laidLooks := .later }
def ReadbinExactCardSaid : Prop := Claim7.holds Tryz.pinned (.plain (OpenSpec.ofChange readbinExactSpec)) readbinExactCard

/-- THE TIED CARD OF 'caliperlaw08.ReadbinSpelt'. -/
def readbinSpeltCard : Claim7 := { stood := { row := readbinSpeltRow, standIns := [], harness := (true, "8bd990c2d36524bb49dde70bcd7d8f1ec1709f937df8b8e5e11e35f630162ba7"), looks := false }, kinds := [], alts := [], laidByText := true, laidKinds := [.data, .data, .data, .data, .data, .pinned], laidTests := true, laidLooks := .later }
def ReadbinSpeltCardSaid : Prop := Claim7.holds Tryz.pinned (.plain (OpenSpec.ofChange readbinSpeltSpec)) readbinSpeltCard

/-- THE TIED CARD OF 'caliperlaw08.ReadbinNaNs'. -/
def readbinNaNsCard : Claim7 := { stood := { row := readbinNaNsRow, standIns := [], harness := (true, "8bd990c2d36524bb49dde70bcd7d8f1ec1709f937df8b8e5e11e35f630162ba7"), looks := false }, kinds := [], alts := [], laidByText := true, laidKinds := [.data, .data, .data, .data, .data, .pinned], laidTests := true, laidLooks := .later }
def ReadbinNaNsCardSaid : Prop := Claim7.holds Tryz.pinned (.plain (OpenSpec.ofChange readbinNaNsSpec)) readbinNaNsCard

/-- THE TIED CARD OF 'caliperlaw08.ReadbinTurns'. -/
def readbinTurnsCard : Claim7 := { stood := { row := readbinTurnsRow, standIns := [], harness := (true, "8bd990c2d36524bb49dde70bcd7d8f1ec1709f937df8b8e5e11e35f630162ba7"), looks := false }, kinds := [], alts := [], laidByText := true, laidKinds := [.data, .data, .data, .data, .data, .pinned], laidTests := true, laidLooks := .later }
def ReadbinTurnsCardSaid : Prop := Claim7.holds Tryz.pinned (.plain (OpenSpec.ofChange readbinTurnsSpec)) readbinTurnsCard

/-- THE SECOND FORM's CARD OF 'caliperlaw08.ReadbinReads'. -/
def readbinReadsUptoCard : Claim7 := { stood := { row := readbinReadsUptoRow, standIns := [], harness := (true, "8bd990c2d36524bb49dde70bcd7d8f1ec1709f937df8b8e5e11e35f630162ba7"), looks := false }, kinds := [], alts := [], laidByText := true, laidKinds := [.data, .data, .data, .data, .data, .pinned], laidTests := true, laidLooks := .later }
def ReadbinReadsUptoCardSaid : Prop := Claim7.holds Tryz.pinned (.plain (OpenSpec.upto readbinReadsSpec)) readbinReadsUptoCard

/-- THE SECOND FORM's CARD OF 'caliperlaw08.ReadbinMakes'. -/
def readbinMakesUptoCard : Claim7 := { stood := { row := readbinMakesUptoRow, standIns := [], harness := (true, "8bd990c2d36524bb49dde70bcd7d8f1ec1709f937df8b8e5e11e35f630162ba7"), looks := false }, kinds := [], alts := [], laidByText := true, laidKinds := [.data, .data, .data, .data, .data, .pinned], laidTests := true, laidLooks := .later }
def ReadbinMakesUptoCardSaid : Prop := Claim7.holds Tryz.pinned (.plain (OpenSpec.upto readbinMakesSpec)) readbinMakesUptoCard

/-- THE SECOND FORM's CARD OF 'caliperlaw08.ReadbinExact'. -/
def readbinExactUptoCard : Claim7 := { stood := { row := readbinExactUptoRow, standIns := [], harness := (true, "8bd990c2d36524bb49dde70bcd7d8f1ec1709f937df8b8e5e11e35f630162ba7"), looks := false }, kinds := [], alts := [], laidByText := true, laidKinds := [.data, .data, .data, .data, .data, .pinned], laidTests := true, laidLooks := .later }
def ReadbinExactUptoCardSaid : Prop := Claim7.holds Tryz.pinned (.plain (OpenSpec.upto readbinExactSpec)) readbinExactUptoCard

/-- THE SECOND FORM's CARD OF 'caliperlaw08.ReadbinSpelt'. -/
def readbinSpeltUptoCard : Claim7 := { stood := { row := readbinSpeltUptoRow, standIns := [], harness := (true, "8bd990c2d36524bb49dde70bcd7d8f1ec1709f937df8b8e5e11e35f630162ba7"), looks := false }, kinds := [], alts := [], laidByText := true, laidKinds := [.data, .data, .data, .data, .data, .pinned], laidTests := true, laidLooks := .later }
def ReadbinSpeltUptoCardSaid : Prop := Claim7.holds Tryz.pinned (.plain (OpenSpec.upto readbinSpeltSpec)) readbinSpeltUptoCard

/-- THE SECOND FORM's CARD OF 'caliperlaw08.ReadbinNaNs'. -/
def readbinNaNsUptoCard : Claim7 := { stood := { row := readbinNaNsUptoRow, standIns := [], harness := (true, "8bd990c2d36524bb49dde70bcd7d8f1ec1709f937df8b8e5e11e35f630162ba7"), looks := false }, kinds := [], alts := [], laidByText := true, laidKinds := [.data, .data, .data, .data, .data, .pinned], laidTests := true, laidLooks := .later }
def ReadbinNaNsUptoCardSaid : Prop := Claim7.holds Tryz.pinned (.plain (OpenSpec.upto readbinNaNsSpec)) readbinNaNsUptoCard

/-- THE SECOND FORM's CARD OF 'caliperlaw08.ReadbinTurns'. -/
def readbinTurnsUptoCard : Claim7 := { stood := { row := readbinTurnsUptoRow, standIns := [], harness := (true, "8bd990c2d36524bb49dde70bcd7d8f1ec1709f937df8b8e5e11e35f630162ba7"), looks := false }, kinds := [], alts := [], laidByText := true, laidKinds := [.data, .data, .data, .data, .data, .pinned], laidTests := true, laidLooks := .later }
def ReadbinTurnsUptoCardSaid : Prop := Claim7.holds Tryz.pinned (.plain (OpenSpec.upto readbinTurnsSpec)) readbinTurnsUptoCard
end Rows
end Go.Proofs.YtecoajeejombbaaGreatDoor
