/-
  DERIVED. GIVEN WITH THE SEED: THE CARDS: each row of YtpfnfaekgaipjaaGreatDoorRows.lean that lists a variable, with what it lists TIED to the program's text (the seventh form; the later family's looks); each row that meets fmt, with fmt's text TOLD by the authors' own Lean function (tested against real Go, not proved from fmt's source: count such statements apart). THE CARD IS WHAT COUNTS. Prove the row's statement (the work); the ties are given (YtpfnfaekgaipjaaGreatDoorTie.lean); close each card by the builder's one call (the guide's Derived/Test/ToyasCard.lean, 'card_holds'). Laid BY PROGRAM, IN A SANDBOX (cutbox-door.mjs). By AI agents, Wed Nov 11 2026. No macro, syntax, notation, axiom, sorry.
-/
import Derived.Test.YtpfnfaekgaipjaaGreatDoorRows
import GoSem.ClaimSeven
namespace Go.Proofs.YtpfnfaekgaipjaaGreatDoor
namespace Rows

/-- THE TIED CARD OF 'caliperlaw08.ReadbinExact'. -/
def readbinExactCard : Claim7 := { stood := { row := readbinExactRow, standIns := [], harness := (true, "32562ddd6b2367fcbc8794a75dbaba21ca09dd463902416962269e9e4e07f93d"), looks := false }, kinds := [], alts := [], laidByText := true, laidKinds := [.data, .data, .data, .data, .data, .pinned], laidTests := true, laidLooks := .later }
def ReadbinExactCardSaid : Prop := Claim7.holds Tryz.pinned (.plain (OpenSpec.ofChange readbinExactSpec)) readbinExactCard

/-- THE TIED CARD OF 'caliperlaw08.ReadbinSpelt'. -/
def readbinSpeltCard : Claim7 := { stood := { row := readbinSpeltRow, standIns := [], harness := (true, "32562ddd6b2367fcbc8794a75dbaba21ca09dd463902416962269e9e4e07f93d"), looks := false }, kinds := [], alts := [], laidByText := true, laidKinds := [.data, .data, .data, .data, .data, .pinned], laidTests := true, laidLooks := .later }
def ReadbinSpeltCardSaid : Prop := Claim7.holds Tryz.pinned (.plain (OpenSpec.ofChange readbinSpeltSpec)) readbinSpeltCard

/-- THE SECOND FORM's CARD OF 'caliperlaw08.ReadbinExact'. -/
def readbinExactUptoCard : Claim7 := { stood := { row := readbinExactUptoRow, standIns := [], harness := (true, "32562ddd6b2367fcbc8794a75dbaba21ca09dd463902416962269e9e4e07f93d"), looks := false }, kinds := [], alts := [], laidByText := true, laidKinds := [.data, .data, .data, .data, .data, .pinned], laidTests := true, laidLooks := .later }
def ReadbinExactUptoCardSaid : Prop := Claim7.holds Tryz.pinned (.plain (OpenSpec.upto readbinExactSpec)) readbinExactUptoCard

/-- THE SECOND FORM's CARD OF 'caliperlaw08.ReadbinSpelt'. -/
def readbinSpeltUptoCard : Claim7 := { stood := { row := readbinSpeltUptoRow, standIns := [], harness := (true, "32562ddd6b2367fcbc8794a75dbaba21ca09dd463902416962269e9e4e07f93d"), looks := false }, kinds := [], alts := [], laidByText := true, laidKinds := [.data, .data, .data, .data, .data, .pinned], laidTests := true, laidLooks := .later }
def ReadbinSpeltUptoCardSaid : Prop := Claim7.holds Tryz.pinned (.plain (OpenSpec.upto readbinSpeltSpec)) readbinSpeltUptoCard
end Rows
end Go.Proofs.YtpfnfaekgaipjaaGreatDoor
