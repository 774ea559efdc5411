/-
  DERIVED. GIVEN WITH THE SEED: THE CARDS: each row of YtpabnhlfbjkmaaaGreatDoorRows.lean that lists a variable, with what it lists TIED to the program's text (the seventh form; the later family's looks); each row that meets fmt, with fmt's text TOLD by the authors' own Lean function (tested against real Go, not proved from fmt's source: count such statements apart). THE CARD IS WHAT COUNTS. Prove the row's statement (the work); the ties are given (YtpabnhlfbjkmaaaGreatDoorTie.lean); close each card by the builder's one call (the guide's Derived/Test/ToyasCard.lean, 'card_holds'). Laid BY PROGRAM, IN A SANDBOX (cutbox-door.mjs). By AI agents, Wed Nov 11 2026. No macro, syntax, notation, axiom, sorry.
-/
import Derived.Test.YtpabnhlfbjkmaaaGreatDoorRows
import GoSem.ClaimSeven
namespace Go.Proofs.YtpabnhlfbjkmaaaGreatDoor
namespace Rows

/-- THE TIED CARD OF 'caliperlaw16.DectextWrites'. -/
def dectextWritesCard : Claim7 := { stood := { row := dectextWritesRow, standIns := [], harness := (true, "2db1b315be12dd1c884d452feb48dd6cb96a19e444d122cc2514b87ee5e81ac4"), looks := false }, kinds := [], alts := [], laidByText := true, laidKinds := [.data, .data, .data, .data, .data, .pinned], laidTests := true, laidLooks := .later }
def DectextWritesCardSaid : Prop := Claim7.holds Tryz.pinned (.plain (OpenSpec.ofChange dectextWritesSpec)) dectextWritesCard

/-- THE TIED CARD OF 'caliperlaw16.DectextReads'. -/
def dectextReadsCard : Claim7 := { stood := { row := dectextReadsRow, standIns := [], harness := (true, "2db1b315be12dd1c884d452feb48dd6cb96a19e444d122cc2514b87ee5e81ac4"), looks := false }, kinds := [], alts := [], laidByText := true, laidKinds := [.data, .data, .data, .data, .data, .pinned], laidTests := true, laidLooks := .later }
def DectextReadsCardSaid : Prop := Claim7.holds Tryz.pinned (.plain (OpenSpec.ofChange dectextReadsSpec)) dectextReadsCard

/-- THE TIED CARD OF 'caliperlaw16.DectextBack'. -/
def dectextBackCard : Claim7 := { stood := { row := dectextBackRow, standIns := [], harness := (true, "2db1b315be12dd1c884d452feb48dd6cb96a19e444d122cc2514b87ee5e81ac4"), looks := false }, kinds := [], alts := [], laidByText := true, laidKinds := [.data, .data, .data, .data, .data, .pinned], laidTests := true, laidLooks := .later }
def DectextBackCardSaid : Prop := Claim7.holds Tryz.pinned (.plain (OpenSpec.ofChange dectextBackSpec)) dectextBackCard

/-- THE TIED CARD OF 'caliperlaw16.DectextKeeps'. -/
def dectextKeepsCard : Claim7 := { stood := { row := dectextKeepsRow, standIns := [], harness := (true, "2db1b315be12dd1c884d452feb48dd6cb96a19e444d122cc2514b87ee5e81ac4"), looks := false }, kinds := [], alts := [], laidByText := true, laidKinds := [.data, .data, .data, .data, .data, .pinned], laidTests := true, laidLooks := .later }
def DectextKeepsCardSaid : Prop := Claim7.holds Tryz.pinned (.plain (OpenSpec.ofChange dectextKeepsSpec)) dectextKeepsCard

/-- THE TIED CARD OF 'caliperlaw16.DectextCohorts'. -/
def dectextCohortsCard : Claim7 := { stood := { row := dectextCohortsRow, standIns := [], harness := (true, "2db1b315be12dd1c884d452feb48dd6cb96a19e444d122cc2514b87ee5e81ac4"), looks := false }, kinds := [], alts := [], laidByText := true, laidKinds := [.data, .data, .data, .data, .data, .pinned], laidTests := true, laidLooks := .later }
def DectextCohortsCardSaid : Prop := Claim7.holds Tryz.pinned (.plain (OpenSpec.ofChange dectextCohortsSpec)) dectextCohortsCard

/-- THE SECOND FORM's CARD OF 'caliperlaw16.DectextWrites'. -/
def dectextWritesUptoCard : Claim7 := { stood := { row := dectextWritesUptoRow, standIns := [], harness := (true, "2db1b315be12dd1c884d452feb48dd6cb96a19e444d122cc2514b87ee5e81ac4"), looks := false }, kinds := [], alts := [], laidByText := true, laidKinds := [.data, .data, .data, .data, .data, .pinned], laidTests := true, laidLooks := .later }
def DectextWritesUptoCardSaid : Prop := Claim7.holds Tryz.pinned (.plain (OpenSpec.upto dectextWritesSpec)) dectextWritesUptoCard

/-- THE SECOND FORM's CARD OF 'caliperlaw16.DectextReads'. -/
def dectextReadsUptoCard : Claim7 := { stood := { row := dectextReadsUptoRow, standIns := [], harness := (true, "2db1b315be12dd1c884d452feb48dd6cb96a19e444d122cc2514b87ee5e81ac4"), looks := false }, kinds := [], alts := [], laidByText := true, laidKinds := [.data, .data, .data, .data, .data, .pinned], laidTests := true, laidLooks := .later }
def DectextReadsUptoCardSaid : Prop := Claim7.holds Tryz.pinned (.plain (OpenSpec.upto dectextReadsSpec)) dectextReadsUptoCard

/-- THE SECOND FORM's CARD OF 'caliperlaw16.DectextBack'. -/
def dectextBackUptoCard : Claim7 := { stood := { row := dectextBackUptoRow, standIns := [], harness := (true, "2db1b315be12dd1c884d452feb48dd6cb96a19e444d122cc2514b87ee5e81ac4"), looks := false }, kinds := [], alts := [], laidByText := true, laidKinds := [.data, .data, .data, .data, .data, .pinned], laidTests := true, laidLooks := .later }
def DectextBackUptoCardSaid : Prop := Claim7.holds Tryz.pinned (.plain (OpenSpec.upto dectextBackSpec)) dectextBackUptoCard

/-- THE SECOND FORM's CARD OF 'caliperlaw16.DectextKeeps'. -/
def dectextKeepsUptoCard : Claim7 := { stood := { row := dectextKeepsUptoRow, standIns := [], harness := (true, "2db1b315be12dd1c884d452feb48dd6cb96a19e444d122cc2514b87ee5e81ac4"), looks := false }, kinds := [], alts := [], laidByText := true, laidKinds := [.data, .data, .data, .data, .data, .pinned], laidTests := true, laidLooks := .later }
def DectextKeepsUptoCardSaid : Prop := Claim7.holds Tryz.pinned (.plain (OpenSpec.upto dectextKeepsSpec)) dectextKeepsUptoCard

/-- THE SECOND FORM's CARD OF 'caliperlaw16.DectextCohorts'. -/
def dectextCohortsUptoCard : Claim7 := { stood := { row := dectextCohortsUptoRow, standIns := [], harness := (true, "2db1b315be12dd1c884d452feb48dd6cb96a19e444d122cc2514b87ee5e81ac4"), looks := false }, kinds := [], alts := [], laidByText := true, laidKinds := [.data, .data, .data, .data, .data, .pinned], laidTests := true, laidLooks := .later }
def DectextCohortsUptoCardSaid : Prop := Claim7.holds Tryz.pinned (.plain (OpenSpec.upto dectextCohortsSpec)) dectextCohortsUptoCard
end Rows
end Go.Proofs.YtpabnhlfbjkmaaaGreatDoor
