/-
  DERIVED. GIVEN WITH THE SEED: THE CARDS: each row of YtoobncgmcnmgjaaGreatDoorRows.lean that lists a variable, with what it lists TIED to the program's text (the seventh form; the later family's looks); each row that meets fmt, with fmt's text TOLD by the authors' own Lean function (tested against real Go, not proved from fmt's source: count such statements apart). THE CARD IS WHAT COUNTS. Prove the row's statement (the work); the ties are given (YtoobncgmcnmgjaaGreatDoorTie.lean); close each card by the builder's one call (the guide's Derived/Test/ToyasCard.lean, 'card_holds'). Laid BY PROGRAM, IN A SANDBOX (cutbox-door.mjs). By AI agents, Wed Nov 11 2026. No macro, syntax, notation, axiom, sorry.
-/
import Derived.Test.YtoobncgmcnmgjaaGreatDoorRows
import GoSem.ClaimSeven
namespace Go.Proofs.YtoobncgmcnmgjaaGreatDoor
namespace Rows

/-- THE TIED CARD OF 'caliperlaw09.ShortestDigits'. -/
def shortestDigitsCard : Claim7 := { stood := { row := shortestDigitsRow, standIns := [], harness := (true, "811896cc6c882a123d563de9ad108ba2960b21d283fe780a3227a90bc5e0fa45"), looks := false }, kinds := [], alts := [], laidByText := true, laidKinds := [.data, .data, .data, .data, .data, .pinned], laidTests := true, laidLooks := .later }
def ShortestDigitsCardSaid : Prop := Claim7.holds Tryz.pinned (.plain (OpenSpec.ofChange shortestDigitsSpec)) shortestDigitsCard

/-- THE TIED CARD OF 'caliperlaw09.ShortestWrites'. -/
def shortestWritesCard : Claim7 := { stood := { row := shortestWritesRow, standIns := [], harness := (true, "811896cc6c882a123d563de9ad108ba2960b21d283fe780a3227a90bc5e0fa45"), looks := false }, kinds := [], alts := [], laidByText := true, laidKinds := [.data, .data, .data, .data, .data, .pinned], laidTests := true, laidLooks := .later }
def ShortestWritesCardSaid : Prop := Claim7.holds Tryz.pinned (.plain (OpenSpec.ofChange shortestWritesSpec)) shortestWritesCard

/-- THE TIED CARD OF 'caliperlaw09.ShortestBack'. -/
def shortestBackCard : Claim7 := { stood := { row := shortestBackRow, standIns := [], harness := (true, "811896cc6c882a123d563de9ad108ba2960b21d283fe780a3227a90bc5e0fa45"), looks := false }, kinds := [], alts := [], laidByText := true, laidKinds := [.data, .data, .data, .data, .data, .pinned], laidTests := true, laidLooks := .later }
def ShortestBackCardSaid : Prop := Claim7.holds Tryz.pinned (.plain (OpenSpec.ofChange shortestBackSpec)) shortestBackCard

/-- THE TIED CARD OF 'caliperlaw09.ShortestLeast'. -/
def shortestLeastCard : Claim7 := { stood := { row := shortestLeastRow, standIns := [], harness := (true, "811896cc6c882a123d563de9ad108ba2960b21d283fe780a3227a90bc5e0fa45"), looks := false }, kinds := [], alts := [], laidByText := true, laidKinds := [.data, .data, .data, .data, .data, .pinned], laidTests := true, laidLooks := .later }
def ShortestLeastCardSaid : Prop := Claim7.holds Tryz.pinned (.plain (OpenSpec.ofChange shortestLeastSpec)) shortestLeastCard

/-- THE TIED CARD OF 'caliperlaw09.ShortestSign'. -/
def shortestSignCard : Claim7 := { stood := { row := shortestSignRow, standIns := [], harness := (true, "811896cc6c882a123d563de9ad108ba2960b21d283fe780a3227a90bc5e0fa45"), looks := false }, kinds := [], alts := [], laidByText := true, laidKinds := [.data, .data, .data, .data, .data, .pinned], laidTests := true, laidLooks := .later }
def ShortestSignCardSaid : Prop := Claim7.holds Tryz.pinned (.plain (OpenSpec.ofChange shortestSignSpec)) shortestSignCard

/-- THE TIED CARD OF 'caliperlaw09.ShortestWhole'. -/
def shortestWholeCard : Claim7 := { stood := { row := shortestWholeRow, standIns := [], harness := (true, "811896cc6c882a123d563de9ad108ba2960b21d283fe780a3227a90bc5e0fa45"), looks := false }, kinds := [], alts := [], laidByText := true, laidKinds := [.data, .data, .data, .data, .data, .pinned], laidTests := true, laidLooks := .later }
def ShortestWholeCardSaid : Prop := Claim7.holds Tryz.pinned (.plain (OpenSpec.ofChange shortestWholeSpec)) shortestWholeCard

/-- THE SECOND FORM's CARD OF 'caliperlaw09.ShortestDigits'. -/
def shortestDigitsUptoCard : Claim7 := { stood := { row := shortestDigitsUptoRow, standIns := [], harness := (true, "811896cc6c882a123d563de9ad108ba2960b21d283fe780a3227a90bc5e0fa45"), looks := false }, kinds := [], alts := [], laidByText := true, laidKinds := [.data, .data, .data, .data, .data, .pinned], laidTests := true, laidLooks := .later }
def ShortestDigitsUptoCardSaid : Prop := Claim7.holds Tryz.pinned (.plain (OpenSpec.upto shortestDigitsSpec)) shortestDigitsUptoCard

/-- THE SECOND FORM's CARD OF 'caliperlaw09.ShortestWrites'. -/
def shortestWritesUptoCard : Claim7 := { stood := { row := shortestWritesUptoRow, standIns := [], harness := (true, "811896cc6c882a123d563de9ad108ba2960b21d283fe780a3227a90bc5e0fa45"), looks := false }, kinds := [], alts := [], laidByText := true, laidKinds := [.data, .data, .data, .data, .data, .pinned], laidTests := true, laidLooks := .later }
def ShortestWritesUptoCardSaid : Prop := Claim7.holds Tryz.pinned (.plain (OpenSpec.upto shortestWritesSpec)) shortestWritesUptoCard

/-- THE SECOND FORM's CARD OF 'caliperlaw09.ShortestBack'. -/
def shortestBackUptoCard : Claim7 := { stood := { row := shortestBackUptoRow, standIns := [], harness := (true, "811896cc6c882a123d563de9ad108ba2960b21d283fe780a3227a90bc5e0fa45"), looks := false }, kinds := [], alts := [], laidByText := true, laidKinds := [.data, .data, .data, .data, .data, .pinned], laidTests := true, laidLooks := .later }
def ShortestBackUptoCardSaid : Prop := Claim7.holds Tryz.pinned (.plain (OpenSpec.upto shortestBackSpec)) shortestBackUptoCard

/-- THE SECOND FORM's CARD OF 'caliperlaw09.ShortestLeast'. -/
def shortestLeastUptoCard : Claim7 := { stood := { row := shortestLeastUptoRow, standIns := [], harness := (true, "811896cc6c882a123d563de9ad108ba2960b21d283fe780a3227a90bc5e0fa45"), looks := false }, kinds := [], alts := [], laidByText := true, laidKinds := [.data, .data, .data, .data, .data, .pinned], laidTests := true, laidLooks := .later }
def ShortestLeastUptoCardSaid : Prop := Claim7.holds Tryz.pinned (.plain (OpenSpec.upto shortestLeastSpec)) shortestLeastUptoCard

/-- THE SECOND FORM's CARD OF 'caliperlaw09.ShortestSign'. -/
def shortestSignUptoCard : Claim7 := { stood := { row := shortestSignUptoRow, standIns := [], harness := (true, "811896cc6c882a123d563de9ad108ba2960b21d283fe780a3227a90bc5e0fa45"), looks := false }, kinds := [], alts := [], laidByText := true, laidKinds := [.data, .data, .data, .data, .data, .pinned], laidTests := true, laidLooks := .later }
def ShortestSignUptoCardSaid : Prop := Claim7.holds Tryz.pinned (.plain (OpenSpec.upto shortestSignSpec)) shortestSignUptoCard

/-- THE SECOND FORM's CARD OF 'caliperlaw09.ShortestWhole'. -/
def shortestWholeUptoCard : Claim7 := { stood := { row := shortestWholeUptoRow, standIns := [], harness := (true, "811896cc6c882a123d563de9ad108ba2960b21d283fe780a3227a90bc5e0fa45"), looks := false }, kinds := [], alts := [], laidByText := true, laidKinds := [.data, .data, .data, .data, .data, .pinned], laidTests := true, laidLooks := .later }
def ShortestWholeUptoCardSaid : Prop := Claim7.holds Tryz.pinned (.plain (OpenSpec.upto shortestWholeSpec)) shortestWholeUptoCard
end Rows
end Go.Proofs.YtoobncgmcnmgjaaGreatDoor
