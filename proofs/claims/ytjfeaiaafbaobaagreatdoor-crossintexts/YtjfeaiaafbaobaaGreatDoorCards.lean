/-
  DERIVED. GIVEN WITH THE SEED: THE CARDS: each row of YtjfeaiaafbaobaaGreatDoorRows.lean that lists a variable, with what it lists TIED to the program's text (the seventh form; the later family's looks); each row that meets fmt, with fmt's text TOLD by the authors' own Lean function (tested against real Go, not proved from fmt's source: count such statements apart). THE CARD IS WHAT COUNTS. Prove the row's statement (the work); the ties are given (YtjfeaiaafbaobaaGreatDoorTie.lean); close each card by the builder's one call (the guide's Derived/Test/ToyasCard.lean, 'card_holds'). Laid BY PROGRAM, IN A SANDBOX (cutbox-door.mjs). By AI agents, Wed Nov 11 2026. No macro, syntax, notation, axiom, sorry.
-/
import Derived.Test.YtjfeaiaafbaobaaGreatDoorRows
import GoSem.ClaimSeven
namespace Go.Proofs.YtjfeaiaafbaobaaGreatDoor
namespace Rows

/-- THE TIED CARD OF 'caliperlaw18.CrossinConverts'. -/
def crossinConvertsCard : Claim7 := { stood := { row := crossinConvertsRow, standIns := [], harness := (true, "21ec7e0e3285b779acab748d6316493a25155ae46862f535580af69aacb6a051"), looks := false }, kinds := [], alts := [], laidByText := true, laidKinds := [.data], laidTests := true, laidLooks := .later }
def CrossinConvertsCardSaid : Prop := Claim7.holds Tryz.pinned (.plain (OpenSpec.ofChange crossinConvertsSpec)) crossinConvertsCard

/-- THE TIED CARD OF 'caliperlaw18.CrossinCohorts'. -/
def crossinCohortsCard : Claim7 := { stood := { row := crossinCohortsRow, standIns := [], harness := (true, "21ec7e0e3285b779acab748d6316493a25155ae46862f535580af69aacb6a051"), looks := false }, kinds := [], alts := [], laidByText := true, laidKinds := [.data], laidTests := true, laidLooks := .later }
def CrossinCohortsCardSaid : Prop := Claim7.holds Tryz.pinned (.plain (OpenSpec.ofChange crossinCohortsSpec)) crossinCohortsCard

/-- THE TIED CARD OF 'caliperlaw18.CrossinTwins'. -/
def crossinTwinsCard : Claim7 := { stood := { row := crossinTwinsRow, standIns := [], harness := (true, "21ec7e0e3285b779acab748d6316493a25155ae46862f535580af69aacb6a051"), looks := false }, kinds := [], alts := [], laidByText := true, laidKinds := [.data], laidTests := true, laidLooks := .later }
def CrossinTwinsCardSaid : Prop := Claim7.holds Tryz.pinned (.plain (OpenSpec.ofChange crossinTwinsSpec)) crossinTwinsCard

/-- THE TIED CARD OF 'caliperlaw18.CrossinTexts'. -/
def crossinTextsCard : Claim7 := { stood := { row := crossinTextsRow, standIns := [], harness := (true, "21ec7e0e3285b779acab748d6316493a25155ae46862f535580af69aacb6a051"), looks := false }, kinds := [], alts := [], laidByText := true, laidKinds := [.data, .data, .data, .data, .data, .pinned], laidTests := true, laidLooks := .later }
def CrossinTextsCardSaid : Prop := Claim7.holds Tryz.pinned (.plain (OpenSpec.ofChange crossinTextsSpec)) crossinTextsCard

/-- THE TIED CARD OF 'caliperlaw18.CrossinTurns'. -/
def crossinTurnsCard : Claim7 := { stood := { row := crossinTurnsRow, standIns := [], harness := (true, "21ec7e0e3285b779acab748d6316493a25155ae46862f535580af69aacb6a051"), looks := false }, kinds := [], alts := [], laidByText := true, laidKinds := [.data], laidTests := true, laidLooks := .later }
def CrossinTurnsCardSaid : Prop := Claim7.holds Tryz.pinned (.plain (OpenSpec.ofChange crossinTurnsSpec)) crossinTurnsCard

/-- THE SECOND FORM's CARD OF 'caliperlaw18.CrossinConverts'. -/
def crossinConvertsUptoCard : Claim7 := { stood := { row := crossinConvertsUptoRow, standIns := [], harness := (true, "21ec7e0e3285b779acab748d6316493a25155ae46862f535580af69aacb6a051"), looks := false }, kinds := [], alts := [], laidByText := true, laidKinds := [.data], laidTests := true, laidLooks := .later }
def CrossinConvertsUptoCardSaid : Prop := Claim7.holds Tryz.pinned (.plain (OpenSpec.upto crossinConvertsSpec)) crossinConvertsUptoCard

/-- THE SECOND FORM's CARD OF 'caliperlaw18.CrossinCohorts'. -/
def crossinCohortsUptoCard : Claim7 := { stood := { row := crossinCohortsUptoRow, standIns := [], harness := (true, "21ec7e0e3285b779acab748d6316493a25155ae46862f535580af69aacb6a051"), looks := false }, kinds := [], alts := [], laidByText := true, laidKinds := [.data], laidTests := true, laidLooks := .later }
def CrossinCohortsUptoCardSaid : Prop := Claim7.holds Tryz.pinned (.plain (OpenSpec.upto crossinCohortsSpec)) crossinCohortsUptoCard

/-- THE SECOND FORM's CARD OF 'caliperlaw18.CrossinTwins'. -/
def crossinTwinsUptoCard : Claim7 := { stood := { row := crossinTwinsUptoRow, standIns := [], harness := (true, "21ec7e0e3285b779acab748d6316493a25155ae46862f535580af69aacb6a051"), looks := false }, kinds := [], alts := [], laidByText := true, laidKinds := [.data], laidTests := true, laidLooks := .later }
def CrossinTwinsUptoCardSaid : Prop := Claim7.holds Tryz.pinned (.plain (OpenSpec.upto crossinTwinsSpec)) crossinTwinsUptoCard

/-- THE SECOND FORM's CARD OF 'caliperlaw18.CrossinTexts'. -/
def crossinTextsUptoCard : Claim7 := { stood := { row := crossinTextsUptoRow, standIns := [], harness := (true, "21ec7e0e3285b779acab748d6316493a25155ae46862f535580af69aacb6a051"), looks := false }, kinds := [], alts := [], laidByText := true, laidKinds := [.data, .data, .data, .data, .data, .pinned], laidTests := true, laidLooks := .later }
def CrossinTextsUptoCardSaid : Prop := Claim7.holds Tryz.pinned (.plain (OpenSpec.upto crossinTextsSpec)) crossinTextsUptoCard

/-- THE SECOND FORM's CARD OF 'caliperlaw18.CrossinTurns'. -/
def crossinTurnsUptoCard : Claim7 := { stood := { row := crossinTurnsUptoRow, standIns := [], harness := (true, "21ec7e0e3285b779acab748d6316493a25155ae46862f535580af69aacb6a051"), looks := false }, kinds := [], alts := [], laidByText := true, laidKinds := [.data], laidTests := true, laidLooks := .later }
def CrossinTurnsUptoCardSaid : Prop := Claim7.holds Tryz.pinned (.plain (OpenSpec.upto crossinTurnsSpec)) crossinTurnsUptoCard
end Rows
end Go.Proofs.YtjfeaiaafbaobaaGreatDoor
