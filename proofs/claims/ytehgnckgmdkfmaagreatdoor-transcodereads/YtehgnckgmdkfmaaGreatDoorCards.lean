/-
  DERIVED. GIVEN WITH THE SEED: THE CARDS: each row of YtehgnckgmdkfmaaGreatDoorRows.lean that lists a variable, with what it lists TIED to the program's text (the seventh form; the later family's looks); each row that meets fmt, with fmt's text TOLD by the authors' own Lean function (tested against real Go, not proved from fmt's source: count such statements apart). THE CARD IS WHAT COUNTS. Prove the row's statement (the work); the ties are given (YtehgnckgmdkfmaaGreatDoorTie.lean); close each card by the builder's one call (the guide's Derived/Test/ToyasCard.lean, 'card_holds'). Laid BY PROGRAM, IN A SANDBOX (cutbox-door.mjs). By AI agents, Wed Nov 11 2026. No macro, syntax, notation, axiom, sorry.
-/
import Derived.Test.YtehgnckgmdkfmaaGreatDoorRows
import GoSem.ClaimSeven
namespace Go.Proofs.YtehgnckgmdkfmaaGreatDoor
namespace Rows

/-- THE TIED CARD OF 'caliperlaw17.TranscodeTexts'. -/
def transcodeTextsCard : Claim7 := { stood := { row := transcodeTextsRow, standIns := [], harness := (true, "8d4852a90cfdef4b5055eb026b4ba43ec8a811e2327add6314411cf38b57f6aa"), looks := false }, kinds := [], alts := [], laidByText := true, laidKinds := [.data, .data, .data, .data, .data, .pinned], laidTests := true, laidLooks := .later }
def TranscodeTextsCardSaid : Prop := Claim7.holds Tryz.pinned (.plain (OpenSpec.ofChange transcodeTextsSpec)) transcodeTextsCard

/-- THE TIED CARD OF 'caliperlaw17.TranscodeReads'. -/
def transcodeReadsCard : Claim7 := { stood := { row := transcodeReadsRow, standIns := [], harness := (true, "8d4852a90cfdef4b5055eb026b4ba43ec8a811e2327add6314411cf38b57f6aa"), looks := false }, kinds := [], alts := [], laidByText := true, laidKinds := [.data, .data, .data, .data, .data, .pinned], laidTests := true, laidLooks := .later }
def TranscodeReadsCardSaid : Prop := Claim7.holds Tryz.pinned (.plain (OpenSpec.ofChange transcodeReadsSpec)) transcodeReadsCard

/-- THE SECOND FORM's CARD OF 'caliperlaw17.TranscodeTexts'. -/
def transcodeTextsUptoCard : Claim7 := { stood := { row := transcodeTextsUptoRow, standIns := [], harness := (true, "8d4852a90cfdef4b5055eb026b4ba43ec8a811e2327add6314411cf38b57f6aa"), looks := false }, kinds := [], alts := [], laidByText := true, laidKinds := [.data, .data, .data, .data, .data, .pinned], laidTests := true, laidLooks := .later }
def TranscodeTextsUptoCardSaid : Prop := Claim7.holds Tryz.pinned (.plain (OpenSpec.upto transcodeTextsSpec)) transcodeTextsUptoCard

/-- THE SECOND FORM's CARD OF 'caliperlaw17.TranscodeReads'. -/
def transcodeReadsUptoCard : Claim7 := { stood := { row := transcodeReadsUptoRow, standIns := [], harness := (true, "8d4852a90cfdef4b5055eb026b4ba43ec8a811e2327add6314411cf38b57f6aa"), looks := false }, kinds := [], alts := [], laidByText := true, laidKinds := [.data, .data, .data, .data, .data, .pinned], laidTests := true, laidLooks := .later }
def TranscodeReadsUptoCardSaid : Prop := Claim7.holds Tryz.pinned (.plain (OpenSpec.upto transcodeReadsSpec)) transcodeReadsUptoCard
end Rows
end Go.Proofs.YtehgnckgmdkfmaaGreatDoor
