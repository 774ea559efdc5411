/-
  DERIVED. GIVEN WITH THE SEED: THE CARDS: each row of YtehgnckgmdkfmaaDoorRows.lean that lists a variable, with what it lists TIED to the program's text (the seventh form; the later family's looks); each row that meets fmt, with fmt's text TOLD by the authors' own Lean function (tested against real Go, not proved from fmt's source: count such statements apart). THE CARD IS WHAT COUNTS. Prove the row's statement (the work); the ties are given (YtehgnckgmdkfmaaDoorTie.lean); close each card by the builder's one call (the guide's Derived/Test/ToyasCard.lean, 'card_holds'). Laid BY PROGRAM, IN A SANDBOX (cutbox-door.mjs). By AI agents, Wed Nov 11 2026. No macro, syntax, notation, axiom, sorry.
-/
import Derived.Test.YtehgnckgmdkfmaaDoorRows
import GoSem.ClaimSeven
namespace Go.Proofs.YtehgnckgmdkfmaaDoor
namespace Rows

/-- THE TIED CARD OF 'caliperlaw17.TranscodeCodes'. -/
def transcodeCodesCard : Claim7 := { stood := { row := transcodeCodesRow, standIns := [], harness := (true, "32fe88609276d2d59a7f6ed0860c03fcc745a04ca9d2cb4465a1d90c36da6c29"), looks := false }, kinds := [], alts := [], laidByText := true, laidKinds := [.data], laidTests := true, laidLooks := .later }
def TranscodeCodesCardSaid : Prop := Claim7.holds Tryd.pinned (.plain (OpenSpec.ofChange transcodeCodesSpec)) transcodeCodesCard

/-- THE TIED CARD OF 'caliperlaw17.TranscodeBack'. -/
def transcodeBackCard : Claim7 := { stood := { row := transcodeBackRow, standIns := [], harness := (true, "32fe88609276d2d59a7f6ed0860c03fcc745a04ca9d2cb4465a1d90c36da6c29"), looks := false }, kinds := [], alts := [], laidByText := true, laidKinds := [.data], laidTests := true, laidLooks := .later }
def TranscodeBackCardSaid : Prop := Claim7.holds Tryd.pinned (.plain (OpenSpec.ofChange transcodeBackSpec)) transcodeBackCard

/-- THE TIED CARD OF 'caliperlaw17.TranscodeApart'. -/
def transcodeApartCard : Claim7 := { stood := { row := transcodeApartRow, standIns := [], harness := (true, "32fe88609276d2d59a7f6ed0860c03fcc745a04ca9d2cb4465a1d90c36da6c29"), looks := false }, kinds := [], alts := [], laidByText := true, laidKinds := [.data], laidTests := true, laidLooks := .later }
def TranscodeApartCardSaid : Prop := Claim7.holds Tryd.pinned (.plain (OpenSpec.ofChange transcodeApartSpec)) transcodeApartCard

/-- THE SECOND FORM's CARD OF 'caliperlaw17.TranscodeCodes'. -/
def transcodeCodesUptoCard : Claim7 := { stood := { row := transcodeCodesUptoRow, standIns := [], harness := (true, "32fe88609276d2d59a7f6ed0860c03fcc745a04ca9d2cb4465a1d90c36da6c29"), looks := false }, kinds := [], alts := [], laidByText := true, laidKinds := [.data], laidTests := true, laidLooks := .later }
def TranscodeCodesUptoCardSaid : Prop := Claim7.holds Tryd.pinned (.plain (OpenSpec.upto transcodeCodesSpec)) transcodeCodesUptoCard

/-- THE SECOND FORM's CARD OF 'caliperlaw17.TranscodeBack'. -/
def transcodeBackUptoCard : Claim7 := { stood := { row := transcodeBackUptoRow, standIns := [], harness := (true, "32fe88609276d2d59a7f6ed0860c03fcc745a04ca9d2cb4465a1d90c36da6c29"), looks := false }, kinds := [], alts := [], laidByText := true, laidKinds := [.data], laidTests := true, laidLooks := .later }
def TranscodeBackUptoCardSaid : Prop := Claim7.holds Tryd.pinned (.plain (OpenSpec.upto transcodeBackSpec)) transcodeBackUptoCard

/-- THE SECOND FORM's CARD OF 'caliperlaw17.TranscodeApart'. -/
def transcodeApartUptoCard : Claim7 := { stood := { row := transcodeApartUptoRow, standIns := [], harness := (true, "32fe88609276d2d59a7f6ed0860c03fcc745a04ca9d2cb4465a1d90c36da6c29"), looks := false }, kinds := [], alts := [], laidByText := true, laidKinds := [.data], laidTests := true, laidLooks := .later }
def TranscodeApartUptoCardSaid : Prop := Claim7.holds Tryd.pinned (.plain (OpenSpec.upto transcodeApartSpec)) transcodeApartUptoCard
end Rows
end Go.Proofs.YtehgnckgmdkfmaaDoor
