/-
  DERIVED. GIVEN WITH THE SEED: THE CARDS: each row of YtplocajjfoiklaaGreatDoorRows.lean that lists a variable, with what it lists TIED to the program's text (the seventh form; the later family's looks); each row that meets fmt, with fmt's text TOLD by the authors' own Lean function (tested against real Go, not proved from fmt's source: count such statements apart). THE CARD IS WHAT COUNTS. Prove the row's statement (the work); the ties are given (YtplocajjfoiklaaGreatDoorTie.lean); close each card by the builder's one call (the guide's Derived/Test/ToyasCard.lean, 'card_holds'). Laid BY PROGRAM, IN A SANDBOX (cutbox-door.mjs). By AI agents, Wed Nov 11 2026. No macro, syntax, notation, axiom, sorry.
-/
import Derived.Test.YtplocajjfoiklaaGreatDoorRows
import GoSem.ClaimSeven
namespace Go.Proofs.YtplocajjfoiklaaGreatDoor
namespace Rows

/-- THE TIED CARD OF 'caliperlaw11.HexformWrites'. -/
def hexformWritesCard : Claim7 := { stood := { row := hexformWritesRow, standIns := [], harness := (true, "c5a48c0e015b6bf39a29df2bcb59ff7153121d7ae2d890a37ebfcd0191696338"), looks := true }, kinds := [], alts := [], laidByText := true, laidKinds := [.data, .data, .data, .data, .data, .pinned], laidTests := true, laidLooks := .later }
def HexformWritesCardSaid : Prop := Claim7.holds Tryz.pinned (.plain (OpenSpec.ofChange hexformWritesSpec)) hexformWritesCard

/-- THE TIED CARD OF 'caliperlaw11.HexformReads'. -/
def hexformReadsCard : Claim7 := { stood := { row := hexformReadsRow, standIns := [], harness := (true, "c5a48c0e015b6bf39a29df2bcb59ff7153121d7ae2d890a37ebfcd0191696338"), looks := true }, kinds := [], alts := [], laidByText := true, laidKinds := [.data, .data, .data, .data, .sentinel, .sentinel, .data, .pinned], laidTests := true, laidLooks := .later }
def HexformReadsCardSaid : Prop := Claim7.holds Tryz.pinned (.plain (OpenSpec.ofChange hexformReadsSpec)) hexformReadsCard

/-- THE TIED CARD OF 'caliperlaw11.HexformBack'. -/
def hexformBackCard : Claim7 := { stood := { row := hexformBackRow, standIns := [], harness := (true, "c5a48c0e015b6bf39a29df2bcb59ff7153121d7ae2d890a37ebfcd0191696338"), looks := true }, kinds := [], alts := [], laidByText := true, laidKinds := [.data, .data, .data, .data, .sentinel, .sentinel, .data, .pinned], laidTests := true, laidLooks := .later }
def HexformBackCardSaid : Prop := Claim7.holds Tryz.pinned (.plain (OpenSpec.ofChange hexformBackSpec)) hexformBackCard

/-- THE TIED CARD OF 'caliperlaw11.HexformMoves'. -/
def hexformMovesCard : Claim7 := { stood := { row := hexformMovesRow, standIns := [], harness := (true, "c5a48c0e015b6bf39a29df2bcb59ff7153121d7ae2d890a37ebfcd0191696338"), looks := true }, kinds := [], alts := [], laidByText := true, laidKinds := [.data, .data, .data, .data, .sentinel, .sentinel, .data, .pinned], laidTests := true, laidLooks := .later }
def HexformMovesCardSaid : Prop := Claim7.holds Tryz.pinned (.plain (OpenSpec.ofChange hexformMovesSpec)) hexformMovesCard

/-- THE TIED CARD OF 'caliperlaw11.HexformAgrees'. -/
def hexformAgreesCard : Claim7 := { stood := { row := hexformAgreesRow, standIns := [], harness := (true, "c5a48c0e015b6bf39a29df2bcb59ff7153121d7ae2d890a37ebfcd0191696338"), looks := true }, kinds := [], alts := [], laidByText := true, laidKinds := [.data, .data, .data, .data, .sentinel, .sentinel, .data, .pinned], laidTests := true, laidLooks := .later }
def HexformAgreesCardSaid : Prop := Claim7.holds Tryz.pinned (.plain (OpenSpec.ofChange hexformAgreesSpec)) hexformAgreesCard

/-- THE SECOND FORM's CARD OF 'caliperlaw11.HexformWrites'. -/
def hexformWritesUptoCard : Claim7 := { stood := { row := hexformWritesUptoRow, standIns := [], harness := (true, "c5a48c0e015b6bf39a29df2bcb59ff7153121d7ae2d890a37ebfcd0191696338"), looks := true }, kinds := [], alts := [], laidByText := true, laidKinds := [.data, .data, .data, .data, .data, .pinned], laidTests := true, laidLooks := .later }
def HexformWritesUptoCardSaid : Prop := Claim7.holds Tryz.pinned (.plain (OpenSpec.upto hexformWritesSpec)) hexformWritesUptoCard

/-- THE SECOND FORM's CARD OF 'caliperlaw11.HexformReads'. -/
def hexformReadsUptoCard : Claim7 := { stood := { row := hexformReadsUptoRow, standIns := [], harness := (true, "c5a48c0e015b6bf39a29df2bcb59ff7153121d7ae2d890a37ebfcd0191696338"), looks := true }, kinds := [], alts := [], laidByText := true, laidKinds := [.data, .data, .data, .data, .sentinel, .sentinel, .data, .pinned], laidTests := true, laidLooks := .later }
def HexformReadsUptoCardSaid : Prop := Claim7.holds Tryz.pinned (.plain (OpenSpec.upto hexformReadsSpec)) hexformReadsUptoCard

/-- THE SECOND FORM's CARD OF 'caliperlaw11.HexformBack'. -/
def hexformBackUptoCard : Claim7 := { stood := { row := hexformBackUptoRow, standIns := [], harness := (true, "c5a48c0e015b6bf39a29df2bcb59ff7153121d7ae2d890a37ebfcd0191696338"), looks := true }, kinds := [], alts := [], laidByText := true, laidKinds := [.data, .data, .data, .data, .sentinel, .sentinel, .data, .pinned], laidTests := true, laidLooks := .later }
def HexformBackUptoCardSaid : Prop := Claim7.holds Tryz.pinned (.plain (OpenSpec.upto hexformBackSpec)) hexformBackUptoCard

/-- THE SECOND FORM's CARD OF 'caliperlaw11.HexformMoves'. -/
def hexformMovesUptoCard : Claim7 := { stood := { row := hexformMovesUptoRow, standIns := [], harness := (true, "c5a48c0e015b6bf39a29df2bcb59ff7153121d7ae2d890a37ebfcd0191696338"), looks := true }, kinds := [], alts := [], laidByText := true, laidKinds := [.data, .data, .data, .data, .sentinel, .sentinel, .data, .pinned], laidTests := true, laidLooks := .later }
def HexformMovesUptoCardSaid : Prop := Claim7.holds Tryz.pinned (.plain (OpenSpec.upto hexformMovesSpec)) hexformMovesUptoCard

/-- THE SECOND FORM's CARD OF 'caliperlaw11.HexformAgrees'. -/
def hexformAgreesUptoCard : Claim7 := { stood := { row := hexformAgreesUptoRow, standIns := [], harness := (true, "c5a48c0e015b6bf39a29df2bcb59ff7153121d7ae2d890a37ebfcd0191696338"), looks := true }, kinds := [], alts := [], laidByText := true, laidKinds := [.data, .data, .data, .data, .sentinel, .sentinel, .data, .pinned], laidTests := true, laidLooks := .later }
def HexformAgreesUptoCardSaid : Prop := Claim7.holds Tryz.pinned (.plain (OpenSpec.upto hexformAgreesSpec)) hexformAgreesUptoCard
end Rows
end Go.Proofs.YtplocajjfoiklaaGreatDoor
