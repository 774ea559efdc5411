/-
  DERIVED. GIVEN WITH THE SEED: THE CARDS: each row of YtpemdcnneabbfaaGreatDoorRows.lean that lists a variable, with what it lists TIED to the program's text (the seventh form; the later family's looks); each row that meets fmt, with fmt's text TOLD by the authors' own Lean function (tested against real Go, not proved from fmt's source: count such statements apart). THE CARD IS WHAT COUNTS. Prove the row's statement (the work); the ties are given (YtpemdcnneabbfaaGreatDoorTie.lean); close each card by the builder's one call (the guide's Derived/Test/ToyasCard.lean, 'card_holds'). Laid BY PROGRAM, IN A SANDBOX (cutbox-door.mjs). By AI agents, Wed Nov 11 2026. No macro, syntax, notation, axiom, sorry.
-/
import Derived.Test.YtpemdcnneabbfaaGreatDoorRows
import GoSem.ClaimSeven
namespace Go.Proofs.YtpemdcnneabbfaaGreatDoor
namespace Rows

/-- THE TIED CARD OF 'caliperlaw21.NativeInts'. -/
def nativeIntsCard : Claim7 := { stood := { row := nativeIntsRow, standIns := [], harness := (true, "de6ccdd1bf8a5d65e090bc0ef2c14104ec25bffe2488b5003405af1f7cc93a72"), looks := false }, kinds := [], alts := [], laidByText := true, laidKinds := [.data], laidTests := true, laidLooks := .later }
def NativeIntsCardSaid : Prop := Claim7.holds Tryz.pinned (.plain (OpenSpec.ofChange nativeIntsSpec)) nativeIntsCard

/-- THE TIED CARD OF 'caliperlaw21.NativeOwn'. -/
def nativeOwnCard : Claim7 := { stood := { row := nativeOwnRow, standIns := [], harness := (true, "de6ccdd1bf8a5d65e090bc0ef2c14104ec25bffe2488b5003405af1f7cc93a72"), looks := false }, kinds := [], alts := [], laidByText := true, laidKinds := [.data, .data, .data, .data, .data, .pinned], laidTests := true, laidLooks := .later }
def NativeOwnCardSaid : Prop := Claim7.holds Tryz.pinned (.plain (OpenSpec.ofChange nativeOwnSpec)) nativeOwnCard

/-- THE SECOND FORM's CARD OF 'caliperlaw21.NativeInts'. -/
def nativeIntsUptoCard : Claim7 := { stood := { row := nativeIntsUptoRow, standIns := [], harness := (true, "de6ccdd1bf8a5d65e090bc0ef2c14104ec25bffe2488b5003405af1f7cc93a72"), looks := false }, kinds := [], alts := [], laidByText := true, laidKinds := [.data], laidTests := true, laidLooks := .later }
def NativeIntsUptoCardSaid : Prop := Claim7.holds Tryz.pinned (.plain (OpenSpec.upto nativeIntsSpec)) nativeIntsUptoCard

/-- THE SECOND FORM's CARD OF 'caliperlaw21.NativeOwn'. -/
def nativeOwnUptoCard : Claim7 := { stood := { row := nativeOwnUptoRow, standIns := [], harness := (true, "de6ccdd1bf8a5d65e090bc0ef2c14104ec25bffe2488b5003405af1f7cc93a72"), looks := false }, kinds := [], alts := [], laidByText := true, laidKinds := [.data, .data, .data, .data, .data, .pinned], laidTests := true, laidLooks := .later }
def NativeOwnUptoCardSaid : Prop := Claim7.holds Tryz.pinned (.plain (OpenSpec.upto nativeOwnSpec)) nativeOwnUptoCard
end Rows
end Go.Proofs.YtpemdcnneabbfaaGreatDoor
