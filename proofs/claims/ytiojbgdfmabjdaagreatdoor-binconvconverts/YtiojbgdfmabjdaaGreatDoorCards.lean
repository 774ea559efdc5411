/-
  DERIVED. GIVEN WITH THE SEED: THE CARDS: each row of YtiojbgdfmabjdaaGreatDoorRows.lean that lists a variable, with what it lists TIED to the program's text (the seventh form; the later family's looks); each row that meets fmt, with fmt's text TOLD by the authors' own Lean function (tested against real Go, not proved from fmt's source: count such statements apart). THE CARD IS WHAT COUNTS. Prove the row's statement (the work); the ties are given (YtiojbgdfmabjdaaGreatDoorTie.lean); close each card by the builder's one call (the guide's Derived/Test/ToyasCard.lean, 'card_holds'). Laid BY PROGRAM, IN A SANDBOX (cutbox-door.mjs). By AI agents, Wed Nov 11 2026. No macro, syntax, notation, axiom, sorry.
-/
import Derived.Test.YtiojbgdfmabjdaaGreatDoorRows
import GoSem.ClaimSeven
namespace Go.Proofs.YtiojbgdfmabjdaaGreatDoor
namespace Rows

/-- THE TIED CARD OF 'caliperlaw12.BinconvConverts'. -/
def binconvConvertsCard : Claim7 := { stood := { row := binconvConvertsRow, standIns := [], harness := (true, "00f995d6117ed8580d860131f1d5ac14df814b09e5b839e08b90f3e764fb4121"), looks := false }, kinds := [], alts := [], laidByText := true, laidKinds := [.data], laidTests := true, laidLooks := .later }
def BinconvConvertsCardSaid : Prop := Claim7.holds Tryz.pinned (.plain (OpenSpec.ofChange binconvConvertsSpec)) binconvConvertsCard

/-- THE SECOND FORM's CARD OF 'caliperlaw12.BinconvConverts'. -/
def binconvConvertsUptoCard : Claim7 := { stood := { row := binconvConvertsUptoRow, standIns := [], harness := (true, "00f995d6117ed8580d860131f1d5ac14df814b09e5b839e08b90f3e764fb4121"), looks := false }, kinds := [], alts := [], laidByText := true, laidKinds := [.data], laidTests := true, laidLooks := .later }
def BinconvConvertsUptoCardSaid : Prop := Claim7.holds Tryz.pinned (.plain (OpenSpec.upto binconvConvertsSpec)) binconvConvertsUptoCard
end Rows
end Go.Proofs.YtiojbgdfmabjdaaGreatDoor
