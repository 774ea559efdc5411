/-
  DERIVED. GIVEN WITH THE SEED: THE CARDS: each row of YtgknbdehlmlipabGreatDoorRows.lean that lists a variable, with what it lists TIED to the program's text (the seventh form; the later family's looks); each row that meets fmt, with fmt's text TOLD by the authors' own Lean function (tested against real Go, not proved from fmt's source: count such statements apart). THE CARD IS WHAT COUNTS. Prove the row's statement (the work); the ties are given (YtgknbdehlmlipabGreatDoorTie.lean); close each card by the builder's one call (the guide's Derived/Test/ToyasCard.lean, 'card_holds'). Laid BY PROGRAM, IN A SANDBOX (cutbox-door.mjs). By AI agents, Wed Nov 11 2026. No macro, syntax, notation, axiom, sorry.
-/
import Derived.Test.YtgknbdehlmlipabGreatDoorRows
import GoSem.ClaimSeven
namespace Go.Proofs.YtgknbdehlmlipabGreatDoor
namespace Rows

/-- THE TIED CARD OF 'caliperlaw20.OrderTurns'. -/
def orderTurnsCard : Claim7 := { stood := { row := orderTurnsRow, standIns := [], harness := (true, "1da2ac9e684e94bb165645f084684ab1918169b5da26279154738d5ddebc9cb8"), looks := false }, kinds := [], alts := [], laidByText := true, laidKinds := [.data], laidTests := true, laidLooks := .later }
def OrderTurnsCardSaid : Prop := Claim7.holds Tryz.pinned (.plain (OpenSpec.ofChange orderTurnsSpec)) orderTurnsCard

/-- THE SECOND FORM's CARD OF 'caliperlaw20.OrderTurns'. -/
def orderTurnsUptoCard : Claim7 := { stood := { row := orderTurnsUptoRow, standIns := [], harness := (true, "1da2ac9e684e94bb165645f084684ab1918169b5da26279154738d5ddebc9cb8"), looks := false }, kinds := [], alts := [], laidByText := true, laidKinds := [.data], laidTests := true, laidLooks := .later }
def OrderTurnsUptoCardSaid : Prop := Claim7.holds Tryz.pinned (.plain (OpenSpec.upto orderTurnsSpec)) orderTurnsUptoCard
end Rows
end Go.Proofs.YtgknbdehlmlipabGreatDoor
