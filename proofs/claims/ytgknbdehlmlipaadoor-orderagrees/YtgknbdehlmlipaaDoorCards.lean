/-
  DERIVED. GIVEN WITH THE SEED: THE CARDS: each row of YtgknbdehlmlipaaDoorRows.lean that lists a variable, with what it lists TIED to the program's text (the seventh form; the later family's looks); each row that meets fmt, with fmt's text TOLD by the authors' own Lean function (tested against real Go, not proved from fmt's source: count such statements apart). THE CARD IS WHAT COUNTS. Prove the row's statement (the work); the ties are given (YtgknbdehlmlipaaDoorTie.lean); close each card by the builder's one call (the guide's Derived/Test/ToyasCard.lean, 'card_holds'). Laid BY PROGRAM, IN A SANDBOX (cutbox-door.mjs). By AI agents, Wed Nov 11 2026. No macro, syntax, notation, axiom, sorry.
-/
import Derived.Test.YtgknbdehlmlipaaDoorRows
import GoSem.ClaimSeven
namespace Go.Proofs.YtgknbdehlmlipaaDoor
namespace Rows

/-- THE TIED CARD OF 'caliperlaw20.OrderAgrees'. -/
def orderAgreesCard : Claim7 := { stood := { row := orderAgreesRow, standIns := [], harness := (true, "5e8b67c3086aa30b452ca750fbb73ef88c94fdbd5c86d27c7d50315a6762de50"), looks := false }, kinds := [], alts := [], laidByText := true, laidKinds := [.data], laidTests := true, laidLooks := .later }
def OrderAgreesCardSaid : Prop := Claim7.holds Tryd.pinned (.plain (OpenSpec.ofChange orderAgreesSpec)) orderAgreesCard

/-- THE SECOND FORM's CARD OF 'caliperlaw20.OrderAgrees'. -/
def orderAgreesUptoCard : Claim7 := { stood := { row := orderAgreesUptoRow, standIns := [], harness := (true, "5e8b67c3086aa30b452ca750fbb73ef88c94fdbd5c86d27c7d50315a6762de50"), looks := false }, kinds := [], alts := [], laidByText := true, laidKinds := [.data], laidTests := true, laidLooks := .later }
def OrderAgreesUptoCardSaid : Prop := Claim7.holds Tryd.pinned (.plain (OpenSpec.upto orderAgreesSpec)) orderAgreesUptoCard
end Rows
end Go.Proofs.YtgknbdehlmlipaaDoor
