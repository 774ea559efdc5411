/-
  DERIVED. GIVEN WITH THE SEED: THE CARDS: each row of YtgknbdehlmlipaaGreatDoorRows.lean that lists a variable, with what it lists TIED to the program's text (the seventh form; the later family's looks); each row that meets fmt, with fmt's text TOLD by the authors' own Lean function (tested against real Go, not proved from fmt's source: count such statements apart). THE CARD IS WHAT COUNTS. Prove the row's statement (the work); the ties are given (YtgknbdehlmlipaaGreatDoorTie.lean); close each card by the builder's one call (the guide's Derived/Test/ToyasCard.lean, 'card_holds'). Laid BY PROGRAM, IN A SANDBOX (cutbox-door.mjs). By AI agents, Wed Nov 11 2026. No macro, syntax, notation, axiom, sorry.
-/
import Derived.Test.YtgknbdehlmlipaaGreatDoorRows
import GoSem.ClaimSeven
namespace Go.Proofs.YtgknbdehlmlipaaGreatDoor
namespace Rows

/-- THE TIED CARD OF 'caliperlaw20.OrderCompares'. -/
def orderComparesCard : Claim7 := { stood := { row := orderComparesRow, standIns := [], harness := (true, "dea24bb4a72c2ee8ced60260b99d8eb2b3ef11e4fe4b73988eae9b7ba0355080"), looks := false }, kinds := [], alts := [], laidByText := true, laidKinds := [.data], laidTests := true, laidLooks := .later }
def OrderComparesCardSaid : Prop := Claim7.holds Tryz.pinned (.plain (OpenSpec.ofChange orderComparesSpec)) orderComparesCard

/-- THE TIED CARD OF 'caliperlaw20.OrderTotals'. -/
def orderTotalsCard : Claim7 := { stood := { row := orderTotalsRow, standIns := [], harness := (true, "dea24bb4a72c2ee8ced60260b99d8eb2b3ef11e4fe4b73988eae9b7ba0355080"), looks := false }, kinds := [], alts := [], laidByText := true, laidKinds := [.data], laidTests := true, laidLooks := .later }
def OrderTotalsCardSaid : Prop := Claim7.holds Tryz.pinned (.plain (OpenSpec.ofChange orderTotalsSpec)) orderTotalsCard

/-- THE TIED CARD OF 'caliperlaw20.OrderNext'. -/
def orderNextCard : Claim7 := { stood := { row := orderNextRow, standIns := [], harness := (true, "dea24bb4a72c2ee8ced60260b99d8eb2b3ef11e4fe4b73988eae9b7ba0355080"), looks := false }, kinds := [], alts := [], laidByText := true, laidKinds := [.data], laidTests := true, laidLooks := .later }
def OrderNextCardSaid : Prop := Claim7.holds Tryz.pinned (.plain (OpenSpec.ofChange orderNextSpec)) orderNextCard

/-- THE TIED CARD OF 'caliperlaw20.OrderSteps'. -/
def orderStepsCard : Claim7 := { stood := { row := orderStepsRow, standIns := [], harness := (true, "dea24bb4a72c2ee8ced60260b99d8eb2b3ef11e4fe4b73988eae9b7ba0355080"), looks := false }, kinds := [], alts := [], laidByText := true, laidKinds := [.data], laidTests := true, laidLooks := .later }
def OrderStepsCardSaid : Prop := Claim7.holds Tryz.pinned (.plain (OpenSpec.ofChange orderStepsSpec)) orderStepsCard

/-- THE TIED CARD OF 'caliperlaw20.OrderMiddle'. -/
def orderMiddleCard : Claim7 := { stood := { row := orderMiddleRow, standIns := [], harness := (true, "dea24bb4a72c2ee8ced60260b99d8eb2b3ef11e4fe4b73988eae9b7ba0355080"), looks := false }, kinds := [], alts := [], laidByText := true, laidKinds := [.data], laidTests := true, laidLooks := .later }
def OrderMiddleCardSaid : Prop := Claim7.holds Tryz.pinned (.plain (OpenSpec.ofChange orderMiddleSpec)) orderMiddleCard

/-- THE SECOND FORM's CARD OF 'caliperlaw20.OrderCompares'. -/
def orderComparesUptoCard : Claim7 := { stood := { row := orderComparesUptoRow, standIns := [], harness := (true, "dea24bb4a72c2ee8ced60260b99d8eb2b3ef11e4fe4b73988eae9b7ba0355080"), looks := false }, kinds := [], alts := [], laidByText := true, laidKinds := [.data], laidTests := true, laidLooks := .later }
def OrderComparesUptoCardSaid : Prop := Claim7.holds Tryz.pinned (.plain (OpenSpec.upto orderComparesSpec)) orderComparesUptoCard

/-- THE SECOND FORM's CARD OF 'caliperlaw20.OrderTotals'. -/
def orderTotalsUptoCard : Claim7 := { stood := { row := orderTotalsUptoRow, standIns := [], harness := (true, "dea24bb4a72c2ee8ced60260b99d8eb2b3ef11e4fe4b73988eae9b7ba0355080"), looks := false }, kinds := [], alts := [], laidByText := true, laidKinds := [.data], laidTests := true, laidLooks := .later }
def OrderTotalsUptoCardSaid : Prop := Claim7.holds Tryz.pinned (.plain (OpenSpec.upto orderTotalsSpec)) orderTotalsUptoCard

/-- THE SECOND FORM's CARD OF 'caliperlaw20.OrderNext'. -/
def orderNextUptoCard : Claim7 := { stood := { row := orderNextUptoRow, standIns := [], harness := (true, "dea24bb4a72c2ee8ced60260b99d8eb2b3ef11e4fe4b73988eae9b7ba0355080"), looks := false }, kinds := [], alts := [], laidByText := true, laidKinds := [.data], laidTests := true, laidLooks := .later }
def OrderNextUptoCardSaid : Prop := Claim7.holds Tryz.pinned (.plain (OpenSpec.upto orderNextSpec)) orderNextUptoCard

/-- THE SECOND FORM's CARD OF 'caliperlaw20.OrderSteps'. -/
def orderStepsUptoCard : Claim7 := { stood := { row := orderStepsUptoRow, standIns := [], harness := (true, "dea24bb4a72c2ee8ced60260b99d8eb2b3ef11e4fe4b73988eae9b7ba0355080"), looks := false }, kinds := [], alts := [], laidByText := true, laidKinds := [.data], laidTests := true, laidLooks := .later }
def OrderStepsUptoCardSaid : Prop := Claim7.holds Tryz.pinned (.plain (OpenSpec.upto orderStepsSpec)) orderStepsUptoCard

/-- THE SECOND FORM's CARD OF 'caliperlaw20.OrderMiddle'. -/
def orderMiddleUptoCard : Claim7 := { stood := { row := orderMiddleUptoRow, standIns := [], harness := (true, "dea24bb4a72c2ee8ced60260b99d8eb2b3ef11e4fe4b73988eae9b7ba0355080"), looks := false }, kinds := [], alts := [], laidByText := true, laidKinds := [.data], laidTests := true, laidLooks := .later }
def OrderMiddleUptoCardSaid : Prop := Claim7.holds Tryz.pinned (.plain (OpenSpec.upto orderMiddleSpec)) orderMiddleUptoCard
end Rows
end Go.Proofs.YtgknbdehlmlipaaGreatDoor
