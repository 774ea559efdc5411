/-
  DERIVED. GIVEN WITH THE SEED: THE CARDS: each row of YtahfkpjhlbiamaaGreatDoorRows.lean that lists a variable, with what it lists TIED to the program's text (the seventh form; the later family's looks); each row that meets fmt, with fmt's text TOLD by the authors' own Lean function (tested against real Go, not proved from fmt's source: count such statements apart). THE CARD IS WHAT COUNTS. Prove the row's statement (the work); the ties are given (YtahfkpjhlbiamaaGreatDoorTie.lean); close each card by the builder's one call (the guide's Derived/Test/ToyasCard.lean, 'card_holds'). Laid BY PROGRAM, IN A SANDBOX (cutbox-door.mjs). By AI agents, Wed Nov 11 2026. No macro, syntax, notation, axiom, sorry.
-/
import Derived.Test.YtahfkpjhlbiamaaGreatDoorRows
import GoSem.ClaimSeven
namespace Go.Proofs.YtahfkpjhlbiamaaGreatDoor
namespace Rows

/-- THE TIED CARD OF 'caliperlaw19.CrossoutConverts'. -/
def crossoutConvertsCard : Claim7 := { stood := { row := crossoutConvertsRow, standIns := [], harness := (true, "901dfc00e544d5aca6dd8fd65d37c67d5ce4942f33b3e09d425ed6031fb0ba41"), looks := false }, kinds := [], alts := [], laidByText := true, laidKinds := [.data, .data, .data, .data, .data, .pinned], laidTests := true, laidLooks := .later }
def CrossoutConvertsCardSaid : Prop := Claim7.holds Tryz.pinned (.plain (OpenSpec.ofChange crossoutConvertsSpec)) crossoutConvertsCard

/-- THE TIED CARD OF 'caliperlaw19.CrossoutDouble'. -/
def crossoutDoubleCard : Claim7 := { stood := { row := crossoutDoubleRow, standIns := [], harness := (true, "901dfc00e544d5aca6dd8fd65d37c67d5ce4942f33b3e09d425ed6031fb0ba41"), looks := false }, kinds := [], alts := [], laidByText := true, laidKinds := [.data, .data, .data, .data, .data, .pinned], laidTests := true, laidLooks := .later }
def CrossoutDoubleCardSaid : Prop := Claim7.holds Tryz.pinned (.plain (OpenSpec.ofChange crossoutDoubleSpec)) crossoutDoubleCard

/-- THE TIED CARD OF 'caliperlaw19.CrossoutTwins'. -/
def crossoutTwinsCard : Claim7 := { stood := { row := crossoutTwinsRow, standIns := [], harness := (true, "901dfc00e544d5aca6dd8fd65d37c67d5ce4942f33b3e09d425ed6031fb0ba41"), looks := false }, kinds := [], alts := [], laidByText := true, laidKinds := [.data, .data, .data, .data, .data, .pinned], laidTests := true, laidLooks := .later }
def CrossoutTwinsCardSaid : Prop := Claim7.holds Tryz.pinned (.plain (OpenSpec.ofChange crossoutTwinsSpec)) crossoutTwinsCard

/-- THE TIED CARD OF 'caliperlaw19.CrossoutFixed'. -/
def crossoutFixedCard : Claim7 := { stood := { row := crossoutFixedRow, standIns := [], harness := (true, "901dfc00e544d5aca6dd8fd65d37c67d5ce4942f33b3e09d425ed6031fb0ba41"), looks := false }, kinds := [], alts := [], laidByText := true, laidKinds := [.data, .data, .data, .data, .data, .pinned], laidTests := true, laidLooks := .later }
def CrossoutFixedCardSaid : Prop := Claim7.holds Tryz.pinned (.plain (OpenSpec.ofChange crossoutFixedSpec)) crossoutFixedCard

/-- THE TIED CARD OF 'caliperlaw19.CrossoutWhole'. -/
def crossoutWholeCard : Claim7 := { stood := { row := crossoutWholeRow, standIns := [], harness := (true, "901dfc00e544d5aca6dd8fd65d37c67d5ce4942f33b3e09d425ed6031fb0ba41"), looks := false }, kinds := [], alts := [], laidByText := true, laidKinds := [.data, .data, .data, .data, .data, .pinned], laidTests := true, laidLooks := .later }
def CrossoutWholeCardSaid : Prop := Claim7.holds Tryz.pinned (.plain (OpenSpec.ofChange crossoutWholeSpec)) crossoutWholeCard

/-- THE TIED CARD OF 'caliperlaw19.CrossoutTurns'. -/
def crossoutTurnsCard : Claim7 := { stood := { row := crossoutTurnsRow, standIns := [], harness := (true, "901dfc00e544d5aca6dd8fd65d37c67d5ce4942f33b3e09d425ed6031fb0ba41"), looks := false }, kinds := [], alts := [], laidByText := true, laidKinds := [.data, .data, .data, .data, .data, .pinned], laidTests := true, laidLooks := .later }
def CrossoutTurnsCardSaid : Prop := Claim7.holds Tryz.pinned (.plain (OpenSpec.ofChange crossoutTurnsSpec)) crossoutTurnsCard

/-- THE SECOND FORM's CARD OF 'caliperlaw19.CrossoutConverts'. -/
def crossoutConvertsUptoCard : Claim7 := { stood := { row := crossoutConvertsUptoRow, standIns := [], harness := (true, "901dfc00e544d5aca6dd8fd65d37c67d5ce4942f33b3e09d425ed6031fb0ba41"), looks := false }, kinds := [], alts := [], laidByText := true, laidKinds := [.data, .data, .data, .data, .data, .pinned], laidTests := true, laidLooks := .later }
def CrossoutConvertsUptoCardSaid : Prop := Claim7.holds Tryz.pinned (.plain (OpenSpec.upto crossoutConvertsSpec)) crossoutConvertsUptoCard

/-- THE SECOND FORM's CARD OF 'caliperlaw19.CrossoutDouble'. -/
def crossoutDoubleUptoCard : Claim7 := { stood := { row := crossoutDoubleUptoRow, standIns := [], harness := (true, "901dfc00e544d5aca6dd8fd65d37c67d5ce4942f33b3e09d425ed6031fb0ba41"), looks := false }, kinds := [], alts := [], laidByText := true, laidKinds := [.data, .data, .data, .data, .data, .pinned], laidTests := true, laidLooks := .later }
def CrossoutDoubleUptoCardSaid : Prop := Claim7.holds Tryz.pinned (.plain (OpenSpec.upto crossoutDoubleSpec)) crossoutDoubleUptoCard

/-- THE SECOND FORM's CARD OF 'caliperlaw19.CrossoutTwins'. -/
def crossoutTwinsUptoCard : Claim7 := { stood := { row := crossoutTwinsUptoRow, standIns := [], harness := (true, "901dfc00e544d5aca6dd8fd65d37c67d5ce4942f33b3e09d425ed6031fb0ba41"), looks := false }, kinds := [], alts := [], laidByText := true, laidKinds := [.data, .data, .data, .data, .data, .pinned], laidTests := true, laidLooks := .later }
def CrossoutTwinsUptoCardSaid : Prop := Claim7.holds Tryz.pinned (.plain (OpenSpec.upto crossoutTwinsSpec)) crossoutTwinsUptoCard

/-- THE SECOND FORM's CARD OF 'caliperlaw19.CrossoutFixed'. -/
def crossoutFixedUptoCard : Claim7 := { stood := { row := crossoutFixedUptoRow, standIns := [], harness := (true, "901dfc00e544d5aca6dd8fd65d37c67d5ce4942f33b3e09d425ed6031fb0ba41"), looks := false }, kinds := [], alts := [], laidByText := true, laidKinds := [.data, .data, .data, .data, .data, .pinned], laidTests := true, laidLooks := .later }
def CrossoutFixedUptoCardSaid : Prop := Claim7.holds Tryz.pinned (.plain (OpenSpec.upto crossoutFixedSpec)) crossoutFixedUptoCard

/-- THE SECOND FORM's CARD OF 'caliperlaw19.CrossoutWhole'. -/
def crossoutWholeUptoCard : Claim7 := { stood := { row := crossoutWholeUptoRow, standIns := [], harness := (true, "901dfc00e544d5aca6dd8fd65d37c67d5ce4942f33b3e09d425ed6031fb0ba41"), looks := false }, kinds := [], alts := [], laidByText := true, laidKinds := [.data, .data, .data, .data, .data, .pinned], laidTests := true, laidLooks := .later }
def CrossoutWholeUptoCardSaid : Prop := Claim7.holds Tryz.pinned (.plain (OpenSpec.upto crossoutWholeSpec)) crossoutWholeUptoCard

/-- THE SECOND FORM's CARD OF 'caliperlaw19.CrossoutTurns'. -/
def crossoutTurnsUptoCard : Claim7 := { stood := { row := crossoutTurnsUptoRow, standIns := [], harness := (true, "901dfc00e544d5aca6dd8fd65d37c67d5ce4942f33b3e09d425ed6031fb0ba41"), looks := false }, kinds := [], alts := [], laidByText := true, laidKinds := [.data, .data, .data, .data, .data, .pinned], laidTests := true, laidLooks := .later }
def CrossoutTurnsUptoCardSaid : Prop := Claim7.holds Tryz.pinned (.plain (OpenSpec.upto crossoutTurnsSpec)) crossoutTurnsUptoCard
end Rows
end Go.Proofs.YtahfkpjhlbiamaaGreatDoor
