/-
  DERIVED. GIVEN WITH THE SEED: THE CARDS: each row of YtmommdhnogogdaaDoorRows.lean that lists a variable, with what it lists TIED to the program's text (the seventh form; the later family's looks); each row that meets fmt, with fmt's text TOLD by the authors' own Lean function (tested against real Go, not proved from fmt's source: count such statements apart). THE CARD IS WHAT COUNTS. Prove the row's statement (the work); the ties are given (YtmommdhnogogdaaDoorTie.lean); close each card by the builder's one call (the guide's Derived/Test/ToyasCard.lean, 'card_holds'). Laid BY PROGRAM, IN A SANDBOX (cutbox-door.mjs). By AI agents, Wed Nov 11 2026. No macro, syntax, notation, axiom, sorry.
-/
import Derived.Test.YtmommdhnogogdaaDoorRows
import GoSem.ClaimSeven
namespace Go.Proofs.YtmommdhnogogdaaDoor
namespace Rows

/-- THE TIED CARD OF 'caliperlaw15.DecroundDecimal'. -/
def decroundDecimalCard : Claim7 := { stood := { row := decroundDecimalRow, standIns := [], harness := (true, "f89101b9649518ea6ba79afeb710c64db9ba4dcc50eda4c9163bcb8dc495e029"), looks := false }, kinds := [], alts := [], laidByText := true, laidKinds := [.data, .data, .pinned], laidTests := true, laidLooks := .later }
def DecroundDecimalCardSaid : Prop := Claim7.holds Tryd.pinned (.plain (OpenSpec.ofChange decroundDecimalSpec)) decroundDecimalCard

/-- THE TIED CARD OF 'caliperlaw15.DecroundSides'. -/
def decroundSidesCard : Claim7 := { stood := { row := decroundSidesRow, standIns := [], harness := (true, "f89101b9649518ea6ba79afeb710c64db9ba4dcc50eda4c9163bcb8dc495e029"), looks := false }, kinds := [], alts := [], laidByText := true, laidKinds := [.data, .data, .pinned], laidTests := true, laidLooks := .later }
def DecroundSidesCardSaid : Prop := Claim7.holds Tryd.pinned (.plain (OpenSpec.ofChange decroundSidesSpec)) decroundSidesCard

/-- THE TIED CARD OF 'caliperlaw15.DecroundTurns'. -/
def decroundTurnsCard : Claim7 := { stood := { row := decroundTurnsRow, standIns := [], harness := (true, "f89101b9649518ea6ba79afeb710c64db9ba4dcc50eda4c9163bcb8dc495e029"), looks := false }, kinds := [], alts := [], laidByText := true, laidKinds := [.data, .data, .pinned], laidTests := true, laidLooks := .later }
def DecroundTurnsCardSaid : Prop := Claim7.holds Tryd.pinned (.plain (OpenSpec.ofChange decroundTurnsSpec)) decroundTurnsCard

/-- THE TIED CARD OF 'caliperlaw15.DecroundRises'. -/
def decroundRisesCard : Claim7 := { stood := { row := decroundRisesRow, standIns := [], harness := (true, "f89101b9649518ea6ba79afeb710c64db9ba4dcc50eda4c9163bcb8dc495e029"), looks := false }, kinds := [], alts := [], laidByText := true, laidKinds := [.data, .data, .pinned], laidTests := true, laidLooks := .later }
def DecroundRisesCardSaid : Prop := Claim7.holds Tryd.pinned (.plain (OpenSpec.ofChange decroundRisesSpec)) decroundRisesCard

/-- THE SECOND FORM's CARD OF 'caliperlaw15.DecroundDecimal'. -/
def decroundDecimalUptoCard : Claim7 := { stood := { row := decroundDecimalUptoRow, standIns := [], harness := (true, "f89101b9649518ea6ba79afeb710c64db9ba4dcc50eda4c9163bcb8dc495e029"), looks := false }, kinds := [], alts := [], laidByText := true, laidKinds := [.data, .data, .pinned], laidTests := true, laidLooks := .later }
def DecroundDecimalUptoCardSaid : Prop := Claim7.holds Tryd.pinned (.plain (OpenSpec.upto decroundDecimalSpec)) decroundDecimalUptoCard

/-- THE SECOND FORM's CARD OF 'caliperlaw15.DecroundSides'. -/
def decroundSidesUptoCard : Claim7 := { stood := { row := decroundSidesUptoRow, standIns := [], harness := (true, "f89101b9649518ea6ba79afeb710c64db9ba4dcc50eda4c9163bcb8dc495e029"), looks := false }, kinds := [], alts := [], laidByText := true, laidKinds := [.data, .data, .pinned], laidTests := true, laidLooks := .later }
def DecroundSidesUptoCardSaid : Prop := Claim7.holds Tryd.pinned (.plain (OpenSpec.upto decroundSidesSpec)) decroundSidesUptoCard

/-- THE SECOND FORM's CARD OF 'caliperlaw15.DecroundTurns'. -/
def decroundTurnsUptoCard : Claim7 := { stood := { row := decroundTurnsUptoRow, standIns := [], harness := (true, "f89101b9649518ea6ba79afeb710c64db9ba4dcc50eda4c9163bcb8dc495e029"), looks := false }, kinds := [], alts := [], laidByText := true, laidKinds := [.data, .data, .pinned], laidTests := true, laidLooks := .later }
def DecroundTurnsUptoCardSaid : Prop := Claim7.holds Tryd.pinned (.plain (OpenSpec.upto decroundTurnsSpec)) decroundTurnsUptoCard

/-- THE SECOND FORM's CARD OF 'caliperlaw15.DecroundRises'. -/
def decroundRisesUptoCard : Claim7 := { stood := { row := decroundRisesUptoRow, standIns := [], harness := (true, "f89101b9649518ea6ba79afeb710c64db9ba4dcc50eda4c9163bcb8dc495e029"), looks := false }, kinds := [], alts := [], laidByText := true, laidKinds := [.data, .data, .pinned], laidTests := true, laidLooks := .later }
def DecroundRisesUptoCardSaid : Prop := Claim7.holds Tryd.pinned (.plain (OpenSpec.upto decroundRisesSpec)) decroundRisesUptoCard
end Rows
end Go.Proofs.YtmommdhnogogdaaDoor
