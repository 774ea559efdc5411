/-
  DERIVED. GIVEN WITH THE SEED: THE CARDS: each row of YtcjbdmgaooojlaaDoorRows.lean that lists a variable, with what it lists TIED to the program's text (the seventh form; the later family's looks); each row that meets fmt, with fmt's text TOLD by the authors' own Lean function (tested against real Go, not proved from fmt's source: count such statements apart). THE CARD IS WHAT COUNTS. Prove the row's statement (the work); the ties are given (YtcjbdmgaooojlaaDoorTie.lean); close each card by the builder's one call (the guide's Derived/Test/ToyasCard.lean, 'card_holds'). Laid BY PROGRAM, IN A SANDBOX (cutbox-door.mjs). By AI agents, Wed Nov 11 2026. No macro, syntax, notation, axiom, sorry.
-/
import Derived.Test.YtcjbdmgaooojlaaDoorRows
import GoSem.ClaimSeven
namespace Go.Proofs.YtcjbdmgaooojlaaDoor
namespace Rows

/-- THE TIED CARD OF 'caliperlaw04.DescTells'. -/
def descTellsCard : Claim7 := { stood := { row := descTellsRow, standIns := [], harness := (true, "07a4f0c9ff5ea0f740c9dfe1f47aaefa1089c086a5a8b956c898c7453b9bc891"), looks := false }, kinds := [], alts := [], laidByText := true, laidKinds := [.data], laidTests := true, laidLooks := .later }
def DescTellsCardSaid : Prop := Claim7.holds Tryd.pinned (.plain (OpenSpec.ofChange descTellsSpec)) descTellsCard

/-- THE TIED CARD OF 'caliperlaw04.DescHolds'. -/
def descHoldsCard : Claim7 := { stood := { row := descHoldsRow, standIns := [], harness := (true, "07a4f0c9ff5ea0f740c9dfe1f47aaefa1089c086a5a8b956c898c7453b9bc891"), looks := false }, kinds := [], alts := [], laidByText := true, laidKinds := [.data], laidTests := true, laidLooks := .later }
def DescHoldsCardSaid : Prop := Claim7.holds Tryd.pinned (.plain (OpenSpec.ofChange descHoldsSpec)) descHoldsCard

/-- THE TIED CARD OF 'caliperlaw04.DescFits'. -/
def descFitsCard : Claim7 := { stood := { row := descFitsRow, standIns := [], harness := (true, "07a4f0c9ff5ea0f740c9dfe1f47aaefa1089c086a5a8b956c898c7453b9bc891"), looks := false }, kinds := [], alts := [], laidByText := true, laidKinds := [.data], laidTests := true, laidLooks := .later }
def DescFitsCardSaid : Prop := Claim7.holds Tryd.pinned (.plain (OpenSpec.ofChange descFitsSpec)) descFitsCard

/-- THE TIED CARD OF 'caliperlaw04.DescPowers'. -/
def descPowersCard : Claim7 := { stood := { row := descPowersRow, standIns := [], harness := (true, "07a4f0c9ff5ea0f740c9dfe1f47aaefa1089c086a5a8b956c898c7453b9bc891"), looks := false }, kinds := [], alts := [], goes := true, laidByText := true, laidKinds := [.data], laidTests := true, laidLooks := .later }
def DescPowersCardSaid : Prop := Claim7.holds Tryd.pinned (.plain (OpenSpec.ofChange descPowersSpec)) descPowersCard

/-- THE TIED CARD OF 'caliperlaw04.DescOnce'. -/
def descOnceCard : Claim7 := { stood := { row := descOnceRow, standIns := [], harness := (true, "07a4f0c9ff5ea0f740c9dfe1f47aaefa1089c086a5a8b956c898c7453b9bc891"), looks := false }, kinds := [], alts := [], goes := true, laidByText := true, laidKinds := [.data], laidTests := true, laidLooks := .later }
def DescOnceCardSaid : Prop := Claim7.holds Tryd.pinned (.plain (OpenSpec.ofChange descOnceSpec)) descOnceCard

/-- THE TIED CARD OF 'caliperlaw04.DescNew'. -/
def descNewCard : Claim7 := { stood := { row := descNewRow, standIns := [], harness := (true, "07a4f0c9ff5ea0f740c9dfe1f47aaefa1089c086a5a8b956c898c7453b9bc891"), looks := false }, kinds := [], alts := [], goes := true, laidByText := true, laidKinds := [.data], laidTests := true, laidLooks := .later }
def DescNewCardSaid : Prop := Claim7.holds Tryd.pinned (.plain (OpenSpec.ofChange descNewSpec)) descNewCard

/-- THE SECOND FORM's CARD OF 'caliperlaw04.DescTells'. -/
def descTellsUptoCard : Claim7 := { stood := { row := descTellsUptoRow, standIns := [], harness := (true, "07a4f0c9ff5ea0f740c9dfe1f47aaefa1089c086a5a8b956c898c7453b9bc891"), looks := false }, kinds := [], alts := [], laidByText := true, laidKinds := [.data], laidTests := true, laidLooks := .later }
def DescTellsUptoCardSaid : Prop := Claim7.holds Tryd.pinned (.plain (OpenSpec.upto descTellsSpec)) descTellsUptoCard

/-- THE SECOND FORM's CARD OF 'caliperlaw04.DescHolds'. -/
def descHoldsUptoCard : Claim7 := { stood := { row := descHoldsUptoRow, standIns := [], harness := (true, "07a4f0c9ff5ea0f740c9dfe1f47aaefa1089c086a5a8b956c898c7453b9bc891"), looks := false }, kinds := [], alts := [], laidByText := true, laidKinds := [.data], laidTests := true, laidLooks := .later }
def DescHoldsUptoCardSaid : Prop := Claim7.holds Tryd.pinned (.plain (OpenSpec.upto descHoldsSpec)) descHoldsUptoCard

/-- THE SECOND FORM's CARD OF 'caliperlaw04.DescFits'. -/
def descFitsUptoCard : Claim7 := { stood := { row := descFitsUptoRow, standIns := [], harness := (true, "07a4f0c9ff5ea0f740c9dfe1f47aaefa1089c086a5a8b956c898c7453b9bc891"), looks := false }, kinds := [], alts := [], laidByText := true, laidKinds := [.data], laidTests := true, laidLooks := .later }
def DescFitsUptoCardSaid : Prop := Claim7.holds Tryd.pinned (.plain (OpenSpec.upto descFitsSpec)) descFitsUptoCard
end Rows
end Go.Proofs.YtcjbdmgaooojlaaDoor
