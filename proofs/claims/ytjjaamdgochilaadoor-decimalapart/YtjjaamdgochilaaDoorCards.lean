/-
  DERIVED. GIVEN WITH THE SEED: THE CARDS: each row of YtjjaamdgochilaaDoorRows.lean that lists a variable, with what it lists TIED to the program's text (the seventh form; the later family's looks); each row that meets fmt, with fmt's text TOLD by the authors' own Lean function (tested against real Go, not proved from fmt's source: count such statements apart). THE CARD IS WHAT COUNTS. Prove the row's statement (the work); the ties are given (YtjjaamdgochilaaDoorTie.lean); close each card by the builder's one call (the guide's Derived/Test/ToyasCard.lean, 'card_holds'). Laid BY PROGRAM, IN A SANDBOX (cutbox-door.mjs). By AI agents, Wed Nov 11 2026. No macro, syntax, notation, axiom, sorry.
-/
import Derived.Test.YtjjaamdgochilaaDoorRows
import GoSem.ClaimSeven
namespace Go.Proofs.YtjjaamdgochilaaDoor
namespace Rows

/-- THE TIED CARD OF 'caliperlaw14.DecimalUnpacks'. -/
def decimalUnpacksCard : Claim7 := { stood := { row := decimalUnpacksRow, standIns := [], harness := (true, "25771df7ee3819b1de6db240593ea050bce7dfc5e134df1b84ef03ae9e0fbc84"), looks := false }, kinds := [], alts := [], laidByText := true, laidKinds := [.data], laidTests := true, laidLooks := .later }
def DecimalUnpacksCardSaid : Prop := Claim7.holds Tryd.pinned (.plain (OpenSpec.ofChange decimalUnpacksSpec)) decimalUnpacksCard

/-- THE TIED CARD OF 'caliperlaw14.DecimalPacks'. -/
def decimalPacksCard : Claim7 := { stood := { row := decimalPacksRow, standIns := [], harness := (true, "25771df7ee3819b1de6db240593ea050bce7dfc5e134df1b84ef03ae9e0fbc84"), looks := false }, kinds := [], alts := [], laidByText := true, laidKinds := [.data], laidTests := true, laidLooks := .later }
def DecimalPacksCardSaid : Prop := Claim7.holds Tryd.pinned (.plain (OpenSpec.ofChange decimalPacksSpec)) decimalPacksCard

/-- THE TIED CARD OF 'caliperlaw14.DecimalBack'. -/
def decimalBackCard : Claim7 := { stood := { row := decimalBackRow, standIns := [], harness := (true, "25771df7ee3819b1de6db240593ea050bce7dfc5e134df1b84ef03ae9e0fbc84"), looks := false }, kinds := [], alts := [], laidByText := true, laidKinds := [.data], laidTests := true, laidLooks := .later }
def DecimalBackCardSaid : Prop := Claim7.holds Tryd.pinned (.plain (OpenSpec.ofChange decimalBackSpec)) decimalBackCard

/-- THE TIED CARD OF 'caliperlaw14.DecimalCanonical'. -/
def decimalCanonicalCard : Claim7 := { stood := { row := decimalCanonicalRow, standIns := [], harness := (true, "25771df7ee3819b1de6db240593ea050bce7dfc5e134df1b84ef03ae9e0fbc84"), looks := false }, kinds := [], alts := [], laidByText := true, laidKinds := [.data], laidTests := true, laidLooks := .later }
def DecimalCanonicalCardSaid : Prop := Claim7.holds Tryd.pinned (.plain (OpenSpec.ofChange decimalCanonicalSpec)) decimalCanonicalCard

/-- THE TIED CARD OF 'caliperlaw14.DecimalApart'. -/
def decimalApartCard : Claim7 := { stood := { row := decimalApartRow, standIns := [], harness := (true, "25771df7ee3819b1de6db240593ea050bce7dfc5e134df1b84ef03ae9e0fbc84"), looks := false }, kinds := [], alts := [], laidByText := true, laidKinds := [.data], laidTests := true, laidLooks := .later }
def DecimalApartCardSaid : Prop := Claim7.holds Tryd.pinned (.plain (OpenSpec.ofChange decimalApartSpec)) decimalApartCard

/-- THE TIED CARD OF 'caliperlaw14.DecimalSigns'. -/
def decimalSignsCard : Claim7 := { stood := { row := decimalSignsRow, standIns := [], harness := (true, "25771df7ee3819b1de6db240593ea050bce7dfc5e134df1b84ef03ae9e0fbc84"), looks := false }, kinds := [], alts := [], laidByText := true, laidKinds := [.data], laidTests := true, laidLooks := .later }
def DecimalSignsCardSaid : Prop := Claim7.holds Tryd.pinned (.plain (OpenSpec.ofChange decimalSignsSpec)) decimalSignsCard

/-- THE SECOND FORM's CARD OF 'caliperlaw14.DecimalUnpacks'. -/
def decimalUnpacksUptoCard : Claim7 := { stood := { row := decimalUnpacksUptoRow, standIns := [], harness := (true, "25771df7ee3819b1de6db240593ea050bce7dfc5e134df1b84ef03ae9e0fbc84"), looks := false }, kinds := [], alts := [], laidByText := true, laidKinds := [.data], laidTests := true, laidLooks := .later }
def DecimalUnpacksUptoCardSaid : Prop := Claim7.holds Tryd.pinned (.plain (OpenSpec.upto decimalUnpacksSpec)) decimalUnpacksUptoCard

/-- THE SECOND FORM's CARD OF 'caliperlaw14.DecimalPacks'. -/
def decimalPacksUptoCard : Claim7 := { stood := { row := decimalPacksUptoRow, standIns := [], harness := (true, "25771df7ee3819b1de6db240593ea050bce7dfc5e134df1b84ef03ae9e0fbc84"), looks := false }, kinds := [], alts := [], laidByText := true, laidKinds := [.data], laidTests := true, laidLooks := .later }
def DecimalPacksUptoCardSaid : Prop := Claim7.holds Tryd.pinned (.plain (OpenSpec.upto decimalPacksSpec)) decimalPacksUptoCard

/-- THE SECOND FORM's CARD OF 'caliperlaw14.DecimalBack'. -/
def decimalBackUptoCard : Claim7 := { stood := { row := decimalBackUptoRow, standIns := [], harness := (true, "25771df7ee3819b1de6db240593ea050bce7dfc5e134df1b84ef03ae9e0fbc84"), looks := false }, kinds := [], alts := [], laidByText := true, laidKinds := [.data], laidTests := true, laidLooks := .later }
def DecimalBackUptoCardSaid : Prop := Claim7.holds Tryd.pinned (.plain (OpenSpec.upto decimalBackSpec)) decimalBackUptoCard

/-- THE SECOND FORM's CARD OF 'caliperlaw14.DecimalCanonical'. -/
def decimalCanonicalUptoCard : Claim7 := { stood := { row := decimalCanonicalUptoRow, standIns := [], harness := (true, "25771df7ee3819b1de6db240593ea050bce7dfc5e134df1b84ef03ae9e0fbc84"), looks := false }, kinds := [], alts := [], laidByText := true, laidKinds := [.data], laidTests := true, laidLooks := .later }
def DecimalCanonicalUptoCardSaid : Prop := Claim7.holds Tryd.pinned (.plain (OpenSpec.upto decimalCanonicalSpec)) decimalCanonicalUptoCard

/-- THE SECOND FORM's CARD OF 'caliperlaw14.DecimalApart'. -/
def decimalApartUptoCard : Claim7 := { stood := { row := decimalApartUptoRow, standIns := [], harness := (true, "25771df7ee3819b1de6db240593ea050bce7dfc5e134df1b84ef03ae9e0fbc84"), looks := false }, kinds := [], alts := [], laidByText := true, laidKinds := [.data], laidTests := true, laidLooks := .later }
def DecimalApartUptoCardSaid : Prop := Claim7.holds Tryd.pinned (.plain (OpenSpec.upto decimalApartSpec)) decimalApartUptoCard

/-- THE SECOND FORM's CARD OF 'caliperlaw14.DecimalSigns'. -/
def decimalSignsUptoCard : Claim7 := { stood := { row := decimalSignsUptoRow, standIns := [], harness := (true, "25771df7ee3819b1de6db240593ea050bce7dfc5e134df1b84ef03ae9e0fbc84"), looks := false }, kinds := [], alts := [], laidByText := true, laidKinds := [.data], laidTests := true, laidLooks := .later }
def DecimalSignsUptoCardSaid : Prop := Claim7.holds Tryd.pinned (.plain (OpenSpec.upto decimalSignsSpec)) decimalSignsUptoCard
end Rows
end Go.Proofs.YtjjaamdgochilaaDoor
