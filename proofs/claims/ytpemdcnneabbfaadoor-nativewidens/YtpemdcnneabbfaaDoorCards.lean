/-
  DERIVED. GIVEN WITH THE SEED: THE CARDS: each row of YtpemdcnneabbfaaDoorRows.lean that lists a variable, with what it lists TIED to the program's text (the seventh form; the later family's looks); each row that meets fmt, with fmt's text TOLD by the authors' own Lean function (tested against real Go, not proved from fmt's source: count such statements apart). THE CARD IS WHAT COUNTS. Prove the row's statement (the work); the ties are given (YtpemdcnneabbfaaDoorTie.lean); close each card by the builder's one call (the guide's Derived/Test/ToyasCard.lean, 'card_holds'). Laid BY PROGRAM, IN A SANDBOX (cutbox-door.mjs). By AI agents, Wed Nov 11 2026. No macro, syntax, notation, axiom, sorry.
-/
import Derived.Test.YtpemdcnneabbfaaDoorRows
import GoSem.ClaimSeven
namespace Go.Proofs.YtpemdcnneabbfaaDoor
namespace Rows

/-- THE TIED CARD OF 'caliperlaw21.NativeBits'. -/
def nativeBitsCard : Claim7 := { stood := { row := nativeBitsRow, standIns := [], harness := (true, "fc01be3d5ef8b88c9d9cb1a90b5423e319da405887c4d042fd066d2f21533cfb"), looks := false }, kinds := [], alts := [], laidByText := true, laidKinds := [.data], laidTests := true, laidLooks := .later }
def NativeBitsCardSaid : Prop := Claim7.holds Tryd.pinned (.plain (OpenSpec.ofChange nativeBitsSpec)) nativeBitsCard

/-- THE TIED CARD OF 'caliperlaw21.NativeNarrows'. -/
def nativeNarrowsCard : Claim7 := { stood := { row := nativeNarrowsRow, standIns := [], harness := (true, "fc01be3d5ef8b88c9d9cb1a90b5423e319da405887c4d042fd066d2f21533cfb"), looks := false }, kinds := [], alts := [], laidByText := true, laidKinds := [.data], laidTests := true, laidLooks := .later }
def NativeNarrowsCardSaid : Prop := Claim7.holds Tryd.pinned (.plain (OpenSpec.ofChange nativeNarrowsSpec)) nativeNarrowsCard

/-- THE TIED CARD OF 'caliperlaw21.NativeWidens'. -/
def nativeWidensCard : Claim7 := { stood := { row := nativeWidensRow, standIns := [], harness := (true, "fc01be3d5ef8b88c9d9cb1a90b5423e319da405887c4d042fd066d2f21533cfb"), looks := false }, kinds := [], alts := [], laidByText := true, laidKinds := [.data], laidTests := true, laidLooks := .later }
def NativeWidensCardSaid : Prop := Claim7.holds Tryd.pinned (.plain (OpenSpec.ofChange nativeWidensSpec)) nativeWidensCard

/-- THE TIED CARD OF 'caliperlaw21.NativeHalves'. -/
def nativeHalvesCard : Claim7 := { stood := { row := nativeHalvesRow, standIns := [], harness := (true, "fc01be3d5ef8b88c9d9cb1a90b5423e319da405887c4d042fd066d2f21533cfb"), looks := false }, kinds := [], alts := [], laidByText := true, laidKinds := [.data], laidTests := true, laidLooks := .later }
def NativeHalvesCardSaid : Prop := Claim7.holds Tryd.pinned (.plain (OpenSpec.ofChange nativeHalvesSpec)) nativeHalvesCard

/-- THE SECOND FORM's CARD OF 'caliperlaw21.NativeBits'. -/
def nativeBitsUptoCard : Claim7 := { stood := { row := nativeBitsUptoRow, standIns := [], harness := (true, "fc01be3d5ef8b88c9d9cb1a90b5423e319da405887c4d042fd066d2f21533cfb"), looks := false }, kinds := [], alts := [], laidByText := true, laidKinds := [.data], laidTests := true, laidLooks := .later }
def NativeBitsUptoCardSaid : Prop := Claim7.holds Tryd.pinned (.plain (OpenSpec.upto nativeBitsSpec)) nativeBitsUptoCard

/-- THE SECOND FORM's CARD OF 'caliperlaw21.NativeNarrows'. -/
def nativeNarrowsUptoCard : Claim7 := { stood := { row := nativeNarrowsUptoRow, standIns := [], harness := (true, "fc01be3d5ef8b88c9d9cb1a90b5423e319da405887c4d042fd066d2f21533cfb"), looks := false }, kinds := [], alts := [], laidByText := true, laidKinds := [.data], laidTests := true, laidLooks := .later }
def NativeNarrowsUptoCardSaid : Prop := Claim7.holds Tryd.pinned (.plain (OpenSpec.upto nativeNarrowsSpec)) nativeNarrowsUptoCard

/-- THE SECOND FORM's CARD OF 'caliperlaw21.NativeWidens'. -/
def nativeWidensUptoCard : Claim7 := { stood := { row := nativeWidensUptoRow, standIns := [], harness := (true, "fc01be3d5ef8b88c9d9cb1a90b5423e319da405887c4d042fd066d2f21533cfb"), looks := false }, kinds := [], alts := [], laidByText := true, laidKinds := [.data], laidTests := true, laidLooks := .later }
def NativeWidensUptoCardSaid : Prop := Claim7.holds Tryd.pinned (.plain (OpenSpec.upto nativeWidensSpec)) nativeWidensUptoCard

/-- THE SECOND FORM's CARD OF 'caliperlaw21.NativeHalves'. -/
def nativeHalvesUptoCard : Claim7 := { stood := { row := nativeHalvesUptoRow, standIns := [], harness := (true, "fc01be3d5ef8b88c9d9cb1a90b5423e319da405887c4d042fd066d2f21533cfb"), looks := false }, kinds := [], alts := [], laidByText := true, laidKinds := [.data], laidTests := true, laidLooks := .later }
def NativeHalvesUptoCardSaid : Prop := Claim7.holds Tryd.pinned (.plain (OpenSpec.upto nativeHalvesSpec)) nativeHalvesUptoCard
end Rows
end Go.Proofs.YtpemdcnneabbfaaDoor
