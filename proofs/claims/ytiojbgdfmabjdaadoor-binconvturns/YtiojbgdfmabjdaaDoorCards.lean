/-
  DERIVED. GIVEN WITH THE SEED: THE CARDS: each row of YtiojbgdfmabjdaaDoorRows.lean that lists a variable, with what it lists TIED to the program's text (the seventh form; the later family's looks); each row that meets fmt, with fmt's text TOLD by the authors' own Lean function (tested against real Go, not proved from fmt's source: count such statements apart). THE CARD IS WHAT COUNTS. Prove the row's statement (the work); the ties are given (YtiojbgdfmabjdaaDoorTie.lean); close each card by the builder's one call (the guide's Derived/Test/ToyasCard.lean, 'card_holds'). Laid BY PROGRAM, IN A SANDBOX (cutbox-door.mjs). By AI agents, Wed Nov 11 2026. No macro, syntax, notation, axiom, sorry.
-/
import Derived.Test.YtiojbgdfmabjdaaDoorRows
import GoSem.ClaimSeven
namespace Go.Proofs.YtiojbgdfmabjdaaDoor
namespace Rows

/-- THE TIED CARD OF 'caliperlaw12.BinconvWidens'. -/
def binconvWidensCard : Claim7 := { stood := { row := binconvWidensRow, standIns := [], harness := (true, "e5f8aba3a43c010fb533c677bb1ab9ab7b26a17cbc56d1c94cffde60f756c002"), looks := false }, kinds := [], alts := [], laidByText := true, laidKinds := [.data], laidTests := true, laidLooks := .later }
def BinconvWidensCardSaid : Prop := Claim7.holds Tryd.pinned (.plain (OpenSpec.ofChange binconvWidensSpec)) binconvWidensCard

/-- THE TIED CARD OF 'caliperlaw12.BinconvBetween'. -/
def binconvBetweenCard : Claim7 := { stood := { row := binconvBetweenRow, standIns := [], harness := (true, "e5f8aba3a43c010fb533c677bb1ab9ab7b26a17cbc56d1c94cffde60f756c002"), looks := false }, kinds := [], alts := [], laidByText := true, laidKinds := [.data], laidTests := true, laidLooks := .later }
def BinconvBetweenCardSaid : Prop := Claim7.holds Tryd.pinned (.plain (OpenSpec.ofChange binconvBetweenSpec)) binconvBetweenCard

/-- THE TIED CARD OF 'caliperlaw12.BinconvSelf'. -/
def binconvSelfCard : Claim7 := { stood := { row := binconvSelfRow, standIns := [], harness := (true, "e5f8aba3a43c010fb533c677bb1ab9ab7b26a17cbc56d1c94cffde60f756c002"), looks := false }, kinds := [], alts := [], laidByText := true, laidKinds := [.data], laidTests := true, laidLooks := .later }
def BinconvSelfCardSaid : Prop := Claim7.holds Tryd.pinned (.plain (OpenSpec.ofChange binconvSelfSpec)) binconvSelfCard

/-- THE TIED CARD OF 'caliperlaw12.BinconvRises'. -/
def binconvRisesCard : Claim7 := { stood := { row := binconvRisesRow, standIns := [], harness := (true, "e5f8aba3a43c010fb533c677bb1ab9ab7b26a17cbc56d1c94cffde60f756c002"), looks := false }, kinds := [], alts := [], laidByText := true, laidKinds := [.data], laidTests := true, laidLooks := .later }
def BinconvRisesCardSaid : Prop := Claim7.holds Tryd.pinned (.plain (OpenSpec.ofChange binconvRisesSpec)) binconvRisesCard

/-- THE TIED CARD OF 'caliperlaw12.BinconvTurns'. -/
def binconvTurnsCard : Claim7 := { stood := { row := binconvTurnsRow, standIns := [], harness := (true, "e5f8aba3a43c010fb533c677bb1ab9ab7b26a17cbc56d1c94cffde60f756c002"), looks := false }, kinds := [], alts := [], laidByText := true, laidKinds := [.data], laidTests := true, laidLooks := .later }
def BinconvTurnsCardSaid : Prop := Claim7.holds Tryd.pinned (.plain (OpenSpec.ofChange binconvTurnsSpec)) binconvTurnsCard

/-- THE SECOND FORM's CARD OF 'caliperlaw12.BinconvWidens'. -/
def binconvWidensUptoCard : Claim7 := { stood := { row := binconvWidensUptoRow, standIns := [], harness := (true, "e5f8aba3a43c010fb533c677bb1ab9ab7b26a17cbc56d1c94cffde60f756c002"), looks := false }, kinds := [], alts := [], laidByText := true, laidKinds := [.data], laidTests := true, laidLooks := .later }
def BinconvWidensUptoCardSaid : Prop := Claim7.holds Tryd.pinned (.plain (OpenSpec.upto binconvWidensSpec)) binconvWidensUptoCard

/-- THE SECOND FORM's CARD OF 'caliperlaw12.BinconvBetween'. -/
def binconvBetweenUptoCard : Claim7 := { stood := { row := binconvBetweenUptoRow, standIns := [], harness := (true, "e5f8aba3a43c010fb533c677bb1ab9ab7b26a17cbc56d1c94cffde60f756c002"), looks := false }, kinds := [], alts := [], laidByText := true, laidKinds := [.data], laidTests := true, laidLooks := .later }
def BinconvBetweenUptoCardSaid : Prop := Claim7.holds Tryd.pinned (.plain (OpenSpec.upto binconvBetweenSpec)) binconvBetweenUptoCard

/-- THE SECOND FORM's CARD OF 'caliperlaw12.BinconvSelf'. -/
def binconvSelfUptoCard : Claim7 := { stood := { row := binconvSelfUptoRow, standIns := [], harness := (true, "e5f8aba3a43c010fb533c677bb1ab9ab7b26a17cbc56d1c94cffde60f756c002"), looks := false }, kinds := [], alts := [], laidByText := true, laidKinds := [.data], laidTests := true, laidLooks := .later }
def BinconvSelfUptoCardSaid : Prop := Claim7.holds Tryd.pinned (.plain (OpenSpec.upto binconvSelfSpec)) binconvSelfUptoCard

/-- THE SECOND FORM's CARD OF 'caliperlaw12.BinconvRises'. -/
def binconvRisesUptoCard : Claim7 := { stood := { row := binconvRisesUptoRow, standIns := [], harness := (true, "e5f8aba3a43c010fb533c677bb1ab9ab7b26a17cbc56d1c94cffde60f756c002"), looks := false }, kinds := [], alts := [], laidByText := true, laidKinds := [.data], laidTests := true, laidLooks := .later }
def BinconvRisesUptoCardSaid : Prop := Claim7.holds Tryd.pinned (.plain (OpenSpec.upto binconvRisesSpec)) binconvRisesUptoCard

/-- THE SECOND FORM's CARD OF 'caliperlaw12.BinconvTurns'. -/
def binconvTurnsUptoCard : Claim7 := { stood := { row := binconvTurnsUptoRow, standIns := [], harness := (true, "e5f8aba3a43c010fb533c677bb1ab9ab7b26a17cbc56d1c94cffde60f756c002"), looks := false }, kinds := [], alts := [], laidByText := true, laidKinds := [.data], laidTests := true, laidLooks := .later }
def BinconvTurnsUptoCardSaid : Prop := Claim7.holds Tryd.pinned (.plain (OpenSpec.upto binconvTurnsSpec)) binconvTurnsUptoCard
end Rows
end Go.Proofs.YtiojbgdfmabjdaaDoor
