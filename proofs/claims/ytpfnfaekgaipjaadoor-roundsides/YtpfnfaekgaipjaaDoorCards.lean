/-
  DERIVED. GIVEN WITH THE SEED: THE CARDS: each row of YtpfnfaekgaipjaaDoorRows.lean that lists a variable, with what it lists TIED to the program's text (the seventh form; the later family's looks); each row that meets fmt, with fmt's text TOLD by the authors' own Lean function (tested against real Go, not proved from fmt's source: count such statements apart). THE CARD IS WHAT COUNTS. Prove the row's statement (the work); the ties are given (YtpfnfaekgaipjaaDoorTie.lean); close each card by the builder's one call (the guide's Derived/Test/ToyasCard.lean, 'card_holds'). Laid BY PROGRAM, IN A SANDBOX (cutbox-door.mjs). By AI agents, Wed Nov 11 2026. No macro, syntax, notation, axiom, sorry.
-/
import Derived.Test.YtpfnfaekgaipjaaDoorRows
import GoSem.ClaimSeven
namespace Go.Proofs.YtpfnfaekgaipjaaDoor
namespace Rows

/-- THE TIED CARD OF 'caliperlaw06.RoundSides'. -/
def roundSidesCard : Claim7 := { stood := { row := roundSidesRow, standIns := [], harness := (true, "bba8b93962820b84e1eca455e4a7c1a08701eb48cde5e9c6c8c1edb18874ff04"), looks := false }, kinds := [], alts := [], laidByText := true, laidKinds := [.data], laidTests := true, laidLooks := .later }
def RoundSidesCardSaid : Prop := Claim7.holds Tryd.pinned (.plain (OpenSpec.ofChange roundSidesSpec)) roundSidesCard

/-- THE SECOND FORM's CARD OF 'caliperlaw06.RoundSides'. -/
def roundSidesUptoCard : Claim7 := { stood := { row := roundSidesUptoRow, standIns := [], harness := (true, "bba8b93962820b84e1eca455e4a7c1a08701eb48cde5e9c6c8c1edb18874ff04"), looks := false }, kinds := [], alts := [], laidByText := true, laidKinds := [.data], laidTests := true, laidLooks := .later }
def RoundSidesUptoCardSaid : Prop := Claim7.holds Tryd.pinned (.plain (OpenSpec.upto roundSidesSpec)) roundSidesUptoCard
end Rows
end Go.Proofs.YtpfnfaekgaipjaaDoor
