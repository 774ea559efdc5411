/-
  DERIVED. GIVEN WITH THE SEED: THE CARDS: each row of YtmommdhnogogdaaGreatDoorRows.lean that lists a variable, with what it lists TIED to the program's text (the seventh form; the later family's looks); each row that meets fmt, with fmt's text TOLD by the authors' own Lean function (tested against real Go, not proved from fmt's source: count such statements apart). THE CARD IS WHAT COUNTS. Prove the row's statement (the work); the ties are given (YtmommdhnogogdaaGreatDoorTie.lean); close each card by the builder's one call (the guide's Derived/Test/ToyasCard.lean, 'card_holds'). Laid BY PROGRAM, IN A SANDBOX (cutbox-door.mjs). By AI agents, Wed Nov 11 2026. No macro, syntax, notation, axiom, sorry.
-/
import Derived.Test.YtmommdhnogogdaaGreatDoorRows
import GoSem.ClaimSeven
namespace Go.Proofs.YtmommdhnogogdaaGreatDoor
namespace Rows

/-- THE TIED CARD OF 'caliperlaw15.DecroundKeeps'. -/
def decroundKeepsCard : Claim7 := { stood := { row := decroundKeepsRow, standIns := [], harness := (true, "56905360caf2eb7e067423471ea9577578f928cc9c760083bae395a055cf0c3c"), looks := false }, kinds := [], alts := [], laidByText := true, laidKinds := [.data, .data, .pinned], laidTests := true, laidLooks := .later }
def DecroundKeepsCardSaid : Prop := Claim7.holds Tryz.pinned (.plain (OpenSpec.ofChange decroundKeepsSpec)) decroundKeepsCard

/-- THE TIED CARD OF 'caliperlaw15.DecroundMembers'. -/
def decroundMembersCard : Claim7 := { stood := { row := decroundMembersRow, standIns := [], harness := (true, "56905360caf2eb7e067423471ea9577578f928cc9c760083bae395a055cf0c3c"), looks := false }, kinds := [], alts := [], laidByText := true, laidKinds := [.data, .data, .pinned], laidTests := true, laidLooks := .later }
def DecroundMembersCardSaid : Prop := Claim7.holds Tryz.pinned (.plain (OpenSpec.ofChange decroundMembersSpec)) decroundMembersCard

/-- THE SECOND FORM's CARD OF 'caliperlaw15.DecroundKeeps'. -/
def decroundKeepsUptoCard : Claim7 := { stood := { row := decroundKeepsUptoRow, standIns := [], harness := (true, "56905360caf2eb7e067423471ea9577578f928cc9c760083bae395a055cf0c3c"), looks := false }, kinds := [], alts := [], laidByText := true, laidKinds := [.data, .data, .pinned], laidTests := true, laidLooks := .later }
def DecroundKeepsUptoCardSaid : Prop := Claim7.holds Tryz.pinned (.plain (OpenSpec.upto decroundKeepsSpec)) decroundKeepsUptoCard

/-- THE SECOND FORM's CARD OF 'caliperlaw15.DecroundMembers'. -/
def decroundMembersUptoCard : Claim7 := { stood := { row := decroundMembersUptoRow, standIns := [], harness := (true, "56905360caf2eb7e067423471ea9577578f928cc9c760083bae395a055cf0c3c"), looks := false }, kinds := [], alts := [], laidByText := true, laidKinds := [.data, .data, .pinned], laidTests := true, laidLooks := .later }
def DecroundMembersUptoCardSaid : Prop := Claim7.holds Tryz.pinned (.plain (OpenSpec.upto decroundMembersSpec)) decroundMembersUptoCard
end Rows
end Go.Proofs.YtmommdhnogogdaaGreatDoor
