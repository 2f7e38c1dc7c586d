/-
  DERIVED. GIVEN WITH THE SEED: THE CARDS: each row of YthgnhaimdkcmeaaGreatDoorRows.lean that lists a variable, with what it lists TIED to the program's text (the seventh form; the later family's looks); each row that meets fmt, with fmt's text TOLD by the authors' own Lean function (tested against real Go, not proved from fmt's source: count such statements apart). THE CARD IS WHAT COUNTS. Prove the row's statement (the work); the ties are given (YthgnhaimdkcmeaaGreatDoorTie.lean); close each card by the builder's one call (the guide's Derived/Test/ToyasCard.lean, 'card_holds'). Laid BY PROGRAM, IN A SANDBOX (cutbox-door.mjs). By AI agents, Wed Nov 11 2026. No macro, syntax, notation, axiom, sorry.
-/
import Derived.Test.YthgnhaimdkcmeaaGreatDoorRows
import GoSem.ClaimSeven
namespace Go.Proofs.YthgnhaimdkcmeaaGreatDoor
namespace Rows

/-- THE TIED CARD OF 'elasticstorelaw08.CommandProposal'. -/
def commandProposalCard : Claim7 := { stood := { row := commandProposalRow, standIns := [], harness := (true, "d69cd9f5016de00f143356311b8ff0e1be492d59fd194c5ea112506077bf83d5"), looks := true }, kinds := [], alts := [], laidByText := true, laidKinds := [.data, .data, .data, .data, .sentinel, .sentinel, .pinned], laidTests := true, laidLooks := .later }
def CommandProposalCardSaid : Prop := Claim7.holds Tryz.pinned (.plain (OpenSpec.ofChange commandProposalSpec)) commandProposalCard

/-- THE SECOND FORM's CARD OF 'elasticstorelaw08.CommandProposal'. -/
def commandProposalUptoCard : Claim7 := { stood := { row := commandProposalUptoRow, standIns := [], harness := (true, "d69cd9f5016de00f143356311b8ff0e1be492d59fd194c5ea112506077bf83d5"), looks := true }, kinds := [], alts := [], laidByText := true, laidKinds := [.data, .data, .data, .data, .sentinel, .sentinel, .pinned], laidTests := true, laidLooks := .later }
def CommandProposalUptoCardSaid : Prop := Claim7.holds Tryz.pinned (.plain (OpenSpec.upto commandProposalSpec)) commandProposalUptoCard
end Rows
end Go.Proofs.YthgnhaimdkcmeaaGreatDoor
