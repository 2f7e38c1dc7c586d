/-
  DERIVED. GIVEN WITH THE SEED: THE CARDS: each row of YtdfablboenfblaaDoorRows.lean that lists a variable, with what it lists TIED to the program's text (the seventh form; the later family's looks); each row that meets fmt, with fmt's text TOLD by the authors' own Lean function (tested against real Go, not proved from fmt's source: count such statements apart). THE CARD IS WHAT COUNTS. Prove the row's statement (the work); the ties are given (YtdfablboenfblaaDoorTie.lean); close each card by the builder's one call (the guide's Derived/Test/ToyasCard.lean, 'card_holds'). Laid BY PROGRAM, IN A SANDBOX (cutbox-door.mjs). By AI agents, Wed Nov 11 2026. No macro, syntax, notation, axiom, sorry.
-/
import Derived.Test.YtdfablboenfblaaDoorRows
import GoSem.ClaimSeven
namespace Go.Proofs.YtdfablboenfblaaDoor
namespace Rows

/-- THE TIED CARD OF 'elasticstorelaw12.StateValidate'. -/
def stateValidateCard : Claim7 := { stood := { row := stateValidateRow, standIns := [], harness := (true, "90e58f401085b5c85cec8f775c2d8e5ffdc35a07fd98dea0f3637d06e7f7d1fc"), looks := false }, kinds := [], alts := [], laidByText := true, laidKinds := [.data, .pinned], laidTests := true, laidLooks := .later }
def StateValidateCardSaid : Prop := Claim7.holds Tryd.pinned (.plain (OpenSpec.ofChange stateValidateSpec)) stateValidateCard

/-- THE TIED CARD OF 'elasticstorelaw12.StatePair'. -/
def statePairCard : Claim7 := { stood := { row := statePairRow, standIns := [], harness := (true, "90e58f401085b5c85cec8f775c2d8e5ffdc35a07fd98dea0f3637d06e7f7d1fc"), looks := false }, kinds := [], alts := [], laidByText := true, laidKinds := [.data, .pinned], laidTests := true, laidLooks := .later }
def StatePairCardSaid : Prop := Claim7.holds Tryd.pinned (.plain (OpenSpec.ofChange statePairSpec)) statePairCard

/-- THE TIED CARD OF 'elasticstorelaw12.StateLattice'. -/
def stateLatticeCard : Claim7 := { stood := { row := stateLatticeRow, standIns := [], harness := (true, "90e58f401085b5c85cec8f775c2d8e5ffdc35a07fd98dea0f3637d06e7f7d1fc"), looks := false }, kinds := [], alts := [], laidByText := true, laidKinds := [.data, .pinned], laidTests := true, laidLooks := .later }
def StateLatticeCardSaid : Prop := Claim7.holds Tryd.pinned (.plain (OpenSpec.ofChange stateLatticeSpec)) stateLatticeCard

/-- THE TIED CARD OF 'elasticstorelaw12.StateAdd'. -/
def stateAddCard : Claim7 := { stood := { row := stateAddRow, standIns := [], harness := (true, "90e58f401085b5c85cec8f775c2d8e5ffdc35a07fd98dea0f3637d06e7f7d1fc"), looks := false }, kinds := [], alts := [], laidByText := true, laidKinds := [.data, .pinned], laidTests := true, laidLooks := .later }
def StateAddCardSaid : Prop := Claim7.holds Tryd.pinned (.plain (OpenSpec.ofChange stateAddSpec)) stateAddCard

/-- THE TIED CARD OF 'elasticstorelaw12.StateBeyond'. -/
def stateBeyondCard : Claim7 := { stood := { row := stateBeyondRow, standIns := [], harness := (true, "90e58f401085b5c85cec8f775c2d8e5ffdc35a07fd98dea0f3637d06e7f7d1fc"), looks := false }, kinds := [], alts := [], laidByText := true, laidKinds := [.data, .pinned], laidTests := true, laidLooks := .later }
def StateBeyondCardSaid : Prop := Claim7.holds Tryd.pinned (.plain (OpenSpec.ofChange stateBeyondSpec)) stateBeyondCard

/-- THE TIED CARD OF 'elasticstorelaw12.StateMerge'. -/
def stateMergeCard : Claim7 := { stood := { row := stateMergeRow, standIns := [], harness := (true, "90e58f401085b5c85cec8f775c2d8e5ffdc35a07fd98dea0f3637d06e7f7d1fc"), looks := false }, kinds := [], alts := [], laidByText := true, laidKinds := [.data, .pinned], laidTests := true, laidLooks := .later }
def StateMergeCardSaid : Prop := Claim7.holds Tryd.pinned (.plain (OpenSpec.ofChange stateMergeSpec)) stateMergeCard

/-- THE TIED CARD OF 'elasticstorelaw12.StateTransfer'. -/
def stateTransferCard : Claim7 := { stood := { row := stateTransferRow, standIns := [], harness := (true, "90e58f401085b5c85cec8f775c2d8e5ffdc35a07fd98dea0f3637d06e7f7d1fc"), looks := false }, kinds := [], alts := [], laidByText := true, laidKinds := [.data, .pinned], laidTests := true, laidLooks := .later }
def StateTransferCardSaid : Prop := Claim7.holds Tryd.pinned (.plain (OpenSpec.ofChange stateTransferSpec)) stateTransferCard

/-- THE TIED CARD OF 'elasticstorelaw12.StateRoundTrip'. -/
def stateRoundTripCard : Claim7 := { stood := { row := stateRoundTripRow, standIns := [], harness := (true, "90e58f401085b5c85cec8f775c2d8e5ffdc35a07fd98dea0f3637d06e7f7d1fc"), looks := false }, kinds := [], alts := [], laidByText := true, laidKinds := [.data, .pinned], laidTests := true, laidLooks := .later }
def StateRoundTripCardSaid : Prop := Claim7.holds Tryd.pinned (.plain (OpenSpec.ofChange stateRoundTripSpec)) stateRoundTripCard

/-- THE TIED CARD OF 'elasticstorelaw12.StateDecode'. -/
def stateDecodeCard : Claim7 := { stood := { row := stateDecodeRow, standIns := [], harness := (true, "90e58f401085b5c85cec8f775c2d8e5ffdc35a07fd98dea0f3637d06e7f7d1fc"), looks := false }, kinds := [], alts := [], laidByText := true, laidKinds := [.data, .pinned], laidTests := true, laidLooks := .later }
def StateDecodeCardSaid : Prop := Claim7.holds Tryd.pinned (.plain (OpenSpec.ofChange stateDecodeSpec)) stateDecodeCard

/-- THE SECOND FORM's CARD OF 'elasticstorelaw12.StateValidate'. -/
def stateValidateUptoCard : Claim7 := { stood := { row := stateValidateUptoRow, standIns := [], harness := (true, "90e58f401085b5c85cec8f775c2d8e5ffdc35a07fd98dea0f3637d06e7f7d1fc"), looks := false }, kinds := [], alts := [], laidByText := true, laidKinds := [.data, .pinned], laidTests := true, laidLooks := .later }
def StateValidateUptoCardSaid : Prop := Claim7.holds Tryd.pinned (.plain (OpenSpec.upto stateValidateSpec)) stateValidateUptoCard

/-- THE SECOND FORM's CARD OF 'elasticstorelaw12.StatePair'. -/
def statePairUptoCard : Claim7 := { stood := { row := statePairUptoRow, standIns := [], harness := (true, "90e58f401085b5c85cec8f775c2d8e5ffdc35a07fd98dea0f3637d06e7f7d1fc"), looks := false }, kinds := [], alts := [], laidByText := true, laidKinds := [.data, .pinned], laidTests := true, laidLooks := .later }
def StatePairUptoCardSaid : Prop := Claim7.holds Tryd.pinned (.plain (OpenSpec.upto statePairSpec)) statePairUptoCard

/-- THE SECOND FORM's CARD OF 'elasticstorelaw12.StateLattice'. -/
def stateLatticeUptoCard : Claim7 := { stood := { row := stateLatticeUptoRow, standIns := [], harness := (true, "90e58f401085b5c85cec8f775c2d8e5ffdc35a07fd98dea0f3637d06e7f7d1fc"), looks := false }, kinds := [], alts := [], laidByText := true, laidKinds := [.data, .pinned], laidTests := true, laidLooks := .later }
def StateLatticeUptoCardSaid : Prop := Claim7.holds Tryd.pinned (.plain (OpenSpec.upto stateLatticeSpec)) stateLatticeUptoCard

/-- THE SECOND FORM's CARD OF 'elasticstorelaw12.StateAdd'. -/
def stateAddUptoCard : Claim7 := { stood := { row := stateAddUptoRow, standIns := [], harness := (true, "90e58f401085b5c85cec8f775c2d8e5ffdc35a07fd98dea0f3637d06e7f7d1fc"), looks := false }, kinds := [], alts := [], laidByText := true, laidKinds := [.data, .pinned], laidTests := true, laidLooks := .later }
def StateAddUptoCardSaid : Prop := Claim7.holds Tryd.pinned (.plain (OpenSpec.upto stateAddSpec)) stateAddUptoCard

/-- THE SECOND FORM's CARD OF 'elasticstorelaw12.StateBeyond'. -/
def stateBeyondUptoCard : Claim7 := { stood := { row := stateBeyondUptoRow, standIns := [], harness := (true, "90e58f401085b5c85cec8f775c2d8e5ffdc35a07fd98dea0f3637d06e7f7d1fc"), looks := false }, kinds := [], alts := [], laidByText := true, laidKinds := [.data, .pinned], laidTests := true, laidLooks := .later }
def StateBeyondUptoCardSaid : Prop := Claim7.holds Tryd.pinned (.plain (OpenSpec.upto stateBeyondSpec)) stateBeyondUptoCard

/-- THE SECOND FORM's CARD OF 'elasticstorelaw12.StateMerge'. -/
def stateMergeUptoCard : Claim7 := { stood := { row := stateMergeUptoRow, standIns := [], harness := (true, "90e58f401085b5c85cec8f775c2d8e5ffdc35a07fd98dea0f3637d06e7f7d1fc"), looks := false }, kinds := [], alts := [], laidByText := true, laidKinds := [.data, .pinned], laidTests := true, laidLooks := .later }
def StateMergeUptoCardSaid : Prop := Claim7.holds Tryd.pinned (.plain (OpenSpec.upto stateMergeSpec)) stateMergeUptoCard

/-- THE SECOND FORM's CARD OF 'elasticstorelaw12.StateTransfer'. -/
def stateTransferUptoCard : Claim7 := { stood := { row := stateTransferUptoRow, standIns := [], harness := (true, "90e58f401085b5c85cec8f775c2d8e5ffdc35a07fd98dea0f3637d06e7f7d1fc"), looks := false }, kinds := [], alts := [], laidByText := true, laidKinds := [.data, .pinned], laidTests := true, laidLooks := .later }
def StateTransferUptoCardSaid : Prop := Claim7.holds Tryd.pinned (.plain (OpenSpec.upto stateTransferSpec)) stateTransferUptoCard

/-- THE SECOND FORM's CARD OF 'elasticstorelaw12.StateRoundTrip'. -/
def stateRoundTripUptoCard : Claim7 := { stood := { row := stateRoundTripUptoRow, standIns := [], harness := (true, "90e58f401085b5c85cec8f775c2d8e5ffdc35a07fd98dea0f3637d06e7f7d1fc"), looks := false }, kinds := [], alts := [], laidByText := true, laidKinds := [.data, .pinned], laidTests := true, laidLooks := .later }
def StateRoundTripUptoCardSaid : Prop := Claim7.holds Tryd.pinned (.plain (OpenSpec.upto stateRoundTripSpec)) stateRoundTripUptoCard

/-- THE SECOND FORM's CARD OF 'elasticstorelaw12.StateDecode'. -/
def stateDecodeUptoCard : Claim7 := { stood := { row := stateDecodeUptoRow, standIns := [], harness := (true, "90e58f401085b5c85cec8f775c2d8e5ffdc35a07fd98dea0f3637d06e7f7d1fc"), looks := false }, kinds := [], alts := [], laidByText := true, laidKinds := [.data, .pinned], laidTests := true, laidLooks := .later }
def StateDecodeUptoCardSaid : Prop := Claim7.holds Tryd.pinned (.plain (OpenSpec.upto stateDecodeSpec)) stateDecodeUptoCard
end Rows
end Go.Proofs.YtdfablboenfblaaDoor
