/-
  DERIVED. GIVEN WITH THE SEED: THE CARDS: each row of YtcalnapdpnnljaaDoorRows.lean that lists a variable, with what it lists TIED to the program's text (the seventh form; the later family's looks); each row that meets fmt, with fmt's text TOLD by the authors' own Lean function (tested against real Go, not proved from fmt's source: count such statements apart). THE CARD IS WHAT COUNTS. Prove the row's statement (the work); the ties are given (YtcalnapdpnnljaaDoorTie.lean); close each card by the builder's one call (the guide's Derived/Test/ToyasCard.lean, 'card_holds'). Laid BY PROGRAM, IN A SANDBOX (cutbox-door.mjs). By AI agents, Wed Nov 11 2026. No macro, syntax, notation, axiom, sorry.
-/
import Derived.Test.YtcalnapdpnnljaaDoorRows
import GoSem.ClaimSeven
namespace Go.Proofs.YtcalnapdpnnljaaDoor
namespace Rows

/-- THE TIED CARD OF 'elasticstorelaw11.UpdateEffect'. -/
def updateEffectCard : Claim7 := { stood := { row := updateEffectRow, standIns := [], harness := (true, "67c8ea2002ba2734d9d5707ddd6d0d9a7596809633de7988f22dbe8ce89e1b8f"), looks := false }, kinds := [], alts := [], laidByText := true, laidKinds := [.data, .pinned], laidTests := true, laidLooks := .later }
def UpdateEffectCardSaid : Prop := Claim7.holds Tryd.pinned (.plain (OpenSpec.ofChange updateEffectSpec)) updateEffectCard

/-- THE TIED CARD OF 'elasticstorelaw11.UpdateValidate'. -/
def updateValidateCard : Claim7 := { stood := { row := updateValidateRow, standIns := [], harness := (true, "67c8ea2002ba2734d9d5707ddd6d0d9a7596809633de7988f22dbe8ce89e1b8f"), looks := false }, kinds := [], alts := [], laidByText := true, laidKinds := [.data, .pinned], laidTests := true, laidLooks := .later }
def UpdateValidateCardSaid : Prop := Claim7.holds Tryd.pinned (.plain (OpenSpec.ofChange updateValidateSpec)) updateValidateCard

/-- THE TIED CARD OF 'elasticstorelaw11.UpdateCompare'. -/
def updateCompareCard : Claim7 := { stood := { row := updateCompareRow, standIns := [], harness := (true, "67c8ea2002ba2734d9d5707ddd6d0d9a7596809633de7988f22dbe8ce89e1b8f"), looks := false }, kinds := [], alts := [], laidByText := true, laidKinds := [.data, .pinned], laidTests := true, laidLooks := .later }
def UpdateCompareCardSaid : Prop := Claim7.holds Tryd.pinned (.plain (OpenSpec.ofChange updateCompareSpec)) updateCompareCard

/-- THE TIED CARD OF 'elasticstorelaw11.UpdateEqual'. -/
def updateEqualCard : Claim7 := { stood := { row := updateEqualRow, standIns := [], harness := (true, "67c8ea2002ba2734d9d5707ddd6d0d9a7596809633de7988f22dbe8ce89e1b8f"), looks := false }, kinds := [], alts := [], laidByText := true, laidKinds := [.data, .pinned], laidTests := true, laidLooks := .later }
def UpdateEqualCardSaid : Prop := Claim7.holds Tryd.pinned (.plain (OpenSpec.ofChange updateEqualSpec)) updateEqualCard

/-- THE TIED CARD OF 'elasticstorelaw11.UpdateRoundTrip'. -/
def updateRoundTripCard : Claim7 := { stood := { row := updateRoundTripRow, standIns := [], harness := (true, "67c8ea2002ba2734d9d5707ddd6d0d9a7596809633de7988f22dbe8ce89e1b8f"), looks := false }, kinds := [], alts := [], laidByText := true, laidKinds := [.data, .pinned], laidTests := true, laidLooks := .later }
def UpdateRoundTripCardSaid : Prop := Claim7.holds Tryd.pinned (.plain (OpenSpec.ofChange updateRoundTripSpec)) updateRoundTripCard

/-- THE TIED CARD OF 'elasticstorelaw11.UpdateDecode'. -/
def updateDecodeCard : Claim7 := { stood := { row := updateDecodeRow, standIns := [], harness := (true, "67c8ea2002ba2734d9d5707ddd6d0d9a7596809633de7988f22dbe8ce89e1b8f"), looks := false }, kinds := [], alts := [], laidByText := true, laidKinds := [.data, .pinned], laidTests := true, laidLooks := .later }
def UpdateDecodeCardSaid : Prop := Claim7.holds Tryd.pinned (.plain (OpenSpec.ofChange updateDecodeSpec)) updateDecodeCard

/-- THE TIED CARD OF 'elasticstorelaw11.UpdatePieces'. -/
def updatePiecesCard : Claim7 := { stood := { row := updatePiecesRow, standIns := [], harness := (true, "67c8ea2002ba2734d9d5707ddd6d0d9a7596809633de7988f22dbe8ce89e1b8f"), looks := false }, kinds := [], alts := [], laidByText := true, laidKinds := [.data, .pinned], laidTests := true, laidLooks := .later }
def UpdatePiecesCardSaid : Prop := Claim7.holds Tryd.pinned (.plain (OpenSpec.ofChange updatePiecesSpec)) updatePiecesCard

/-- THE SECOND FORM's CARD OF 'elasticstorelaw11.UpdateEffect'. -/
def updateEffectUptoCard : Claim7 := { stood := { row := updateEffectUptoRow, standIns := [], harness := (true, "67c8ea2002ba2734d9d5707ddd6d0d9a7596809633de7988f22dbe8ce89e1b8f"), looks := false }, kinds := [], alts := [], laidByText := true, laidKinds := [.data, .pinned], laidTests := true, laidLooks := .later }
def UpdateEffectUptoCardSaid : Prop := Claim7.holds Tryd.pinned (.plain (OpenSpec.upto updateEffectSpec)) updateEffectUptoCard

/-- THE SECOND FORM's CARD OF 'elasticstorelaw11.UpdateValidate'. -/
def updateValidateUptoCard : Claim7 := { stood := { row := updateValidateUptoRow, standIns := [], harness := (true, "67c8ea2002ba2734d9d5707ddd6d0d9a7596809633de7988f22dbe8ce89e1b8f"), looks := false }, kinds := [], alts := [], laidByText := true, laidKinds := [.data, .pinned], laidTests := true, laidLooks := .later }
def UpdateValidateUptoCardSaid : Prop := Claim7.holds Tryd.pinned (.plain (OpenSpec.upto updateValidateSpec)) updateValidateUptoCard

/-- THE SECOND FORM's CARD OF 'elasticstorelaw11.UpdateCompare'. -/
def updateCompareUptoCard : Claim7 := { stood := { row := updateCompareUptoRow, standIns := [], harness := (true, "67c8ea2002ba2734d9d5707ddd6d0d9a7596809633de7988f22dbe8ce89e1b8f"), looks := false }, kinds := [], alts := [], laidByText := true, laidKinds := [.data, .pinned], laidTests := true, laidLooks := .later }
def UpdateCompareUptoCardSaid : Prop := Claim7.holds Tryd.pinned (.plain (OpenSpec.upto updateCompareSpec)) updateCompareUptoCard

/-- THE SECOND FORM's CARD OF 'elasticstorelaw11.UpdateEqual'. -/
def updateEqualUptoCard : Claim7 := { stood := { row := updateEqualUptoRow, standIns := [], harness := (true, "67c8ea2002ba2734d9d5707ddd6d0d9a7596809633de7988f22dbe8ce89e1b8f"), looks := false }, kinds := [], alts := [], laidByText := true, laidKinds := [.data, .pinned], laidTests := true, laidLooks := .later }
def UpdateEqualUptoCardSaid : Prop := Claim7.holds Tryd.pinned (.plain (OpenSpec.upto updateEqualSpec)) updateEqualUptoCard

/-- THE SECOND FORM's CARD OF 'elasticstorelaw11.UpdateRoundTrip'. -/
def updateRoundTripUptoCard : Claim7 := { stood := { row := updateRoundTripUptoRow, standIns := [], harness := (true, "67c8ea2002ba2734d9d5707ddd6d0d9a7596809633de7988f22dbe8ce89e1b8f"), looks := false }, kinds := [], alts := [], laidByText := true, laidKinds := [.data, .pinned], laidTests := true, laidLooks := .later }
def UpdateRoundTripUptoCardSaid : Prop := Claim7.holds Tryd.pinned (.plain (OpenSpec.upto updateRoundTripSpec)) updateRoundTripUptoCard

/-- THE SECOND FORM's CARD OF 'elasticstorelaw11.UpdateDecode'. -/
def updateDecodeUptoCard : Claim7 := { stood := { row := updateDecodeUptoRow, standIns := [], harness := (true, "67c8ea2002ba2734d9d5707ddd6d0d9a7596809633de7988f22dbe8ce89e1b8f"), looks := false }, kinds := [], alts := [], laidByText := true, laidKinds := [.data, .pinned], laidTests := true, laidLooks := .later }
def UpdateDecodeUptoCardSaid : Prop := Claim7.holds Tryd.pinned (.plain (OpenSpec.upto updateDecodeSpec)) updateDecodeUptoCard

/-- THE SECOND FORM's CARD OF 'elasticstorelaw11.UpdatePieces'. -/
def updatePiecesUptoCard : Claim7 := { stood := { row := updatePiecesUptoRow, standIns := [], harness := (true, "67c8ea2002ba2734d9d5707ddd6d0d9a7596809633de7988f22dbe8ce89e1b8f"), looks := false }, kinds := [], alts := [], laidByText := true, laidKinds := [.data, .pinned], laidTests := true, laidLooks := .later }
def UpdatePiecesUptoCardSaid : Prop := Claim7.holds Tryd.pinned (.plain (OpenSpec.upto updatePiecesSpec)) updatePiecesUptoCard
end Rows
end Go.Proofs.YtcalnapdpnnljaaDoor
