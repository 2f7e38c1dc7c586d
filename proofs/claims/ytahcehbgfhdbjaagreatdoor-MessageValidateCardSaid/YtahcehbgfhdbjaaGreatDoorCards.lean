/-
  DERIVED. GIVEN WITH THE SEED: THE CARDS: each row of YtahcehbgfhdbjaaGreatDoorRows.lean that lists a variable, with what it lists TIED to the program's text (the seventh form; the later family's looks); each row that meets fmt, with fmt's text TOLD by the authors' own Lean function (tested against real Go, not proved from fmt's source: count such statements apart). THE CARD IS WHAT COUNTS. Prove the row's statement (the work); the ties are given (YtahcehbgfhdbjaaGreatDoorTie.lean); close each card by the builder's one call (the guide's Derived/Test/ToyasCard.lean, 'card_holds'). Laid BY PROGRAM, IN A SANDBOX (cutbox-door.mjs). By AI agents, Wed Nov 11 2026. No macro, syntax, notation, axiom, sorry.
-/
import Derived.Test.YtahcehbgfhdbjaaGreatDoorRows
import GoSem.ClaimSeven
namespace Go.Proofs.YtahcehbgfhdbjaaGreatDoor
namespace Rows

/-- THE TIED CARD OF 'elasticstorelaw14.MessageValidate'. -/
def messageValidateCard : Claim7 := { stood := { row := messageValidateRow, standIns := [], harness := (true, "811af7793688f91dfa2b20922476df602b4142632e37e155d12475767cf03da4"), looks := false }, kinds := [], alts := [], laidByText := true, laidKinds := [.data, .pinned], laidTests := true, laidLooks := .later }
def MessageValidateCardSaid : Prop := Claim7.holds Tryz.pinned (.plain (OpenSpec.ofChange messageValidateSpec)) messageValidateCard

/-- THE TIED CARD OF 'elasticstorelaw14.MessageEqual'. -/
def messageEqualCard : Claim7 := { stood := { row := messageEqualRow, standIns := [], harness := (true, "811af7793688f91dfa2b20922476df602b4142632e37e155d12475767cf03da4"), looks := false }, kinds := [], alts := [], laidByText := true, laidKinds := [.data, .pinned], laidTests := true, laidLooks := .later }
def MessageEqualCardSaid : Prop := Claim7.holds Tryz.pinned (.plain (OpenSpec.ofChange messageEqualSpec)) messageEqualCard

/-- THE TIED CARD OF 'elasticstorelaw14.MessageDecode'. -/
def messageDecodeCard : Claim7 := { stood := { row := messageDecodeRow, standIns := [], harness := (true, "811af7793688f91dfa2b20922476df602b4142632e37e155d12475767cf03da4"), looks := false }, kinds := [], alts := [], laidByText := true, laidKinds := [.data, .pinned], laidTests := true, laidLooks := .later }
def MessageDecodeCardSaid : Prop := Claim7.holds Tryz.pinned (.plain (OpenSpec.ofChange messageDecodeSpec)) messageDecodeCard

/-- THE TIED CARD OF 'elasticstorelaw14.MessageDamage'. -/
def messageDamageCard : Claim7 := { stood := { row := messageDamageRow, standIns := [], harness := (true, "811af7793688f91dfa2b20922476df602b4142632e37e155d12475767cf03da4"), looks := false }, kinds := [], alts := [], laidByText := true, laidKinds := [.data, .pinned], laidTests := true, laidLooks := .later }
def MessageDamageCardSaid : Prop := Claim7.holds Tryz.pinned (.plain (OpenSpec.ofChange messageDamageSpec)) messageDamageCard

/-- THE SECOND FORM's CARD OF 'elasticstorelaw14.MessageValidate'. -/
def messageValidateUptoCard : Claim7 := { stood := { row := messageValidateUptoRow, standIns := [], harness := (true, "811af7793688f91dfa2b20922476df602b4142632e37e155d12475767cf03da4"), looks := false }, kinds := [], alts := [], laidByText := true, laidKinds := [.data, .pinned], laidTests := true, laidLooks := .later }
def MessageValidateUptoCardSaid : Prop := Claim7.holds Tryz.pinned (.plain (OpenSpec.upto messageValidateSpec)) messageValidateUptoCard

/-- THE SECOND FORM's CARD OF 'elasticstorelaw14.MessageEqual'. -/
def messageEqualUptoCard : Claim7 := { stood := { row := messageEqualUptoRow, standIns := [], harness := (true, "811af7793688f91dfa2b20922476df602b4142632e37e155d12475767cf03da4"), looks := false }, kinds := [], alts := [], laidByText := true, laidKinds := [.data, .pinned], laidTests := true, laidLooks := .later }
def MessageEqualUptoCardSaid : Prop := Claim7.holds Tryz.pinned (.plain (OpenSpec.upto messageEqualSpec)) messageEqualUptoCard

/-- THE SECOND FORM's CARD OF 'elasticstorelaw14.MessageDecode'. -/
def messageDecodeUptoCard : Claim7 := { stood := { row := messageDecodeUptoRow, standIns := [], harness := (true, "811af7793688f91dfa2b20922476df602b4142632e37e155d12475767cf03da4"), looks := false }, kinds := [], alts := [], laidByText := true, laidKinds := [.data, .pinned], laidTests := true, laidLooks := .later }
def MessageDecodeUptoCardSaid : Prop := Claim7.holds Tryz.pinned (.plain (OpenSpec.upto messageDecodeSpec)) messageDecodeUptoCard

/-- THE SECOND FORM's CARD OF 'elasticstorelaw14.MessageDamage'. -/
def messageDamageUptoCard : Claim7 := { stood := { row := messageDamageUptoRow, standIns := [], harness := (true, "811af7793688f91dfa2b20922476df602b4142632e37e155d12475767cf03da4"), looks := false }, kinds := [], alts := [], laidByText := true, laidKinds := [.data, .pinned], laidTests := true, laidLooks := .later }
def MessageDamageUptoCardSaid : Prop := Claim7.holds Tryz.pinned (.plain (OpenSpec.upto messageDamageSpec)) messageDamageUptoCard
end Rows
end Go.Proofs.YtahcehbgfhdbjaaGreatDoor
