/-
  NARROWER THAN 'FOR EVERY INPUT', by the rows' own cells (each row's printed sentence says how): UpdateEffect: laid · UpdateValidate: laid · UpdateCompare: laid · UpdateEqual: laid · UpdateRoundTrip: laid · UpdateDecode: laid · UpdatePieces: laid.
  DERIVED. THE GIVEN ROWS OF THIS SEAT. 7 by the template 'for every input the law returns true; each argument reads behind the call as it read before'; 0 by the template 'total and deterministic' (their statements: YtcalnapdpnnljaaDoorTotals.lean).
  GIVEN WITH THE SEED: the statements are not yours to turn. If you find one false, say at which input.
  Laid BY PROGRAM, IN A SANDBOX (cutbox-rows.mjs): the forced cells as the released guide's own fill.sh prints them over the translation e6208ebef8977d3f… (all of the seat's roots in one cut). By AI agents, Wed Nov 11 2026. No macro, syntax, notation, axiom, sorry.
-/
import Derived.Test.YtcalnapdpnnljaaDoorChecked
import GoSem.PinnedTables
import GoSem.Claim
import GoSem.ClaimJoined
import GoSem.ClaimMapViews
import Derived.JoinedTies
import Derived.KernelRfl
namespace Go.Proofs.YtcalnapdpnnljaaDoor
/- THE CELL 'sum', in the pinned program and in every row, IS THE sha256 OF THE DUMP (.gsa) THAT YtcalnapdpnnljaaDoorProg.lean LOADS. Nothing in Lean hashes anything: it is a label: what it is worth is what the hold of that sum in a sandbox is worth. -/
noncomputable def Tryd.pinned : Pinned := { name := "ytcalnapdpnnljaadoor", sum := "e6208ebef8977d3f65f9797d029e624e32fce026e5e248bde9d36b7837554484", checked := Tryd.checked }
namespace Rows
def none {H : Type} : Left H := { results := [], args := [] }

/- WHAT THE LISTED PACKAGE-LEVEL VARIABLES READ AS WHEN THE CALL BEGINS. Each datum BY PROGRAM (the guide's laid-datum.mjs) off the statement by which the dump's own 'gosem.cut.vars' lays the variable. In a bare row this is a premise. The card (YtcalnapdpnnljaaDoorCards.lean) ties it to the program's text. -/
def laid_unicode_utf8_acceptRanges {H : Type} : DataW H := .agg [.agg [.lit (.int .u8 128), .lit (.int .u8 191)], .agg [.lit (.int .u8 160), .lit (.int .u8 191)], .agg [.lit (.int .u8 128), .lit (.int .u8 159)], .agg [.lit (.int .u8 144), .lit (.int .u8 191)], .agg [.lit (.int .u8 128), .lit (.int .u8 143)], .agg [.lit (.int .u8 0), .lit (.int .u8 0)], .agg [.lit (.int .u8 0), .lit (.int .u8 0)], .agg [.lit (.int .u8 0), .lit (.int .u8 0)], .agg [.lit (.int .u8 0), .lit (.int .u8 0)], .agg [.lit (.int .u8 0), .lit (.int .u8 0)], .agg [.lit (.int .u8 0), .lit (.int .u8 0)], .agg [.lit (.int .u8 0), .lit (.int .u8 0)], .agg [.lit (.int .u8 0), .lit (.int .u8 0)], .agg [.lit (.int .u8 0), .lit (.int .u8 0)], .agg [.lit (.int .u8 0), .lit (.int .u8 0)], .agg [.lit (.int .u8 0), .lit (.int .u8 0)]]
/-- One of Go's own tables, pinned by name: the form's constant. -/
def laid_unicode_utf8_first : DataW Unit := Go.Pinned.utf8First

/-- 'elasticstorelaw11.UpdateEffect': WHATEVER THE INPUT: true; the input reads as it did. -/
def updateEffectSpec : ChangeSpec := { name := "updateEffect", fn := fun _ => fun
  | [d] => { results := [.lit (.bool true)], args := [d] }
  | _ => none }
def updateEffectRow : OpenClaim := { program := "ytcalnapdpnnljaadoor", sum := "e6208ebef8977d3f65f9797d029e624e32fce026e5e248bde9d36b7837554484", func := "elasticstore/elasticstorelaw11.UpdateEffect", spec := "updateEffect", unfollowed := true, recurses := true, named := ["unicode/utf8.first", "unicode/utf8.acceptRanges"], apart := false, laid := [("unicode/utf8.acceptRanges", laid_unicode_utf8_acceptRanges), ("unicode/utf8.first", laid_unicode_utf8_first)] }
def UpdateEffectSaid : Prop := updateEffectRow.holds Tryd.pinned (OpenSpec.ofChange updateEffectSpec)

/-- ITS FALSE NEIGHBOUR: 'it returns false'. Refute it at one input. -/
def updateEffectWrong : ChangeSpec := { name := "updateEffect", fn := fun _ => fun
  | [d] => { results := [.lit (.bool false)], args := [d] }
  | _ => none }
def UpdateEffectWrongFalsely : Prop := updateEffectRow.holds Tryd.pinned (OpenSpec.ofChange updateEffectWrong)

/-- 'elasticstorelaw11.UpdateValidate': WHATEVER THE INPUT: true; the input reads as it did. -/
def updateValidateSpec : ChangeSpec := { name := "updateValidate", fn := fun _ => fun
  | [d] => { results := [.lit (.bool true)], args := [d] }
  | _ => none }
def updateValidateRow : OpenClaim := { program := "ytcalnapdpnnljaadoor", sum := "e6208ebef8977d3f65f9797d029e624e32fce026e5e248bde9d36b7837554484", func := "elasticstore/elasticstorelaw11.UpdateValidate", spec := "updateValidate", unfollowed := true, recurses := true, named := ["unicode/utf8.first", "unicode/utf8.acceptRanges"], apart := false, laid := [("unicode/utf8.acceptRanges", laid_unicode_utf8_acceptRanges), ("unicode/utf8.first", laid_unicode_utf8_first)] }
def UpdateValidateSaid : Prop := updateValidateRow.holds Tryd.pinned (OpenSpec.ofChange updateValidateSpec)

/-- ITS FALSE NEIGHBOUR: 'it returns false'. Refute it at one input. -/
def updateValidateWrong : ChangeSpec := { name := "updateValidate", fn := fun _ => fun
  | [d] => { results := [.lit (.bool false)], args := [d] }
  | _ => none }
def UpdateValidateWrongFalsely : Prop := updateValidateRow.holds Tryd.pinned (OpenSpec.ofChange updateValidateWrong)

/-- 'elasticstorelaw11.UpdateCompare': WHATEVER THE INPUT: true; the input reads as it did. -/
def updateCompareSpec : ChangeSpec := { name := "updateCompare", fn := fun _ => fun
  | [d1, d2, d3] => { results := [.lit (.bool true)], args := [d1, d2, d3] }
  | _ => none }
def updateCompareRow : OpenClaim := { program := "ytcalnapdpnnljaadoor", sum := "e6208ebef8977d3f65f9797d029e624e32fce026e5e248bde9d36b7837554484", func := "elasticstore/elasticstorelaw11.UpdateCompare", spec := "updateCompare", unfollowed := true, recurses := true, named := ["unicode/utf8.first", "unicode/utf8.acceptRanges"], apart := false, laid := [("unicode/utf8.acceptRanges", laid_unicode_utf8_acceptRanges), ("unicode/utf8.first", laid_unicode_utf8_first)] }
def UpdateCompareSaid : Prop := updateCompareRow.holds Tryd.pinned (OpenSpec.ofChange updateCompareSpec)

/-- ITS FALSE NEIGHBOUR: 'it returns false'. Refute it at one input. -/
def updateCompareWrong : ChangeSpec := { name := "updateCompare", fn := fun _ => fun
  | [d1, d2, d3] => { results := [.lit (.bool false)], args := [d1, d2, d3] }
  | _ => none }
def UpdateCompareWrongFalsely : Prop := updateCompareRow.holds Tryd.pinned (OpenSpec.ofChange updateCompareWrong)

/-- 'elasticstorelaw11.UpdateEqual': WHATEVER THE INPUT: true; the input reads as it did. -/
def updateEqualSpec : ChangeSpec := { name := "updateEqual", fn := fun _ => fun
  | [d1, d2] => { results := [.lit (.bool true)], args := [d1, d2] }
  | _ => none }
def updateEqualRow : OpenClaim := { program := "ytcalnapdpnnljaadoor", sum := "e6208ebef8977d3f65f9797d029e624e32fce026e5e248bde9d36b7837554484", func := "elasticstore/elasticstorelaw11.UpdateEqual", spec := "updateEqual", unfollowed := true, recurses := true, named := ["unicode/utf8.first", "unicode/utf8.acceptRanges"], apart := false, laid := [("unicode/utf8.acceptRanges", laid_unicode_utf8_acceptRanges), ("unicode/utf8.first", laid_unicode_utf8_first)] }
def UpdateEqualSaid : Prop := updateEqualRow.holds Tryd.pinned (OpenSpec.ofChange updateEqualSpec)

/-- ITS FALSE NEIGHBOUR: 'it returns false'. Refute it at one input. -/
def updateEqualWrong : ChangeSpec := { name := "updateEqual", fn := fun _ => fun
  | [d1, d2] => { results := [.lit (.bool false)], args := [d1, d2] }
  | _ => none }
def UpdateEqualWrongFalsely : Prop := updateEqualRow.holds Tryd.pinned (OpenSpec.ofChange updateEqualWrong)

/-- 'elasticstorelaw11.UpdateRoundTrip': WHATEVER THE INPUT: true; the input reads as it did. -/
def updateRoundTripSpec : ChangeSpec := { name := "updateRoundTrip", fn := fun _ => fun
  | [d1, d2] => { results := [.lit (.bool true)], args := [d1, d2] }
  | _ => none }
def updateRoundTripRow : OpenClaim := { program := "ytcalnapdpnnljaadoor", sum := "e6208ebef8977d3f65f9797d029e624e32fce026e5e248bde9d36b7837554484", func := "elasticstore/elasticstorelaw11.UpdateRoundTrip", spec := "updateRoundTrip", unfollowed := true, recurses := true, named := ["unicode/utf8.first", "unicode/utf8.acceptRanges"], apart := false, laid := [("unicode/utf8.acceptRanges", laid_unicode_utf8_acceptRanges), ("unicode/utf8.first", laid_unicode_utf8_first)] }
def UpdateRoundTripSaid : Prop := updateRoundTripRow.holds Tryd.pinned (OpenSpec.ofChange updateRoundTripSpec)

/-- ITS FALSE NEIGHBOUR: 'it returns false'. Refute it at one input. -/
def updateRoundTripWrong : ChangeSpec := { name := "updateRoundTrip", fn := fun _ => fun
  | [d1, d2] => { results := [.lit (.bool false)], args := [d1, d2] }
  | _ => none }
def UpdateRoundTripWrongFalsely : Prop := updateRoundTripRow.holds Tryd.pinned (OpenSpec.ofChange updateRoundTripWrong)

/-- 'elasticstorelaw11.UpdateDecode': WHATEVER THE INPUT: true; the input reads as it did. -/
def updateDecodeSpec : ChangeSpec := { name := "updateDecode", fn := fun _ => fun
  | [d] => { results := [.lit (.bool true)], args := [d] }
  | _ => none }
def updateDecodeRow : OpenClaim := { program := "ytcalnapdpnnljaadoor", sum := "e6208ebef8977d3f65f9797d029e624e32fce026e5e248bde9d36b7837554484", func := "elasticstore/elasticstorelaw11.UpdateDecode", spec := "updateDecode", unfollowed := true, recurses := true, named := ["unicode/utf8.first", "unicode/utf8.acceptRanges"], apart := false, laid := [("unicode/utf8.acceptRanges", laid_unicode_utf8_acceptRanges), ("unicode/utf8.first", laid_unicode_utf8_first)] }
def UpdateDecodeSaid : Prop := updateDecodeRow.holds Tryd.pinned (OpenSpec.ofChange updateDecodeSpec)

/-- ITS FALSE NEIGHBOUR: 'it returns false'. Refute it at one input. -/
def updateDecodeWrong : ChangeSpec := { name := "updateDecode", fn := fun _ => fun
  | [d] => { results := [.lit (.bool false)], args := [d] }
  | _ => none }
def UpdateDecodeWrongFalsely : Prop := updateDecodeRow.holds Tryd.pinned (OpenSpec.ofChange updateDecodeWrong)

/-- 'elasticstorelaw11.UpdatePieces': WHATEVER THE INPUT: true; the input reads as it did. -/
def updatePiecesSpec : ChangeSpec := { name := "updatePieces", fn := fun _ => fun
  | [d1, d2] => { results := [.lit (.bool true)], args := [d1, d2] }
  | _ => none }
def updatePiecesRow : OpenClaim := { program := "ytcalnapdpnnljaadoor", sum := "e6208ebef8977d3f65f9797d029e624e32fce026e5e248bde9d36b7837554484", func := "elasticstore/elasticstorelaw11.UpdatePieces", spec := "updatePieces", unfollowed := true, recurses := true, named := ["unicode/utf8.first", "unicode/utf8.acceptRanges"], apart := false, laid := [("unicode/utf8.acceptRanges", laid_unicode_utf8_acceptRanges), ("unicode/utf8.first", laid_unicode_utf8_first)] }
def UpdatePiecesSaid : Prop := updatePiecesRow.holds Tryd.pinned (OpenSpec.ofChange updatePiecesSpec)

/-- ITS FALSE NEIGHBOUR: 'it returns false'. Refute it at one input. -/
def updatePiecesWrong : ChangeSpec := { name := "updatePieces", fn := fun _ => fun
  | [d1, d2] => { results := [.lit (.bool false)], args := [d1, d2] }
  | _ => none }
def UpdatePiecesWrongFalsely : Prop := updatePiecesRow.holds Tryd.pinned (OpenSpec.ofChange updatePiecesWrong)

/- THE SECOND FORM. 'bulk': how many values and letters a reading holds, each counted each time it is reached (what is shared counts as often as it is met; a slice's spare places count too). A statement '..UptoSaid' is the law's where the arguments, and the package variables that the reading takes, are together of bulk at most 1048576: NARROWER than '..Said'. Prove '..Said' where nothing that the law and all that it calls make is longer than what came in: it says more and counts as full. Else prove '..UptoSaid'. A law counts once. -/
mutual
def uptoBulk {H : Type} : DataW H → Nat
  | .lit (.string bytes) => bytes.length + 1
  | .lit _ => 1
  | .nil => 1
  | .ptr d => uptoBulk d + 1
  | .slice elems spare => uptoBulkAll elems + uptoBulkAll spare + 1
  | .agg parts => uptoBulkAll parts + 1
  | .iface _ d => uptoBulk d + 1
  | .map entries => uptoBulkEntries entries + 1
  | .held _ => 1
def uptoBulkAll {H : Type} : List (DataW H) → Nat
  | [] => 0
  | d :: r => uptoBulk d + uptoBulkAll r
def uptoBulkEntries {H : Type} : List (Lit × DataW H) → Nat
  | [] => 0
  | x :: r => uptoBulkEntry x + uptoBulkEntries r
def uptoBulkEntry {H : Type} : Lit × DataW H → Nat
  | (.string bytes, d) => bytes.length + uptoBulk d + 1
  | (_, d) => uptoBulk d + 1
 end
def uptoSmall : (H : Type) → List (DataW H) → Bool := fun _ ds => decide (uptoBulkAll ds ≤ 1048576)
def OpenSpec.upto (s : _root_.Go.ChangeSpec) : _root_.Go.OpenSpec := { _root_.Go.OpenSpec.ofChange s with cond := some uptoSmall }

/-- 'elasticstorelaw11.UpdateEffect', WHERE WHAT IT READS IS OF BULK AT MOST 1048576: true; the input reads as it did. -/
def updateEffectUptoRow : OpenClaim := { program := "ytcalnapdpnnljaadoor", sum := "e6208ebef8977d3f65f9797d029e624e32fce026e5e248bde9d36b7837554484", func := "elasticstore/elasticstorelaw11.UpdateEffect", spec := "updateEffect", unfollowed := true, recurses := true, named := ["unicode/utf8.first", "unicode/utf8.acceptRanges"], apart := false, laid := [("unicode/utf8.acceptRanges", laid_unicode_utf8_acceptRanges), ("unicode/utf8.first", laid_unicode_utf8_first)], narrowed := true }
def UpdateEffectUptoSaid : Prop := updateEffectUptoRow.holds Tryd.pinned (OpenSpec.upto updateEffectSpec)

/-- 'elasticstorelaw11.UpdateValidate', WHERE WHAT IT READS IS OF BULK AT MOST 1048576: true; the input reads as it did. -/
def updateValidateUptoRow : OpenClaim := { program := "ytcalnapdpnnljaadoor", sum := "e6208ebef8977d3f65f9797d029e624e32fce026e5e248bde9d36b7837554484", func := "elasticstore/elasticstorelaw11.UpdateValidate", spec := "updateValidate", unfollowed := true, recurses := true, named := ["unicode/utf8.first", "unicode/utf8.acceptRanges"], apart := false, laid := [("unicode/utf8.acceptRanges", laid_unicode_utf8_acceptRanges), ("unicode/utf8.first", laid_unicode_utf8_first)], narrowed := true }
def UpdateValidateUptoSaid : Prop := updateValidateUptoRow.holds Tryd.pinned (OpenSpec.upto updateValidateSpec)

/-- 'elasticstorelaw11.UpdateCompare', WHERE WHAT IT READS IS OF BULK AT MOST 1048576: true; the input reads as it did. -/
def updateCompareUptoRow : OpenClaim := { program := "ytcalnapdpnnljaadoor", sum := "e6208ebef8977d3f65f9797d029e624e32fce026e5e248bde9d36b7837554484", func := "elasticstore/elasticstorelaw11.UpdateCompare", spec := "updateCompare", unfollowed := true, recurses := true, named := ["unicode/utf8.first", "unicode/utf8.acceptRanges"], apart := false, laid := [("unicode/utf8.acceptRanges", laid_unicode_utf8_acceptRanges), ("unicode/utf8.first", laid_unicode_utf8_first)], narrowed := true }
def UpdateCompareUptoSaid : Prop := updateCompareUptoRow.holds Tryd.pinned (OpenSpec.upto updateCompareSpec)

/-- 'elasticstorelaw11.UpdateEqual', WHERE WHAT IT READS IS OF BULK AT MOST 1048576: true; the input reads as it did. -/
def updateEqualUptoRow : OpenClaim := { program := "ytcalnapdpnnljaadoor", sum := "e6208ebef8977d3f65f9797d029e624e32fce026e5e248bde9d36b7837554484", func := "elasticstore/elasticstorelaw11.UpdateEqual", spec := "updateEqual", unfollowed := true, recurses := true, named := ["unicode/utf8.first", "unicode/utf8.acceptRanges"], apart := false, laid := [("unicode/utf8.acceptRanges", laid_unicode_utf8_acceptRanges), ("unicode/utf8.first", laid_unicode_utf8_first)], narrowed := true }
def UpdateEqualUptoSaid : Prop := updateEqualUptoRow.holds Tryd.pinned (OpenSpec.upto updateEqualSpec)

/-- 'elasticstorelaw11.UpdateRoundTrip', WHERE WHAT IT READS IS OF BULK AT MOST 1048576: true; the input reads as it did. -/
def updateRoundTripUptoRow : OpenClaim := { program := "ytcalnapdpnnljaadoor", sum := "e6208ebef8977d3f65f9797d029e624e32fce026e5e248bde9d36b7837554484", func := "elasticstore/elasticstorelaw11.UpdateRoundTrip", spec := "updateRoundTrip", unfollowed := true, recurses := true, named := ["unicode/utf8.first", "unicode/utf8.acceptRanges"], apart := false, laid := [("unicode/utf8.acceptRanges", laid_unicode_utf8_acceptRanges), ("unicode/utf8.first", laid_unicode_utf8_first)], narrowed := true }
def UpdateRoundTripUptoSaid : Prop := updateRoundTripUptoRow.holds Tryd.pinned (OpenSpec.upto updateRoundTripSpec)

/-- 'elasticstorelaw11.UpdateDecode', WHERE WHAT IT READS IS OF BULK AT MOST 1048576: true; the input reads as it did. -/
def updateDecodeUptoRow : OpenClaim := { program := "ytcalnapdpnnljaadoor", sum := "e6208ebef8977d3f65f9797d029e624e32fce026e5e248bde9d36b7837554484", func := "elasticstore/elasticstorelaw11.UpdateDecode", spec := "updateDecode", unfollowed := true, recurses := true, named := ["unicode/utf8.first", "unicode/utf8.acceptRanges"], apart := false, laid := [("unicode/utf8.acceptRanges", laid_unicode_utf8_acceptRanges), ("unicode/utf8.first", laid_unicode_utf8_first)], narrowed := true }
def UpdateDecodeUptoSaid : Prop := updateDecodeUptoRow.holds Tryd.pinned (OpenSpec.upto updateDecodeSpec)

/-- 'elasticstorelaw11.UpdatePieces', WHERE WHAT IT READS IS OF BULK AT MOST 1048576: true; the input reads as it did. -/
def updatePiecesUptoRow : OpenClaim := { program := "ytcalnapdpnnljaadoor", sum := "e6208ebef8977d3f65f9797d029e624e32fce026e5e248bde9d36b7837554484", func := "elasticstore/elasticstorelaw11.UpdatePieces", spec := "updatePieces", unfollowed := true, recurses := true, named := ["unicode/utf8.first", "unicode/utf8.acceptRanges"], apart := false, laid := [("unicode/utf8.acceptRanges", laid_unicode_utf8_acceptRanges), ("unicode/utf8.first", laid_unicode_utf8_first)], narrowed := true }
def UpdatePiecesUptoSaid : Prop := updatePiecesUptoRow.holds Tryd.pinned (OpenSpec.upto updatePiecesSpec)

end Rows
end Go.Proofs.YtcalnapdpnnljaaDoor
