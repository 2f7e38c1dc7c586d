/-
  No cell of these rows narrows 'for every input' (looked for: loops, veiled, ifaces, maps, wideKeys, modest, calm, conditions, laid).
  DERIVED. THE GIVEN ROWS OF THIS SEAT. 3 by the template 'for every input the law returns true; each argument reads behind the call as it read before'; 0 by the template 'total and deterministic' (their statements: YtejedodicihecaaTotals.lean).
  GIVEN WITH THE SEED: the statements are not yours to turn. If you find one false, say at which input.
  Laid BY PROGRAM, IN A SANDBOX (cutbox-rows.mjs): the forced cells as the released guide's own fill.sh prints them over the translation f642c4b2b7fcc07d… (all of the seat's roots in one cut). By AI agents, Wed Nov 11 2026. No macro, syntax, notation, axiom, sorry.
-/
import Derived.Test.YtejedodicihecaaChecked
import GoSem.Claim
import GoSem.ClaimJoined
import GoSem.ClaimMapViews
import Derived.JoinedTies
import Derived.KernelRfl
namespace Go.Proofs.Ytejedodicihecaa
/- THE CELL 'sum', in the pinned program and in every row, IS THE sha256 OF THE DUMP (.gsa) THAT YtejedodicihecaaProg.lean LOADS. Nothing in Lean hashes anything: it is a label: what it is worth is what the hold of that sum in a sandbox is worth. -/
noncomputable def Try.pinned : Pinned := { name := "ytejedodicihecaa", sum := "f642c4b2b7fcc07d5b97d9ba25f98a29b479fcc2700c3c3aa11ca323e27b1072", checked := Try.checked }
namespace Rows
def none {H : Type} : Left H := { results := [], args := [] }

/-- 'elasticstorelaw16.ProposerPlays': WHATEVER THE INPUT: true; the input reads as it did. -/
def proposerPlaysSpec : ChangeSpec := { name := "proposerPlays", fn := fun _ => fun
  | [d1, d2, d3] => { results := [.lit (.bool true)], args := [d1, d2, d3] }
  | _ => none }
def proposerPlaysRow : OpenClaim := { program := "ytejedodicihecaa", sum := "f642c4b2b7fcc07d5b97d9ba25f98a29b479fcc2700c3c3aa11ca323e27b1072", func := "elasticstore/elasticstorelaw16.ProposerPlays", spec := "proposerPlays", unfollowed := true, recurses := true, apart := false }
def ProposerPlaysSaid : Prop := proposerPlaysRow.holds Try.pinned (OpenSpec.ofChange proposerPlaysSpec)

/-- ITS FALSE NEIGHBOUR: 'it returns false'. Refute it at one input. -/
def proposerPlaysWrong : ChangeSpec := { name := "proposerPlays", fn := fun _ => fun
  | [d1, d2, d3] => { results := [.lit (.bool false)], args := [d1, d2, d3] }
  | _ => none }
def ProposerPlaysWrongFalsely : Prop := proposerPlaysRow.holds Try.pinned (OpenSpec.ofChange proposerPlaysWrong)

/-- 'elasticstorelaw16.ProposerDecides': WHATEVER THE INPUT: true; the input reads as it did. -/
def proposerDecidesSpec : ChangeSpec := { name := "proposerDecides", fn := fun _ => fun
  | [d1, d2, d3] => { results := [.lit (.bool true)], args := [d1, d2, d3] }
  | _ => none }
def proposerDecidesRow : OpenClaim := { program := "ytejedodicihecaa", sum := "f642c4b2b7fcc07d5b97d9ba25f98a29b479fcc2700c3c3aa11ca323e27b1072", func := "elasticstore/elasticstorelaw16.ProposerDecides", spec := "proposerDecides", unfollowed := true, recurses := true, apart := false }
def ProposerDecidesSaid : Prop := proposerDecidesRow.holds Try.pinned (OpenSpec.ofChange proposerDecidesSpec)

/-- ITS FALSE NEIGHBOUR: 'it returns false'. Refute it at one input. -/
def proposerDecidesWrong : ChangeSpec := { name := "proposerDecides", fn := fun _ => fun
  | [d1, d2, d3] => { results := [.lit (.bool false)], args := [d1, d2, d3] }
  | _ => none }
def ProposerDecidesWrongFalsely : Prop := proposerDecidesRow.holds Try.pinned (OpenSpec.ofChange proposerDecidesWrong)

/-- 'elasticstorelaw16.ProposerRounds': WHATEVER THE INPUT: true; the input reads as it did. -/
def proposerRoundsSpec : ChangeSpec := { name := "proposerRounds", fn := fun _ => fun
  | [d1, d2, d3] => { results := [.lit (.bool true)], args := [d1, d2, d3] }
  | _ => none }
def proposerRoundsRow : OpenClaim := { program := "ytejedodicihecaa", sum := "f642c4b2b7fcc07d5b97d9ba25f98a29b479fcc2700c3c3aa11ca323e27b1072", func := "elasticstore/elasticstorelaw16.ProposerRounds", spec := "proposerRounds", unfollowed := true, recurses := true, apart := false }
def ProposerRoundsSaid : Prop := proposerRoundsRow.holds Try.pinned (OpenSpec.ofChange proposerRoundsSpec)

/-- ITS FALSE NEIGHBOUR: 'it returns false'. Refute it at one input. -/
def proposerRoundsWrong : ChangeSpec := { name := "proposerRounds", fn := fun _ => fun
  | [d1, d2, d3] => { results := [.lit (.bool false)], args := [d1, d2, d3] }
  | _ => none }
def ProposerRoundsWrongFalsely : Prop := proposerRoundsRow.holds Try.pinned (OpenSpec.ofChange proposerRoundsWrong)

/- THE SECOND FORM. 'bulk': how many values and letters a reading holds, each counted each time it is reached (what is shared counts as often as it is met; a slice's spare places count too). A statement '..UptoSaid' is the law's where the arguments, and the package variables that the reading takes, are together of bulk at most 1048576: NARROWER than '..Said'. Prove '..Said' where nothing that the law and all that it calls make is longer than what came in: it says more and counts as full. Else prove '..UptoSaid'. A law counts once. -/
mutual
def uptoBulk {H : Type} : DataW H → Nat
  | .lit (.string bytes) => bytes.length + 1
  | .lit _ => 1
  | .nil => 1
  | .ptr d => uptoBulk d + 1
  | .slice elems spare => uptoBulkAll elems + uptoBulkAll spare + 1
  | .agg parts => uptoBulkAll parts + 1
  | .iface _ d => uptoBulk d + 1
  | .map entries => uptoBulkEntries entries + 1
  | .held _ => 1
def uptoBulkAll {H : Type} : List (DataW H) → Nat
  | [] => 0
  | d :: r => uptoBulk d + uptoBulkAll r
def uptoBulkEntries {H : Type} : List (Lit × DataW H) → Nat
  | [] => 0
  | x :: r => uptoBulkEntry x + uptoBulkEntries r
def uptoBulkEntry {H : Type} : Lit × DataW H → Nat
  | (.string bytes, d) => bytes.length + uptoBulk d + 1
  | (_, d) => uptoBulk d + 1
 end
def uptoSmall : (H : Type) → List (DataW H) → Bool := fun _ ds => decide (uptoBulkAll ds ≤ 1048576)
def OpenSpec.upto (s : _root_.Go.ChangeSpec) : _root_.Go.OpenSpec := { _root_.Go.OpenSpec.ofChange s with cond := some uptoSmall }

/-- 'elasticstorelaw16.ProposerPlays', WHERE WHAT IT READS IS OF BULK AT MOST 1048576: true; the input reads as it did. -/
def proposerPlaysUptoRow : OpenClaim := { program := "ytejedodicihecaa", sum := "f642c4b2b7fcc07d5b97d9ba25f98a29b479fcc2700c3c3aa11ca323e27b1072", func := "elasticstore/elasticstorelaw16.ProposerPlays", spec := "proposerPlays", unfollowed := true, recurses := true, apart := false, narrowed := true }
def ProposerPlaysUptoSaid : Prop := proposerPlaysUptoRow.holds Try.pinned (OpenSpec.upto proposerPlaysSpec)

/-- 'elasticstorelaw16.ProposerDecides', WHERE WHAT IT READS IS OF BULK AT MOST 1048576: true; the input reads as it did. -/
def proposerDecidesUptoRow : OpenClaim := { program := "ytejedodicihecaa", sum := "f642c4b2b7fcc07d5b97d9ba25f98a29b479fcc2700c3c3aa11ca323e27b1072", func := "elasticstore/elasticstorelaw16.ProposerDecides", spec := "proposerDecides", unfollowed := true, recurses := true, apart := false, narrowed := true }
def ProposerDecidesUptoSaid : Prop := proposerDecidesUptoRow.holds Try.pinned (OpenSpec.upto proposerDecidesSpec)

/-- 'elasticstorelaw16.ProposerRounds', WHERE WHAT IT READS IS OF BULK AT MOST 1048576: true; the input reads as it did. -/
def proposerRoundsUptoRow : OpenClaim := { program := "ytejedodicihecaa", sum := "f642c4b2b7fcc07d5b97d9ba25f98a29b479fcc2700c3c3aa11ca323e27b1072", func := "elasticstore/elasticstorelaw16.ProposerRounds", spec := "proposerRounds", unfollowed := true, recurses := true, apart := false, narrowed := true }
def ProposerRoundsUptoSaid : Prop := proposerRoundsUptoRow.holds Try.pinned (OpenSpec.upto proposerRoundsSpec)

end Rows
end Go.Proofs.Ytejedodicihecaa
