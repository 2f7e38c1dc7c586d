/-
  No cell of these rows narrows 'for every input' (looked for: loops, veiled, ifaces, maps, wideKeys, modest, calm, conditions, laid).
  DERIVED. THE GIVEN ROWS OF THIS SEAT. 6 by the template 'for every input the law returns true; each argument reads behind the call as it read before'; 0 by the template 'total and deterministic' (their statements: YtkgkhofkhjgnbaaGreatTotals.lean).
  GIVEN WITH THE SEED: the statements are not yours to turn. If you find one false, say at which input.
  Laid BY PROGRAM, IN A SANDBOX (cutbox-rows.mjs): the forced cells as the released guide's own fill.sh prints them over the translation 62c34dac08d7f926… (all of the seat's roots in one cut). By AI agents, Wed Nov 11 2026. No macro, syntax, notation, axiom, sorry.
-/
import Derived.Test.YtkgkhofkhjgnbaaGreatChecked
import GoSem.Claim
import GoSem.ClaimJoined
import GoSem.ClaimMapViews
import Derived.JoinedTies
import Derived.KernelRfl
namespace Go.Proofs.YtkgkhofkhjgnbaaGreat
/- THE CELL 'sum', in the pinned program and in every row, IS THE sha256 OF THE DUMP (.gsa) THAT YtkgkhofkhjgnbaaGreatProg.lean LOADS. Nothing in Lean hashes anything: it is a label: what it is worth is what the hold of that sum in a sandbox is worth. -/
noncomputable def Tryz.pinned : Pinned := { name := "ytkgkhofkhjgnbaagreat", sum := "62c34dac08d7f92634f89fdb4ae3618e1ab22a88a4549cf3b349654017c2a10b", checked := Tryz.checked }
namespace Rows
def none {H : Type} : Left H := { results := [], args := [] }

/-- 'elasticstorelaw10.GraphBuild': WHATEVER THE INPUT: true; the input reads as it did. -/
def graphBuildSpec : ChangeSpec := { name := "graphBuild", fn := fun _ => fun
  | [d1, d2, d3] => { results := [.lit (.bool true)], args := [d1, d2, d3] }
  | _ => none }
def graphBuildRow : OpenClaim := { program := "ytkgkhofkhjgnbaagreat", sum := "62c34dac08d7f92634f89fdb4ae3618e1ab22a88a4549cf3b349654017c2a10b", func := "elasticstore/elasticstorelaw10.GraphBuild", spec := "graphBuild", unfollowed := true, recurses := true, apart := false }
def GraphBuildSaid : Prop := graphBuildRow.holds Tryz.pinned (OpenSpec.ofChange graphBuildSpec)

/-- ITS FALSE NEIGHBOUR: 'it returns false'. Refute it at one input. -/
def graphBuildWrong : ChangeSpec := { name := "graphBuild", fn := fun _ => fun
  | [d1, d2, d3] => { results := [.lit (.bool false)], args := [d1, d2, d3] }
  | _ => none }
def GraphBuildWrongFalsely : Prop := graphBuildRow.holds Tryz.pinned (OpenSpec.ofChange graphBuildWrong)

/-- 'elasticstorelaw10.GraphContract': WHATEVER THE INPUT: true; the input reads as it did. -/
def graphContractSpec : ChangeSpec := { name := "graphContract", fn := fun _ => fun
  | [d1, d2, d3, d4] => { results := [.lit (.bool true)], args := [d1, d2, d3, d4] }
  | _ => none }
def graphContractRow : OpenClaim := { program := "ytkgkhofkhjgnbaagreat", sum := "62c34dac08d7f92634f89fdb4ae3618e1ab22a88a4549cf3b349654017c2a10b", func := "elasticstore/elasticstorelaw10.GraphContract", spec := "graphContract", unfollowed := true, recurses := true, apart := false }
def GraphContractSaid : Prop := graphContractRow.holds Tryz.pinned (OpenSpec.ofChange graphContractSpec)

/-- ITS FALSE NEIGHBOUR: 'it returns false'. Refute it at one input. -/
def graphContractWrong : ChangeSpec := { name := "graphContract", fn := fun _ => fun
  | [d1, d2, d3, d4] => { results := [.lit (.bool false)], args := [d1, d2, d3, d4] }
  | _ => none }
def GraphContractWrongFalsely : Prop := graphContractRow.holds Tryz.pinned (OpenSpec.ofChange graphContractWrong)

/-- 'elasticstorelaw10.GraphPrune': WHATEVER THE INPUT: true; the input reads as it did. -/
def graphPruneSpec : ChangeSpec := { name := "graphPrune", fn := fun _ => fun
  | [d1, d2, d3, d4] => { results := [.lit (.bool true)], args := [d1, d2, d3, d4] }
  | _ => none }
def graphPruneRow : OpenClaim := { program := "ytkgkhofkhjgnbaagreat", sum := "62c34dac08d7f92634f89fdb4ae3618e1ab22a88a4549cf3b349654017c2a10b", func := "elasticstore/elasticstorelaw10.GraphPrune", spec := "graphPrune", unfollowed := true, recurses := true, apart := false }
def GraphPruneSaid : Prop := graphPruneRow.holds Tryz.pinned (OpenSpec.ofChange graphPruneSpec)

/-- ITS FALSE NEIGHBOUR: 'it returns false'. Refute it at one input. -/
def graphPruneWrong : ChangeSpec := { name := "graphPrune", fn := fun _ => fun
  | [d1, d2, d3, d4] => { results := [.lit (.bool false)], args := [d1, d2, d3, d4] }
  | _ => none }
def GraphPruneWrongFalsely : Prop := graphPruneRow.holds Tryz.pinned (OpenSpec.ofChange graphPruneWrong)

/-- 'elasticstorelaw10.GraphLevels': WHATEVER THE INPUT: true; the input reads as it did. -/
def graphLevelsSpec : ChangeSpec := { name := "graphLevels", fn := fun _ => fun
  | [d1, d2, d3, d4, d5] => { results := [.lit (.bool true)], args := [d1, d2, d3, d4, d5] }
  | _ => none }
def graphLevelsRow : OpenClaim := { program := "ytkgkhofkhjgnbaagreat", sum := "62c34dac08d7f92634f89fdb4ae3618e1ab22a88a4549cf3b349654017c2a10b", func := "elasticstore/elasticstorelaw10.GraphLevels", spec := "graphLevels", unfollowed := true, recurses := true, apart := false }
def GraphLevelsSaid : Prop := graphLevelsRow.holds Tryz.pinned (OpenSpec.ofChange graphLevelsSpec)

/-- ITS FALSE NEIGHBOUR: 'it returns false'. Refute it at one input. -/
def graphLevelsWrong : ChangeSpec := { name := "graphLevels", fn := fun _ => fun
  | [d1, d2, d3, d4, d5] => { results := [.lit (.bool false)], args := [d1, d2, d3, d4, d5] }
  | _ => none }
def GraphLevelsWrongFalsely : Prop := graphLevelsRow.holds Tryz.pinned (OpenSpec.ofChange graphLevelsWrong)

/-- 'elasticstorelaw10.GraphPaths': WHATEVER THE INPUT: true; the input reads as it did. -/
def graphPathsSpec : ChangeSpec := { name := "graphPaths", fn := fun _ => fun
  | [d1, d2, d3, d4, d5, d6] => { results := [.lit (.bool true)], args := [d1, d2, d3, d4, d5, d6] }
  | _ => none }
def graphPathsRow : OpenClaim := { program := "ytkgkhofkhjgnbaagreat", sum := "62c34dac08d7f92634f89fdb4ae3618e1ab22a88a4549cf3b349654017c2a10b", func := "elasticstore/elasticstorelaw10.GraphPaths", spec := "graphPaths", unfollowed := true, recurses := true, apart := false }
def GraphPathsSaid : Prop := graphPathsRow.holds Tryz.pinned (OpenSpec.ofChange graphPathsSpec)

/-- ITS FALSE NEIGHBOUR: 'it returns false'. Refute it at one input. -/
def graphPathsWrong : ChangeSpec := { name := "graphPaths", fn := fun _ => fun
  | [d1, d2, d3, d4, d5, d6] => { results := [.lit (.bool false)], args := [d1, d2, d3, d4, d5, d6] }
  | _ => none }
def GraphPathsWrongFalsely : Prop := graphPathsRow.holds Tryz.pinned (OpenSpec.ofChange graphPathsWrong)

/-- 'elasticstorelaw10.GraphOrders': WHATEVER THE INPUT: true; the input reads as it did. -/
def graphOrdersSpec : ChangeSpec := { name := "graphOrders", fn := fun _ => fun
  | [d1, d2, d3] => { results := [.lit (.bool true)], args := [d1, d2, d3] }
  | _ => none }
def graphOrdersRow : OpenClaim := { program := "ytkgkhofkhjgnbaagreat", sum := "62c34dac08d7f92634f89fdb4ae3618e1ab22a88a4549cf3b349654017c2a10b", func := "elasticstore/elasticstorelaw10.GraphOrders", spec := "graphOrders", unfollowed := true, recurses := true, apart := false }
def GraphOrdersSaid : Prop := graphOrdersRow.holds Tryz.pinned (OpenSpec.ofChange graphOrdersSpec)

/-- ITS FALSE NEIGHBOUR: 'it returns false'. Refute it at one input. -/
def graphOrdersWrong : ChangeSpec := { name := "graphOrders", fn := fun _ => fun
  | [d1, d2, d3] => { results := [.lit (.bool false)], args := [d1, d2, d3] }
  | _ => none }
def GraphOrdersWrongFalsely : Prop := graphOrdersRow.holds Tryz.pinned (OpenSpec.ofChange graphOrdersWrong)

/- THE SECOND FORM. 'bulk': how many values and letters a reading holds, each counted each time it is reached (what is shared counts as often as it is met; a slice's spare places count too). A statement '..UptoSaid' is the law's where the arguments, and the package variables that the reading takes, are together of bulk at most 1048576: NARROWER than '..Said'. Prove '..Said' where nothing that the law and all that it calls make is longer than what came in: it says more and counts as full. Else prove '..UptoSaid'. A law counts once. -/
mutual
def uptoBulk {H : Type} : DataW H → Nat
  | .lit (.string bytes) => bytes.length + 1
  | .lit _ => 1
  | .nil => 1
  | .ptr d => uptoBulk d + 1
  | .slice elems spare => uptoBulkAll elems + uptoBulkAll spare + 1
  | .agg parts => uptoBulkAll parts + 1
  | .iface _ d => uptoBulk d + 1
  | .map entries => uptoBulkEntries entries + 1
  | .held _ => 1
def uptoBulkAll {H : Type} : List (DataW H) → Nat
  | [] => 0
  | d :: r => uptoBulk d + uptoBulkAll r
def uptoBulkEntries {H : Type} : List (Lit × DataW H) → Nat
  | [] => 0
  | x :: r => uptoBulkEntry x + uptoBulkEntries r
def uptoBulkEntry {H : Type} : Lit × DataW H → Nat
  | (.string bytes, d) => bytes.length + uptoBulk d + 1
  | (_, d) => uptoBulk d + 1
 end
def uptoSmall : (H : Type) → List (DataW H) → Bool := fun _ ds => decide (uptoBulkAll ds ≤ 1048576)
def OpenSpec.upto (s : _root_.Go.ChangeSpec) : _root_.Go.OpenSpec := { _root_.Go.OpenSpec.ofChange s with cond := some uptoSmall }

/-- 'elasticstorelaw10.GraphBuild', WHERE WHAT IT READS IS OF BULK AT MOST 1048576: true; the input reads as it did. -/
def graphBuildUptoRow : OpenClaim := { program := "ytkgkhofkhjgnbaagreat", sum := "62c34dac08d7f92634f89fdb4ae3618e1ab22a88a4549cf3b349654017c2a10b", func := "elasticstore/elasticstorelaw10.GraphBuild", spec := "graphBuild", unfollowed := true, recurses := true, apart := false, narrowed := true }
def GraphBuildUptoSaid : Prop := graphBuildUptoRow.holds Tryz.pinned (OpenSpec.upto graphBuildSpec)

/-- 'elasticstorelaw10.GraphContract', WHERE WHAT IT READS IS OF BULK AT MOST 1048576: true; the input reads as it did. -/
def graphContractUptoRow : OpenClaim := { program := "ytkgkhofkhjgnbaagreat", sum := "62c34dac08d7f92634f89fdb4ae3618e1ab22a88a4549cf3b349654017c2a10b", func := "elasticstore/elasticstorelaw10.GraphContract", spec := "graphContract", unfollowed := true, recurses := true, apart := false, narrowed := true }
def GraphContractUptoSaid : Prop := graphContractUptoRow.holds Tryz.pinned (OpenSpec.upto graphContractSpec)

/-- 'elasticstorelaw10.GraphPrune', WHERE WHAT IT READS IS OF BULK AT MOST 1048576: true; the input reads as it did. -/
def graphPruneUptoRow : OpenClaim := { program := "ytkgkhofkhjgnbaagreat", sum := "62c34dac08d7f92634f89fdb4ae3618e1ab22a88a4549cf3b349654017c2a10b", func := "elasticstore/elasticstorelaw10.GraphPrune", spec := "graphPrune", unfollowed := true, recurses := true, apart := false, narrowed := true }
def GraphPruneUptoSaid : Prop := graphPruneUptoRow.holds Tryz.pinned (OpenSpec.upto graphPruneSpec)

/-- 'elasticstorelaw10.GraphLevels', WHERE WHAT IT READS IS OF BULK AT MOST 1048576: true; the input reads as it did. -/
def graphLevelsUptoRow : OpenClaim := { program := "ytkgkhofkhjgnbaagreat", sum := "62c34dac08d7f92634f89fdb4ae3618e1ab22a88a4549cf3b349654017c2a10b", func := "elasticstore/elasticstorelaw10.GraphLevels", spec := "graphLevels", unfollowed := true, recurses := true, apart := false, narrowed := true }
def GraphLevelsUptoSaid : Prop := graphLevelsUptoRow.holds Tryz.pinned (OpenSpec.upto graphLevelsSpec)

/-- 'elasticstorelaw10.GraphPaths', WHERE WHAT IT READS IS OF BULK AT MOST 1048576: true; the input reads as it did. -/
def graphPathsUptoRow : OpenClaim := { program := "ytkgkhofkhjgnbaagreat", sum := "62c34dac08d7f92634f89fdb4ae3618e1ab22a88a4549cf3b349654017c2a10b", func := "elasticstore/elasticstorelaw10.GraphPaths", spec := "graphPaths", unfollowed := true, recurses := true, apart := false, narrowed := true }
def GraphPathsUptoSaid : Prop := graphPathsUptoRow.holds Tryz.pinned (OpenSpec.upto graphPathsSpec)

/-- 'elasticstorelaw10.GraphOrders', WHERE WHAT IT READS IS OF BULK AT MOST 1048576: true; the input reads as it did. -/
def graphOrdersUptoRow : OpenClaim := { program := "ytkgkhofkhjgnbaagreat", sum := "62c34dac08d7f92634f89fdb4ae3618e1ab22a88a4549cf3b349654017c2a10b", func := "elasticstore/elasticstorelaw10.GraphOrders", spec := "graphOrders", unfollowed := true, recurses := true, apart := false, narrowed := true }
def GraphOrdersUptoSaid : Prop := graphOrdersUptoRow.holds Tryz.pinned (OpenSpec.upto graphOrdersSpec)

end Rows
end Go.Proofs.YtkgkhofkhjgnbaaGreat
