/-
  No cell of these rows narrows 'for every input' (looked for: loops, veiled, ifaces, maps, wideKeys, modest, calm, conditions, laid).
  DERIVED. THE GIVEN ROWS OF THIS SEAT. 6 by the template 'for every input the law returns true; each argument reads behind the call as it read before'; 0 by the template 'total and deterministic' (their statements: YthfpafnljnnndaaGreatTotals.lean).
  GIVEN WITH THE SEED: the statements are not yours to turn. If you find one false, say at which input.
  Laid BY PROGRAM, IN A SANDBOX (cutbox-rows.mjs): the forced cells as the released guide's own fill.sh prints them over the translation cf6fdb14f258dff1… (all of the seat's roots in one cut). By AI agents, Wed Nov 11 2026. No macro, syntax, notation, axiom, sorry.
-/
import Derived.Test.YthfpafnljnnndaaGreatChecked
import GoSem.Claim
import GoSem.ClaimJoined
import GoSem.ClaimMapViews
import Derived.JoinedTies
import Derived.KernelRfl
namespace Go.Proofs.YthfpafnljnnndaaGreat
/- THE CELL 'sum', in the pinned program and in every row, IS THE sha256 OF THE DUMP (.gsa) THAT YthfpafnljnnndaaGreatProg.lean LOADS. Nothing in Lean hashes anything: it is a label: what it is worth is what the hold of that sum in a sandbox is worth. -/
noncomputable def Tryz.pinned : Pinned := { name := "ythfpafnljnnndaagreat", sum := "cf6fdb14f258dff110aedf333209e2cee459d99451e2ff93da44b4d86af27667", checked := Tryz.checked }
namespace Rows
def none {H : Type} : Left H := { results := [], args := [] }

/-- 'elasticstorelaw09.IntervalAll': WHATEVER THE INPUT: true; the input reads as it did. -/
def intervalAllSpec : ChangeSpec := { name := "intervalAll", fn := fun _ => fun
  | [d1, d2, d3] => { results := [.lit (.bool true)], args := [d1, d2, d3] }
  | _ => none }
def intervalAllRow : OpenClaim := { program := "ythfpafnljnnndaagreat", sum := "cf6fdb14f258dff110aedf333209e2cee459d99451e2ff93da44b4d86af27667", func := "elasticstore/elasticstorelaw09.IntervalAll", spec := "intervalAll", unfollowed := true, recurses := true, apart := false }
def IntervalAllSaid : Prop := intervalAllRow.holds Tryz.pinned (OpenSpec.ofChange intervalAllSpec)

/-- ITS FALSE NEIGHBOUR: 'it returns false'. Refute it at one input. -/
def intervalAllWrong : ChangeSpec := { name := "intervalAll", fn := fun _ => fun
  | [d1, d2, d3] => { results := [.lit (.bool false)], args := [d1, d2, d3] }
  | _ => none }
def IntervalAllWrongFalsely : Prop := intervalAllRow.holds Tryz.pinned (OpenSpec.ofChange intervalAllWrong)

/-- 'elasticstorelaw09.IntervalViews': WHATEVER THE INPUT: true; the input reads as it did. -/
def intervalViewsSpec : ChangeSpec := { name := "intervalViews", fn := fun _ => fun
  | [d1, d2, d3] => { results := [.lit (.bool true)], args := [d1, d2, d3] }
  | _ => none }
def intervalViewsRow : OpenClaim := { program := "ythfpafnljnnndaagreat", sum := "cf6fdb14f258dff110aedf333209e2cee459d99451e2ff93da44b4d86af27667", func := "elasticstore/elasticstorelaw09.IntervalViews", spec := "intervalViews", unfollowed := true, recurses := true, apart := false }
def IntervalViewsSaid : Prop := intervalViewsRow.holds Tryz.pinned (OpenSpec.ofChange intervalViewsSpec)

/-- ITS FALSE NEIGHBOUR: 'it returns false'. Refute it at one input. -/
def intervalViewsWrong : ChangeSpec := { name := "intervalViews", fn := fun _ => fun
  | [d1, d2, d3] => { results := [.lit (.bool false)], args := [d1, d2, d3] }
  | _ => none }
def IntervalViewsWrongFalsely : Prop := intervalViewsRow.holds Tryz.pinned (OpenSpec.ofChange intervalViewsWrong)

/-- 'elasticstorelaw09.IntervalMembers': WHATEVER THE INPUT: true; the input reads as it did. -/
def intervalMembersSpec : ChangeSpec := { name := "intervalMembers", fn := fun _ => fun
  | [d1, d2, d3, d4] => { results := [.lit (.bool true)], args := [d1, d2, d3, d4] }
  | _ => none }
def intervalMembersRow : OpenClaim := { program := "ythfpafnljnnndaagreat", sum := "cf6fdb14f258dff110aedf333209e2cee459d99451e2ff93da44b4d86af27667", func := "elasticstore/elasticstorelaw09.IntervalMembers", spec := "intervalMembers", unfollowed := true, recurses := true, apart := false }
def IntervalMembersSaid : Prop := intervalMembersRow.holds Tryz.pinned (OpenSpec.ofChange intervalMembersSpec)

/-- ITS FALSE NEIGHBOUR: 'it returns false'. Refute it at one input. -/
def intervalMembersWrong : ChangeSpec := { name := "intervalMembers", fn := fun _ => fun
  | [d1, d2, d3, d4] => { results := [.lit (.bool false)], args := [d1, d2, d3, d4] }
  | _ => none }
def IntervalMembersWrongFalsely : Prop := intervalMembersRow.holds Tryz.pinned (OpenSpec.ofChange intervalMembersWrong)

/-- 'elasticstorelaw09.IntervalCount': WHATEVER THE INPUT: true; the input reads as it did. -/
def intervalCountSpec : ChangeSpec := { name := "intervalCount", fn := fun _ => fun
  | [d1, d2, d3] => { results := [.lit (.bool true)], args := [d1, d2, d3] }
  | _ => none }
def intervalCountRow : OpenClaim := { program := "ythfpafnljnnndaagreat", sum := "cf6fdb14f258dff110aedf333209e2cee459d99451e2ff93da44b4d86af27667", func := "elasticstore/elasticstorelaw09.IntervalCount", spec := "intervalCount", unfollowed := true, recurses := true, apart := false }
def IntervalCountSaid : Prop := intervalCountRow.holds Tryz.pinned (OpenSpec.ofChange intervalCountSpec)

/-- ITS FALSE NEIGHBOUR: 'it returns false'. Refute it at one input. -/
def intervalCountWrong : ChangeSpec := { name := "intervalCount", fn := fun _ => fun
  | [d1, d2, d3] => { results := [.lit (.bool false)], args := [d1, d2, d3] }
  | _ => none }
def IntervalCountWrongFalsely : Prop := intervalCountRow.holds Tryz.pinned (OpenSpec.ofChange intervalCountWrong)

/-- 'elasticstorelaw09.IntervalClosed': WHATEVER THE INPUT: true; the input reads as it did. -/
def intervalClosedSpec : ChangeSpec := { name := "intervalClosed", fn := fun _ => fun
  | [d1, d2, d3, d4, d5] => { results := [.lit (.bool true)], args := [d1, d2, d3, d4, d5] }
  | _ => none }
def intervalClosedRow : OpenClaim := { program := "ythfpafnljnnndaagreat", sum := "cf6fdb14f258dff110aedf333209e2cee459d99451e2ff93da44b4d86af27667", func := "elasticstore/elasticstorelaw09.IntervalClosed", spec := "intervalClosed", unfollowed := true, recurses := true, apart := false }
def IntervalClosedSaid : Prop := intervalClosedRow.holds Tryz.pinned (OpenSpec.ofChange intervalClosedSpec)

/-- ITS FALSE NEIGHBOUR: 'it returns false'. Refute it at one input. -/
def intervalClosedWrong : ChangeSpec := { name := "intervalClosed", fn := fun _ => fun
  | [d1, d2, d3, d4, d5] => { results := [.lit (.bool false)], args := [d1, d2, d3, d4, d5] }
  | _ => none }
def IntervalClosedWrongFalsely : Prop := intervalClosedRow.holds Tryz.pinned (OpenSpec.ofChange intervalClosedWrong)

/-- 'elasticstorelaw09.IntervalSpan': WHATEVER THE INPUT: true; the input reads as it did. -/
def intervalSpanSpec : ChangeSpec := { name := "intervalSpan", fn := fun _ => fun
  | [d1, d2, d3, d4, d5] => { results := [.lit (.bool true)], args := [d1, d2, d3, d4, d5] }
  | _ => none }
def intervalSpanRow : OpenClaim := { program := "ythfpafnljnnndaagreat", sum := "cf6fdb14f258dff110aedf333209e2cee459d99451e2ff93da44b4d86af27667", func := "elasticstore/elasticstorelaw09.IntervalSpan", spec := "intervalSpan", unfollowed := true, recurses := true, apart := false }
def IntervalSpanSaid : Prop := intervalSpanRow.holds Tryz.pinned (OpenSpec.ofChange intervalSpanSpec)

/-- ITS FALSE NEIGHBOUR: 'it returns false'. Refute it at one input. -/
def intervalSpanWrong : ChangeSpec := { name := "intervalSpan", fn := fun _ => fun
  | [d1, d2, d3, d4, d5] => { results := [.lit (.bool false)], args := [d1, d2, d3, d4, d5] }
  | _ => none }
def IntervalSpanWrongFalsely : Prop := intervalSpanRow.holds Tryz.pinned (OpenSpec.ofChange intervalSpanWrong)

/- THE SECOND FORM. 'bulk': how many values and letters a reading holds, each counted each time it is reached (what is shared counts as often as it is met; a slice's spare places count too). A statement '..UptoSaid' is the law's where the arguments, and the package variables that the reading takes, are together of bulk at most 1048576: NARROWER than '..Said'. Prove '..Said' where nothing that the law and all that it calls make is longer than what came in: it says more and counts as full. Else prove '..UptoSaid'. A law counts once. -/
mutual
def uptoBulk {H : Type} : DataW H → Nat
  | .lit (.string bytes) => bytes.length + 1
  | .lit _ => 1
  | .nil => 1
  | .ptr d => uptoBulk d + 1
  | .slice elems spare => uptoBulkAll elems + uptoBulkAll spare + 1
  | .agg parts => uptoBulkAll parts + 1
  | .iface _ d => uptoBulk d + 1
  | .map entries => uptoBulkEntries entries + 1
  | .held _ => 1
def uptoBulkAll {H : Type} : List (DataW H) → Nat
  | [] => 0
  | d :: r => uptoBulk d + uptoBulkAll r
def uptoBulkEntries {H : Type} : List (Lit × DataW H) → Nat
  | [] => 0
  | x :: r => uptoBulkEntry x + uptoBulkEntries r
def uptoBulkEntry {H : Type} : Lit × DataW H → Nat
  | (.string bytes, d) => bytes.length + uptoBulk d + 1
  | (_, d) => uptoBulk d + 1
 end
def uptoSmall : (H : Type) → List (DataW H) → Bool := fun _ ds => decide (uptoBulkAll ds ≤ 1048576)
def OpenSpec.upto (s : _root_.Go.ChangeSpec) : _root_.Go.OpenSpec := { _root_.Go.OpenSpec.ofChange s with cond := some uptoSmall }

/-- 'elasticstorelaw09.IntervalAll', WHERE WHAT IT READS IS OF BULK AT MOST 1048576: true; the input reads as it did. -/
def intervalAllUptoRow : OpenClaim := { program := "ythfpafnljnnndaagreat", sum := "cf6fdb14f258dff110aedf333209e2cee459d99451e2ff93da44b4d86af27667", func := "elasticstore/elasticstorelaw09.IntervalAll", spec := "intervalAll", unfollowed := true, recurses := true, apart := false, narrowed := true }
def IntervalAllUptoSaid : Prop := intervalAllUptoRow.holds Tryz.pinned (OpenSpec.upto intervalAllSpec)

/-- 'elasticstorelaw09.IntervalViews', WHERE WHAT IT READS IS OF BULK AT MOST 1048576: true; the input reads as it did. -/
def intervalViewsUptoRow : OpenClaim := { program := "ythfpafnljnnndaagreat", sum := "cf6fdb14f258dff110aedf333209e2cee459d99451e2ff93da44b4d86af27667", func := "elasticstore/elasticstorelaw09.IntervalViews", spec := "intervalViews", unfollowed := true, recurses := true, apart := false, narrowed := true }
def IntervalViewsUptoSaid : Prop := intervalViewsUptoRow.holds Tryz.pinned (OpenSpec.upto intervalViewsSpec)

/-- 'elasticstorelaw09.IntervalMembers', WHERE WHAT IT READS IS OF BULK AT MOST 1048576: true; the input reads as it did. -/
def intervalMembersUptoRow : OpenClaim := { program := "ythfpafnljnnndaagreat", sum := "cf6fdb14f258dff110aedf333209e2cee459d99451e2ff93da44b4d86af27667", func := "elasticstore/elasticstorelaw09.IntervalMembers", spec := "intervalMembers", unfollowed := true, recurses := true, apart := false, narrowed := true }
def IntervalMembersUptoSaid : Prop := intervalMembersUptoRow.holds Tryz.pinned (OpenSpec.upto intervalMembersSpec)

/-- 'elasticstorelaw09.IntervalCount', WHERE WHAT IT READS IS OF BULK AT MOST 1048576: true; the input reads as it did. -/
def intervalCountUptoRow : OpenClaim := { program := "ythfpafnljnnndaagreat", sum := "cf6fdb14f258dff110aedf333209e2cee459d99451e2ff93da44b4d86af27667", func := "elasticstore/elasticstorelaw09.IntervalCount", spec := "intervalCount", unfollowed := true, recurses := true, apart := false, narrowed := true }
def IntervalCountUptoSaid : Prop := intervalCountUptoRow.holds Tryz.pinned (OpenSpec.upto intervalCountSpec)

/-- 'elasticstorelaw09.IntervalClosed', WHERE WHAT IT READS IS OF BULK AT MOST 1048576: true; the input reads as it did. -/
def intervalClosedUptoRow : OpenClaim := { program := "ythfpafnljnnndaagreat", sum := "cf6fdb14f258dff110aedf333209e2cee459d99451e2ff93da44b4d86af27667", func := "elasticstore/elasticstorelaw09.IntervalClosed", spec := "intervalClosed", unfollowed := true, recurses := true, apart := false, narrowed := true }
def IntervalClosedUptoSaid : Prop := intervalClosedUptoRow.holds Tryz.pinned (OpenSpec.upto intervalClosedSpec)

/-- 'elasticstorelaw09.IntervalSpan', WHERE WHAT IT READS IS OF BULK AT MOST 1048576: true; the input reads as it did. -/
def intervalSpanUptoRow : OpenClaim := { program := "ythfpafnljnnndaagreat", sum := "cf6fdb14f258dff110aedf333209e2cee459d99451e2ff93da44b4d86af27667", func := "elasticstore/elasticstorelaw09.IntervalSpan", spec := "intervalSpan", unfollowed := true, recurses := true, apart := false, narrowed := true }
def IntervalSpanUptoSaid : Prop := intervalSpanUptoRow.holds Tryz.pinned (OpenSpec.upto intervalSpanSpec)

end Rows
end Go.Proofs.YthfpafnljnnndaaGreat
