/-
  No cell of these rows narrows 'for every input' (looked for: loops, veiled, ifaces, maps, wideKeys, modest, calm, conditions, laid).
  DERIVED. THE GIVEN ROWS OF THIS SEAT. 4 by the template 'for every input the law returns true; each argument reads behind the call as it read before'; 0 by the template 'total and deterministic' (their statements: YtnkeaphfheminaaTotals.lean).
  GIVEN WITH THE SEED: the statements are not yours to turn. If you find one false, say at which input.
  Laid BY PROGRAM, IN A SANDBOX (cutbox-rows.mjs): the forced cells as the released guide's own fill.sh prints them over the translation 40e988dc67cf58d4… (all of the seat's roots in one cut). By AI agents, Wed Nov 11 2026. No macro, syntax, notation, axiom, sorry.
-/
import Derived.Test.YtnkeaphfheminaaChecked
import GoSem.Claim
import GoSem.ClaimJoined
import GoSem.ClaimMapViews
import Derived.JoinedTies
import Derived.KernelRfl
namespace Go.Proofs.Ytnkeaphfheminaa
/- THE CELL 'sum', in the pinned program and in every row, IS THE sha256 OF THE DUMP (.gsa) THAT YtnkeaphfheminaaProg.lean LOADS. Nothing in Lean hashes anything: it is a label: what it is worth is what the hold of that sum in a sandbox is worth. -/
noncomputable def Try.pinned : Pinned := { name := "ytnkeaphfheminaa", sum := "40e988dc67cf58d4a2793815edb6c7273cb915fc3aa334df026c84ad74c2ef48", checked := Try.checked }
namespace Rows
def none {H : Type} : Left H := { results := [], args := [] }

/-- 'elasticstorelaw15.AcceptorAccept': WHATEVER THE INPUT: true; the input reads as it did. -/
def acceptorAcceptSpec : ChangeSpec := { name := "acceptorAccept", fn := fun _ => fun
  | [d1, d2] => { results := [.lit (.bool true)], args := [d1, d2] }
  | _ => none }
def acceptorAcceptRow : OpenClaim := { program := "ytnkeaphfheminaa", sum := "40e988dc67cf58d4a2793815edb6c7273cb915fc3aa334df026c84ad74c2ef48", func := "elasticstore/elasticstorelaw15.AcceptorAccept", spec := "acceptorAccept", unfollowed := true, recurses := true, apart := false }
def AcceptorAcceptSaid : Prop := acceptorAcceptRow.holds Try.pinned (OpenSpec.ofChange acceptorAcceptSpec)

/-- ITS FALSE NEIGHBOUR: 'it returns false'. Refute it at one input. -/
def acceptorAcceptWrong : ChangeSpec := { name := "acceptorAccept", fn := fun _ => fun
  | [d1, d2] => { results := [.lit (.bool false)], args := [d1, d2] }
  | _ => none }
def AcceptorAcceptWrongFalsely : Prop := acceptorAcceptRow.holds Try.pinned (OpenSpec.ofChange acceptorAcceptWrong)

/-- 'elasticstorelaw15.AcceptorAll': WHATEVER THE INPUT: true; the input reads as it did. -/
def acceptorAllSpec : ChangeSpec := { name := "acceptorAll", fn := fun _ => fun
  | [d1, d2] => { results := [.lit (.bool true)], args := [d1, d2] }
  | _ => none }
def acceptorAllRow : OpenClaim := { program := "ytnkeaphfheminaa", sum := "40e988dc67cf58d4a2793815edb6c7273cb915fc3aa334df026c84ad74c2ef48", func := "elasticstore/elasticstorelaw15.AcceptorAll", spec := "acceptorAll", unfollowed := true, recurses := true, apart := false }
def AcceptorAllSaid : Prop := acceptorAllRow.holds Try.pinned (OpenSpec.ofChange acceptorAllSpec)

/-- ITS FALSE NEIGHBOUR: 'it returns false'. Refute it at one input. -/
def acceptorAllWrong : ChangeSpec := { name := "acceptorAll", fn := fun _ => fun
  | [d1, d2] => { results := [.lit (.bool false)], args := [d1, d2] }
  | _ => none }
def AcceptorAllWrongFalsely : Prop := acceptorAllRow.holds Try.pinned (OpenSpec.ofChange acceptorAllWrong)

/-- 'elasticstorelaw15.AcceptorOrder': WHATEVER THE INPUT: true; the input reads as it did. -/
def acceptorOrderSpec : ChangeSpec := { name := "acceptorOrder", fn := fun _ => fun
  | [d1, d2] => { results := [.lit (.bool true)], args := [d1, d2] }
  | _ => none }
def acceptorOrderRow : OpenClaim := { program := "ytnkeaphfheminaa", sum := "40e988dc67cf58d4a2793815edb6c7273cb915fc3aa334df026c84ad74c2ef48", func := "elasticstore/elasticstorelaw15.AcceptorOrder", spec := "acceptorOrder", unfollowed := true, recurses := true, apart := false }
def AcceptorOrderSaid : Prop := acceptorOrderRow.holds Try.pinned (OpenSpec.ofChange acceptorOrderSpec)

/-- ITS FALSE NEIGHBOUR: 'it returns false'. Refute it at one input. -/
def acceptorOrderWrong : ChangeSpec := { name := "acceptorOrder", fn := fun _ => fun
  | [d1, d2] => { results := [.lit (.bool false)], args := [d1, d2] }
  | _ => none }
def AcceptorOrderWrongFalsely : Prop := acceptorOrderRow.holds Try.pinned (OpenSpec.ofChange acceptorOrderWrong)

/-- 'elasticstorelaw15.AcceptorChain': WHATEVER THE INPUT: true; the input reads as it did. -/
def acceptorChainSpec : ChangeSpec := { name := "acceptorChain", fn := fun _ => fun
  | [d] => { results := [.lit (.bool true)], args := [d] }
  | _ => none }
def acceptorChainRow : OpenClaim := { program := "ytnkeaphfheminaa", sum := "40e988dc67cf58d4a2793815edb6c7273cb915fc3aa334df026c84ad74c2ef48", func := "elasticstore/elasticstorelaw15.AcceptorChain", spec := "acceptorChain", unfollowed := true, recurses := true, apart := false }
def AcceptorChainSaid : Prop := acceptorChainRow.holds Try.pinned (OpenSpec.ofChange acceptorChainSpec)

/-- ITS FALSE NEIGHBOUR: 'it returns false'. Refute it at one input. -/
def acceptorChainWrong : ChangeSpec := { name := "acceptorChain", fn := fun _ => fun
  | [d] => { results := [.lit (.bool false)], args := [d] }
  | _ => none }
def AcceptorChainWrongFalsely : Prop := acceptorChainRow.holds Try.pinned (OpenSpec.ofChange acceptorChainWrong)

/- THE SECOND FORM. 'bulk': how many values and letters a reading holds, each counted each time it is reached (what is shared counts as often as it is met; a slice's spare places count too). A statement '..UptoSaid' is the law's where the arguments, and the package variables that the reading takes, are together of bulk at most 1048576: NARROWER than '..Said'. Prove '..Said' where nothing that the law and all that it calls make is longer than what came in: it says more and counts as full. Else prove '..UptoSaid'. A law counts once. -/
mutual
def uptoBulk {H : Type} : DataW H → Nat
  | .lit (.string bytes) => bytes.length + 1
  | .lit _ => 1
  | .nil => 1
  | .ptr d => uptoBulk d + 1
  | .slice elems spare => uptoBulkAll elems + uptoBulkAll spare + 1
  | .agg parts => uptoBulkAll parts + 1
  | .iface _ d => uptoBulk d + 1
  | .map entries => uptoBulkEntries entries + 1
  | .held _ => 1
def uptoBulkAll {H : Type} : List (DataW H) → Nat
  | [] => 0
  | d :: r => uptoBulk d + uptoBulkAll r
def uptoBulkEntries {H : Type} : List (Lit × DataW H) → Nat
  | [] => 0
  | x :: r => uptoBulkEntry x + uptoBulkEntries r
def uptoBulkEntry {H : Type} : Lit × DataW H → Nat
  | (.string bytes, d) => bytes.length + uptoBulk d + 1
  | (_, d) => uptoBulk d + 1
 end
def uptoSmall : (H : Type) → List (DataW H) → Bool := fun _ ds => decide (uptoBulkAll ds ≤ 1048576)
def OpenSpec.upto (s : _root_.Go.ChangeSpec) : _root_.Go.OpenSpec := { _root_.Go.OpenSpec.ofChange s with cond := some uptoSmall }

/-- 'elasticstorelaw15.AcceptorAccept', WHERE WHAT IT READS IS OF BULK AT MOST 1048576: true; the input reads as it did. -/
def acceptorAcceptUptoRow : OpenClaim := { program := "ytnkeaphfheminaa", sum := "40e988dc67cf58d4a2793815edb6c7273cb915fc3aa334df026c84ad74c2ef48", func := "elasticstore/elasticstorelaw15.AcceptorAccept", spec := "acceptorAccept", unfollowed := true, recurses := true, apart := false, narrowed := true }
def AcceptorAcceptUptoSaid : Prop := acceptorAcceptUptoRow.holds Try.pinned (OpenSpec.upto acceptorAcceptSpec)

/-- 'elasticstorelaw15.AcceptorAll', WHERE WHAT IT READS IS OF BULK AT MOST 1048576: true; the input reads as it did. -/
def acceptorAllUptoRow : OpenClaim := { program := "ytnkeaphfheminaa", sum := "40e988dc67cf58d4a2793815edb6c7273cb915fc3aa334df026c84ad74c2ef48", func := "elasticstore/elasticstorelaw15.AcceptorAll", spec := "acceptorAll", unfollowed := true, recurses := true, apart := false, narrowed := true }
def AcceptorAllUptoSaid : Prop := acceptorAllUptoRow.holds Try.pinned (OpenSpec.upto acceptorAllSpec)

/-- 'elasticstorelaw15.AcceptorOrder', WHERE WHAT IT READS IS OF BULK AT MOST 1048576: true; the input reads as it did. -/
def acceptorOrderUptoRow : OpenClaim := { program := "ytnkeaphfheminaa", sum := "40e988dc67cf58d4a2793815edb6c7273cb915fc3aa334df026c84ad74c2ef48", func := "elasticstore/elasticstorelaw15.AcceptorOrder", spec := "acceptorOrder", unfollowed := true, recurses := true, apart := false, narrowed := true }
def AcceptorOrderUptoSaid : Prop := acceptorOrderUptoRow.holds Try.pinned (OpenSpec.upto acceptorOrderSpec)

/-- 'elasticstorelaw15.AcceptorChain', WHERE WHAT IT READS IS OF BULK AT MOST 1048576: true; the input reads as it did. -/
def acceptorChainUptoRow : OpenClaim := { program := "ytnkeaphfheminaa", sum := "40e988dc67cf58d4a2793815edb6c7273cb915fc3aa334df026c84ad74c2ef48", func := "elasticstore/elasticstorelaw15.AcceptorChain", spec := "acceptorChain", unfollowed := true, recurses := true, apart := false, narrowed := true }
def AcceptorChainUptoSaid : Prop := acceptorChainUptoRow.holds Try.pinned (OpenSpec.upto acceptorChainSpec)

end Rows
end Go.Proofs.Ytnkeaphfheminaa
