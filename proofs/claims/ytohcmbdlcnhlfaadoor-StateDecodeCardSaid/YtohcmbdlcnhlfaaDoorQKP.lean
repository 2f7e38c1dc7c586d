/-
  What a statement's reading tells of changes, proposals, bytes, lists of integers and integers that came in. No conditions beyond those that each lemma names.
  What a statement's reading tells of a list of integers that came in: it reads as data, and its datum is as long. No conditions beyond those that each lemma names.
-/
import Derived.Test.YtohcmbdlcnhlfaaDoorQKC
import Derived.Deep.SlicePairs
import Derived.Deep.Strs
import Derived.ChangeSlices
import Derived.ProofKit
import Derived.OpenShut
import Derived.ChangeOld
import Derived.SizedLaws
namespace Go.Proofs.YtohcmbdlcnhlfaaDoor
open Go.ChangeShapes Go.WideShapes Go.ChangeAt Go.RowKit
open JM (Chg)

section
variable {H : Type} {enc : TypeId × Value → H} {W : World} {n : Nat} {x : DataW H × List MemPlace}

theorem rd_of_trod {v : Value} (hf : DataW.trod enc Tryd.prog W 0 (fun _ => true) true n 55 [v] = some x) : ∃ xs, Rd W v xs := by
  rcases open_ints Tryd.underlying55 Tryd.underlying5 (by kernel_rfl) hf with ⟨hcs, _⟩ | ⟨y, l, c, zs, hcs, _, hl, hm, hz, _, hcell, hwz⟩
  · simp at hcs
    subst hcs
    exact ⟨[], Rd.nil W⟩
  · simp at hcs
    subst hcs
    exact ⟨zs.take l, rd_row (.inr ⟨_, rfl, hl, hm, by simpa using hz, hcell, hwz⟩)⟩

end

end Go.Proofs.YtohcmbdlcnhlfaaDoor

namespace Go.Proofs.YtohcmbdlcnhlfaaDoor
open Go.ChangeShapes Go.WideShapes Go.ChangeAt Go.RowKit

section
variable {H : Type} {enc : TypeId × Value → H} {W : World} {n : Nat}
end

end Go.Proofs.YtohcmbdlcnhlfaaDoor
