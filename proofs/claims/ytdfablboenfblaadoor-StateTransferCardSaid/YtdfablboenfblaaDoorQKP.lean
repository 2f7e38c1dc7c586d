/-
  What a statement's reading tells of changes, proposals, bytes, lists of integers and integers that came in. No conditions beyond those that each lemma names.
  What a statement's reading tells of a list of integers that came in: it reads as data, and its datum is as long. No conditions beyond those that each lemma names.
-/
import Derived.Test.YtdfablboenfblaaDoorQKC
import Derived.Deep.SlicePairs
import Derived.Deep.Strs
import Derived.ChangeSlices
import Derived.ProofKit
import Derived.OpenShut
import Derived.ChangeOld
import Derived.SizedLaws
namespace Go.Proofs.YtdfablboenfblaaDoor
open Go.ChangeShapes Go.WideShapes Go.ChangeAt Go.RowKit
open JM (Chg)

section
variable {H : Type} {enc : TypeId × Value → H} {W : World} {n : Nat} {x : DataW H × List MemPlace}

theorem rd_of_trod {v : Value} (hf : DataW.trod enc Tryd.prog W 0 (fun _ => true) true n 55 [v] = some x) : ∃ xs, Rd W v xs := by
  rcases open_ints Tryd.underlying55 Tryd.underlying5 (by kernel_rfl) hf with ⟨hcs, _⟩ | ⟨y, l, c, zs, hcs, _, hl, hm, hz, _, hcell, hwz⟩
  · simp at hcs
    subst hcs
    exact ⟨[], Rd.nil W⟩
  · simp at hcs
    subst hcs
    exact ⟨zs.take l, rd_row (.inr ⟨_, rfl, hl, hm, by simpa using hz, hcell, hwz⟩)⟩

theorem rdI_of_trod {v : Value} (hf : DataW.trod enc Tryd.prog W 0 (fun _ => true) true n 36 [v] = some x) : ∃ xs, RdI W v xs := by
  rcases open_ints Tryd.underlying36 Tryd.underlying3 (by kernel_rfl) hf with ⟨hcs, _⟩ | ⟨y, l, c, zs, hcs, _, hl, hm, hz, _, hcell, hwz⟩
  · simp at hcs
    subst hcs
    exact ⟨[], RdG.nil hlI W⟩
  · simp at hcs
    subst hcs
    simp only [if_true] at hz
    have hlen : (zs.take l).length = l := by rw [List.length_take, hz]; omega
    refine ⟨zs.take l, some y, c, by rw [hlen], by omega, hm, (fun h => by cases h), hlI, fun z hz' i u hu => ?_⟩
    cases hz'
    have e : cellsOf encI (zs.take l) = (zs.take l).map (Value.int .i64) := by
      unfold cellsOf encI
      induction (zs.take l) with
      | nil => rfl
      | cons q l ih => rw [List.flatMap_cons, ih]; rfl
    rw [e, List.getElem?_map, List.getElem?_take] at hu
    split at hu
    · rename_i hil
      have hi : i < zs.length := by omega
      rw [List.getElem?_eq_getElem hi] at hu
      cases hu
      rw [hcell i hi]
      simp [List.getD, hi]
    · cases hu

end

end Go.Proofs.YtdfablboenfblaaDoor

namespace Go.Proofs.YtdfablboenfblaaDoor
open Go.ChangeShapes Go.WideShapes Go.ChangeAt Go.RowKit

section
variable {H : Type} {enc : TypeId × Value → H} {W : World} {n : Nat}
theorem rdI_of_trod_len {v : Value} {d : DataW H} {p : List MemPlace} (hf : DataW.trod enc Tryd.prog W 0 (fun _ => true) true n 36 [v] = some (d, p)) :
    ∃ xs, RdI W v xs ∧ (xs = [] ∨ ∃ el sp, d = .slice el sp ∧ xs.length ≤ el.length + sp.length) := by
  have hf2 := hf
  rcases open_ints Tryd.underlying36 Tryd.underlying3 (by kernel_rfl) hf with ⟨hcs, _⟩ | ⟨y, l, c, zs, hcs, _, hl, hm, hz, hx, hcell, hwz⟩
  · simp at hcs
    subst hcs
    exact ⟨[], RdG.nil hlI W, .inl rfl⟩
  · obtain ⟨xs, hxs⟩ := rdI_of_trod hf2
    refine ⟨xs, hxs, .inr ?_⟩
    simp at hcs
    subst hcs
    obtain ⟨a', c', hv, _⟩ := hxs.shape
    cases hv
    simp only [Prod.mk.injEq] at hx
    obtain ⟨rfl, _⟩ := hx
    refine ⟨_, _, rfl, ?_⟩
    simp only [lits, List.length_map, List.length_take, List.length_drop]
    simp only [if_true] at hz
    omega
end

end Go.Proofs.YtdfablboenfblaaDoor
