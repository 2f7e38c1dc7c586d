/-
  What a statement's reading tells of a list of integers that came in: it reads as data, and its datum is as long. No conditions beyond those that each lemma names.
-/
import Derived.SizedLaws
import Derived.Test.YthljcenejglcpaaJOpen
namespace Go.Proofs.Ythljcenejglcpaa
open Go.ChangeShapes Go.WideShapes Go.ChangeAt Go.RowKit

section
variable {H : Type} {enc : TypeId × Value → H} {W : World} {n : Nat}
theorem rdI_of_trod_len {v : Value} {d : DataW H} {p : List MemPlace} (hf : DataW.trod enc Try.prog W 0 (fun _ => true) true n 44 [v] = some (d, p)) :
    ∃ xs, RdI W v xs ∧ (xs = [] ∨ ∃ el sp, d = .slice el sp ∧ xs.length ≤ el.length + sp.length) := by
  have hf2 := hf
  rcases open_ints Try.underlying44 Try.underlying3 (by kernel_rfl) hf with ⟨hcs, _⟩ | ⟨y, l, c, zs, hcs, _, hl, hm, hz, hx, hcell, hwz⟩
  · simp at hcs
    subst hcs
    exact ⟨[], RdG.nil hlI W, .inl rfl⟩
  · obtain ⟨xs, hxs⟩ := rdI_of_trod hf2
    refine ⟨xs, hxs, .inr ?_⟩
    simp at hcs
    subst hcs
    obtain ⟨a', c', hv, _⟩ := hxs.shape
    cases hv
    simp only [Prod.mk.injEq] at hx
    obtain ⟨rfl, _⟩ := hx
    refine ⟨_, _, rfl, ?_⟩
    simp only [lits, List.length_map, List.length_take, List.length_drop]
    simp only [if_true] at hz
    omega
end

end Go.Proofs.Ythljcenejglcpaa
