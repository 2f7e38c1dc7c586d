/-
  Worlds that differ in one block. No conditions beyond those that each lemma names.
-/
import Derived.Test.YtejedodicihecaaSl
namespace Go.Proofs.Ytejedodicihecaa
open Go.RowKit

/-- All blocks that were there but g are as they were. -/
structure Only (g : Nat) (w w' : World) : Prop where
  os : w'.os = w.os
  tape : w'.tape = w.tape
  output : w'.output = w.output
  size : w.heap.size ≤ w'.heap.size
  block : ∀ k, k < w.heap.size → k ≠ g → w'.heap[k]? = w.heap[k]?
theorem Only.set {g : Nat} {w : World} (off : Nat) (u : Value) : Only g w (w.setCell ⟨g, off, none⟩ u) := by
  have hb := (Below.refl 0 w).setCell (p := ⟨g, off, none⟩) (Nat.zero_le _) u
  exact ⟨hb.os, hb.tape, hb.output, hb.size, fun k _ hk => heap_setCell_other _ _ _ _ hk⟩
theorem Only.below {g B : Nat} {w w' : World} (h : Only g w w') (hB : B ≤ g) (hB2 : B ≤ w.heap.size) : Below B w w' :=
  ⟨h.os, h.tape, h.output, h.size, fun k hk => h.block k (by omega) (by omega)⟩
theorem Only.at {g : Nat} {w w' : World} (h : Only g w w') {k : Nat} {o : Obj} (hk : w.heap[k]? = some o) (hne : k ≠ g) : w'.heap[k]? = some o := by
  rw [h.block k (Array.getElem?_eq_some_iff.1 hk).1 hne, hk]
theorem seen {g : Nat} {W w w' : World} (hb : Below W.heap.size W w) (hg : W.heap.size ≤ g) (h : Only g w w') : Below W.heap.size W w' := hb.trans (h.below hg hb.size)
end Go.Proofs.Ytejedodicihecaa
