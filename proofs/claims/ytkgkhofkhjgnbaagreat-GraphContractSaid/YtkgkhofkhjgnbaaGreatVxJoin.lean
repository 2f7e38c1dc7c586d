/-
  The calls of vector.Join, Meet, Compare, LessEqual: each returns what the plain mathematics says. Conditions: the arguments read as vectors, within the bounds that are named.
-/
import Derived.Test.YtkgkhofkhjgnbaaGreatVxWalk
namespace Go.Proofs.YtkgkhofkhjgnbaaGreat.VX
open Go.RowKit Go.Shelf
open VM (Ent)

theorem Coll.below {w0 w : World} {g : Nat} {xs : List Ent} (h : Coll w0 g w xs) : Below w0.heap.size w0 w := by
  obtain ⟨_, _, _, hb⟩ := h
  exact hb
theorem Coll.drew {w0 w : World} {g : Nat} {xs : List Ent} (h : Coll w0 g w xs) (n : Nat) : Coll w0 g (w.drewN n) xs := by
  obtain ⟨v, h1, h2, h3⟩ := h
  exact ⟨v, h1, h2.below (below_drewN _ w n), h3.trans (below_drewN _ w n)⟩
theorem Coll.new (w : World) : Coll w w.heap.size (w.alloc (.cells #[.slice none 0 0] 127)) [] := ⟨_, heap_alloc_new w _, OwnV.nil _ _, below_fresh w _⟩
theorem anyL_snoc (ts : List (Int × Int × Int)) (x n m : Int) : VM.anyL (ts ++ [(x, n, m)]) = (VM.anyL ts || decide (n < m)) := by simp [VM.anyL, List.any_append]
theorem anyG_snoc (ts : List (Int × Int × Int)) (x n m : Int) : VM.anyG (ts ++ [(x, n, m)]) = (VM.anyG ts || decide (m < n)) := by simp [VM.anyG, List.any_append]

/-- The result of Compare, of valid vectors. -/
def cmp (xs ys : List Ent) : Int := VM.code (!VM.le ys xs) (!VM.le xs ys)

end Go.Proofs.YtkgkhofkhjgnbaaGreat.VX
