/-
  Valid lists: the calls of config's Union, Contains, Meet, Vector. No conditions beyond that the lists are valid.
  Parts of one pool: the mathematics of their unions, meets and vectors; the calls over them. Conditions: the pool is valid; what comes in reads.
-/
import Derived.Test.YthfpafnljnnndaaGreatST2
import Derived.Test.YthfpafnljnnndaaGreatSKI
import Derived.Test.YthfpafnljnnndaaGreatSKH
namespace Go.Proofs.YthfpafnljnnndaaGreat
open Go.RowKit Go.Joins
open JM (Chg)
open CM (Fp)
open VM (Ent)

end Go.Proofs.YthfpafnljnnndaaGreat

namespace Go.Proofs.YthfpafnljnnndaaGreat
open Go.RowKit
open JM (Chg)
open CM (Fp)
open VM (Ent)

namespace CM
def mx (g k : Int → Int) : Int → Int := fun a => max (g a) (k a)
def mn (g k : Int → Int) : Int → Int := fun a => min (g a) (k a)
theorem le_ct {p : List Fp} (h : Ok p) (g : Int → Int) (c n : Int) (hn : 1 ≤ n) : n ≤ ct (rs p g) c ↔ (∃ f ∈ p, f.1 = c ∧ f.2.1 = n) ∧ n ≤ g c := by
  rw [← (h.rs g).has c n hn, hasK_iff]
  constructor
  · rintro ⟨f, hf, rfl, rfl⟩
    obtain ⟨h1, h2⟩ := rs_mem.1 hf
    exact ⟨⟨f, h1, rfl, rfl⟩, h2⟩
  · rintro ⟨⟨f, hf, rfl, rfl⟩, h2⟩
    exact ⟨f, rs_mem.2 ⟨hf, h2⟩, rfl, rfl⟩
end CM

theorem pEqual (va vb : Value) (xs ys : List Fp) (w : World) (ha : RdF w va xs) (hb : RdF w vb ys) (he : xs = ys) :
    Calls Tryz.prog 26 #[va, vb] w fun e w' => e = .returned (.bool true) ∧ Below w.heap.size w w' := by
  have := rEqualConfig va vb xs ys w ha hb
  rw [decide_eq_true he] at this
  exact this
end Go.Proofs.YthfpafnljnnndaaGreat
