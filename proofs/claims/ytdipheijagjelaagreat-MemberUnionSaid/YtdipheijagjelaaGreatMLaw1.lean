/-
  The laws MemberGenesis and MemberValidate: each returns true. Conditions: what came in reads.
-/
import Derived.Test.YtdipheijagjelaaGreatMAwake
import Derived.Test.YtdipheijagjelaaGreatMVg
import Derived.Test.YtdipheijagjelaaGreatMRIni
namespace Go.Proofs.YtdipheijagjelaaGreat
open Go.RowKit Go.Joins
open MM (Mem Ent Sm Tri)

/-! Short summaries. -/
def shortB (s : Sm) : Bool := decide (s.J.length ≤ 40) && (decide (s.R.length ≤ 40) && decide (s.W.length ≤ 40))
theorem shortB_iff {s : Sm} : shortB s = true ↔ s.J.length ≤ 40 ∧ s.R.length ≤ 40 ∧ s.W.length ≤ 40 := by unfold shortB; simp
/-- Two summaries that came in, in boxes. -/
theorem two_sums (W : World) (va vb : Value) (s t : Sm) (ha : RdS W va s) (hb : RdS W vb t) :
    ∃ (x y z x' y' z' : Value) (w2 : World), va = sv x y z s.k s.c s.f s.v s.a s.n ∧ vb = sv x' y' z' t.k t.c t.f t.v t.a t.n ∧
      (W.alloc (.cells (s9 x y z s.k s.c s.f s.v s.a s.n) 35)).alloc (.cells (s9 x' y' z' t.k t.c t.f t.v t.a t.n) 35) = w2 ∧ Below W.heap.size W w2 ∧ RdS w2 va s ∧ RdS w2 vb t ∧
      w2.heap[W.heap.size]? = some (.cells (s9 x y z s.k s.c s.f s.v s.a s.n) 35 (0, 0)) ∧ w2.heap[W.heap.size + 1]? = some (.cells (s9 x' y' z' t.k t.c t.f t.v t.a t.n) 35 (0, 0)) := by
  obtain ⟨x, y, z, hva, _⟩ := id ha
  obtain ⟨x', y', z', hvb, _⟩ := id hb
  have b1 := below_fresh W (.cells (s9 x y z s.k s.c s.f s.v s.a s.n) 35)
  have h1 := heap_alloc_new W (.cells (s9 x y z s.k s.c s.f s.v s.a s.n) 35)
  have z1 := World.size_alloc W (.cells (s9 x y z s.k s.c s.f s.v s.a s.n) 35)
  have b2 := below_fresh (W.alloc (.cells (s9 x y z s.k s.c s.f s.v s.a s.n) 35)) (.cells (s9 x' y' z' t.k t.c t.f t.v t.a t.n) 35)
  have h2 := heap_alloc_new (W.alloc (.cells (s9 x y z s.k s.c s.f s.v s.a s.n) 35)) (.cells (s9 x' y' z' t.k t.c t.f t.v t.a t.n) 35)
  rw [z1] at h2
  have hB := bnext b1 b2
  exact ⟨x, y, z, x', y', z', _, hva, hvb, rfl, hB, ha.below hB, hb.below hB, below_block h1 b2, h2⟩

end Go.Proofs.YtdipheijagjelaaGreat
