/-
  The call of the program's View: it returns the view of a summary. Conditions: the summary reads, its lists ascend and are short.
-/
import Derived.Test.YthfpafnljnnndaaGreatSM3
namespace Go.Proofs.YthfpafnljnnndaaGreat
open Go.RowKit
open MM (Mem Ent Sm Tri)

abbrev v4 (s : Value) (k c f : Int) : Array Value := #[s, .int .i64 k, .int .i64 c, .int .i64 f]
theorem view_ret {R : Ending → World → Prop} {a : Act} {w : World} {g : Nat} {s : Value} {k c f : Int} (hp : a.tmps.getD 2 undef = .pointer (some ⟨g, 0, none⟩)) (hg : w.heap[g]? = some (.cells (v4 s k c f) 41 (0, 0)))
    (hd : a.defers = []) (hR : R (.returned (vw s k c f)) w) : bodyPost Tryz.prog Tryz.f46 R .ret a w :=
  bodyPost_ret (results_cell_row (P := Tryz.prog) rfl a.tmps w g 41 _ _ _ hp hg Tryz.underlying41 rfl (by kernel_rfl)) hd hR
theorem view_boxes (w : World) (x y z : Value) (k c f v a n K : Int) :
    ∃ w3, ((w.alloc (.cells (s9 x y z k c f v a n) 81)).alloc (.cells (v4 (.slice none 0 0) 0 0 0) 41)).alloc (.cells (v4 (.slice none 0 0) K c f) 41) = w3 ∧ Below w.heap.size w w3 ∧ w3.heap.size = w.heap.size + 3 ∧
      w3.heap[w.heap.size]? = some (.cells (s9 x y z k c f v a n) 81 (0, 0)) ∧
      w3.heap[w.heap.size + 1]? = some (.cells (v4 (.slice none 0 0) 0 0 0) 41 (0, 0)) ∧
      w3.heap[w.heap.size + 1 + 1]? = some (.cells (v4 (.slice none 0 0) K c f) 41 (0, 0)) := by
  have h1 := heap_alloc_new w (.cells (s9 x y z k c f v a n) 81)
  have b1 := below_fresh w (.cells (s9 x y z k c f v a n) 81)
  have z1 := World.size_alloc w (.cells (s9 x y z k c f v a n) 81)
  generalize w.alloc (.cells (s9 x y z k c f v a n) 81) = w1 at *
  have h2 := heap_alloc_new w1 (.cells (v4 (.slice none 0 0) 0 0 0) 41)
  have b2 := below_fresh w1 (.cells (v4 (.slice none 0 0) 0 0 0) 41)
  have z2 := World.size_alloc w1 (.cells (v4 (.slice none 0 0) 0 0 0) 41)
  generalize w1.alloc (.cells (v4 (.slice none 0 0) 0 0 0) 41) = w2 at *
  have h3 := heap_alloc_new w2 (.cells (v4 (.slice none 0 0) K c f) 41)
  have b3 := below_fresh w2 (.cells (v4 (.slice none 0 0) K c f) 41)
  have z3 := World.size_alloc w2 (.cells (v4 (.slice none 0 0) K c f) 41)
  refine ⟨_, rfl, bnext b1 (bnext b2 b3), by omega, below_block (below_block h1 b2) b3, ?_, ?_⟩
  · rw [← z1]; exact below_block h2 b3
  · rw [← z1, ← z2]; exact h3
/-- The members of the first j that joined. -/
def memsTo (J R : List Int) (W : List Ent) (j : Nat) : List Mem := ((J.take j).filter fun x => !R.contains x).map fun x => (x, MM.wtOf W x)
theorem memsTo_in {J R : List Int} {W : List Ent} {j : Nat} {x : Int} (h : J[j]? = some x) (hx : R.contains x = true) : memsTo J R W (j + 1) = memsTo J R W j := by
  unfold memsTo
  rw [List.take_add_one, h, List.filter_append]
  have hx2 := List.contains_iff_mem.1 hx
  simp [hx2]
theorem memsTo_out {J R : List Int} {W : List Ent} {j : Nat} {x : Int} (h : J[j]? = some x) (hx : R.contains x = false) : memsTo J R W (j + 1) = memsTo J R W j ++ [(x, MM.wtOf W x)] := by
  unfold memsTo
  rw [List.take_add_one, h, List.filter_append]
  have hx2 : ¬ x ∈ R := fun hm => by rw [List.contains_iff_mem.2 hm] at hx; cases hx
  simp [hx2]
theorem memsTo_len (J R : List Int) (W : List Ent) (j : Nat) : (memsTo J R W j).length ≤ j := by
  unfold memsTo
  rw [List.length_map]
  exact Nat.le_trans (List.length_filter_le _ _) (by rw [List.length_take]; omega)

end Go.Proofs.YthfpafnljnnndaaGreat
