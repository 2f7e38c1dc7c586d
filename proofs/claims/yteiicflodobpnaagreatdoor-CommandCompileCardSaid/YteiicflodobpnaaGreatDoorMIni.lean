/-
  The calls of Initial, the program's and the reference's: each returns the summary of a genesis. No conditions beyond that the members read and are few.
-/
import Derived.Test.YteiicflodobpnaaGreatDoorMEv
namespace Go.Proofs.YteiicflodobpnaaGreatDoor
open Go.RowKit
open MM (Mem Ent Sm Tri)

/-- What lies in blocks from B on stays. -/
structure Fr (B : Nat) (w w' : World) : Prop where
  size : w.heap.size ≤ w'.heap.size
  blk : ∀ k, B ≤ k → k < w.heap.size → w'.heap[k]? = w.heap[k]?
theorem Fr.refl (B : Nat) (w : World) : Fr B w w := ⟨Nat.le_refl _, fun _ _ _ => rfl⟩
theorem Fr.trans {B : Nat} {a b c : World} (h : Fr B a b) (k : Fr B b c) : Fr B a c := ⟨Nat.le_trans h.size k.size, fun i h1 h2 => (k.blk i h1 (Nat.lt_of_lt_of_le h2 h.size)).trans (h.blk i h1 h2)⟩
theorem Fr.mono {B B' : Nat} {w w' : World} (h : Fr B w w') (hb : B ≤ B') : Fr B' w w' := ⟨h.size, fun i h1 h2 => h.blk i (Nat.le_trans hb h1) h2⟩
theorem Fr.of {B : Nat} {w w' : World} (h : Below w.heap.size w w') : Fr B w w' := ⟨h.size, fun i _ h2 => h.block i h2⟩
theorem Fr.only {B g : Nat} {w w' : World} (h : Only g w w') (hg : g < B) : Fr B w w' := ⟨h.size, fun i h1 h2 => h.block i h2 (by omega)⟩
theorem OwnG.fr {α : Type} {enc : α → List Value} {e : TypeId} {size base : Nat} {w w' : World} {v : Value} {xs : List α} (h : OwnG enc e size base w v xs) (hf : Fr base w w') : OwnG enc e size base w' v xs := by
  refine ⟨⟨h.1.1, ?_⟩, h.2⟩
  rcases h.1.2 with h6 | ⟨gg, cap, cur, hv, hgg, hh, r⟩
  · exact .inl h6
  · exact .inr ⟨gg, cap, cur, hv, hgg, (hf.blk gg hgg (Array.getElem?_eq_some_iff.1 hh).1).trans hh, r⟩
/-- The value reads as a summary, and goes on to while the blocks from B on stay. -/
def FrS (B : Nat) (w : World) (v : Value) (s : Sm) : Prop := ∀ w', Fr B w w' → RdS w' v s
theorem FrS.rd {B : Nat} {w : World} {v : Value} {s : Sm} (h : FrS B w v s) : RdS w v s := h w (Fr.refl _ _)
theorem FrS.fr {B : Nat} {w w' : World} {v : Value} {s : Sm} (h : FrS B w v s) (hf : Fr B w w') : FrS B w' v s := fun w'' h2 => h w'' (hf.trans h2)
theorem FrS.mono {B B' : Nat} {w : World} {v : Value} {s : Sm} (h : FrS B' w v s) (hb : B ≤ B') : FrS B w v s := fun w'' h2 => h w'' (h2.mono hb)
theorem blk_keep {B g : Nat} {w w' : World} {o : Obj} (hb : Below B w w') (hg : g < B) (h : w.heap[g]? = some o) : w'.heap[g]? = some o := (hb.block g hg).trans h
theorem onlyc9 {w : World} {g : Nat} (b0 b1 b2 b3 b4 b5 b6 b7 b8 : Value) : Only g w (((((((((w.setCell ⟨g, 0, none⟩ b0).setCell ⟨g, 1, none⟩ b1).setCell ⟨g, 2, none⟩ b2).setCell ⟨g, 3, none⟩ b3).setCell ⟨g, 4, none⟩ b4).setCell ⟨g, 5, none⟩ b5).setCell ⟨g, 6, none⟩ b6).setCell ⟨g, 7, none⟩ b7).setCell ⟨g, 8, none⟩ b8) := (((((((((Only.set 0 b0).trans (Only.set 1 b1)).trans (Only.set 2 b2)).trans (Only.set 3 b3)).trans (Only.set 4 b4)).trans (Only.set 5 b5)).trans (Only.set 6 b6)).trans (Only.set 7 b7)).trans (Only.set 8 b8))
theorem onlyc5 {w : World} {g : Nat} (b0 b1 b2 b3 b4 : Value) : Only g w (((((w.setCell ⟨g, 0, none⟩ b0).setCell ⟨g, 1, none⟩ b1).setCell ⟨g, 2, none⟩ b2).setCell ⟨g, 3, none⟩ b3).setCell ⟨g, 4, none⟩ b4) := (((((Only.set 0 b0).trans (Only.set 1 b1)).trans (Only.set 2 b2)).trans (Only.set 3 b3)).trans (Only.set 4 b4))
theorem onlyc4 {w : World} {g : Nat} (b0 b1 b2 b3 : Value) : Only g w ((((w.setCell ⟨g, 0, none⟩ b0).setCell ⟨g, 1, none⟩ b1).setCell ⟨g, 2, none⟩ b2).setCell ⟨g, 3, none⟩ b3) := ((((Only.set 0 b0).trans (Only.set 1 b1)).trans (Only.set 2 b2)).trans (Only.set 3 b3))
theorem onlyc3 {w : World} {g : Nat} (b0 b1 b2 : Value) : Only g w (((w.setCell ⟨g, 0, none⟩ b0).setCell ⟨g, 1, none⟩ b1).setCell ⟨g, 2, none⟩ b2) := (((Only.set 0 b0).trans (Only.set 1 b1)).trans (Only.set 2 b2))
/-- A summary returned out of a block. -/
theorem sum_ret_cells {x y z : Value} {k c f v a n : Int} : (#[x, y, z, .int .i64 k, .int .i64 c, .int .i64 f, .int .i64 v, .int .i64 a, .int .i64 n] : Array Value).size = 9 := rfl
abbrev s9 (x y z : Value) (k c f v a n : Int) : Array Value := #[x, y, z, .int .i64 k, .int .i64 c, .int .i64 f, .int .i64 v, .int .i64 a, .int .i64 n]
/-- The boxes of Initial: the genesis, the result, the summary. -/
theorem ini_boxes (w : World) (u : Value) (k c f : Int) :
    ∃ w3, ((w.alloc (.cells #[u, .int .i64 k, .int .i64 c, .int .i64 f] 40)).alloc (.cells (s9 (.slice none 0 0) (.slice none 0 0) (.slice none 0 0) 0 0 0 0 0 0) 27)).alloc (.cells (s9 (.slice none 0 0) (.slice none 0 0) (.slice none 0 0) k c f 0 0 0) 27) = w3 ∧ Below w.heap.size w w3 ∧ w3.heap.size = w.heap.size + 3 ∧
      w3.heap[w.heap.size]? = some (.cells #[u, .int .i64 k, .int .i64 c, .int .i64 f] 40 (0, 0)) ∧
      w3.heap[w.heap.size + 1]? = some (.cells (s9 (.slice none 0 0) (.slice none 0 0) (.slice none 0 0) 0 0 0 0 0 0) 27 (0, 0)) ∧
      w3.heap[w.heap.size + 1 + 1]? = some (.cells (s9 (.slice none 0 0) (.slice none 0 0) (.slice none 0 0) k c f 0 0 0) 27 (0, 0)) := by
  have h1 := heap_alloc_new w (.cells #[u, .int .i64 k, .int .i64 c, .int .i64 f] 40)
  have b1 := below_fresh w (.cells #[u, .int .i64 k, .int .i64 c, .int .i64 f] 40)
  have z1 := World.size_alloc w (.cells #[u, .int .i64 k, .int .i64 c, .int .i64 f] 40)
  generalize w.alloc (.cells #[u, .int .i64 k, .int .i64 c, .int .i64 f] 40) = w1 at *
  have h2 := heap_alloc_new w1 (.cells (s9 (.slice none 0 0) (.slice none 0 0) (.slice none 0 0) 0 0 0 0 0 0) 27)
  have b2 := below_fresh w1 (.cells (s9 (.slice none 0 0) (.slice none 0 0) (.slice none 0 0) 0 0 0 0 0 0) 27)
  have z2 := World.size_alloc w1 (.cells (s9 (.slice none 0 0) (.slice none 0 0) (.slice none 0 0) 0 0 0 0 0 0) 27)
  generalize w1.alloc (.cells (s9 (.slice none 0 0) (.slice none 0 0) (.slice none 0 0) 0 0 0 0 0 0) 27) = w2 at *
  have h3 := heap_alloc_new w2 (.cells (s9 (.slice none 0 0) (.slice none 0 0) (.slice none 0 0) k c f 0 0 0) 27)
  have b3 := below_fresh w2 (.cells (s9 (.slice none 0 0) (.slice none 0 0) (.slice none 0 0) k c f 0 0 0) 27)
  have z3 := World.size_alloc w2 (.cells (s9 (.slice none 0 0) (.slice none 0 0) (.slice none 0 0) k c f 0 0 0) 27)
  refine ⟨_, rfl, bnext b1 (bnext b2 b3), by omega, below_block (below_block h1 b2) b3, ?_, ?_⟩
  · rw [← z1]; exact below_block h2 b3
  · rw [← z1, ← z2]; exact h3

end Go.Proofs.YteiicflodobpnaaGreatDoor
