/-
  The calls of Validate, the program's: it returns the error that the plain mathematics says. No conditions beyond that the summary reads.
-/
import Derived.Test.YtejafpbobgkibaaGreatMVe
import Derived.Deep.RegionHeld3
namespace Go.Proofs.YtejafpbobgkibaaGreat
open Go.RowKit
open MM (Mem Ent Sm Tri)

theorem gm_rule : Tryz.prog.eqGuardType Tryz.prog.depth 33 = false := by kernel_rfl
theorem gm_org : Tryz.prog.eqGuardType Tryz.prog.depth 130 = false := by kernel_rfl
theorem gm_wgt : Tryz.prog.eqGuardType Tryz.prog.depth 127 = false := by kernel_rfl
theorem gm_mem : Tryz.prog.eqGuardType Tryz.prog.depth 63 = false := by kernel_rfl
theorem ite3 {α : Type} (k c f : Int) (p q : α) : (if k = 0 then (if c = 0 then (if f = 0 then p else q) else q) else q) = if decide (k = 0 ∧ c = 0 ∧ f = 0) = true then p else q := by
  by_cases h1 : k = 0 <;> by_cases h2 : c = 0 <;> by_cases h3 : f = 0 <;> simp [h1, h2, h3]
/-- A summary in a block, its fields by name. -/
def B9 (w : World) (B : Nat) (x y z : Value) (k c f v a n : Int) : Prop :=
  B < w.heap.size ∧ w.cell? ⟨B, 0, none⟩ = some x ∧ w.cell? ⟨B, 1, none⟩ = some y ∧ w.cell? ⟨B, 2, none⟩ = some z ∧ w.cell? ⟨B, 3, none⟩ = some (.int .i64 k) ∧ w.cell? ⟨B, 4, none⟩ = some (.int .i64 c) ∧
    w.cell? ⟨B, 5, none⟩ = some (.int .i64 f) ∧ w.cell? ⟨B, 6, none⟩ = some (.int .i64 v) ∧ w.cell? ⟨B, 7, none⟩ = some (.int .i64 a) ∧ w.cell? ⟨B, 8, none⟩ = some (.int .i64 n)
theorem B9.below {w w' : World} {B : Nat} {x y z : Value} {k c f v a n : Int} (h : B9 w B x y z k c f v a n) (hb : Below w.heap.size w w') : B9 w' B x y z k c f v a n := by
  obtain ⟨h0, h1, h2, h3, h4, h5, h6, h7, h8, h9⟩ := h
  exact ⟨Nat.lt_of_lt_of_le h0 hb.size, below_cell hb h1, below_cell hb h2, below_cell hb h3, below_cell hb h4, below_cell hb h5, below_cell hb h6, below_cell hb h7, below_cell hb h8, below_cell hb h9⟩
theorem B9.fresh (w : World) (t : TypeId) (x y z : Value) (k c f v a n : Int) : B9 (w.alloc (.cells #[x, y, z, .int .i64 k, .int .i64 c, .int .i64 f, .int .i64 v, .int .i64 a, .int .i64 n] t)) w.heap.size x y z k c f v a n :=
  ⟨by simp, by simp [World.cell?_alloc_new], by simp [World.cell?_alloc_new], by simp [World.cell?_alloc_new], by simp [World.cell?_alloc_new], by simp [World.cell?_alloc_new], by simp [World.cell?_alloc_new], by simp [World.cell?_alloc_new], by simp [World.cell?_alloc_new], by simp [World.cell?_alloc_new]⟩

theorem rd3e (w : World) (x y z : Int) : RdI (w.alloc (.cells #[.int .i64 x, .int .i64 y, .int .i64 z] 36)) (.slice (some ⟨w.heap.size, 0, none⟩) 3 3) [x, y, z] := (ownG_fresh hlI 36 w [x, y, z] (by unfold maxLen; simp)).rd
end Go.Proofs.YtejafpbobgkibaaGreat
