/-
  The small calls: where a weight, a rule comes from; which of two is later; the first that is not 0. No conditions beyond that the lists read.
-/
import Derived.Test.YteiicflodobpnaaGreatDoorMBase
namespace Go.Proofs.YteiicflodobpnaaGreatDoor
open Go.RowKit
open JM (Chg)
open MM (Mem Ent Sm Tri)

theorem heap_new2 (w : World) (o1 o2 : Obj) : ((w.alloc o1).alloc o2).heap[w.heap.size + 1]? = some o2 := by
  have := heap_alloc_new (w.alloc o1) o2
  rwa [World.size_alloc] at this
theorem heap_new3 (w : World) (o1 o2 o3 : Obj) : (((w.alloc o1).alloc o2).alloc o3).heap[w.heap.size + 2]? = some o3 := by
  have := heap_alloc_new ((w.alloc o1).alloc o2) o3
  rwa [World.size_alloc, World.size_alloc] at this
theorem row5_at {w : World} {g : Nat} {t : TypeId} {a0 a1 a2 a3 a4 : Value} (h : w.heap[g]? = some (.cells #[a0, a1, a2, a3, a4] t (0, 0))) :
    (w.cell? ⟨g, 0, none⟩ = some a0 ∧ w.cell? ⟨g, 1, none⟩ = some a1 ∧ w.cell? ⟨g, 2, none⟩ = some a2 ∧ w.cell? ⟨g, 3, none⟩ = some a3 ∧ w.cell? ⟨g, 4, none⟩ = some a4) ∧ (w.frozen? ⟨g, 0, none⟩ = false ∧ w.frozen? ⟨g, 1, none⟩ = false ∧ w.frozen? ⟨g, 2, none⟩ = false ∧ w.frozen? ⟨g, 3, none⟩ = false ∧ w.frozen? ⟨g, 4, none⟩ = false) := by
  refine ⟨⟨?_, ?_, ?_, ?_, ?_⟩, ⟨?_, ?_, ?_, ?_, ?_⟩⟩
  all_goals first | (simp [World.cell?, h]; done) | (simp [World.frozen?, h]; done)
theorem row5_put {w : World} {g : Nat} {t : TypeId} {a0 a1 a2 a3 a4 : Value} (h : w.heap[g]? = some (.cells #[a0, a1, a2, a3, a4] t (0, 0))) (b0 b1 b2 b3 b4 : Value) (B : Nat) (hB : B ≤ g) :
    (((((w.setCell ⟨g, 0, none⟩ b0).setCell ⟨g, 1, none⟩ b1).setCell ⟨g, 2, none⟩ b2).setCell ⟨g, 3, none⟩ b3).setCell ⟨g, 4, none⟩ b4).heap[g]? = some (.cells #[b0, b1, b2, b3, b4] t (0, 0)) ∧ Below B w (((((w.setCell ⟨g, 0, none⟩ b0).setCell ⟨g, 1, none⟩ b1).setCell ⟨g, 2, none⟩ b2).setCell ⟨g, 3, none⟩ b3).setCell ⟨g, 4, none⟩ b4) := by
  have o0 : Below B w w := Below.refl _ w
  have h1 : (w.setCell ⟨g, 0, none⟩ b0).heap[g]? = some (.cells #[b0, a1, a2, a3, a4] t (0, 0)) := heap_setCell_same w g 0 _ _ b0 h
  have o1 : Below B w (w.setCell ⟨g, 0, none⟩ b0) := o0.setCell hB _
  generalize w.setCell ⟨g, 0, none⟩ b0 = w1 at h1 o1 ⊢
  clear h o0
  have h2 : (w1.setCell ⟨g, 1, none⟩ b1).heap[g]? = some (.cells #[b0, b1, a2, a3, a4] t (0, 0)) := heap_setCell_same w1 g 1 _ _ b1 h1
  have o2 : Below B w (w1.setCell ⟨g, 1, none⟩ b1) := o1.setCell hB _
  generalize w1.setCell ⟨g, 1, none⟩ b1 = w2 at h2 o2 ⊢
  clear h1 o1
  have h3 : (w2.setCell ⟨g, 2, none⟩ b2).heap[g]? = some (.cells #[b0, b1, b2, a3, a4] t (0, 0)) := heap_setCell_same w2 g 2 _ _ b2 h2
  have o3 : Below B w (w2.setCell ⟨g, 2, none⟩ b2) := o2.setCell hB _
  generalize w2.setCell ⟨g, 2, none⟩ b2 = w3 at h3 o3 ⊢
  clear h2 o2
  have h4 : (w3.setCell ⟨g, 3, none⟩ b3).heap[g]? = some (.cells #[b0, b1, b2, b3, a4] t (0, 0)) := heap_setCell_same w3 g 3 _ _ b3 h3
  have o4 : Below B w (w3.setCell ⟨g, 3, none⟩ b3) := o3.setCell hB _
  generalize w3.setCell ⟨g, 3, none⟩ b3 = w4 at h4 o4 ⊢
  clear h3 o3
  have h5 : (w4.setCell ⟨g, 4, none⟩ b4).heap[g]? = some (.cells #[b0, b1, b2, b3, b4] t (0, 0)) := heap_setCell_same w4 g 4 _ _ b4 h4
  have o5 : Below B w (w4.setCell ⟨g, 4, none⟩ b4) := o4.setCell hB _
  exact ⟨h5, o5⟩
theorem row3_at {w : World} {g : Nat} {t : TypeId} {a0 a1 a2 : Value} (h : w.heap[g]? = some (.cells #[a0, a1, a2] t (0, 0))) :
    (w.cell? ⟨g, 0, none⟩ = some a0 ∧ w.cell? ⟨g, 1, none⟩ = some a1 ∧ w.cell? ⟨g, 2, none⟩ = some a2) ∧ (w.frozen? ⟨g, 0, none⟩ = false ∧ w.frozen? ⟨g, 1, none⟩ = false ∧ w.frozen? ⟨g, 2, none⟩ = false) := by
  refine ⟨⟨?_, ?_, ?_⟩, ⟨?_, ?_, ?_⟩⟩
  all_goals first | (simp [World.cell?, h]; done) | (simp [World.frozen?, h]; done)
theorem row3_put {w : World} {g : Nat} {t : TypeId} {a0 a1 a2 : Value} (h : w.heap[g]? = some (.cells #[a0, a1, a2] t (0, 0))) (b0 b1 b2 : Value) (B : Nat) (hB : B ≤ g) :
    (((w.setCell ⟨g, 0, none⟩ b0).setCell ⟨g, 1, none⟩ b1).setCell ⟨g, 2, none⟩ b2).heap[g]? = some (.cells #[b0, b1, b2] t (0, 0)) ∧ Below B w (((w.setCell ⟨g, 0, none⟩ b0).setCell ⟨g, 1, none⟩ b1).setCell ⟨g, 2, none⟩ b2) := by
  have o0 : Below B w w := Below.refl _ w
  have h1 : (w.setCell ⟨g, 0, none⟩ b0).heap[g]? = some (.cells #[b0, a1, a2] t (0, 0)) := heap_setCell_same w g 0 _ _ b0 h
  have o1 : Below B w (w.setCell ⟨g, 0, none⟩ b0) := o0.setCell hB _
  generalize w.setCell ⟨g, 0, none⟩ b0 = w1 at h1 o1 ⊢
  clear h o0
  have h2 : (w1.setCell ⟨g, 1, none⟩ b1).heap[g]? = some (.cells #[b0, b1, a2] t (0, 0)) := heap_setCell_same w1 g 1 _ _ b1 h1
  have o2 : Below B w (w1.setCell ⟨g, 1, none⟩ b1) := o1.setCell hB _
  generalize w1.setCell ⟨g, 1, none⟩ b1 = w2 at h2 o2 ⊢
  clear h1 o1
  have h3 : (w2.setCell ⟨g, 2, none⟩ b2).heap[g]? = some (.cells #[b0, b1, b2] t (0, 0)) := heap_setCell_same w2 g 2 _ _ b2 h2
  have o3 : Below B w (w2.setCell ⟨g, 2, none⟩ b2) := o2.setCell hB _
  exact ⟨h3, o3⟩
theorem row4_at {w : World} {g : Nat} {t : TypeId} {a0 a1 a2 a3 : Value} (h : w.heap[g]? = some (.cells #[a0, a1, a2, a3] t (0, 0))) :
    (w.cell? ⟨g, 0, none⟩ = some a0 ∧ w.cell? ⟨g, 1, none⟩ = some a1 ∧ w.cell? ⟨g, 2, none⟩ = some a2 ∧ w.cell? ⟨g, 3, none⟩ = some a3) ∧ (w.frozen? ⟨g, 0, none⟩ = false ∧ w.frozen? ⟨g, 1, none⟩ = false ∧ w.frozen? ⟨g, 2, none⟩ = false ∧ w.frozen? ⟨g, 3, none⟩ = false) := by
  refine ⟨⟨?_, ?_, ?_, ?_⟩, ⟨?_, ?_, ?_, ?_⟩⟩
  all_goals first | (simp [World.cell?, h]; done) | (simp [World.frozen?, h]; done)
theorem row4_put {w : World} {g : Nat} {t : TypeId} {a0 a1 a2 a3 : Value} (h : w.heap[g]? = some (.cells #[a0, a1, a2, a3] t (0, 0))) (b0 b1 b2 b3 : Value) (B : Nat) (hB : B ≤ g) :
    ((((w.setCell ⟨g, 0, none⟩ b0).setCell ⟨g, 1, none⟩ b1).setCell ⟨g, 2, none⟩ b2).setCell ⟨g, 3, none⟩ b3).heap[g]? = some (.cells #[b0, b1, b2, b3] t (0, 0)) ∧ Below B w ((((w.setCell ⟨g, 0, none⟩ b0).setCell ⟨g, 1, none⟩ b1).setCell ⟨g, 2, none⟩ b2).setCell ⟨g, 3, none⟩ b3) := by
  have o0 : Below B w w := Below.refl _ w
  have h1 : (w.setCell ⟨g, 0, none⟩ b0).heap[g]? = some (.cells #[b0, a1, a2, a3] t (0, 0)) := heap_setCell_same w g 0 _ _ b0 h
  have o1 : Below B w (w.setCell ⟨g, 0, none⟩ b0) := o0.setCell hB _
  generalize w.setCell ⟨g, 0, none⟩ b0 = w1 at h1 o1 ⊢
  clear h o0
  have h2 : (w1.setCell ⟨g, 1, none⟩ b1).heap[g]? = some (.cells #[b0, b1, a2, a3] t (0, 0)) := heap_setCell_same w1 g 1 _ _ b1 h1
  have o2 : Below B w (w1.setCell ⟨g, 1, none⟩ b1) := o1.setCell hB _
  generalize w1.setCell ⟨g, 1, none⟩ b1 = w2 at h2 o2 ⊢
  clear h1 o1
  have h3 : (w2.setCell ⟨g, 2, none⟩ b2).heap[g]? = some (.cells #[b0, b1, b2, a3] t (0, 0)) := heap_setCell_same w2 g 2 _ _ b2 h2
  have o3 : Below B w (w2.setCell ⟨g, 2, none⟩ b2) := o2.setCell hB _
  generalize w2.setCell ⟨g, 2, none⟩ b2 = w3 at h3 o3 ⊢
  clear h2 o2
  have h4 : (w3.setCell ⟨g, 3, none⟩ b3).heap[g]? = some (.cells #[b0, b1, b2, b3] t (0, 0)) := heap_setCell_same w3 g 3 _ _ b3 h3
  have o4 : Below B w (w3.setCell ⟨g, 3, none⟩ b3) := o3.setCell hB _
  exact ⟨h4, o4⟩
theorem row9_at {w : World} {g : Nat} {t : TypeId} {a0 a1 a2 a3 a4 a5 a6 a7 a8 : Value} (h : w.heap[g]? = some (.cells #[a0, a1, a2, a3, a4, a5, a6, a7, a8] t (0, 0))) :
    (w.cell? ⟨g, 0, none⟩ = some a0 ∧ w.cell? ⟨g, 1, none⟩ = some a1 ∧ w.cell? ⟨g, 2, none⟩ = some a2 ∧ w.cell? ⟨g, 3, none⟩ = some a3 ∧ w.cell? ⟨g, 4, none⟩ = some a4 ∧ w.cell? ⟨g, 5, none⟩ = some a5 ∧ w.cell? ⟨g, 6, none⟩ = some a6 ∧ w.cell? ⟨g, 7, none⟩ = some a7 ∧ w.cell? ⟨g, 8, none⟩ = some a8) ∧ (w.frozen? ⟨g, 0, none⟩ = false ∧ w.frozen? ⟨g, 1, none⟩ = false ∧ w.frozen? ⟨g, 2, none⟩ = false ∧ w.frozen? ⟨g, 3, none⟩ = false ∧ w.frozen? ⟨g, 4, none⟩ = false ∧ w.frozen? ⟨g, 5, none⟩ = false ∧ w.frozen? ⟨g, 6, none⟩ = false ∧ w.frozen? ⟨g, 7, none⟩ = false ∧ w.frozen? ⟨g, 8, none⟩ = false) := by
  refine ⟨⟨?_, ?_, ?_, ?_, ?_, ?_, ?_, ?_, ?_⟩, ⟨?_, ?_, ?_, ?_, ?_, ?_, ?_, ?_, ?_⟩⟩
  all_goals first | (simp [World.cell?, h]; done) | (simp [World.frozen?, h]; done)
theorem row9_put {w : World} {g : Nat} {t : TypeId} {a0 a1 a2 a3 a4 a5 a6 a7 a8 : Value} (h : w.heap[g]? = some (.cells #[a0, a1, a2, a3, a4, a5, a6, a7, a8] t (0, 0))) (b0 b1 b2 b3 b4 b5 b6 b7 b8 : Value) (B : Nat) (hB : B ≤ g) :
    (((((((((w.setCell ⟨g, 0, none⟩ b0).setCell ⟨g, 1, none⟩ b1).setCell ⟨g, 2, none⟩ b2).setCell ⟨g, 3, none⟩ b3).setCell ⟨g, 4, none⟩ b4).setCell ⟨g, 5, none⟩ b5).setCell ⟨g, 6, none⟩ b6).setCell ⟨g, 7, none⟩ b7).setCell ⟨g, 8, none⟩ b8).heap[g]? = some (.cells #[b0, b1, b2, b3, b4, b5, b6, b7, b8] t (0, 0)) ∧ Below B w (((((((((w.setCell ⟨g, 0, none⟩ b0).setCell ⟨g, 1, none⟩ b1).setCell ⟨g, 2, none⟩ b2).setCell ⟨g, 3, none⟩ b3).setCell ⟨g, 4, none⟩ b4).setCell ⟨g, 5, none⟩ b5).setCell ⟨g, 6, none⟩ b6).setCell ⟨g, 7, none⟩ b7).setCell ⟨g, 8, none⟩ b8) := by
  have o0 : Below B w w := Below.refl _ w
  have h1 : (w.setCell ⟨g, 0, none⟩ b0).heap[g]? = some (.cells #[b0, a1, a2, a3, a4, a5, a6, a7, a8] t (0, 0)) := heap_setCell_same w g 0 _ _ b0 h
  have o1 : Below B w (w.setCell ⟨g, 0, none⟩ b0) := o0.setCell hB _
  generalize w.setCell ⟨g, 0, none⟩ b0 = w1 at h1 o1 ⊢
  clear h o0
  have h2 : (w1.setCell ⟨g, 1, none⟩ b1).heap[g]? = some (.cells #[b0, b1, a2, a3, a4, a5, a6, a7, a8] t (0, 0)) := heap_setCell_same w1 g 1 _ _ b1 h1
  have o2 : Below B w (w1.setCell ⟨g, 1, none⟩ b1) := o1.setCell hB _
  generalize w1.setCell ⟨g, 1, none⟩ b1 = w2 at h2 o2 ⊢
  clear h1 o1
  have h3 : (w2.setCell ⟨g, 2, none⟩ b2).heap[g]? = some (.cells #[b0, b1, b2, a3, a4, a5, a6, a7, a8] t (0, 0)) := heap_setCell_same w2 g 2 _ _ b2 h2
  have o3 : Below B w (w2.setCell ⟨g, 2, none⟩ b2) := o2.setCell hB _
  generalize w2.setCell ⟨g, 2, none⟩ b2 = w3 at h3 o3 ⊢
  clear h2 o2
  have h4 : (w3.setCell ⟨g, 3, none⟩ b3).heap[g]? = some (.cells #[b0, b1, b2, b3, a4, a5, a6, a7, a8] t (0, 0)) := heap_setCell_same w3 g 3 _ _ b3 h3
  have o4 : Below B w (w3.setCell ⟨g, 3, none⟩ b3) := o3.setCell hB _
  generalize w3.setCell ⟨g, 3, none⟩ b3 = w4 at h4 o4 ⊢
  clear h3 o3
  have h5 : (w4.setCell ⟨g, 4, none⟩ b4).heap[g]? = some (.cells #[b0, b1, b2, b3, b4, a5, a6, a7, a8] t (0, 0)) := heap_setCell_same w4 g 4 _ _ b4 h4
  have o5 : Below B w (w4.setCell ⟨g, 4, none⟩ b4) := o4.setCell hB _
  generalize w4.setCell ⟨g, 4, none⟩ b4 = w5 at h5 o5 ⊢
  clear h4 o4
  have h6 : (w5.setCell ⟨g, 5, none⟩ b5).heap[g]? = some (.cells #[b0, b1, b2, b3, b4, b5, a6, a7, a8] t (0, 0)) := heap_setCell_same w5 g 5 _ _ b5 h5
  have o6 : Below B w (w5.setCell ⟨g, 5, none⟩ b5) := o5.setCell hB _
  generalize w5.setCell ⟨g, 5, none⟩ b5 = w6 at h6 o6 ⊢
  clear h5 o5
  have h7 : (w6.setCell ⟨g, 6, none⟩ b6).heap[g]? = some (.cells #[b0, b1, b2, b3, b4, b5, b6, a7, a8] t (0, 0)) := heap_setCell_same w6 g 6 _ _ b6 h6
  have o7 : Below B w (w6.setCell ⟨g, 6, none⟩ b6) := o6.setCell hB _
  generalize w6.setCell ⟨g, 6, none⟩ b6 = w7 at h7 o7 ⊢
  clear h6 o6
  have h8 : (w7.setCell ⟨g, 7, none⟩ b7).heap[g]? = some (.cells #[b0, b1, b2, b3, b4, b5, b6, b7, a8] t (0, 0)) := heap_setCell_same w7 g 7 _ _ b7 h7
  have o8 : Below B w (w7.setCell ⟨g, 7, none⟩ b7) := o7.setCell hB _
  generalize w7.setCell ⟨g, 7, none⟩ b7 = w8 at h8 o8 ⊢
  clear h7 o7
  have h9 : (w8.setCell ⟨g, 8, none⟩ b8).heap[g]? = some (.cells #[b0, b1, b2, b3, b4, b5, b6, b7, b8] t (0, 0)) := heap_setCell_same w8 g 8 _ _ b8 h8
  have o9 : Below B w (w8.setCell ⟨g, 8, none⟩ b8) := o8.setCell hB _
  exact ⟨h9, o9⟩
/-- The first that is not 0. -/
def orL : List Int → Int
  | [] => 0
  | x :: l => if x = 0 then orL l else x
/-- Which of two origins is later. -/
theorem aft_or (v a n v' a' n' : Int) : decide (orL [cmpI v v', cmpI a a', cmpI n n'] > 0) = MM.aft (v, a, n) (v', a', n') := by
  show _ = decide (v' < v ∨ v' = v ∧ (a' < a ∨ a' = a ∧ n' < n))
  rw [decide_eq_decide]
  unfold orL orL orL orL cmpI
  (repeat' split) <;> omega
theorem rd3 (w : World) (x y z : Int) : RdI (w.alloc (.cells #[.int .i64 x, .int .i64 y, .int .i64 z] 3)) (.slice (some ⟨w.heap.size, 0, none⟩) 3 3) [x, y, z] := (ownG_fresh hlI 3 w [x, y, z] (by unfold maxLen; simp)).rd
theorem rd2 (w : World) (x y : Int) : RdI (w.alloc (.cells #[.int .i64 x, .int .i64 y] 3)) (.slice (some ⟨w.heap.size, 0, none⟩) 2 2) [x, y] := (ownG_fresh hlI 3 w [x, y] (by unfold maxLen; simp)).rd
/-- The later of two entries. -/
theorem WBox.fresh (w : World) (t : TypeId) (a b c d e : Int) : (fun (w' : World) (B : Nat) => w'.cell? ⟨B, 0, none⟩ = some (.int .i64 a) ∧ w'.cell? ⟨B, 1, none⟩ = some (.int .i64 b) ∧ w'.cell? ⟨B, 2, none⟩ = some (.int .i64 c) ∧ w'.cell? ⟨B, 3, none⟩ = some (.int .i64 d) ∧ w'.cell? ⟨B, 4, none⟩ = some (.int .i64 e))
    (w.alloc (.cells #[.int .i64 a, .int .i64 b, .int .i64 c, .int .i64 d, .int .i64 e] t)) w.heap.size :=
  ⟨by simp [World.cell?_alloc_new], by simp [World.cell?_alloc_new], by simp [World.cell?_alloc_new], by simp [World.cell?_alloc_new], by simp [World.cell?_alloc_new]⟩
/-- Two entries, boxed one behind the other. -/
theorem two_boxes (w : World) (t : TypeId) (a b c d e a' b' c' d' e' : Int) :
    ∃ w1, (w.alloc (.cells #[.int .i64 a, .int .i64 b, .int .i64 c, .int .i64 d, .int .i64 e] t)).alloc (.cells #[.int .i64 a', .int .i64 b', .int .i64 c', .int .i64 d', .int .i64 e'] t) = w1 ∧ Below w.heap.size w w1 ∧ w1.heap.size = w.heap.size + 2 ∧
      (w1.cell? ⟨w.heap.size, 0, none⟩ = some (.int .i64 a) ∧ w1.cell? ⟨w.heap.size, 1, none⟩ = some (.int .i64 b) ∧ w1.cell? ⟨w.heap.size, 2, none⟩ = some (.int .i64 c) ∧ w1.cell? ⟨w.heap.size, 3, none⟩ = some (.int .i64 d) ∧ w1.cell? ⟨w.heap.size, 4, none⟩ = some (.int .i64 e)) ∧
      (w1.cell? ⟨w.heap.size + 1, 0, none⟩ = some (.int .i64 a') ∧ w1.cell? ⟨w.heap.size + 1, 1, none⟩ = some (.int .i64 b') ∧ w1.cell? ⟨w.heap.size + 1, 2, none⟩ = some (.int .i64 c') ∧ w1.cell? ⟨w.heap.size + 1, 3, none⟩ = some (.int .i64 d') ∧ w1.cell? ⟨w.heap.size + 1, 4, none⟩ = some (.int .i64 e')) := by
  have h0 := WBox.fresh w t a b c d e
  have hb0 := below_fresh w (.cells #[.int .i64 a, .int .i64 b, .int .i64 c, .int .i64 d, .int .i64 e] t)
  have hs0 := World.size_alloc w (.cells #[.int .i64 a, .int .i64 b, .int .i64 c, .int .i64 d, .int .i64 e] t)
  generalize w.alloc (.cells #[.int .i64 a, .int .i64 b, .int .i64 c, .int .i64 d, .int .i64 e] t) = w0 at *
  have h1 := WBox.fresh w0 t a' b' c' d' e'
  have hb1 := below_fresh w0 (.cells #[.int .i64 a', .int .i64 b', .int .i64 c', .int .i64 d', .int .i64 e'] t)
  have hs1 := World.size_alloc w0 (.cells #[.int .i64 a', .int .i64 b', .int .i64 c', .int .i64 d', .int .i64 e'] t)
  refine ⟨_, rfl, bnext hb0 hb1, by omega, ⟨below_cell hb1 h0.1, below_cell hb1 h0.2.1, below_cell hb1 h0.2.2.1, below_cell hb1 h0.2.2.2.1, below_cell hb1 h0.2.2.2.2⟩, ?_⟩
  rw [← hs0]
  exact h1
/-- Two entries and a third block for the result. -/
theorem three_boxes (w : World) (t : TypeId) (a b c d e a' b' c' d' e' : Int) :
    ∃ w1, ((w.alloc (.cells #[.int .i64 a, .int .i64 b, .int .i64 c, .int .i64 d, .int .i64 e] t)).alloc (.cells #[.int .i64 a', .int .i64 b', .int .i64 c', .int .i64 d', .int .i64 e'] t)).alloc (.cells #[.int .i64 0, .int .i64 0, .int .i64 0, .int .i64 0, .int .i64 0] t) = w1 ∧ Below w.heap.size w w1 ∧ w1.heap.size = w.heap.size + 3 ∧
      (w1.cell? ⟨w.heap.size, 0, none⟩ = some (.int .i64 a) ∧ w1.cell? ⟨w.heap.size, 1, none⟩ = some (.int .i64 b) ∧ w1.cell? ⟨w.heap.size, 2, none⟩ = some (.int .i64 c) ∧ w1.cell? ⟨w.heap.size, 3, none⟩ = some (.int .i64 d) ∧ w1.cell? ⟨w.heap.size, 4, none⟩ = some (.int .i64 e)) ∧
      (w1.cell? ⟨w.heap.size + 1, 0, none⟩ = some (.int .i64 a') ∧ w1.cell? ⟨w.heap.size + 1, 1, none⟩ = some (.int .i64 b') ∧ w1.cell? ⟨w.heap.size + 1, 2, none⟩ = some (.int .i64 c') ∧ w1.cell? ⟨w.heap.size + 1, 3, none⟩ = some (.int .i64 d') ∧ w1.cell? ⟨w.heap.size + 1, 4, none⟩ = some (.int .i64 e')) ∧
      w1.heap[w.heap.size + 1 + 1]? = some (.cells #[.int .i64 0, .int .i64 0, .int .i64 0, .int .i64 0, .int .i64 0] t (0, 0)) := by
  obtain ⟨w0, h0, hb0, hs0, p, q⟩ := two_boxes w t a b c d e a' b' c' d' e'
  rw [h0]
  have hb1 := below_fresh w0 (.cells #[.int .i64 0, .int .i64 0, .int .i64 0, .int .i64 0, .int .i64 0] t)
  have hs1 := World.size_alloc w0 (.cells #[.int .i64 0, .int .i64 0, .int .i64 0, .int .i64 0, .int .i64 0] t)
  have hn := heap_alloc_new w0 (.cells #[.int .i64 0, .int .i64 0, .int .i64 0, .int .i64 0, .int .i64 0] t)
  rw [hs0] at hn
  have hn' := (show w.heap.size + 2 = w.heap.size + 1 + 1 by omega) ▸ hn
  exact ⟨_, rfl, bnext hb0 hb1, by omega, ⟨below_cell hb1 p.1, below_cell hb1 p.2.1, below_cell hb1 p.2.2.1, below_cell hb1 p.2.2.2.1, below_cell hb1 p.2.2.2.2⟩, ⟨below_cell hb1 q.1, below_cell hb1 q.2.1, below_cell hb1 q.2.2.1, below_cell hb1 q.2.2.2.1, below_cell hb1 q.2.2.2.2⟩, hn'⟩
end Go.Proofs.YteiicflodobpnaaGreatDoor
