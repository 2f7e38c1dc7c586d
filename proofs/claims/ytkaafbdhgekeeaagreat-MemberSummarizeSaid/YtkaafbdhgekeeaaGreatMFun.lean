/-
  The small calls: where a weight, a rule comes from; which of two is later; the first that is not 0. No conditions beyond that the lists read.
-/
import Derived.Test.YtkaafbdhgekeeaaGreatMBase
namespace Go.Proofs.YtkaafbdhgekeeaaGreat
open Go.RowKit
open JM (Chg)
open MM (Mem Ent Sm Tri)

theorem errE : IsElem Tryz.prog 102 29 1 8 encI where
  ht := Tryz.underlying102
  info := by
    obtain ⟨i0, hi, hz0, hz1, hz2⟩ := info_parts (show (Tryz.prog.info? 29).map (fun i => (i.zero, i.size, i.bytes)) = some (some (.int .i64 0), 1, 8) by kernel_rfl)
    exact ⟨i0, _, hi, hz0, hz1, hz2, rfl⟩
  len := fun _ => rfl
  one := by intro x u hu; simp [encI] at hu; subst hu; rfl
  pos := by decide
  fits := by decide
theorem atEr {w : World} {a : Option Addr} {n c : Nat} {xs : List Int} (h : RdI w (.slice a n c) xs) (k : Nat) (x : Int) (hk : xs[k]? = some x) :
    ∃ b o, (∀ w0, (Instr.indexAt 102 (.slice a n c) (.int .i64 (k : Int))).run Tryz.prog w0 = .ok (.pointer (some ⟨b, o, none⟩)) w0) ∧ b < w.heap.size ∧ w.cell? ⟨b, o, none⟩ = some (.int .i64 x) := by
  obtain ⟨b, o, h1, h2, h3⟩ := h.at_ errE k x hk
  exact ⟨b, o, h1, h2, h3 0 _ rfl⟩

theorem heap_new2 (w : World) (o1 o2 : Obj) : ((w.alloc o1).alloc o2).heap[w.heap.size + 1]? = some o2 := by
  have := heap_alloc_new (w.alloc o1) o2
  rwa [World.size_alloc] at this
theorem heap_new3 (w : World) (o1 o2 o3 : Obj) : (((w.alloc o1).alloc o2).alloc o3).heap[w.heap.size + 2]? = some o3 := by
  have := heap_alloc_new ((w.alloc o1).alloc o2) o3
  rwa [World.size_alloc, World.size_alloc] at this
theorem row5_at {w : World} {g : Nat} {t : TypeId} {a0 a1 a2 a3 a4 : Value} (h : w.heap[g]? = some (.cells #[a0, a1, a2, a3, a4] t (0, 0))) :
    (w.cell? ⟨g, 0, none⟩ = some a0 ∧ w.cell? ⟨g, 1, none⟩ = some a1 ∧ w.cell? ⟨g, 2, none⟩ = some a2 ∧ w.cell? ⟨g, 3, none⟩ = some a3 ∧ w.cell? ⟨g, 4, none⟩ = some a4) ∧ (w.frozen? ⟨g, 0, none⟩ = false ∧ w.frozen? ⟨g, 1, none⟩ = false ∧ w.frozen? ⟨g, 2, none⟩ = false ∧ w.frozen? ⟨g, 3, none⟩ = false ∧ w.frozen? ⟨g, 4, none⟩ = false) := by
  refine ⟨⟨?_, ?_, ?_, ?_, ?_⟩, ⟨?_, ?_, ?_, ?_, ?_⟩⟩
  all_goals first | (simp [World.cell?, h]; done) | (simp [World.frozen?, h]; done)
theorem row5_put {w : World} {g : Nat} {t : TypeId} {a0 a1 a2 a3 a4 : Value} (h : w.heap[g]? = some (.cells #[a0, a1, a2, a3, a4] t (0, 0))) (b0 b1 b2 b3 b4 : Value) (B : Nat) (hB : B ≤ g) :
    (((((w.setCell ⟨g, 0, none⟩ b0).setCell ⟨g, 1, none⟩ b1).setCell ⟨g, 2, none⟩ b2).setCell ⟨g, 3, none⟩ b3).setCell ⟨g, 4, none⟩ b4).heap[g]? = some (.cells #[b0, b1, b2, b3, b4] t (0, 0)) ∧ Below B w (((((w.setCell ⟨g, 0, none⟩ b0).setCell ⟨g, 1, none⟩ b1).setCell ⟨g, 2, none⟩ b2).setCell ⟨g, 3, none⟩ b3).setCell ⟨g, 4, none⟩ b4) := by
  have o0 : Below B w w := Below.refl _ w
  have h1 : (w.setCell ⟨g, 0, none⟩ b0).heap[g]? = some (.cells #[b0, a1, a2, a3, a4] t (0, 0)) := heap_setCell_same w g 0 _ _ b0 h
  have o1 : Below B w (w.setCell ⟨g, 0, none⟩ b0) := o0.setCell hB _
  generalize w.setCell ⟨g, 0, none⟩ b0 = w1 at h1 o1 ⊢
  clear h o0
  have h2 : (w1.setCell ⟨g, 1, none⟩ b1).heap[g]? = some (.cells #[b0, b1, a2, a3, a4] t (0, 0)) := heap_setCell_same w1 g 1 _ _ b1 h1
  have o2 : Below B w (w1.setCell ⟨g, 1, none⟩ b1) := o1.setCell hB _
  generalize w1.setCell ⟨g, 1, none⟩ b1 = w2 at h2 o2 ⊢
  clear h1 o1
  have h3 : (w2.setCell ⟨g, 2, none⟩ b2).heap[g]? = some (.cells #[b0, b1, b2, a3, a4] t (0, 0)) := heap_setCell_same w2 g 2 _ _ b2 h2
  have o3 : Below B w (w2.setCell ⟨g, 2, none⟩ b2) := o2.setCell hB _
  generalize w2.setCell ⟨g, 2, none⟩ b2 = w3 at h3 o3 ⊢
  clear h2 o2
  have h4 : (w3.setCell ⟨g, 3, none⟩ b3).heap[g]? = some (.cells #[b0, b1, b2, b3, a4] t (0, 0)) := heap_setCell_same w3 g 3 _ _ b3 h3
  have o4 : Below B w (w3.setCell ⟨g, 3, none⟩ b3) := o3.setCell hB _
  generalize w3.setCell ⟨g, 3, none⟩ b3 = w4 at h4 o4 ⊢
  clear h3 o3
  have h5 : (w4.setCell ⟨g, 4, none⟩ b4).heap[g]? = some (.cells #[b0, b1, b2, b3, b4] t (0, 0)) := heap_setCell_same w4 g 4 _ _ b4 h4
  have o5 : Below B w (w4.setCell ⟨g, 4, none⟩ b4) := o4.setCell hB _
  exact ⟨h5, o5⟩
theorem row3_at {w : World} {g : Nat} {t : TypeId} {a0 a1 a2 : Value} (h : w.heap[g]? = some (.cells #[a0, a1, a2] t (0, 0))) :
    (w.cell? ⟨g, 0, none⟩ = some a0 ∧ w.cell? ⟨g, 1, none⟩ = some a1 ∧ w.cell? ⟨g, 2, none⟩ = some a2) ∧ (w.frozen? ⟨g, 0, none⟩ = false ∧ w.frozen? ⟨g, 1, none⟩ = false ∧ w.frozen? ⟨g, 2, none⟩ = false) := by
  refine ⟨⟨?_, ?_, ?_⟩, ⟨?_, ?_, ?_⟩⟩
  all_goals first | (simp [World.cell?, h]; done) | (simp [World.frozen?, h]; done)
theorem row3_put {w : World} {g : Nat} {t : TypeId} {a0 a1 a2 : Value} (h : w.heap[g]? = some (.cells #[a0, a1, a2] t (0, 0))) (b0 b1 b2 : Value) (B : Nat) (hB : B ≤ g) :
    (((w.setCell ⟨g, 0, none⟩ b0).setCell ⟨g, 1, none⟩ b1).setCell ⟨g, 2, none⟩ b2).heap[g]? = some (.cells #[b0, b1, b2] t (0, 0)) ∧ Below B w (((w.setCell ⟨g, 0, none⟩ b0).setCell ⟨g, 1, none⟩ b1).setCell ⟨g, 2, none⟩ b2) := by
  have o0 : Below B w w := Below.refl _ w
  have h1 : (w.setCell ⟨g, 0, none⟩ b0).heap[g]? = some (.cells #[b0, a1, a2] t (0, 0)) := heap_setCell_same w g 0 _ _ b0 h
  have o1 : Below B w (w.setCell ⟨g, 0, none⟩ b0) := o0.setCell hB _
  generalize w.setCell ⟨g, 0, none⟩ b0 = w1 at h1 o1 ⊢
  clear h o0
  have h2 : (w1.setCell ⟨g, 1, none⟩ b1).heap[g]? = some (.cells #[b0, b1, a2] t (0, 0)) := heap_setCell_same w1 g 1 _ _ b1 h1
  have o2 : Below B w (w1.setCell ⟨g, 1, none⟩ b1) := o1.setCell hB _
  generalize w1.setCell ⟨g, 1, none⟩ b1 = w2 at h2 o2 ⊢
  clear h1 o1
  have h3 : (w2.setCell ⟨g, 2, none⟩ b2).heap[g]? = some (.cells #[b0, b1, b2] t (0, 0)) := heap_setCell_same w2 g 2 _ _ b2 h2
  have o3 : Below B w (w2.setCell ⟨g, 2, none⟩ b2) := o2.setCell hB _
  exact ⟨h3, o3⟩
theorem row4_at {w : World} {g : Nat} {t : TypeId} {a0 a1 a2 a3 : Value} (h : w.heap[g]? = some (.cells #[a0, a1, a2, a3] t (0, 0))) :
    (w.cell? ⟨g, 0, none⟩ = some a0 ∧ w.cell? ⟨g, 1, none⟩ = some a1 ∧ w.cell? ⟨g, 2, none⟩ = some a2 ∧ w.cell? ⟨g, 3, none⟩ = some a3) ∧ (w.frozen? ⟨g, 0, none⟩ = false ∧ w.frozen? ⟨g, 1, none⟩ = false ∧ w.frozen? ⟨g, 2, none⟩ = false ∧ w.frozen? ⟨g, 3, none⟩ = false) := by
  refine ⟨⟨?_, ?_, ?_, ?_⟩, ⟨?_, ?_, ?_, ?_⟩⟩
  all_goals first | (simp [World.cell?, h]; done) | (simp [World.frozen?, h]; done)
theorem row4_put {w : World} {g : Nat} {t : TypeId} {a0 a1 a2 a3 : Value} (h : w.heap[g]? = some (.cells #[a0, a1, a2, a3] t (0, 0))) (b0 b1 b2 b3 : Value) (B : Nat) (hB : B ≤ g) :
    ((((w.setCell ⟨g, 0, none⟩ b0).setCell ⟨g, 1, none⟩ b1).setCell ⟨g, 2, none⟩ b2).setCell ⟨g, 3, none⟩ b3).heap[g]? = some (.cells #[b0, b1, b2, b3] t (0, 0)) ∧ Below B w ((((w.setCell ⟨g, 0, none⟩ b0).setCell ⟨g, 1, none⟩ b1).setCell ⟨g, 2, none⟩ b2).setCell ⟨g, 3, none⟩ b3) := by
  have o0 : Below B w w := Below.refl _ w
  have h1 : (w.setCell ⟨g, 0, none⟩ b0).heap[g]? = some (.cells #[b0, a1, a2, a3] t (0, 0)) := heap_setCell_same w g 0 _ _ b0 h
  have o1 : Below B w (w.setCell ⟨g, 0, none⟩ b0) := o0.setCell hB _
  generalize w.setCell ⟨g, 0, none⟩ b0 = w1 at h1 o1 ⊢
  clear h o0
  have h2 : (w1.setCell ⟨g, 1, none⟩ b1).heap[g]? = some (.cells #[b0, b1, a2, a3] t (0, 0)) := heap_setCell_same w1 g 1 _ _ b1 h1
  have o2 : Below B w (w1.setCell ⟨g, 1, none⟩ b1) := o1.setCell hB _
  generalize w1.setCell ⟨g, 1, none⟩ b1 = w2 at h2 o2 ⊢
  clear h1 o1
  have h3 : (w2.setCell ⟨g, 2, none⟩ b2).heap[g]? = some (.cells #[b0, b1, b2, a3] t (0, 0)) := heap_setCell_same w2 g 2 _ _ b2 h2
  have o3 : Below B w (w2.setCell ⟨g, 2, none⟩ b2) := o2.setCell hB _
  generalize w2.setCell ⟨g, 2, none⟩ b2 = w3 at h3 o3 ⊢
  clear h2 o2
  have h4 : (w3.setCell ⟨g, 3, none⟩ b3).heap[g]? = some (.cells #[b0, b1, b2, b3] t (0, 0)) := heap_setCell_same w3 g 3 _ _ b3 h3
  have o4 : Below B w (w3.setCell ⟨g, 3, none⟩ b3) := o3.setCell hB _
  exact ⟨h4, o4⟩
theorem row9_at {w : World} {g : Nat} {t : TypeId} {a0 a1 a2 a3 a4 a5 a6 a7 a8 : Value} (h : w.heap[g]? = some (.cells #[a0, a1, a2, a3, a4, a5, a6, a7, a8] t (0, 0))) :
    (w.cell? ⟨g, 0, none⟩ = some a0 ∧ w.cell? ⟨g, 1, none⟩ = some a1 ∧ w.cell? ⟨g, 2, none⟩ = some a2 ∧ w.cell? ⟨g, 3, none⟩ = some a3 ∧ w.cell? ⟨g, 4, none⟩ = some a4 ∧ w.cell? ⟨g, 5, none⟩ = some a5 ∧ w.cell? ⟨g, 6, none⟩ = some a6 ∧ w.cell? ⟨g, 7, none⟩ = some a7 ∧ w.cell? ⟨g, 8, none⟩ = some a8) ∧ (w.frozen? ⟨g, 0, none⟩ = false ∧ w.frozen? ⟨g, 1, none⟩ = false ∧ w.frozen? ⟨g, 2, none⟩ = false ∧ w.frozen? ⟨g, 3, none⟩ = false ∧ w.frozen? ⟨g, 4, none⟩ = false ∧ w.frozen? ⟨g, 5, none⟩ = false ∧ w.frozen? ⟨g, 6, none⟩ = false ∧ w.frozen? ⟨g, 7, none⟩ = false ∧ w.frozen? ⟨g, 8, none⟩ = false) := by
  refine ⟨⟨?_, ?_, ?_, ?_, ?_, ?_, ?_, ?_, ?_⟩, ⟨?_, ?_, ?_, ?_, ?_, ?_, ?_, ?_, ?_⟩⟩
  all_goals first | (simp [World.cell?, h]; done) | (simp [World.frozen?, h]; done)
theorem row9_put {w : World} {g : Nat} {t : TypeId} {a0 a1 a2 a3 a4 a5 a6 a7 a8 : Value} (h : w.heap[g]? = some (.cells #[a0, a1, a2, a3, a4, a5, a6, a7, a8] t (0, 0))) (b0 b1 b2 b3 b4 b5 b6 b7 b8 : Value) (B : Nat) (hB : B ≤ g) :
    (((((((((w.setCell ⟨g, 0, none⟩ b0).setCell ⟨g, 1, none⟩ b1).setCell ⟨g, 2, none⟩ b2).setCell ⟨g, 3, none⟩ b3).setCell ⟨g, 4, none⟩ b4).setCell ⟨g, 5, none⟩ b5).setCell ⟨g, 6, none⟩ b6).setCell ⟨g, 7, none⟩ b7).setCell ⟨g, 8, none⟩ b8).heap[g]? = some (.cells #[b0, b1, b2, b3, b4, b5, b6, b7, b8] t (0, 0)) ∧ Below B w (((((((((w.setCell ⟨g, 0, none⟩ b0).setCell ⟨g, 1, none⟩ b1).setCell ⟨g, 2, none⟩ b2).setCell ⟨g, 3, none⟩ b3).setCell ⟨g, 4, none⟩ b4).setCell ⟨g, 5, none⟩ b5).setCell ⟨g, 6, none⟩ b6).setCell ⟨g, 7, none⟩ b7).setCell ⟨g, 8, none⟩ b8) := by
  have o0 : Below B w w := Below.refl _ w
  have h1 : (w.setCell ⟨g, 0, none⟩ b0).heap[g]? = some (.cells #[b0, a1, a2, a3, a4, a5, a6, a7, a8] t (0, 0)) := heap_setCell_same w g 0 _ _ b0 h
  have o1 : Below B w (w.setCell ⟨g, 0, none⟩ b0) := o0.setCell hB _
  generalize w.setCell ⟨g, 0, none⟩ b0 = w1 at h1 o1 ⊢
  clear h o0
  have h2 : (w1.setCell ⟨g, 1, none⟩ b1).heap[g]? = some (.cells #[b0, b1, a2, a3, a4, a5, a6, a7, a8] t (0, 0)) := heap_setCell_same w1 g 1 _ _ b1 h1
  have o2 : Below B w (w1.setCell ⟨g, 1, none⟩ b1) := o1.setCell hB _
  generalize w1.setCell ⟨g, 1, none⟩ b1 = w2 at h2 o2 ⊢
  clear h1 o1
  have h3 : (w2.setCell ⟨g, 2, none⟩ b2).heap[g]? = some (.cells #[b0, b1, b2, a3, a4, a5, a6, a7, a8] t (0, 0)) := heap_setCell_same w2 g 2 _ _ b2 h2
  have o3 : Below B w (w2.setCell ⟨g, 2, none⟩ b2) := o2.setCell hB _
  generalize w2.setCell ⟨g, 2, none⟩ b2 = w3 at h3 o3 ⊢
  clear h2 o2
  have h4 : (w3.setCell ⟨g, 3, none⟩ b3).heap[g]? = some (.cells #[b0, b1, b2, b3, a4, a5, a6, a7, a8] t (0, 0)) := heap_setCell_same w3 g 3 _ _ b3 h3
  have o4 : Below B w (w3.setCell ⟨g, 3, none⟩ b3) := o3.setCell hB _
  generalize w3.setCell ⟨g, 3, none⟩ b3 = w4 at h4 o4 ⊢
  clear h3 o3
  have h5 : (w4.setCell ⟨g, 4, none⟩ b4).heap[g]? = some (.cells #[b0, b1, b2, b3, b4, a5, a6, a7, a8] t (0, 0)) := heap_setCell_same w4 g 4 _ _ b4 h4
  have o5 : Below B w (w4.setCell ⟨g, 4, none⟩ b4) := o4.setCell hB _
  generalize w4.setCell ⟨g, 4, none⟩ b4 = w5 at h5 o5 ⊢
  clear h4 o4
  have h6 : (w5.setCell ⟨g, 5, none⟩ b5).heap[g]? = some (.cells #[b0, b1, b2, b3, b4, b5, a6, a7, a8] t (0, 0)) := heap_setCell_same w5 g 5 _ _ b5 h5
  have o6 : Below B w (w5.setCell ⟨g, 5, none⟩ b5) := o5.setCell hB _
  generalize w5.setCell ⟨g, 5, none⟩ b5 = w6 at h6 o6 ⊢
  clear h5 o5
  have h7 : (w6.setCell ⟨g, 6, none⟩ b6).heap[g]? = some (.cells #[b0, b1, b2, b3, b4, b5, b6, a7, a8] t (0, 0)) := heap_setCell_same w6 g 6 _ _ b6 h6
  have o7 : Below B w (w6.setCell ⟨g, 6, none⟩ b6) := o6.setCell hB _
  generalize w6.setCell ⟨g, 6, none⟩ b6 = w7 at h7 o7 ⊢
  clear h6 o6
  have h8 : (w7.setCell ⟨g, 7, none⟩ b7).heap[g]? = some (.cells #[b0, b1, b2, b3, b4, b5, b6, b7, a8] t (0, 0)) := heap_setCell_same w7 g 7 _ _ b7 h7
  have o8 : Below B w (w7.setCell ⟨g, 7, none⟩ b7) := o7.setCell hB _
  generalize w7.setCell ⟨g, 7, none⟩ b7 = w8 at h8 o8 ⊢
  clear h7 o7
  have h9 : (w8.setCell ⟨g, 8, none⟩ b8).heap[g]? = some (.cells #[b0, b1, b2, b3, b4, b5, b6, b7, b8] t (0, 0)) := heap_setCell_same w8 g 8 _ _ b8 h8
  have o9 : Below B w (w8.setCell ⟨g, 8, none⟩ b8) := o8.setCell hB _
  exact ⟨h9, o9⟩
/-- The first that is not 0. -/
def orL : List Int → Int
  | [] => 0
  | x :: l => if x = 0 then orL l else x
set_option maxRecDepth 100000 in
set_option maxHeartbeats 1000000 in
theorem cOrI (v : Value) (xs : List Int) (w : World) (h : RdI w v xs) : Calls Tryz.prog 48 #[v] w fun e w' => e = .returned (.int .i64 (orL xs)) ∧ w = w' := by
  obtain ⟨ad, c, rfl, hc, hl⟩ := h.shape
  have H := Lib.hid h
  clear h
  obtain ⟨R, hR⟩ : ∃ R, R = orL xs := ⟨_, rfl⟩
  rw [← hR]
  have HR := Lib.hid (show R = orL (xs.drop 0) from hR)
  clear hR
  go_enter Tryz.func48, Tryz.ntmps48
  go_wp2
  go_loop [8] (fun i => ∃ k : Nat, k ≤ xs.length ∧ i = .int .i64 k ∧ Hid (R = orL (xs.drop k))) (fun i => xs.length - (intOf i).toNat)
  case atStart => exact ⟨0, Nat.zero_le _, rfl, HR⟩
  case round =>
    obtain ⟨k, hk, rfl, he⟩ := hrel
    clear HR
    by_cases hlt : k < xs.length
    · obtain ⟨b, o, hi, hb, c0⟩ := atI H.out k xs[k] (List.getElem?_eq_getElem hlt)
      have hq : (k : Int) < (xs.length : Int) := by omega
      have hdx := Lib.hid (drop_get hlt)
      generalize xs[k] = x at c0 hdx
      by_cases h0 : x = 0
      · have e2 := Lib.hid (show R = orL (xs.drop (k + 1)) by rw [he.out, hdx.out, orL, if_pos h0])
        subst h0
        clear he hdx
        go_wp2
        go_round
        case rel => exact ⟨k + 1, by omega, by go_num, e2⟩
        case measure => simp [intOf]; omega
      · have e2 := Lib.hid (show R = x by rw [he.out, hdx.out, orL, if_neg h0])
        have hne : (x != 0) = true := bne_t h0
        clear he hdx h0
        go_wp2
        go_ret
        rw [e2.out]
        exact ⟨rfl, rfl⟩
    · have hq : ¬ ((k : Int) < (xs.length : Int)) := by omega
      have e2 := Lib.hid (show R = 0 by rw [he.out, List.drop_of_length_le (by omega)]; rfl)
      clear he
      go_wp2
      go_ret
      rw [e2.out]
      exact ⟨rfl, rfl⟩
set_option maxRecDepth 100000 in
set_option maxHeartbeats 1000000 in
theorem cOrE (v : Value) (xs : List Int) (w : World) (h : RdI w v xs) : Calls Tryz.prog 35 #[v] w fun e w' => e = .returned (.int .i64 (orL xs)) ∧ w = w' := by
  obtain ⟨ad, c, rfl, hc, hl⟩ := h.shape
  have H := Lib.hid h
  clear h
  obtain ⟨R, hR⟩ : ∃ R, R = orL xs := ⟨_, rfl⟩
  rw [← hR]
  have HR := Lib.hid (show R = orL (xs.drop 0) from hR)
  clear hR
  go_enter Tryz.func35, Tryz.ntmps35
  go_wp2
  go_loop [8] (fun i => ∃ k : Nat, k ≤ xs.length ∧ i = .int .i64 k ∧ Hid (R = orL (xs.drop k))) (fun i => xs.length - (intOf i).toNat)
  case atStart => exact ⟨0, Nat.zero_le _, rfl, HR⟩
  case round =>
    obtain ⟨k, hk, rfl, he⟩ := hrel
    clear HR
    by_cases hlt : k < xs.length
    · obtain ⟨b, o, hi, hb, c0⟩ := atEr H.out k xs[k] (List.getElem?_eq_getElem hlt)
      have hq : (k : Int) < (xs.length : Int) := by omega
      have hdx := Lib.hid (drop_get hlt)
      generalize xs[k] = x at c0 hdx
      by_cases h0 : x = 0
      · have e2 := Lib.hid (show R = orL (xs.drop (k + 1)) by rw [he.out, hdx.out, orL, if_pos h0])
        subst h0
        clear he hdx
        go_wp2
        go_round
        case rel => exact ⟨k + 1, by omega, by go_num, e2⟩
        case measure => simp [intOf]; omega
      · have e2 := Lib.hid (show R = x by rw [he.out, hdx.out, orL, if_neg h0])
        have hne : (x != 0) = true := bne_t h0
        clear he hdx h0
        go_wp2
        go_ret
        rw [e2.out]
        exact ⟨rfl, rfl⟩
    · have hq : ¬ ((k : Int) < (xs.length : Int)) := by omega
      have e2 := Lib.hid (show R = 0 by rw [he.out, List.drop_of_length_le (by omega)]; rfl)
      clear he
      go_wp2
      go_ret
      rw [e2.out]
      exact ⟨rfl, rfl⟩

theorem org_ret1 {R : Ending → World → Prop} {a : Act} {w : World} {g : Nat} {x0 x1 x2 : Int} (hp : a.tmps.getD 2 undef = .pointer (some ⟨g, 0, none⟩)) (hg : w.heap[g]? = some (.cells #[.int .i64 x0, .int .i64 x1, .int .i64 x2] 78 (0, 0)))
    (hd : a.defers = []) (hR : R (.returned (ov x0 x1 x2)) w) : bodyPost Tryz.prog Tryz.f39 R .ret a w :=
  bodyPost_ret (results_cell_row (P := Tryz.prog) rfl a.tmps w g 78 _ _ _ hp hg Tryz.underlying78 rfl (by kernel_rfl)) hd hR
set_option maxRecDepth 100000 in
theorem cRuleOrigin (x y z : Value) (k c f v a n : Int) (w : World) : Calls Tryz.prog 39 #[sv x y z k c f v a n] w fun e w' => e = .returned (ov v a n) ∧ Below w.heap.size w w' := by
  go_enter Tryz.func39, Tryz.ntmps39
  go_wp2
  exact org_ret1 rfl (heap_new2 _ _ _) rfl ⟨rfl, bnext (below_fresh _ _) (below_fresh _ _)⟩
theorem org_ret2 {R : Ending → World → Prop} {a : Act} {w : World} {g : Nat} {x0 x1 x2 : Int} (hp : a.tmps.getD 2 undef = .pointer (some ⟨g, 0, none⟩)) (hg : w.heap[g]? = some (.cells #[.int .i64 x0, .int .i64 x1, .int .i64 x2] 78 (0, 0)))
    (hd : a.defers = []) (hR : R (.returned (ov x0 x1 x2)) w) : bodyPost Tryz.prog Tryz.f73 R .ret a w :=
  bodyPost_ret (results_cell_row (P := Tryz.prog) rfl a.tmps w g 78 _ _ _ hp hg Tryz.underlying78 rfl (by kernel_rfl)) hd hR
set_option maxRecDepth 100000 in
theorem cWeightOrigin (s t v a n : Int) (w : World) : Calls Tryz.prog 73 #[wv s t v a n] w fun e w' => e = .returned (ov v a n) ∧ Below w.heap.size w w' := by
  go_enter Tryz.func73, Tryz.ntmps73
  go_wp2
  exact org_ret2 rfl (heap_new2 _ _ _) rfl ⟨rfl, bnext (below_fresh _ _) (below_fresh _ _)⟩
theorem cNeg (v a n : Int) (w : World) : Calls Tryz.prog 74 #[ov v a n] w fun e w' => e = .returned (.bool (MM.neg (v, a, n))) ∧ Below w.heap.size w w' := by
  obtain ⟨R, hR⟩ : ∃ R, R = MM.neg (v, a, n) := ⟨_, rfl⟩
  rw [← hR]
  have HR := Lib.hid hR
  clear hR
  go_enter Tryz.func74, Tryz.ntmps74
  go_wp2
  all_goals
    go_ret
    refine ⟨ret_bool ?_, below_fresh _ _⟩
    rw [HR.out]
    clear HR
    show _ = decide (v < 0 ∨ a < 0 ∨ n < 0)
    rw [decide_eq_decide]
    (repeat' split at *) <;> omega

/-- Which of two origins is later. -/
theorem aft_or (v a n v' a' n' : Int) : decide (orL [cmpI v v', cmpI a a', cmpI n n'] > 0) = MM.aft (v, a, n) (v', a', n') := by
  show _ = decide (v' < v ∨ v' = v ∧ (a' < a ∨ a' = a ∧ n' < n))
  rw [decide_eq_decide]
  unfold orL orL orL orL cmpI
  (repeat' split) <;> omega
theorem rd3 (w : World) (x y z : Int) : RdI (w.alloc (.cells #[.int .i64 x, .int .i64 y, .int .i64 z] 3)) (.slice (some ⟨w.heap.size, 0, none⟩) 3 3) [x, y, z] := (ownG_fresh hlI 3 w [x, y, z] (by unfold maxLen; simp)).rd
theorem rd2 (w : World) (x y : Int) : RdI (w.alloc (.cells #[.int .i64 x, .int .i64 y] 3)) (.slice (some ⟨w.heap.size, 0, none⟩) 2 2) [x, y] := (ownG_fresh hlI 3 w [x, y] (by unfold maxLen; simp)).rd
set_option maxRecDepth 100000 in
set_option maxHeartbeats 1000000 in
theorem cAfter (v a n v' a' n' : Int) (w : World) : Calls Tryz.prog 53 #[ov v a n, ov v' a' n'] w fun e w' => e = .returned (.bool (MM.aft (v, a, n) (v', a', n'))) ∧ Below w.heap.size w w' := by
  have hb0 := below_fresh w (.cells #[.int .i64 v, .int .i64 a, .int .i64 n] 78)
  generalize hw0 : w.alloc (.cells #[.int .i64 v, .int .i64 a, .int .i64 n] 78) = w0 at hb0
  have hb1 := below_fresh w0 (.cells #[.int .i64 v', .int .i64 a', .int .i64 n'] 78)
  have p : w0.cell? ⟨w.heap.size, 0, none⟩ = some (.int .i64 v) ∧ w0.cell? ⟨w.heap.size, 1, none⟩ = some (.int .i64 a) ∧ w0.cell? ⟨w.heap.size, 2, none⟩ = some (.int .i64 n) := by
    rw [← hw0]; exact ⟨by simp [World.cell?_alloc_new], by simp [World.cell?_alloc_new], by simp [World.cell?_alloc_new]⟩
  have hs0 : w0.heap.size = w.heap.size + 1 := by rw [← hw0]; exact World.size_alloc _ _
  generalize hw1 : w0.alloc (.cells #[.int .i64 v', .int .i64 a', .int .i64 n'] 78) = w1 at hb1
  have q : w1.cell? ⟨w.heap.size + 1, 0, none⟩ = some (.int .i64 v') ∧ w1.cell? ⟨w.heap.size + 1, 1, none⟩ = some (.int .i64 a') ∧ w1.cell? ⟨w.heap.size + 1, 2, none⟩ = some (.int .i64 n') := by
    rw [← hw1, ← hs0]; exact ⟨by simp [World.cell?_alloc_new], by simp [World.cell?_alloc_new], by simp [World.cell?_alloc_new]⟩
  obtain ⟨p0, p1, p2⟩ : w1.cell? ⟨w.heap.size, 0, none⟩ = some (.int .i64 v) ∧ w1.cell? ⟨w.heap.size, 1, none⟩ = some (.int .i64 a) ∧ w1.cell? ⟨w.heap.size, 2, none⟩ = some (.int .i64 n) :=
    ⟨below_cell hb1 p.1, below_cell hb1 p.2.1, below_cell hb1 p.2.2⟩
  obtain ⟨q0, q1, q2⟩ := q
  have HB := Lib.hid (bnext hb0 hb1)
  have e := Lib.hid (aft_or v a n v' a' n')
  have H1 := Lib.hid (cCmp v v')
  have H2 := Lib.hid (cCmp a a')
  have H3 := Lib.hid (cCmp n n')
  generalize cmpI v v' = X at H1 e
  generalize cmpI a a' = Y at H2 e
  generalize cmpI n n' = Z at H3 e
  generalize MM.aft (v, a, n) (v', a', n') = R at e
  have HW0 := Lib.hid hw0
  have HW1 := Lib.hid hw1
  clear p hs0 hb0 hb1 hw0 hw1
  go_enter Tryz.func53, Tryz.ntmps53
  go_wp2
  rw [HW0.out, HW1.out]
  refine wp_region_still_tail 15 (by kernel_rfl) (by kernel_rfl) ?_
  simp only [List.take_succ_cons, List.take_zero, List.drop_succ_cons, List.drop_zero]
  iterate 4 still_step
  still_call (H1.out _)
  iterate 4 still_step
  still_call (H2.out _)
  iterate 4 still_step
  still_call (H3.out _)
  refine wpStill_nil ?_
  change wpList _ _ _ _ _ w1.drew
  have HB2 := Lib.hid (HB.out.drew)
  generalize w1.drew = w2 at HB2 ⊢
  have hb3 := below_fresh w2 (.cells #[.int .i64 X, .int .i64 Y, .int .i64 Z] 3)
  have hr := rd3 w2 X Y Z
  go_wp2_with fail
  refine (cOrI _ _ _ hr).mono ?_
  rintro e w4 ⟨rfl, rfl⟩
  generalize orL [X, Y, Z] = r at e
  go_wp2
  go_ret
  rw [e.out]
  exact ⟨rfl, bnext HB2.out hb3⟩
theorem wgt_ret1 {R : Ending → World → Prop} {a : Act} {w : World} {g : Nat} {x0 x1 x2 x3 x4 : Int} (hp : a.tmps.getD 4 undef = .pointer (some ⟨g, 0, none⟩)) (hg : w.heap[g]? = some (.cells #[.int .i64 x0, .int .i64 x1, .int .i64 x2, .int .i64 x3, .int .i64 x4] 62 (0, 0)))
    (hd : a.defers = []) (hR : R (.returned (wv x0 x1 x2 x3 x4)) w) : bodyPost Tryz.prog Tryz.f44 R .ret a w :=
  bodyPost_ret (results_cell_row (P := Tryz.prog) rfl a.tmps w g 62 _ _ _ hp hg Tryz.underlying62 rfl (by kernel_rfl)) hd hR
set_option maxRecDepth 100000 in
set_option maxHeartbeats 1000000 in
theorem cWeightEntry (a m : Int) (s0 : Value) (k s t v x y z : Int) (w : World) : Calls Tryz.prog 44 #[pv a m s0, cv k s t v x y z] w fun e w' => e = .returned (wv s t v a m) ∧ Below w.heap.size w w' := by
  go_enter Tryz.func44, Tryz.ntmps44
  go_wp2
  exact wgt_ret1 rfl (heap_new3 _ _ _ _) rfl ⟨rfl, bnext (bnext (below_fresh _ _) (below_fresh _ _)) (below_fresh _ _)⟩
theorem wgt_ret2 {R : Ending → World → Prop} {a : Act} {w : World} {g : Nat} {x0 x1 x2 x3 x4 : Int} (hp : a.tmps.getD 4 undef = .pointer (some ⟨g, 0, none⟩)) (hg : w.heap[g]? = some (.cells #[.int .i64 x0, .int .i64 x1, .int .i64 x2, .int .i64 x3, .int .i64 x4] 62 (0, 0)))
    (hd : a.defers = []) (hR : R (.returned (wv x0 x1 x2 x3 x4)) w) : bodyPost Tryz.prog Tryz.f57 R .ret a w :=
  bodyPost_ret (results_cell_row (P := Tryz.prog) rfl a.tmps w g 62 _ _ _ hp hg Tryz.underlying62 rfl (by kernel_rfl)) hd hR
theorem cFirstServer (x y : Int) (w : World) : Calls Tryz.prog 55 #[.int .i64 x, .int .i64 y] w fun e w' => e = .returned (.int .i64 x) ∧ w' = w := by
  go_enter Tryz.func55, Tryz.ntmps55
  go_wp2
  go_ret
  exact ⟨rfl, rfl⟩
set_option maxRecDepth 100000 in
set_option maxHeartbeats 1000000 in
theorem cCompareServers (s t v a n s' t' v' a' n' : Int) (w : World) : Calls Tryz.prog 49 #[wv s t v a n, wv s' t' v' a' n'] w fun e w' => e = .returned (.int .i64 (cmpI s s')) ∧ Below w.heap.size w w' := by
  have H1 := Lib.hid (cCmp s s')
  generalize cmpI s s' = X at H1
  go_enter Tryz.func49, Tryz.ntmps49
  go_wp2_with fail
  refine (H1.out _).mono ?_
  rintro e w4 ⟨rfl, rfl⟩
  go_wp2
  go_ret
  exact ⟨rfl, bnext (below_fresh _ _) (below_fresh _ _)⟩
set_option maxRecDepth 100000 in
set_option maxHeartbeats 1000000 in
theorem cSameServer (s t v a n s' t' v' a' n' : Int) (w : World) : Calls Tryz.prog 52 #[wv s t v a n, wv s' t' v' a' n'] w fun e w' => e = .returned (.bool (s == s')) ∧ Below w.heap.size w w' := by
  go_enter Tryz.func52, Tryz.ntmps52
  go_wp2
  go_ret
  exact ⟨rfl, bnext (below_fresh _ _) (below_fresh _ _)⟩

/-- The later of two entries. -/
theorem WBox.fresh (w : World) (t : TypeId) (a b c d e : Int) : (fun (w' : World) (B : Nat) => w'.cell? ⟨B, 0, none⟩ = some (.int .i64 a) ∧ w'.cell? ⟨B, 1, none⟩ = some (.int .i64 b) ∧ w'.cell? ⟨B, 2, none⟩ = some (.int .i64 c) ∧ w'.cell? ⟨B, 3, none⟩ = some (.int .i64 d) ∧ w'.cell? ⟨B, 4, none⟩ = some (.int .i64 e))
    (w.alloc (.cells #[.int .i64 a, .int .i64 b, .int .i64 c, .int .i64 d, .int .i64 e] t)) w.heap.size :=
  ⟨by simp [World.cell?_alloc_new], by simp [World.cell?_alloc_new], by simp [World.cell?_alloc_new], by simp [World.cell?_alloc_new], by simp [World.cell?_alloc_new]⟩
/-- Two entries, boxed one behind the other. -/
theorem two_boxes (w : World) (t : TypeId) (a b c d e a' b' c' d' e' : Int) :
    ∃ w1, (w.alloc (.cells #[.int .i64 a, .int .i64 b, .int .i64 c, .int .i64 d, .int .i64 e] t)).alloc (.cells #[.int .i64 a', .int .i64 b', .int .i64 c', .int .i64 d', .int .i64 e'] t) = w1 ∧ Below w.heap.size w w1 ∧ w1.heap.size = w.heap.size + 2 ∧
      (w1.cell? ⟨w.heap.size, 0, none⟩ = some (.int .i64 a) ∧ w1.cell? ⟨w.heap.size, 1, none⟩ = some (.int .i64 b) ∧ w1.cell? ⟨w.heap.size, 2, none⟩ = some (.int .i64 c) ∧ w1.cell? ⟨w.heap.size, 3, none⟩ = some (.int .i64 d) ∧ w1.cell? ⟨w.heap.size, 4, none⟩ = some (.int .i64 e)) ∧
      (w1.cell? ⟨w.heap.size + 1, 0, none⟩ = some (.int .i64 a') ∧ w1.cell? ⟨w.heap.size + 1, 1, none⟩ = some (.int .i64 b') ∧ w1.cell? ⟨w.heap.size + 1, 2, none⟩ = some (.int .i64 c') ∧ w1.cell? ⟨w.heap.size + 1, 3, none⟩ = some (.int .i64 d') ∧ w1.cell? ⟨w.heap.size + 1, 4, none⟩ = some (.int .i64 e')) := by
  have h0 := WBox.fresh w t a b c d e
  have hb0 := below_fresh w (.cells #[.int .i64 a, .int .i64 b, .int .i64 c, .int .i64 d, .int .i64 e] t)
  have hs0 := World.size_alloc w (.cells #[.int .i64 a, .int .i64 b, .int .i64 c, .int .i64 d, .int .i64 e] t)
  generalize w.alloc (.cells #[.int .i64 a, .int .i64 b, .int .i64 c, .int .i64 d, .int .i64 e] t) = w0 at *
  have h1 := WBox.fresh w0 t a' b' c' d' e'
  have hb1 := below_fresh w0 (.cells #[.int .i64 a', .int .i64 b', .int .i64 c', .int .i64 d', .int .i64 e'] t)
  have hs1 := World.size_alloc w0 (.cells #[.int .i64 a', .int .i64 b', .int .i64 c', .int .i64 d', .int .i64 e'] t)
  refine ⟨_, rfl, bnext hb0 hb1, by omega, ⟨below_cell hb1 h0.1, below_cell hb1 h0.2.1, below_cell hb1 h0.2.2.1, below_cell hb1 h0.2.2.2.1, below_cell hb1 h0.2.2.2.2⟩, ?_⟩
  rw [← hs0]
  exact h1
/-- Two entries and a third block for the result. -/
theorem three_boxes (w : World) (t : TypeId) (a b c d e a' b' c' d' e' : Int) :
    ∃ w1, ((w.alloc (.cells #[.int .i64 a, .int .i64 b, .int .i64 c, .int .i64 d, .int .i64 e] t)).alloc (.cells #[.int .i64 a', .int .i64 b', .int .i64 c', .int .i64 d', .int .i64 e'] t)).alloc (.cells #[.int .i64 0, .int .i64 0, .int .i64 0, .int .i64 0, .int .i64 0] t) = w1 ∧ Below w.heap.size w w1 ∧ w1.heap.size = w.heap.size + 3 ∧
      (w1.cell? ⟨w.heap.size, 0, none⟩ = some (.int .i64 a) ∧ w1.cell? ⟨w.heap.size, 1, none⟩ = some (.int .i64 b) ∧ w1.cell? ⟨w.heap.size, 2, none⟩ = some (.int .i64 c) ∧ w1.cell? ⟨w.heap.size, 3, none⟩ = some (.int .i64 d) ∧ w1.cell? ⟨w.heap.size, 4, none⟩ = some (.int .i64 e)) ∧
      (w1.cell? ⟨w.heap.size + 1, 0, none⟩ = some (.int .i64 a') ∧ w1.cell? ⟨w.heap.size + 1, 1, none⟩ = some (.int .i64 b') ∧ w1.cell? ⟨w.heap.size + 1, 2, none⟩ = some (.int .i64 c') ∧ w1.cell? ⟨w.heap.size + 1, 3, none⟩ = some (.int .i64 d') ∧ w1.cell? ⟨w.heap.size + 1, 4, none⟩ = some (.int .i64 e')) ∧
      w1.heap[w.heap.size + 1 + 1]? = some (.cells #[.int .i64 0, .int .i64 0, .int .i64 0, .int .i64 0, .int .i64 0] t (0, 0)) := by
  obtain ⟨w0, h0, hb0, hs0, p, q⟩ := two_boxes w t a b c d e a' b' c' d' e'
  rw [h0]
  have hb1 := below_fresh w0 (.cells #[.int .i64 0, .int .i64 0, .int .i64 0, .int .i64 0, .int .i64 0] t)
  have hs1 := World.size_alloc w0 (.cells #[.int .i64 0, .int .i64 0, .int .i64 0, .int .i64 0, .int .i64 0] t)
  have hn := heap_alloc_new w0 (.cells #[.int .i64 0, .int .i64 0, .int .i64 0, .int .i64 0, .int .i64 0] t)
  rw [hs0] at hn
  have hn' := (show w.heap.size + 2 = w.heap.size + 1 + 1 by omega) ▸ hn
  exact ⟨_, rfl, bnext hb0 hb1, by omega, ⟨below_cell hb1 p.1, below_cell hb1 p.2.1, below_cell hb1 p.2.2.1, below_cell hb1 p.2.2.2.1, below_cell hb1 p.2.2.2.2⟩, ⟨below_cell hb1 q.1, below_cell hb1 q.2.1, below_cell hb1 q.2.2.1, below_cell hb1 q.2.2.2.1, below_cell hb1 q.2.2.2.2⟩, hn'⟩
set_option maxRecDepth 100000 in
set_option maxHeartbeats 1000000 in
theorem cLater (s t v a n s' t' v' a' n' : Int) (w : World) : Calls Tryz.prog 57 #[wv s t v a n, wv s' t' v' a' n'] w fun e w' => e = .returned (wvT (MM.lat (s, t, v, a, n) (s', t', v', a', n'))) ∧ Below w.heap.size w w' := by
  obtain ⟨wb, hwb, hB, hsz, ⟨p0, p1, p2, p3, p4⟩, ⟨q0, q1, q2, q3, q4⟩, hz⟩ := three_boxes w 62 s t v a n s' t' v' a' n'
  have HW := Lib.hid hwb
  have HB := Lib.hid hB
  have HZ := Lib.hid hz
  have HS := Lib.hid hsz
  have r0 : ∀ p : Later wb, p.val.cell? ⟨w.heap.size, 0, none⟩ = some (.int .i64 s) := fun p => below_cell p.h p0
  have r1 : ∀ p : Later wb, p.val.cell? ⟨w.heap.size, 1, none⟩ = some (.int .i64 t) := fun p => below_cell p.h p1
  have r2 : ∀ p : Later wb, p.val.cell? ⟨w.heap.size, 2, none⟩ = some (.int .i64 v) := fun p => below_cell p.h p2
  have r3 : ∀ p : Later wb, p.val.cell? ⟨w.heap.size, 3, none⟩ = some (.int .i64 a) := fun p => below_cell p.h p3
  have r4 : ∀ p : Later wb, p.val.cell? ⟨w.heap.size, 4, none⟩ = some (.int .i64 n) := fun p => below_cell p.h p4
  have s0 : ∀ p : Later wb, p.val.cell? ⟨w.heap.size + 1, 0, none⟩ = some (.int .i64 s') := fun p => below_cell p.h q0
  have s1 : ∀ p : Later wb, p.val.cell? ⟨w.heap.size + 1, 1, none⟩ = some (.int .i64 t') := fun p => below_cell p.h q1
  have s2 : ∀ p : Later wb, p.val.cell? ⟨w.heap.size + 1, 2, none⟩ = some (.int .i64 v') := fun p => below_cell p.h q2
  have s3 : ∀ p : Later wb, p.val.cell? ⟨w.heap.size + 1, 3, none⟩ = some (.int .i64 a') := fun p => below_cell p.h q3
  have s4 : ∀ p : Later wb, p.val.cell? ⟨w.heap.size + 1, 4, none⟩ = some (.int .i64 n') := fun p => below_cell p.h q4
  clear hwb hB hsz hz
  have H1 := Lib.hid (fun p : Later wb => Calls.later (cWeightOrigin s' t' v' a' n' p.val))
  have H2 := Lib.hid (fun p : Later wb => Calls.later (cWeightOrigin s t v a n p.val))
  have h3 := fun p : Later wb => Calls.later (cAfter v' a' n' v a n p.val)
  have HP := Lib.hid (And.intro p0 (And.intro p1 (And.intro p2 (And.intro p3 p4))))
  have HQ := Lib.hid (And.intro q0 (And.intro q1 (And.intro q2 (And.intro q3 q4))))
  obtain ⟨R, hR⟩ : ∃ R, R = MM.lat (s, t, v, a, n) (s', t', v', a', n') := ⟨_, rfl⟩
  rw [← hR]
  have HR := Lib.hid (show R = if MM.aft (v', a', n') (v, a, n) = true then (s', t', v', a', n') else (s, t, v, a, n) from hR)
  clear hR p0 p1 p2 p3 p4 q0 q1 q2 q3 q4
  generalize MM.aft (v', a', n') (v, a, n) = u at h3 HR
  have H3 := Lib.hid h3
  clear h3
  cases u
  all_goals
    go_enter Tryz.func57, Tryz.ntmps57
    go_wp2
    rw [HW.out]
    refine wp_region_later (by kernel_rfl) (by kernel_rfl) ?_
    repeat (go_big_quiet_step (first | (with_reducible exact H1.out _) | (with_reducible exact H2.out _) | (with_reducible exact H3.out _)))
    refine wpQuiet_nil ?_
    rintro _ ⟨p', rfl⟩
    have HB2 := Lib.hid (bnext HB.out p'.h)
    have hz2 := (p'.h.block (w.heap.size + 1 + 1) (by rw [HS.out]; omega)).trans HZ.out
    have p0 := r0 p'
    have p1 := r1 p'
    have p2 := r2 p'
    have p3 := r3 p'
    have p4 := r4 p'
    have q0 := s0 p'
    have q1 := s1 p'
    have q2 := s2 p'
    have q3 := s3 p'
    have q4 := s4 p'
    generalize p'.val = w2 at HB2 hz2 p0 p1 p2 p3 p4 q0 q1 q2 q3 q4 ⊢
    clear r0 r1 r2 r3 r4 s0 s1 s2 s3 s4 H1 H2 H3
    obtain ⟨⟨z0, z1, z2, z3, z4⟩, f0, f1, f2, f3, f4⟩ := row5_at hz2
    have HZ2 := Lib.hid hz2
    clear hz2
    go_wp2
    refine wgt_ret2 rfl (row5_put HZ2.out _ _ _ _ _ w.heap.size (by omega)).1 rfl ⟨?_, HB2.out.trans (row5_put HZ2.out _ _ _ _ _ w.heap.size (by omega)).2⟩
    rw [HR.out]
    rfl

end Go.Proofs.YtkaafbdhgekeeaaGreat
