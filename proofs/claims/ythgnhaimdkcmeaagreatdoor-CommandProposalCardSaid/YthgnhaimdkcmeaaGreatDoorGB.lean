/-
  Members, entries of weights, geneses and summaries in memory; the comparisons of whole structs; the small functions on servers and origins. No conditions beyond those that each lemma names.
  The small calls: where a weight, a rule comes from; which of two is later; the first that is not 0. No conditions beyond that the lists read.
  The calls of ValidateView and ValidateGenesis, the program's and the reference's: each returns the error that the plain mathematics says. No conditions beyond that the members read.
  The calls that validate a summary's lists, the program's and the reference's: servers in range, ascending. No conditions beyond that the lists read.
  The calls of Validate, the program's and the reference's: each returns the error that the plain mathematics says. No conditions beyond that the summary reads.
  The calls of Validate, the program's: it returns the error that the plain mathematics says. No conditions beyond that the summary reads.
  The calls that compare summaries and views, the program's and the reference's: true just where all is equal. No conditions beyond that they read.
  The calls EqualView of the reference and Equal of the program: true just where all is equal. No conditions beyond that they read.
  The calls of Initial, the program's and the reference's: each returns the summary of a genesis. No conditions beyond that the members read and are few.
  The calls of the reference's later and Insert: which of two origins is later; an ascending list with a number put in. Conditions: the list reads and is short.
  The call of the reference's Weigh: ascending entries with an entry put in. Conditions: the list reads and is short.
  The call of the reference's Initial: the summary of a genesis. No conditions beyond that the members read and are few.
-/
import Derived.Test.YthgnhaimdkcmeaaGreatDoorGM
import Derived.Test.YthgnhaimdkcmeaaGreatDoorKI
import Derived.Deep.RegionHeld3
import Derived.StillTailTactics
namespace Go.Proofs.YthgnhaimdkcmeaaGreatDoor
open Go.RowKit
open JM (Chg)
open MM (Mem Ent Sm Tri)

def encM (m : Mem) : List Value := [.int .i64 m.1, .int .i64 m.2]
def encW : Ent → List Value
  | (s, t, v, a, n) => [.int .i64 s, .int .i64 t, .int .i64 v, .int .i64 a, .int .i64 n]
abbrev wv (s t v a n : Int) : Value := .agg #[.int .i64 s, .int .i64 t, .int .i64 v, .int .i64 a, .int .i64 n]
def wvT : Ent → Value
  | (s, t, v, a, n) => wv s t v a n
abbrev mv (s t : Int) : Value := .agg #[.int .i64 s, .int .i64 t]
abbrev ov (v a n : Int) : Value := .agg #[.int .i64 v, .int .i64 a, .int .i64 n]
/-- A view's, a genesis's value; a summary's. -/
abbrev vw (s : Value) (k c f : Int) : Value := .agg #[s, .int .i64 k, .int .i64 c, .int .i64 f]
abbrev sv (x y z : Value) (k c f v a n : Int) : Value := .agg #[x, y, z, .int .i64 k, .int .i64 c, .int .i64 f, .int .i64 v, .int .i64 a, .int .i64 n]

theorem memE : IsElem Tryz.prog 26 57 2 16 encM where
  ht := Tryz.underlying26
  info := by
    obtain ⟨i0, hi, hz0, hz1, hz2⟩ := info_parts (show (Tryz.prog.info? 57).map (fun i => (i.zero, i.size, i.bytes)) = some (some (.agg #[.int .i64 0, .int .i64 0]), 2, 16) by kernel_rfl)
    exact ⟨i0, _, hi, hz0, hz1, hz2, rfl⟩
  len := fun _ => rfl
  one := by intro x u hu; simp [encM] at hu; rcases hu with rfl | rfl <;> rfl
  pos := by decide
  fits := by decide
theorem wgtE : IsElem Tryz.prog 35 51 5 40 encW where
  ht := Tryz.underlying35
  info := by
    obtain ⟨i0, hi, hz0, hz1, hz2⟩ := info_parts (show (Tryz.prog.info? 51).map (fun i => (i.zero, i.size, i.bytes)) = some (some (.agg #[.int .i64 0, .int .i64 0, .int .i64 0, .int .i64 0, .int .i64 0]), 5, 40) by kernel_rfl)
    exact ⟨i0, _, hi, hz0, hz1, hz2, rfl⟩
  len := fun _ => rfl
  one := by
    rintro ⟨s, t, v, a, n⟩ u hu
    simp only [encW, List.mem_cons, List.mem_nil_iff, or_false] at hu
    rcases hu with rfl | rfl | rfl | rfl | rfl <;> rfl
  pos := by decide
  fits := by decide
abbrev RdM := RdG encM 2
abbrev OwnM := OwnG encM 57 2
abbrev RdW := RdG encW 5
abbrev OwnW := OwnG encW 51 5
theorem hlM : 0 < 2 ∧ ∀ x, (encM x).length = 2 := ⟨by decide, fun _ => rfl⟩
theorem hlW : 0 < 5 ∧ ∀ x, (encW x).length = 5 := ⟨by decide, fun _ => rfl⟩
theorem atM {w : World} {a : Option Addr} {n c : Nat} {xs : List Mem} (h : RdM w (.slice a n c) xs) (k : Nat) (m : Mem) (hk : xs[k]? = some m) :
    ∃ b o, (∀ w0, (Instr.indexAt 26 (.slice a n c) (.int .i64 (k : Int))).run Tryz.prog w0 = .ok (.pointer (some ⟨b, o, none⟩)) w0) ∧ b < w.heap.size ∧ w.cell? ⟨b, o, none⟩ = some (.int .i64 m.1) ∧ w.cell? ⟨b, o + 1, none⟩ = some (.int .i64 m.2) := by
  obtain ⟨b, o, h1, h2, h3⟩ := h.at_ memE k m hk
  exact ⟨b, o, h1, h2, h3 0 _ rfl, h3 1 _ rfl⟩
theorem atW {w : World} {a : Option Addr} {n c : Nat} {xs : List Ent} (h : RdW w (.slice a n c) xs) (k : Nat) (s t v x y : Int) (hk : xs[k]? = some (s, t, v, x, y)) :
    ∃ b o, (∀ w0, (Instr.indexAt 35 (.slice a n c) (.int .i64 (k : Int))).run Tryz.prog w0 = .ok (.pointer (some ⟨b, o, none⟩)) w0) ∧ b < w.heap.size ∧
      w.cell? ⟨b, o, none⟩ = some (.int .i64 s) ∧ w.cell? ⟨b, o + 1, none⟩ = some (.int .i64 t) ∧ w.cell? ⟨b, o + 2, none⟩ = some (.int .i64 v) ∧ w.cell? ⟨b, o + 3, none⟩ = some (.int .i64 x) ∧ w.cell? ⟨b, o + 4, none⟩ = some (.int .i64 y) := by
  obtain ⟨b, o, h1, h2, h3⟩ := h.at_ wgtE k _ hk
  exact ⟨b, o, h1, h2, h3 0 _ rfl, h3 1 _ rfl, h3 2 _ rfl, h3 3 _ rfl, h3 4 _ rfl⟩

/-- What a genesis, a view, a summary by value reads as. -/
def RdV (w : World) (v : Value) (ms : List Mem) (k c f : Int) : Prop := ∃ s, v = vw s k c f ∧ RdM w s ms
def RdS (w : World) (v : Value) (s : Sm) : Prop := ∃ x y z, v = sv x y z s.k s.c s.f s.v s.a s.n ∧ RdI w x s.J ∧ RdI w y s.R ∧ RdW w z s.W
theorem RdV.below {w w' : World} {v : Value} {ms : List Mem} {k c f : Int} (h : RdV w v ms k c f) (hb : Below w.heap.size w w') : RdV w' v ms k c f := by
  obtain ⟨s, rfl, h⟩ := h; exact ⟨s, rfl, h.below hb⟩
theorem RdS.below {w w' : World} {v : Value} {s : Sm} (h : RdS w v s) (hb : Below w.heap.size w w') : RdS w' v s := by
  obtain ⟨x, y, z, rfl, h1, h2, h3⟩ := h; exact ⟨x, y, z, rfl, h1.below hb, h2.below hb, h3.below hb⟩

/-- A view, a genesis, a summary in a block of its own. -/
def VBox (w : World) (B : Nat) (s : Value) (k c f : Int) : Prop :=
  B < w.heap.size ∧ w.cell? ⟨B, 0, none⟩ = some s ∧ w.cell? ⟨B, 1, none⟩ = some (.int .i64 k) ∧ w.cell? ⟨B, 2, none⟩ = some (.int .i64 c) ∧ w.cell? ⟨B, 3, none⟩ = some (.int .i64 f)
theorem VBox.below {w w' : World} {B : Nat} {s : Value} {k c f : Int} (h : VBox w B s k c f) (hb : Below w.heap.size w w') : VBox w' B s k c f :=
  ⟨Nat.lt_of_lt_of_le h.1 hb.size, below_cell hb h.2.1, below_cell hb h.2.2.1, below_cell hb h.2.2.2.1, below_cell hb h.2.2.2.2⟩
theorem VBox.fresh (w : World) (t : TypeId) (s : Value) (k c f : Int) : VBox (w.alloc (.cells #[s, .int .i64 k, .int .i64 c, .int .i64 f] t)) w.heap.size s k c f :=
  ⟨by simp, by simp [World.cell?_alloc_new], by simp [World.cell?_alloc_new], by simp [World.cell?_alloc_new], by simp [World.cell?_alloc_new]⟩
def SBox (w : World) (B : Nat) (x y z : Value) (s : Sm) : Prop :=
  B < w.heap.size ∧ w.cell? ⟨B, 0, none⟩ = some x ∧ w.cell? ⟨B, 1, none⟩ = some y ∧ w.cell? ⟨B, 2, none⟩ = some z ∧ w.cell? ⟨B, 3, none⟩ = some (.int .i64 s.k) ∧ w.cell? ⟨B, 4, none⟩ = some (.int .i64 s.c) ∧
    w.cell? ⟨B, 5, none⟩ = some (.int .i64 s.f) ∧ w.cell? ⟨B, 6, none⟩ = some (.int .i64 s.v) ∧ w.cell? ⟨B, 7, none⟩ = some (.int .i64 s.a) ∧ w.cell? ⟨B, 8, none⟩ = some (.int .i64 s.n)
theorem SBox.below {w w' : World} {B : Nat} {x y z : Value} {s : Sm} (h : SBox w B x y z s) (hb : Below w.heap.size w w') : SBox w' B x y z s := by
  obtain ⟨h0, h1, h2, h3, h4, h5, h6, h7, h8, h9⟩ := h
  exact ⟨Nat.lt_of_lt_of_le h0 hb.size, below_cell hb h1, below_cell hb h2, below_cell hb h3, below_cell hb h4, below_cell hb h5, below_cell hb h6, below_cell hb h7, below_cell hb h8, below_cell hb h9⟩
abbrev sCells (x y z : Value) (s : Sm) : Array Value := #[x, y, z, .int .i64 s.k, .int .i64 s.c, .int .i64 s.f, .int .i64 s.v, .int .i64 s.a, .int .i64 s.n]
theorem SBox.fresh (w : World) (t : TypeId) (x y z : Value) (s : Sm) : SBox (w.alloc (.cells (sCells x y z s) t)) w.heap.size x y z s :=
  ⟨by simp, by simp [World.cell?_alloc_new], by simp [World.cell?_alloc_new], by simp [World.cell?_alloc_new], by simp [World.cell?_alloc_new], by simp [World.cell?_alloc_new], by simp [World.cell?_alloc_new], by simp [World.cell?_alloc_new], by simp [World.cell?_alloc_new], by simp [World.cell?_alloc_new]⟩

/-! '==' of whole structs. -/
theorem eq_wgt (s t v a n s' t' v' a' n' : Int) (w : World) : (Op.equalIn 10000 51 (wv s t v a n) (wv s' t' v' a' n')).run Tryz.prog w = .ok (decide (s = s' ∧ t = t' ∧ v = v' ∧ a = a' ∧ n = n')) w := by
  have u3 := Tryz.underlying3
  have a3 := Tryz.isAgg3
  have z3 := Tryz.sizeOf3
  have hS : Tryz.prog.underlying 51 = some (.struct (Tryz.prog.fieldsOf 51)) := by kernel_rfl
  have hp : Tryz.prog.stoodInHeld 51 = false := by kernel_rfl
  rw [show (10000 : Nat) = 9999 + 1 from rfl, run_equalIn_agg w 9999 51 _ _ hS hp]
  simp only [Program.fieldsOf, Tryz.underlying51]
  go_simp
  by_cases h1 : s = s' <;> by_cases h2 : t = t' <;> by_cases h3 : v = v' <;> by_cases h4 : a = a' <;> by_cases h5 : n = n' <;> simp [h1, h2, h3, h4, h5]
theorem neq_wgt (s t v a n s' t' v' a' n' : Int) (w : World) : (binOp .neq 51 (wv s t v a n) (wv s' t' v' a' n')).run Tryz.prog w = .ok (.bool (!decide (s = s' ∧ t = t' ∧ v = v' ∧ a = a' ∧ n = n'))) w := by
  rw [run_neq_struct, eq_wgt]; rfl
theorem eq_mem (s t s' t' : Int) (w : World) : (Op.equalIn 10000 57 (mv s t) (mv s' t')).run Tryz.prog w = .ok (decide (s = s' ∧ t = t')) w := by
  have u3 := Tryz.underlying3
  have a3 := Tryz.isAgg3
  have z3 := Tryz.sizeOf3
  have hS : Tryz.prog.underlying 57 = some (.struct (Tryz.prog.fieldsOf 57)) := by kernel_rfl
  have hp : Tryz.prog.stoodInHeld 57 = false := by kernel_rfl
  rw [show (10000 : Nat) = 9999 + 1 from rfl, run_equalIn_agg w 9999 57 _ _ hS hp]
  simp only [Program.fieldsOf, Tryz.underlying57]
  go_simp
  by_cases h1 : s = s' <;> by_cases h2 : t = t' <;> simp [h1, h2]
theorem eql_mem (s t s' t' : Int) (w : World) : (binOp .eql 57 (mv s t) (mv s' t')).run Tryz.prog w = .ok (.bool (decide (s = s' ∧ t = t'))) w := by
  rw [run_eql_struct, eq_mem]; rfl
theorem neq_mem (s t s' t' : Int) (w : World) : (binOp .neq 57 (mv s t) (mv s' t')).run Tryz.prog w = .ok (.bool (!decide (s = s' ∧ t = t'))) w := by
  rw [run_neq_struct, eq_mem]; rfl
/-! The small functions. -/
end Go.Proofs.YthgnhaimdkcmeaaGreatDoor

namespace Go.Proofs.YthgnhaimdkcmeaaGreatDoor
open Go.RowKit
open JM (Chg)
open MM (Mem Ent Sm Tri)

theorem heap_new2 (w : World) (o1 o2 : Obj) : ((w.alloc o1).alloc o2).heap[w.heap.size + 1]? = some o2 := by
  have := heap_alloc_new (w.alloc o1) o2
  rwa [World.size_alloc] at this
theorem heap_new3 (w : World) (o1 o2 o3 : Obj) : (((w.alloc o1).alloc o2).alloc o3).heap[w.heap.size + 2]? = some o3 := by
  have := heap_alloc_new ((w.alloc o1).alloc o2) o3
  rwa [World.size_alloc, World.size_alloc] at this
theorem row5_at {w : World} {g : Nat} {t : TypeId} {a0 a1 a2 a3 a4 : Value} (h : w.heap[g]? = some (.cells #[a0, a1, a2, a3, a4] t (0, 0))) :
    (w.cell? ⟨g, 0, none⟩ = some a0 ∧ w.cell? ⟨g, 1, none⟩ = some a1 ∧ w.cell? ⟨g, 2, none⟩ = some a2 ∧ w.cell? ⟨g, 3, none⟩ = some a3 ∧ w.cell? ⟨g, 4, none⟩ = some a4) ∧ (w.frozen? ⟨g, 0, none⟩ = false ∧ w.frozen? ⟨g, 1, none⟩ = false ∧ w.frozen? ⟨g, 2, none⟩ = false ∧ w.frozen? ⟨g, 3, none⟩ = false ∧ w.frozen? ⟨g, 4, none⟩ = false) := by
  refine ⟨⟨?_, ?_, ?_, ?_, ?_⟩, ⟨?_, ?_, ?_, ?_, ?_⟩⟩
  all_goals first | (simp [World.cell?, h]; done) | (simp [World.frozen?, h]; done)
theorem row5_put {w : World} {g : Nat} {t : TypeId} {a0 a1 a2 a3 a4 : Value} (h : w.heap[g]? = some (.cells #[a0, a1, a2, a3, a4] t (0, 0))) (b0 b1 b2 b3 b4 : Value) (B : Nat) (hB : B ≤ g) :
    (((((w.setCell ⟨g, 0, none⟩ b0).setCell ⟨g, 1, none⟩ b1).setCell ⟨g, 2, none⟩ b2).setCell ⟨g, 3, none⟩ b3).setCell ⟨g, 4, none⟩ b4).heap[g]? = some (.cells #[b0, b1, b2, b3, b4] t (0, 0)) ∧ Below B w (((((w.setCell ⟨g, 0, none⟩ b0).setCell ⟨g, 1, none⟩ b1).setCell ⟨g, 2, none⟩ b2).setCell ⟨g, 3, none⟩ b3).setCell ⟨g, 4, none⟩ b4) := by
  have o0 : Below B w w := Below.refl _ w
  have h1 : (w.setCell ⟨g, 0, none⟩ b0).heap[g]? = some (.cells #[b0, a1, a2, a3, a4] t (0, 0)) := heap_setCell_same w g 0 _ _ b0 h
  have o1 : Below B w (w.setCell ⟨g, 0, none⟩ b0) := o0.setCell hB _
  generalize w.setCell ⟨g, 0, none⟩ b0 = w1 at h1 o1 ⊢
  clear h o0
  have h2 : (w1.setCell ⟨g, 1, none⟩ b1).heap[g]? = some (.cells #[b0, b1, a2, a3, a4] t (0, 0)) := heap_setCell_same w1 g 1 _ _ b1 h1
  have o2 : Below B w (w1.setCell ⟨g, 1, none⟩ b1) := o1.setCell hB _
  generalize w1.setCell ⟨g, 1, none⟩ b1 = w2 at h2 o2 ⊢
  clear h1 o1
  have h3 : (w2.setCell ⟨g, 2, none⟩ b2).heap[g]? = some (.cells #[b0, b1, b2, a3, a4] t (0, 0)) := heap_setCell_same w2 g 2 _ _ b2 h2
  have o3 : Below B w (w2.setCell ⟨g, 2, none⟩ b2) := o2.setCell hB _
  generalize w2.setCell ⟨g, 2, none⟩ b2 = w3 at h3 o3 ⊢
  clear h2 o2
  have h4 : (w3.setCell ⟨g, 3, none⟩ b3).heap[g]? = some (.cells #[b0, b1, b2, b3, a4] t (0, 0)) := heap_setCell_same w3 g 3 _ _ b3 h3
  have o4 : Below B w (w3.setCell ⟨g, 3, none⟩ b3) := o3.setCell hB _
  generalize w3.setCell ⟨g, 3, none⟩ b3 = w4 at h4 o4 ⊢
  clear h3 o3
  have h5 : (w4.setCell ⟨g, 4, none⟩ b4).heap[g]? = some (.cells #[b0, b1, b2, b3, b4] t (0, 0)) := heap_setCell_same w4 g 4 _ _ b4 h4
  have o5 : Below B w (w4.setCell ⟨g, 4, none⟩ b4) := o4.setCell hB _
  exact ⟨h5, o5⟩
theorem row3_at {w : World} {g : Nat} {t : TypeId} {a0 a1 a2 : Value} (h : w.heap[g]? = some (.cells #[a0, a1, a2] t (0, 0))) :
    (w.cell? ⟨g, 0, none⟩ = some a0 ∧ w.cell? ⟨g, 1, none⟩ = some a1 ∧ w.cell? ⟨g, 2, none⟩ = some a2) ∧ (w.frozen? ⟨g, 0, none⟩ = false ∧ w.frozen? ⟨g, 1, none⟩ = false ∧ w.frozen? ⟨g, 2, none⟩ = false) := by
  refine ⟨⟨?_, ?_, ?_⟩, ⟨?_, ?_, ?_⟩⟩
  all_goals first | (simp [World.cell?, h]; done) | (simp [World.frozen?, h]; done)
theorem row3_put {w : World} {g : Nat} {t : TypeId} {a0 a1 a2 : Value} (h : w.heap[g]? = some (.cells #[a0, a1, a2] t (0, 0))) (b0 b1 b2 : Value) (B : Nat) (hB : B ≤ g) :
    (((w.setCell ⟨g, 0, none⟩ b0).setCell ⟨g, 1, none⟩ b1).setCell ⟨g, 2, none⟩ b2).heap[g]? = some (.cells #[b0, b1, b2] t (0, 0)) ∧ Below B w (((w.setCell ⟨g, 0, none⟩ b0).setCell ⟨g, 1, none⟩ b1).setCell ⟨g, 2, none⟩ b2) := by
  have o0 : Below B w w := Below.refl _ w
  have h1 : (w.setCell ⟨g, 0, none⟩ b0).heap[g]? = some (.cells #[b0, a1, a2] t (0, 0)) := heap_setCell_same w g 0 _ _ b0 h
  have o1 : Below B w (w.setCell ⟨g, 0, none⟩ b0) := o0.setCell hB _
  generalize w.setCell ⟨g, 0, none⟩ b0 = w1 at h1 o1 ⊢
  clear h o0
  have h2 : (w1.setCell ⟨g, 1, none⟩ b1).heap[g]? = some (.cells #[b0, b1, a2] t (0, 0)) := heap_setCell_same w1 g 1 _ _ b1 h1
  have o2 : Below B w (w1.setCell ⟨g, 1, none⟩ b1) := o1.setCell hB _
  generalize w1.setCell ⟨g, 1, none⟩ b1 = w2 at h2 o2 ⊢
  clear h1 o1
  have h3 : (w2.setCell ⟨g, 2, none⟩ b2).heap[g]? = some (.cells #[b0, b1, b2] t (0, 0)) := heap_setCell_same w2 g 2 _ _ b2 h2
  have o3 : Below B w (w2.setCell ⟨g, 2, none⟩ b2) := o2.setCell hB _
  exact ⟨h3, o3⟩
theorem row4_at {w : World} {g : Nat} {t : TypeId} {a0 a1 a2 a3 : Value} (h : w.heap[g]? = some (.cells #[a0, a1, a2, a3] t (0, 0))) :
    (w.cell? ⟨g, 0, none⟩ = some a0 ∧ w.cell? ⟨g, 1, none⟩ = some a1 ∧ w.cell? ⟨g, 2, none⟩ = some a2 ∧ w.cell? ⟨g, 3, none⟩ = some a3) ∧ (w.frozen? ⟨g, 0, none⟩ = false ∧ w.frozen? ⟨g, 1, none⟩ = false ∧ w.frozen? ⟨g, 2, none⟩ = false ∧ w.frozen? ⟨g, 3, none⟩ = false) := by
  refine ⟨⟨?_, ?_, ?_, ?_⟩, ⟨?_, ?_, ?_, ?_⟩⟩
  all_goals first | (simp [World.cell?, h]; done) | (simp [World.frozen?, h]; done)
theorem row4_put {w : World} {g : Nat} {t : TypeId} {a0 a1 a2 a3 : Value} (h : w.heap[g]? = some (.cells #[a0, a1, a2, a3] t (0, 0))) (b0 b1 b2 b3 : Value) (B : Nat) (hB : B ≤ g) :
    ((((w.setCell ⟨g, 0, none⟩ b0).setCell ⟨g, 1, none⟩ b1).setCell ⟨g, 2, none⟩ b2).setCell ⟨g, 3, none⟩ b3).heap[g]? = some (.cells #[b0, b1, b2, b3] t (0, 0)) ∧ Below B w ((((w.setCell ⟨g, 0, none⟩ b0).setCell ⟨g, 1, none⟩ b1).setCell ⟨g, 2, none⟩ b2).setCell ⟨g, 3, none⟩ b3) := by
  have o0 : Below B w w := Below.refl _ w
  have h1 : (w.setCell ⟨g, 0, none⟩ b0).heap[g]? = some (.cells #[b0, a1, a2, a3] t (0, 0)) := heap_setCell_same w g 0 _ _ b0 h
  have o1 : Below B w (w.setCell ⟨g, 0, none⟩ b0) := o0.setCell hB _
  generalize w.setCell ⟨g, 0, none⟩ b0 = w1 at h1 o1 ⊢
  clear h o0
  have h2 : (w1.setCell ⟨g, 1, none⟩ b1).heap[g]? = some (.cells #[b0, b1, a2, a3] t (0, 0)) := heap_setCell_same w1 g 1 _ _ b1 h1
  have o2 : Below B w (w1.setCell ⟨g, 1, none⟩ b1) := o1.setCell hB _
  generalize w1.setCell ⟨g, 1, none⟩ b1 = w2 at h2 o2 ⊢
  clear h1 o1
  have h3 : (w2.setCell ⟨g, 2, none⟩ b2).heap[g]? = some (.cells #[b0, b1, b2, a3] t (0, 0)) := heap_setCell_same w2 g 2 _ _ b2 h2
  have o3 : Below B w (w2.setCell ⟨g, 2, none⟩ b2) := o2.setCell hB _
  generalize w2.setCell ⟨g, 2, none⟩ b2 = w3 at h3 o3 ⊢
  clear h2 o2
  have h4 : (w3.setCell ⟨g, 3, none⟩ b3).heap[g]? = some (.cells #[b0, b1, b2, b3] t (0, 0)) := heap_setCell_same w3 g 3 _ _ b3 h3
  have o4 : Below B w (w3.setCell ⟨g, 3, none⟩ b3) := o3.setCell hB _
  exact ⟨h4, o4⟩
theorem row9_at {w : World} {g : Nat} {t : TypeId} {a0 a1 a2 a3 a4 a5 a6 a7 a8 : Value} (h : w.heap[g]? = some (.cells #[a0, a1, a2, a3, a4, a5, a6, a7, a8] t (0, 0))) :
    (w.cell? ⟨g, 0, none⟩ = some a0 ∧ w.cell? ⟨g, 1, none⟩ = some a1 ∧ w.cell? ⟨g, 2, none⟩ = some a2 ∧ w.cell? ⟨g, 3, none⟩ = some a3 ∧ w.cell? ⟨g, 4, none⟩ = some a4 ∧ w.cell? ⟨g, 5, none⟩ = some a5 ∧ w.cell? ⟨g, 6, none⟩ = some a6 ∧ w.cell? ⟨g, 7, none⟩ = some a7 ∧ w.cell? ⟨g, 8, none⟩ = some a8) ∧ (w.frozen? ⟨g, 0, none⟩ = false ∧ w.frozen? ⟨g, 1, none⟩ = false ∧ w.frozen? ⟨g, 2, none⟩ = false ∧ w.frozen? ⟨g, 3, none⟩ = false ∧ w.frozen? ⟨g, 4, none⟩ = false ∧ w.frozen? ⟨g, 5, none⟩ = false ∧ w.frozen? ⟨g, 6, none⟩ = false ∧ w.frozen? ⟨g, 7, none⟩ = false ∧ w.frozen? ⟨g, 8, none⟩ = false) := by
  refine ⟨⟨?_, ?_, ?_, ?_, ?_, ?_, ?_, ?_, ?_⟩, ⟨?_, ?_, ?_, ?_, ?_, ?_, ?_, ?_, ?_⟩⟩
  all_goals first | (simp [World.cell?, h]; done) | (simp [World.frozen?, h]; done)
theorem row9_put {w : World} {g : Nat} {t : TypeId} {a0 a1 a2 a3 a4 a5 a6 a7 a8 : Value} (h : w.heap[g]? = some (.cells #[a0, a1, a2, a3, a4, a5, a6, a7, a8] t (0, 0))) (b0 b1 b2 b3 b4 b5 b6 b7 b8 : Value) (B : Nat) (hB : B ≤ g) :
    (((((((((w.setCell ⟨g, 0, none⟩ b0).setCell ⟨g, 1, none⟩ b1).setCell ⟨g, 2, none⟩ b2).setCell ⟨g, 3, none⟩ b3).setCell ⟨g, 4, none⟩ b4).setCell ⟨g, 5, none⟩ b5).setCell ⟨g, 6, none⟩ b6).setCell ⟨g, 7, none⟩ b7).setCell ⟨g, 8, none⟩ b8).heap[g]? = some (.cells #[b0, b1, b2, b3, b4, b5, b6, b7, b8] t (0, 0)) ∧ Below B w (((((((((w.setCell ⟨g, 0, none⟩ b0).setCell ⟨g, 1, none⟩ b1).setCell ⟨g, 2, none⟩ b2).setCell ⟨g, 3, none⟩ b3).setCell ⟨g, 4, none⟩ b4).setCell ⟨g, 5, none⟩ b5).setCell ⟨g, 6, none⟩ b6).setCell ⟨g, 7, none⟩ b7).setCell ⟨g, 8, none⟩ b8) := by
  have o0 : Below B w w := Below.refl _ w
  have h1 : (w.setCell ⟨g, 0, none⟩ b0).heap[g]? = some (.cells #[b0, a1, a2, a3, a4, a5, a6, a7, a8] t (0, 0)) := heap_setCell_same w g 0 _ _ b0 h
  have o1 : Below B w (w.setCell ⟨g, 0, none⟩ b0) := o0.setCell hB _
  generalize w.setCell ⟨g, 0, none⟩ b0 = w1 at h1 o1 ⊢
  clear h o0
  have h2 : (w1.setCell ⟨g, 1, none⟩ b1).heap[g]? = some (.cells #[b0, b1, a2, a3, a4, a5, a6, a7, a8] t (0, 0)) := heap_setCell_same w1 g 1 _ _ b1 h1
  have o2 : Below B w (w1.setCell ⟨g, 1, none⟩ b1) := o1.setCell hB _
  generalize w1.setCell ⟨g, 1, none⟩ b1 = w2 at h2 o2 ⊢
  clear h1 o1
  have h3 : (w2.setCell ⟨g, 2, none⟩ b2).heap[g]? = some (.cells #[b0, b1, b2, a3, a4, a5, a6, a7, a8] t (0, 0)) := heap_setCell_same w2 g 2 _ _ b2 h2
  have o3 : Below B w (w2.setCell ⟨g, 2, none⟩ b2) := o2.setCell hB _
  generalize w2.setCell ⟨g, 2, none⟩ b2 = w3 at h3 o3 ⊢
  clear h2 o2
  have h4 : (w3.setCell ⟨g, 3, none⟩ b3).heap[g]? = some (.cells #[b0, b1, b2, b3, a4, a5, a6, a7, a8] t (0, 0)) := heap_setCell_same w3 g 3 _ _ b3 h3
  have o4 : Below B w (w3.setCell ⟨g, 3, none⟩ b3) := o3.setCell hB _
  generalize w3.setCell ⟨g, 3, none⟩ b3 = w4 at h4 o4 ⊢
  clear h3 o3
  have h5 : (w4.setCell ⟨g, 4, none⟩ b4).heap[g]? = some (.cells #[b0, b1, b2, b3, b4, a5, a6, a7, a8] t (0, 0)) := heap_setCell_same w4 g 4 _ _ b4 h4
  have o5 : Below B w (w4.setCell ⟨g, 4, none⟩ b4) := o4.setCell hB _
  generalize w4.setCell ⟨g, 4, none⟩ b4 = w5 at h5 o5 ⊢
  clear h4 o4
  have h6 : (w5.setCell ⟨g, 5, none⟩ b5).heap[g]? = some (.cells #[b0, b1, b2, b3, b4, b5, a6, a7, a8] t (0, 0)) := heap_setCell_same w5 g 5 _ _ b5 h5
  have o6 : Below B w (w5.setCell ⟨g, 5, none⟩ b5) := o5.setCell hB _
  generalize w5.setCell ⟨g, 5, none⟩ b5 = w6 at h6 o6 ⊢
  clear h5 o5
  have h7 : (w6.setCell ⟨g, 6, none⟩ b6).heap[g]? = some (.cells #[b0, b1, b2, b3, b4, b5, b6, a7, a8] t (0, 0)) := heap_setCell_same w6 g 6 _ _ b6 h6
  have o7 : Below B w (w6.setCell ⟨g, 6, none⟩ b6) := o6.setCell hB _
  generalize w6.setCell ⟨g, 6, none⟩ b6 = w7 at h7 o7 ⊢
  clear h6 o6
  have h8 : (w7.setCell ⟨g, 7, none⟩ b7).heap[g]? = some (.cells #[b0, b1, b2, b3, b4, b5, b6, b7, a8] t (0, 0)) := heap_setCell_same w7 g 7 _ _ b7 h7
  have o8 : Below B w (w7.setCell ⟨g, 7, none⟩ b7) := o7.setCell hB _
  generalize w7.setCell ⟨g, 7, none⟩ b7 = w8 at h8 o8 ⊢
  clear h7 o7
  have h9 : (w8.setCell ⟨g, 8, none⟩ b8).heap[g]? = some (.cells #[b0, b1, b2, b3, b4, b5, b6, b7, b8] t (0, 0)) := heap_setCell_same w8 g 8 _ _ b8 h8
  have o9 : Below B w (w8.setCell ⟨g, 8, none⟩ b8) := o8.setCell hB _
  exact ⟨h9, o9⟩
/-- The first that is not 0. -/
def orL : List Int → Int
  | [] => 0
  | x :: l => if x = 0 then orL l else x
/-- Which of two origins is later. -/
theorem aft_or (v a n v' a' n' : Int) : decide (orL [cmpI v v', cmpI a a', cmpI n n'] > 0) = MM.aft (v, a, n) (v', a', n') := by
  show _ = decide (v' < v ∨ v' = v ∧ (a' < a ∨ a' = a ∧ n' < n))
  rw [decide_eq_decide]
  unfold orL orL orL orL cmpI
  (repeat' split) <;> omega
theorem rd3 (w : World) (x y z : Int) : RdI (w.alloc (.cells #[.int .i64 x, .int .i64 y, .int .i64 z] 3)) (.slice (some ⟨w.heap.size, 0, none⟩) 3 3) [x, y, z] := (ownG_fresh hlI 3 w [x, y, z] (by unfold maxLen; simp)).rd
theorem rd2 (w : World) (x y : Int) : RdI (w.alloc (.cells #[.int .i64 x, .int .i64 y] 3)) (.slice (some ⟨w.heap.size, 0, none⟩) 2 2) [x, y] := (ownG_fresh hlI 3 w [x, y] (by unfold maxLen; simp)).rd
/-- The later of two entries. -/
theorem WBox.fresh (w : World) (t : TypeId) (a b c d e : Int) : (fun (w' : World) (B : Nat) => w'.cell? ⟨B, 0, none⟩ = some (.int .i64 a) ∧ w'.cell? ⟨B, 1, none⟩ = some (.int .i64 b) ∧ w'.cell? ⟨B, 2, none⟩ = some (.int .i64 c) ∧ w'.cell? ⟨B, 3, none⟩ = some (.int .i64 d) ∧ w'.cell? ⟨B, 4, none⟩ = some (.int .i64 e))
    (w.alloc (.cells #[.int .i64 a, .int .i64 b, .int .i64 c, .int .i64 d, .int .i64 e] t)) w.heap.size :=
  ⟨by simp [World.cell?_alloc_new], by simp [World.cell?_alloc_new], by simp [World.cell?_alloc_new], by simp [World.cell?_alloc_new], by simp [World.cell?_alloc_new]⟩
/-- Two entries, boxed one behind the other. -/
theorem two_boxes (w : World) (t : TypeId) (a b c d e a' b' c' d' e' : Int) :
    ∃ w1, (w.alloc (.cells #[.int .i64 a, .int .i64 b, .int .i64 c, .int .i64 d, .int .i64 e] t)).alloc (.cells #[.int .i64 a', .int .i64 b', .int .i64 c', .int .i64 d', .int .i64 e'] t) = w1 ∧ Below w.heap.size w w1 ∧ w1.heap.size = w.heap.size + 2 ∧
      (w1.cell? ⟨w.heap.size, 0, none⟩ = some (.int .i64 a) ∧ w1.cell? ⟨w.heap.size, 1, none⟩ = some (.int .i64 b) ∧ w1.cell? ⟨w.heap.size, 2, none⟩ = some (.int .i64 c) ∧ w1.cell? ⟨w.heap.size, 3, none⟩ = some (.int .i64 d) ∧ w1.cell? ⟨w.heap.size, 4, none⟩ = some (.int .i64 e)) ∧
      (w1.cell? ⟨w.heap.size + 1, 0, none⟩ = some (.int .i64 a') ∧ w1.cell? ⟨w.heap.size + 1, 1, none⟩ = some (.int .i64 b') ∧ w1.cell? ⟨w.heap.size + 1, 2, none⟩ = some (.int .i64 c') ∧ w1.cell? ⟨w.heap.size + 1, 3, none⟩ = some (.int .i64 d') ∧ w1.cell? ⟨w.heap.size + 1, 4, none⟩ = some (.int .i64 e')) := by
  have h0 := WBox.fresh w t a b c d e
  have hb0 := below_fresh w (.cells #[.int .i64 a, .int .i64 b, .int .i64 c, .int .i64 d, .int .i64 e] t)
  have hs0 := World.size_alloc w (.cells #[.int .i64 a, .int .i64 b, .int .i64 c, .int .i64 d, .int .i64 e] t)
  generalize w.alloc (.cells #[.int .i64 a, .int .i64 b, .int .i64 c, .int .i64 d, .int .i64 e] t) = w0 at *
  have h1 := WBox.fresh w0 t a' b' c' d' e'
  have hb1 := below_fresh w0 (.cells #[.int .i64 a', .int .i64 b', .int .i64 c', .int .i64 d', .int .i64 e'] t)
  have hs1 := World.size_alloc w0 (.cells #[.int .i64 a', .int .i64 b', .int .i64 c', .int .i64 d', .int .i64 e'] t)
  refine ⟨_, rfl, bnext hb0 hb1, by omega, ⟨below_cell hb1 h0.1, below_cell hb1 h0.2.1, below_cell hb1 h0.2.2.1, below_cell hb1 h0.2.2.2.1, below_cell hb1 h0.2.2.2.2⟩, ?_⟩
  rw [← hs0]
  exact h1
/-- Two entries and a third block for the result. -/
theorem three_boxes (w : World) (t : TypeId) (a b c d e a' b' c' d' e' : Int) :
    ∃ w1, ((w.alloc (.cells #[.int .i64 a, .int .i64 b, .int .i64 c, .int .i64 d, .int .i64 e] t)).alloc (.cells #[.int .i64 a', .int .i64 b', .int .i64 c', .int .i64 d', .int .i64 e'] t)).alloc (.cells #[.int .i64 0, .int .i64 0, .int .i64 0, .int .i64 0, .int .i64 0] t) = w1 ∧ Below w.heap.size w w1 ∧ w1.heap.size = w.heap.size + 3 ∧
      (w1.cell? ⟨w.heap.size, 0, none⟩ = some (.int .i64 a) ∧ w1.cell? ⟨w.heap.size, 1, none⟩ = some (.int .i64 b) ∧ w1.cell? ⟨w.heap.size, 2, none⟩ = some (.int .i64 c) ∧ w1.cell? ⟨w.heap.size, 3, none⟩ = some (.int .i64 d) ∧ w1.cell? ⟨w.heap.size, 4, none⟩ = some (.int .i64 e)) ∧
      (w1.cell? ⟨w.heap.size + 1, 0, none⟩ = some (.int .i64 a') ∧ w1.cell? ⟨w.heap.size + 1, 1, none⟩ = some (.int .i64 b') ∧ w1.cell? ⟨w.heap.size + 1, 2, none⟩ = some (.int .i64 c') ∧ w1.cell? ⟨w.heap.size + 1, 3, none⟩ = some (.int .i64 d') ∧ w1.cell? ⟨w.heap.size + 1, 4, none⟩ = some (.int .i64 e')) ∧
      w1.heap[w.heap.size + 1 + 1]? = some (.cells #[.int .i64 0, .int .i64 0, .int .i64 0, .int .i64 0, .int .i64 0] t (0, 0)) := by
  obtain ⟨w0, h0, hb0, hs0, p, q⟩ := two_boxes w t a b c d e a' b' c' d' e'
  rw [h0]
  have hb1 := below_fresh w0 (.cells #[.int .i64 0, .int .i64 0, .int .i64 0, .int .i64 0, .int .i64 0] t)
  have hs1 := World.size_alloc w0 (.cells #[.int .i64 0, .int .i64 0, .int .i64 0, .int .i64 0, .int .i64 0] t)
  have hn := heap_alloc_new w0 (.cells #[.int .i64 0, .int .i64 0, .int .i64 0, .int .i64 0, .int .i64 0] t)
  rw [hs0] at hn
  have hn' := (show w.heap.size + 2 = w.heap.size + 1 + 1 by omega) ▸ hn
  exact ⟨_, rfl, bnext hb0 hb1, by omega, ⟨below_cell hb1 p.1, below_cell hb1 p.2.1, below_cell hb1 p.2.2.1, below_cell hb1 p.2.2.2.1, below_cell hb1 p.2.2.2.2⟩, ⟨below_cell hb1 q.1, below_cell hb1 q.2.1, below_cell hb1 q.2.2.1, below_cell hb1 q.2.2.2.1, below_cell hb1 q.2.2.2.2⟩, hn'⟩
end Go.Proofs.YthgnhaimdkcmeaaGreatDoor

namespace Go.Proofs.YthgnhaimdkcmeaaGreatDoor
open Go.RowKit
open MM (Mem Ent Sm Tri)

theorem isSrv_false {x : Int} : JM.isSrv x = false ↔ x < 1 ∨ 12 < x := by
  unfold JM.isSrv
  rw [decide_eq_false_iff_not]; omega
theorem errM_cons (p : Int) (m : Mem) (v : List Mem) : MM.errM p (m :: v) = if MM.off m = true then 9 else if m.1 ≤ p then 7 else MM.errM m.1 v := rfl
/-- The server ahead of place k. -/
def prevM (xs : List Mem) (k : Nat) : Int := if k = 0 then 0 else (xs.getD (k - 1) (0, 0)).1
theorem prevM_succ {xs : List Mem} {k : Nat} {m : Mem} (h : xs[k]? = some m) : prevM xs (k + 1) = m.1 := by simp [prevM, List.getD, h]

end Go.Proofs.YthgnhaimdkcmeaaGreatDoor

namespace Go.Proofs.YthgnhaimdkcmeaaGreatDoor
open Go.RowKit
open MM (Mem Ent Sm Tri)

end Go.Proofs.YthgnhaimdkcmeaaGreatDoor

namespace Go.Proofs.YthgnhaimdkcmeaaGreatDoor
open Go.RowKit
open MM (Mem Ent Sm Tri)

/-- The server ahead of place k. -/
def prevW (xs : List Ent) (k : Nat) : Int := if k = 0 then 0 else (xs.getD (k - 1) (0, 0, 0, 0, 0)).1
theorem prevW_succ {xs : List Ent} {k : Nat} {m : Ent} (h : xs[k]? = some m) : prevW xs (k + 1) = m.1 := by simp [prevW, List.getD, h]
theorem errW_cons (p : Int) (e : Ent) (l : List Ent) : MM.errW p (e :: l) = if MM.offW e = true then 9 else if e.1 ≤ p then 7 else MM.errW e.1 l := rfl

end Go.Proofs.YthgnhaimdkcmeaaGreatDoor

namespace Go.Proofs.YthgnhaimdkcmeaaGreatDoor
open Go.RowKit
open MM (Mem Ent Sm Tri)

theorem gm_rule : Tryz.prog.eqGuardType Tryz.prog.depth 28 = false := by kernel_rfl
theorem gm_wgt : Tryz.prog.eqGuardType Tryz.prog.depth 51 = false := by kernel_rfl
theorem gm_mem : Tryz.prog.eqGuardType Tryz.prog.depth 57 = false := by kernel_rfl
theorem ite3 {α : Type} (k c f : Int) (p q : α) : (if k = 0 then (if c = 0 then (if f = 0 then p else q) else q) else q) = if decide (k = 0 ∧ c = 0 ∧ f = 0) = true then p else q := by
  by_cases h1 : k = 0 <;> by_cases h2 : c = 0 <;> by_cases h3 : f = 0 <;> simp [h1, h2, h3]
/-- A summary in a block, its fields by name. -/
def B9 (w : World) (B : Nat) (x y z : Value) (k c f v a n : Int) : Prop :=
  B < w.heap.size ∧ w.cell? ⟨B, 0, none⟩ = some x ∧ w.cell? ⟨B, 1, none⟩ = some y ∧ w.cell? ⟨B, 2, none⟩ = some z ∧ w.cell? ⟨B, 3, none⟩ = some (.int .i64 k) ∧ w.cell? ⟨B, 4, none⟩ = some (.int .i64 c) ∧
    w.cell? ⟨B, 5, none⟩ = some (.int .i64 f) ∧ w.cell? ⟨B, 6, none⟩ = some (.int .i64 v) ∧ w.cell? ⟨B, 7, none⟩ = some (.int .i64 a) ∧ w.cell? ⟨B, 8, none⟩ = some (.int .i64 n)
theorem B9.below {w w' : World} {B : Nat} {x y z : Value} {k c f v a n : Int} (h : B9 w B x y z k c f v a n) (hb : Below w.heap.size w w') : B9 w' B x y z k c f v a n := by
  obtain ⟨h0, h1, h2, h3, h4, h5, h6, h7, h8, h9⟩ := h
  exact ⟨Nat.lt_of_lt_of_le h0 hb.size, below_cell hb h1, below_cell hb h2, below_cell hb h3, below_cell hb h4, below_cell hb h5, below_cell hb h6, below_cell hb h7, below_cell hb h8, below_cell hb h9⟩
theorem B9.fresh (w : World) (t : TypeId) (x y z : Value) (k c f v a n : Int) : B9 (w.alloc (.cells #[x, y, z, .int .i64 k, .int .i64 c, .int .i64 f, .int .i64 v, .int .i64 a, .int .i64 n] t)) w.heap.size x y z k c f v a n :=
  ⟨by simp, by simp [World.cell?_alloc_new], by simp [World.cell?_alloc_new], by simp [World.cell?_alloc_new], by simp [World.cell?_alloc_new], by simp [World.cell?_alloc_new], by simp [World.cell?_alloc_new], by simp [World.cell?_alloc_new], by simp [World.cell?_alloc_new], by simp [World.cell?_alloc_new]⟩

theorem rd3e (w : World) (x y z : Int) : RdI (w.alloc (.cells #[.int .i64 x, .int .i64 y, .int .i64 z] 40)) (.slice (some ⟨w.heap.size, 0, none⟩) 3 3) [x, y, z] := (ownG_fresh hlI 40 w [x, y, z] (by unfold maxLen; simp)).rd
end Go.Proofs.YthgnhaimdkcmeaaGreatDoor

namespace Go.Proofs.YthgnhaimdkcmeaaGreatDoor
open Go.RowKit
open MM (Mem Ent Sm Tri)

theorem neq_wv (s t v a n s' t' v' a' n' : Int) (B : Bool) (h : B = decide ((s, t, v, a, n) = (s', t', v', a', n'))) (w : World) :
    (binOp .neq 51 (wv s t v a n) (wv s' t' v' a' n')).run Tryz.prog w = .ok (.bool (!B)) w := by
  rw [h, neq_wgt]; simp

end Go.Proofs.YthgnhaimdkcmeaaGreatDoor

namespace Go.Proofs.YthgnhaimdkcmeaaGreatDoor
open Go.RowKit
open MM (Mem Ent Sm Tri)

theorem neq_mv (s t s' t' : Int) (B : Bool) (h : B = decide ((s, t) = (s', t'))) (w : World) :
    (binOp .neq 57 (mv s t) (mv s' t')).run Tryz.prog w = .ok (.bool (!B)) w := by
  rw [h, neq_mem]; simp
end Go.Proofs.YthgnhaimdkcmeaaGreatDoor

namespace Go.Proofs.YthgnhaimdkcmeaaGreatDoor
open Go.RowKit
open MM (Mem Ent Sm Tri)

/-- What lies in blocks from B on stays. -/
structure Fr (B : Nat) (w w' : World) : Prop where
  size : w.heap.size ≤ w'.heap.size
  blk : ∀ k, B ≤ k → k < w.heap.size → w'.heap[k]? = w.heap[k]?
theorem Fr.refl (B : Nat) (w : World) : Fr B w w := ⟨Nat.le_refl _, fun _ _ _ => rfl⟩
theorem Fr.trans {B : Nat} {a b c : World} (h : Fr B a b) (k : Fr B b c) : Fr B a c := ⟨Nat.le_trans h.size k.size, fun i h1 h2 => (k.blk i h1 (Nat.lt_of_lt_of_le h2 h.size)).trans (h.blk i h1 h2)⟩
theorem Fr.mono {B B' : Nat} {w w' : World} (h : Fr B w w') (hb : B ≤ B') : Fr B' w w' := ⟨h.size, fun i h1 h2 => h.blk i (Nat.le_trans hb h1) h2⟩
theorem Fr.of {B : Nat} {w w' : World} (h : Below w.heap.size w w') : Fr B w w' := ⟨h.size, fun i _ h2 => h.block i h2⟩
theorem Fr.only {B g : Nat} {w w' : World} (h : Only g w w') (hg : g < B) : Fr B w w' := ⟨h.size, fun i h1 h2 => h.block i h2 (by omega)⟩
theorem OwnG.fr {α : Type} {enc : α → List Value} {e : TypeId} {size base : Nat} {w w' : World} {v : Value} {xs : List α} (h : OwnG enc e size base w v xs) (hf : Fr base w w') : OwnG enc e size base w' v xs := by
  refine ⟨⟨h.1.1, ?_⟩, h.2⟩
  rcases h.1.2 with h6 | ⟨gg, cap, cur, hv, hgg, hh, r⟩
  · exact .inl h6
  · exact .inr ⟨gg, cap, cur, hv, hgg, (hf.blk gg hgg (Array.getElem?_eq_some_iff.1 hh).1).trans hh, r⟩
/-- The value reads as a summary, and goes on to while the blocks from B on stay. -/
def FrS (B : Nat) (w : World) (v : Value) (s : Sm) : Prop := ∀ w', Fr B w w' → RdS w' v s
theorem FrS.rd {B : Nat} {w : World} {v : Value} {s : Sm} (h : FrS B w v s) : RdS w v s := h w (Fr.refl _ _)
theorem FrS.fr {B : Nat} {w w' : World} {v : Value} {s : Sm} (h : FrS B w v s) (hf : Fr B w w') : FrS B w' v s := fun w'' h2 => h w'' (hf.trans h2)
theorem FrS.mono {B B' : Nat} {w : World} {v : Value} {s : Sm} (h : FrS B' w v s) (hb : B ≤ B') : FrS B w v s := fun w'' h2 => h w'' (h2.mono hb)
theorem blk_keep {B g : Nat} {w w' : World} {o : Obj} (hb : Below B w w') (hg : g < B) (h : w.heap[g]? = some o) : w'.heap[g]? = some o := (hb.block g hg).trans h
theorem onlyc9 {w : World} {g : Nat} (b0 b1 b2 b3 b4 b5 b6 b7 b8 : Value) : Only g w (((((((((w.setCell ⟨g, 0, none⟩ b0).setCell ⟨g, 1, none⟩ b1).setCell ⟨g, 2, none⟩ b2).setCell ⟨g, 3, none⟩ b3).setCell ⟨g, 4, none⟩ b4).setCell ⟨g, 5, none⟩ b5).setCell ⟨g, 6, none⟩ b6).setCell ⟨g, 7, none⟩ b7).setCell ⟨g, 8, none⟩ b8) := (((((((((Only.set 0 b0).trans (Only.set 1 b1)).trans (Only.set 2 b2)).trans (Only.set 3 b3)).trans (Only.set 4 b4)).trans (Only.set 5 b5)).trans (Only.set 6 b6)).trans (Only.set 7 b7)).trans (Only.set 8 b8))
theorem onlyc5 {w : World} {g : Nat} (b0 b1 b2 b3 b4 : Value) : Only g w (((((w.setCell ⟨g, 0, none⟩ b0).setCell ⟨g, 1, none⟩ b1).setCell ⟨g, 2, none⟩ b2).setCell ⟨g, 3, none⟩ b3).setCell ⟨g, 4, none⟩ b4) := (((((Only.set 0 b0).trans (Only.set 1 b1)).trans (Only.set 2 b2)).trans (Only.set 3 b3)).trans (Only.set 4 b4))
theorem onlyc4 {w : World} {g : Nat} (b0 b1 b2 b3 : Value) : Only g w ((((w.setCell ⟨g, 0, none⟩ b0).setCell ⟨g, 1, none⟩ b1).setCell ⟨g, 2, none⟩ b2).setCell ⟨g, 3, none⟩ b3) := ((((Only.set 0 b0).trans (Only.set 1 b1)).trans (Only.set 2 b2)).trans (Only.set 3 b3))
theorem onlyc3 {w : World} {g : Nat} (b0 b1 b2 : Value) : Only g w (((w.setCell ⟨g, 0, none⟩ b0).setCell ⟨g, 1, none⟩ b1).setCell ⟨g, 2, none⟩ b2) := (((Only.set 0 b0).trans (Only.set 1 b1)).trans (Only.set 2 b2))
/-- A summary returned out of a block. -/
theorem sum_ret_cells {x y z : Value} {k c f v a n : Int} : (#[x, y, z, .int .i64 k, .int .i64 c, .int .i64 f, .int .i64 v, .int .i64 a, .int .i64 n] : Array Value).size = 9 := rfl
abbrev s9 (x y z : Value) (k c f v a n : Int) : Array Value := #[x, y, z, .int .i64 k, .int .i64 c, .int .i64 f, .int .i64 v, .int .i64 a, .int .i64 n]
/-- The boxes of Initial: the genesis, the result, the summary. -/
theorem ini_boxes (w : World) (u : Value) (k c f : Int) :
    ∃ w3, ((w.alloc (.cells #[u, .int .i64 k, .int .i64 c, .int .i64 f] 30)).alloc (.cells (s9 (.slice none 0 0) (.slice none 0 0) (.slice none 0 0) 0 0 0 0 0 0) 37)).alloc (.cells (s9 (.slice none 0 0) (.slice none 0 0) (.slice none 0 0) k c f 0 0 0) 37) = w3 ∧ Below w.heap.size w w3 ∧ w3.heap.size = w.heap.size + 3 ∧
      w3.heap[w.heap.size]? = some (.cells #[u, .int .i64 k, .int .i64 c, .int .i64 f] 30 (0, 0)) ∧
      w3.heap[w.heap.size + 1]? = some (.cells (s9 (.slice none 0 0) (.slice none 0 0) (.slice none 0 0) 0 0 0 0 0 0) 37 (0, 0)) ∧
      w3.heap[w.heap.size + 1 + 1]? = some (.cells (s9 (.slice none 0 0) (.slice none 0 0) (.slice none 0 0) k c f 0 0 0) 37 (0, 0)) := by
  have h1 := heap_alloc_new w (.cells #[u, .int .i64 k, .int .i64 c, .int .i64 f] 30)
  have b1 := below_fresh w (.cells #[u, .int .i64 k, .int .i64 c, .int .i64 f] 30)
  have z1 := World.size_alloc w (.cells #[u, .int .i64 k, .int .i64 c, .int .i64 f] 30)
  generalize w.alloc (.cells #[u, .int .i64 k, .int .i64 c, .int .i64 f] 30) = w1 at *
  have h2 := heap_alloc_new w1 (.cells (s9 (.slice none 0 0) (.slice none 0 0) (.slice none 0 0) 0 0 0 0 0 0) 37)
  have b2 := below_fresh w1 (.cells (s9 (.slice none 0 0) (.slice none 0 0) (.slice none 0 0) 0 0 0 0 0 0) 37)
  have z2 := World.size_alloc w1 (.cells (s9 (.slice none 0 0) (.slice none 0 0) (.slice none 0 0) 0 0 0 0 0 0) 37)
  generalize w1.alloc (.cells (s9 (.slice none 0 0) (.slice none 0 0) (.slice none 0 0) 0 0 0 0 0 0) 37) = w2 at *
  have h3 := heap_alloc_new w2 (.cells (s9 (.slice none 0 0) (.slice none 0 0) (.slice none 0 0) k c f 0 0 0) 37)
  have b3 := below_fresh w2 (.cells (s9 (.slice none 0 0) (.slice none 0 0) (.slice none 0 0) k c f 0 0 0) 37)
  have z3 := World.size_alloc w2 (.cells (s9 (.slice none 0 0) (.slice none 0 0) (.slice none 0 0) k c f 0 0 0) 37)
  refine ⟨_, rfl, bnext b1 (bnext b2 b3), by omega, below_block (below_block h1 b2) b3, ?_, ?_⟩
  · rw [← z1]; exact below_block h2 b3
  · rw [← z1, ← z2]; exact h3

end Go.Proofs.YthgnhaimdkcmeaaGreatDoor

namespace Go.Proofs.YthgnhaimdkcmeaaGreatDoor
open Go.RowKit
open MM (Mem Ent Sm Tri)

set_option maxRecDepth 100000 in
set_option maxHeartbeats 2000000 in
theorem rLater (s t v a n s' t' v' a' n' : Int) (w : World) : Calls Tryz.prog 26 #[wv s t v a n, wv s' t' v' a' n'] w fun e w' => e = .returned (.bool (MM.aft (v, a, n) (v', a', n'))) ∧ Below w.heap.size w w' := by
  obtain ⟨wb, hwb, hB, hsz, ⟨p0, p1, p2, p3, p4⟩, q0, q1, q2, q3, q4⟩ := two_boxes w 51 s t v a n s' t' v' a' n'
  have HW := Lib.hid hwb
  have HB := Lib.hid hB
  obtain ⟨R, hR⟩ : ∃ R, R = MM.aft (v, a, n) (v', a', n') := ⟨_, rfl⟩
  rw [← hR]
  have HR := Lib.hid (show R = decide (v' < v ∨ v' = v ∧ (a' < a ∨ a' = a ∧ n' < n)) from hR)
  clear hR hwb hB hsz
  by_cases h1 : v = v'
  · subst h1
    have e1 : (v != v) = false := bne_f rfl
    by_cases h2 : a = a'
    · subst h2
      have e2 : (a != a) = false := bne_f rfl
      have e := Lib.hid (show R = decide (n' < n) by rw [HR.out, decide_eq_decide]; omega)
      clear HR
      go_enter Tryz.func26, Tryz.ntmps26
      go_wp2_with fail
      rw [HW.out]
      go_wp2
      go_ret
      rw [e.out]
      exact ⟨rfl, HB.out⟩
    · have e2 : (a != a') = true := bne_t h2
      have e := Lib.hid (show R = decide (a' < a) by rw [HR.out, decide_eq_decide]; omega)
      clear HR h2
      go_enter Tryz.func26, Tryz.ntmps26
      go_wp2_with fail
      rw [HW.out]
      go_wp2
      go_ret
      rw [e.out]
      exact ⟨rfl, HB.out⟩
  · have e1 : (v != v') = true := bne_t h1
    have e := Lib.hid (show R = decide (v' < v) by rw [HR.out, decide_eq_decide]; omega)
    clear HR h1
    go_enter Tryz.func26, Tryz.ntmps26
    go_wp2_with fail
    rw [HW.out]
    go_wp2
    go_ret
    rw [e.out]
    exact ⟨rfl, HB.out⟩

/-- What Insert builds. -/
def insF (n : Int) : Bool → List Int → List Int
  | put, [] => if put then [] else [n]
  | put, y :: l => (if (!put && decide (n ≤ y)) = true then [n] else []) ++ ((if y = n then [] else [y]) ++ insF n (put || decide (n ≤ y)) l)
theorem insF_true {n : Int} {l : List Int} (h : ∀ y ∈ l, n < y) : insF n true l = l := by
  induction l with
  | nil => rfl
  | cons y l ih =>
    have := h y (by simp)
    rw [insF, Bool.true_or, ih (fun z hz => h z (by simp [hz])), if_neg (by simp), if_neg (by omega)]
    rfl
theorem insF_srt {n : Int} {l : List Int} (h : MM.Srt MM.kI l) : insF n false l = MM.insI n l := by
  induction l with
  | nil => rfl
  | cons y l ih =>
    have a1 := h.hd MM.kI
    unfold MM.insI MM.ins
    rw [insF]
    show _ = if y = n then y :: l else if n < y then n :: y :: l else y :: MM.insI n l
    by_cases h1 : y = n
    · subst h1
      rw [if_pos rfl, if_pos rfl, if_pos (by simp), Bool.false_or, decide_eq_true (Int.le_refl _), show insF y true l = l from insF_true (fun z hz => a1 z hz)]
      rfl
    · rw [if_neg h1, if_neg h1]
      by_cases h2 : n < y
      · rw [if_pos h2, if_pos (by simp; omega), Bool.false_or, decide_eq_true (by omega), insF_true (fun z hz => by have := a1 z hz; unfold MM.kI at this; omega)]
        rfl
      · rw [if_neg h2, if_neg (by simp; omega), Bool.false_or, decide_eq_false (by omega), ih (h.tl MM.kI)]
        rfl

set_option maxRecDepth 100000 in
set_option maxHeartbeats 4000000 in
theorem rInsert (v : Value) (l : List Int) (n : Int) (w : World) (h : RdI w v l) (hl : l.length ≤ 1000000) :
    Calls Tryz.prog 24 #[v, .int .i64 n] w fun e w' => ∃ v', e = .returned v' ∧ OwnI w.heap.size w' v' (insF n false l) ∧ Below w.heap.size w w' := by
  obtain ⟨ad, c, rfl, hc, hlc⟩ := h.shape
  have H := Lib.hid h
  have HL := Lib.hid hl
  clear h hl
  obtain ⟨R, hR⟩ : ∃ R, R = insF n false l := ⟨_, rfl⟩
  rw [← hR]
  have HR := Lib.hid (show R = [] ++ insF n false (l.drop 0) from hR)
  have HI0 := Lib.hid (show OwnI w.heap.size w (.slice none 0 0) [] from OwnG.nil hlI _ _ _)
  clear hR
  go_enter Tryz.func24, Tryz.ntmps24
  go_wp2
  go_loopw [5, 6, 7] (fun o p i wr => ∃ (j : Nat) (put : Bool) (ys : List Int), j ≤ l.length ∧ i = .int .i64 j ∧ p = .bool put ∧ Hid (OwnI w.heap.size wr o ys) ∧ Hid (Below w.heap.size w wr) ∧ Hid (ys.length ≤ 2 * j) ∧ Hid (R = ys ++ insF n put (l.drop j))) (fun _ _ i _ => l.length - (intOf i).toNat)
  case atStart => exact ⟨0, false, [], Nat.zero_le _, rfl, rfl, HI0, Lib.hid (Below.refl _ _), Lib.hid (Nat.le_refl _), HR⟩
  case round =>
    obtain ⟨j, put, ys, hj, rfl, rfl, ho, hb, hyl, he⟩ := hrel
    clear HR HI0
    obtain ⟨a5, l5, c5, hv5⟩ : ∃ a l c, u5 = .slice a l c := by obtain ⟨a, c, h, _⟩ := ho.out.rd.shape; exact ⟨a, _, c, h⟩
    subst hv5
    have hsz := hb.out.size
    have hyb : ys.length ≤ 1073741824 := by have h1 := hyl.out; have h2 := HL.out; omega
    by_cases hlt : j < l.length
    · obtain ⟨b, o, hi, hbb, c0⟩ := atI (H.out.below hb.out) j l[j] (List.getElem?_eq_getElem hlt)
      have hq : (j : Int) < (l.length : Int) := by omega
      have hd := Lib.hid (drop_get hlt)
      generalize l[j] = y at c0 hd
      have HC0 := Lib.hid (fun w' (hb' : Below wr.heap.size wr w') => below_cell hb' c0)
      have HG := Lib.hid (show l[j]? = some y by have h1 := hd.out; rw [List.drop_eq_getElem_cons hlt] at h1; rw [List.getElem?_eq_getElem hlt]; exact congrArg some (List.cons.inj h1).1)
      clear HC0
      cases put
      · by_cases h1 : n ≤ y
        · by_cases h2 : y = n
          · have e2 := Lib.hid (show R = (ys ++ [n]) ++ insF n true (l.drop (j + 1)) by rw [he.out, hd.out, insF, if_pos (by simp [h1]), if_pos h2, Bool.false_or, decide_eq_true h1]; simp)
            have hyn : (y != n) = false := bne_f h2
            clear h2
            clear he
            go_wp2_with (at_builtin; refine wp_appG1 intE n rfl _ _ rfl rfl ho.out rfl hyb hsz ?_)
            intro v1 w1 ho1 hb1 _ _
            obtain ⟨a1, l1, c1, hv1⟩ : ∃ a l c, v1 = .slice a l c := by obtain ⟨a, c, h, _⟩ := ho1.rd.shape; exact ⟨a, _, c, h⟩
            subst hv1
            have HO1 := Lib.hid ho1
            have HB1 := Lib.hid (hb.out.trans hb1)
            have c1 := atI_cell (H.out.below HB1.out) j y HG.out hi
            clear ho1 hb1
            go_wp2
            go_roundw
            case rel => exact ⟨j + 1, true, (ys ++ [n]), by omega, by go_num, rfl, HO1, HB1, Lib.hid (by have := hyl.out; simp; omega), e2⟩
            case measure => simp [intOf]; omega
          · have e2 := Lib.hid (show R = (ys ++ [n, y]) ++ insF n true (l.drop (j + 1)) by rw [he.out, hd.out, insF, if_pos (by simp [h1]), if_neg h2, Bool.false_or, decide_eq_true h1]; simp)
            have hyn : (y != n) = true := bne_t h2
            clear h2
            clear he
            go_wp2_with (at_builtin; refine wp_appG1 intE n rfl _ _ rfl rfl ho.out rfl hyb hsz ?_)
            intro v1 w1 ho1 hb1 _ _
            obtain ⟨a1, l1, c1, hv1⟩ : ∃ a l c, v1 = .slice a l c := by obtain ⟨a, c, h, _⟩ := ho1.rd.shape; exact ⟨a, _, c, h⟩
            subst hv1
            have HO1 := Lib.hid ho1
            have HB1 := Lib.hid (hb.out.trans hb1)
            have c1 := atI_cell (H.out.below HB1.out) j y HG.out hi
            clear ho1 hb1
            have hsz1 := HB1.out.size
            have hyb1 : (ys ++ [n]).length ≤ 1073741824 := by have h1 := hyl.out; have h2 := HL.out; simp; omega
            go_wp2_with (at_builtin; refine wp_appG1 intE y rfl _ _ rfl rfl HO1.out rfl hyb1 hsz1 ?_)
            intro v2 w2 ho2 hb2 _ _
            obtain ⟨a2, l2, c2, hv2⟩ : ∃ a l c, v2 = .slice a l c := by obtain ⟨a, c, h, _⟩ := ho2.rd.shape; exact ⟨a, _, c, h⟩
            subst hv2
            have HO2 := Lib.hid (show OwnI w.heap.size w2 (.slice a2 l2 c2) (ys ++ [n, y]) by simpa using ho2)
            have HB2 := Lib.hid (HB1.out.trans hb2)
            clear ho2 hb2
            go_wp2
            go_roundw
            case rel => exact ⟨j + 1, true, ys ++ [n, y], by omega, by go_num, rfl, HO2, HB2, Lib.hid (by have := hyl.out; simp; omega), e2⟩
            case measure => simp [intOf]; omega
        · have e2 := Lib.hid (show R = (ys ++ [y]) ++ insF n false (l.drop (j + 1)) by rw [he.out, hd.out, insF, if_neg (by simp [h1]), if_neg (by omega), Bool.false_or, decide_eq_false h1]; simp)
          have hyn : (y != n) = true := bne_t (by omega)
          have h1' : y < n := by omega
          have hdn : decide (n ≤ y) = false := decide_eq_false h1
          clear h1
          clear he
          go_wp2_with (at_builtin; refine wp_appG1 intE y rfl _ _ rfl rfl ho.out rfl hyb hsz ?_)
          intro v1 w1 ho1 hb1 _ _
          obtain ⟨a1, l1, c1, hv1⟩ : ∃ a l c, v1 = .slice a l c := by obtain ⟨a, c, h, _⟩ := ho1.rd.shape; exact ⟨a, _, c, h⟩
          subst hv1
          have HO1 := Lib.hid ho1
          have HB1 := Lib.hid (hb.out.trans hb1)
          clear ho1 hb1
          go_wp2
          go_roundw
          case rel => exact ⟨j + 1, false, (ys ++ [y]), by omega, by go_num, rfl, HO1, HB1, Lib.hid (by have := hyl.out; simp; omega), e2⟩
          case measure => simp [intOf]; omega
      · by_cases h2 : y = n
        · have e2 := Lib.hid (show R = ys ++ insF n true (l.drop (j + 1)) by rw [he.out, hd.out, insF, if_neg (by simp), if_pos h2, Bool.true_or]; simp)
          have hyn : (y != n) = false := bne_f h2
          clear h2
          clear he
          go_wp2
          go_roundw
          case rel => exact ⟨j + 1, true, ys, by omega, by go_num, rfl, ho, hb, Lib.hid (by have := hyl.out; omega), e2⟩
          case measure => simp [intOf]; omega
        · have e2 := Lib.hid (show R = (ys ++ [y]) ++ insF n true (l.drop (j + 1)) by rw [he.out, hd.out, insF, if_neg (by simp), if_neg h2, Bool.true_or]; simp)
          have hyn : (y != n) = true := bne_t h2
          clear h2
          clear he
          go_wp2_with (at_builtin; refine wp_appG1 intE y rfl _ _ rfl rfl ho.out rfl hyb hsz ?_)
          intro v1 w1 ho1 hb1 _ _
          obtain ⟨a1, l1, c1, hv1⟩ : ∃ a l c, v1 = .slice a l c := by obtain ⟨a, c, h, _⟩ := ho1.rd.shape; exact ⟨a, _, c, h⟩
          subst hv1
          have HO1 := Lib.hid ho1
          have HB1 := Lib.hid (hb.out.trans hb1)
          clear ho1 hb1
          go_wp2
          go_roundw
          case rel => exact ⟨j + 1, true, (ys ++ [y]), by omega, by go_num, rfl, HO1, HB1, Lib.hid (by have := hyl.out; simp; omega), e2⟩
          case measure => simp [intOf]; omega
    · have hq : ¬ ((j : Int) < (l.length : Int)) := by omega
      cases put
      · have e2 := Lib.hid (show R = ys ++ [n] by rw [he.out, List.drop_of_length_le (by omega)]; rfl)
        clear he
        go_wp2_with (at_builtin; refine wp_appG1 intE n rfl _ _ rfl rfl ho.out rfl hyb hsz ?_)
        intro v1 w1 ho1 hb1 _ _
        have HO1 := Lib.hid ho1
        have HB1 := Lib.hid (hb.out.trans hb1)
        clear ho1 hb1
        go_wp2
        go_ret
        exact ⟨_, rfl, by rw [e2.out]; exact HO1.out, HB1.out⟩
      · have e2 := Lib.hid (show R = ys by rw [he.out, List.drop_of_length_le (by omega)]; show ys ++ [] = ys; simp)
        clear he
        go_wp2
        go_ret
        exact ⟨_, rfl, by rw [e2.out]; exact ho.out, hb.out⟩

end Go.Proofs.YthgnhaimdkcmeaaGreatDoor

namespace Go.Proofs.YthgnhaimdkcmeaaGreatDoor
open Go.RowKit
open MM (Mem Ent Sm Tri)

section
variable {α : Type} {P : Program} {t e : TypeId} {size bytes : Nat} {enc : α → List Value}
variable {w : World} {ops : Array Oper} {o : Oper} {a : Act} {K : Act → World → Prop} {Q : Exit → Act → World → Prop} {F : Prop} {base : Nat} {v : Value} {ys : List α}
/-- 'append(out, u...)' as one step of a region that draws its order. -/
theorem step_appGS (E : IsElem P t e size bytes enc) {u : Value} {zs : List α} (hwant : Region.wanted o (yielded ops a.tmps) = true) (s r : Operand) (ho : o.op = .call { callee := .builtin .append, args := #[s, r], argTypes := #[t, t] })
    (hs : a.eval s = v) (hown : OwnG enc e size base w v ys) (hx : a.eval r = u) (hu : RdG enc size w u zs) (hlen : ys.length ≤ 1073741824) (hlen2 : zs.length ≤ 1073741824) (hb : base ≤ w.heap.size)
    (h : ∀ v' w', OwnG enc e size base w' v' (ys ++ zs) → Below base w w' → w.grownBy w' v.ownBlock → K (a.put o.dst v') w') :
    if Region.wanted o (yielded ops a.tmps) = true then Oper.wp P o a w K Q else F := by
  rw [if_pos hwant]
  obtain ⟨i0, z, hi, hz0, hz1, hz2, hz3⟩ := E.info
  obtain ⟨ad, c, rfl, h1, h2, h3, hl, h4⟩ := hu
  cases ad with
  | none =>
    obtain ⟨rfl, rfl⟩ := h3 rfl
    have hrun := run_append_owned_none (P := P) (w := w) base t o.type e i0 size E.ht hi _ _ _ hown.1
    unfold Oper.wp
    simp [execOp, ho, resolve, invoke, builtin, hs, hx, hrun, Result.andThen]
    exact h _ _ (by rw [List.append_nil]; exact hown) (Below.refl _ _) ⟨rfl, rfl, rfl, Nat.le_refl _, fun _ _ _ => rfl⟩
  | some ad =>
    refine wp_append_own w s r t ho base e i0 z size bytes E.ht hi hz0 hz1 hz2 hz3 E.pos _ _ _ hs hown.1 ad zs.length c (cellsOf enc zs) hx (cellsOf_length E.len zs) (h4 ad rfl) (cellsOf_one E.one zs) ?_ ?_ hb ?_
    · unfold maxLen; omega
    · have := E.fits
      calc (ys.length + zs.length) * bytes ≤ (1073741824 + 1073741824) * 4096 := Nat.mul_le_mul (by omega) this
        _ ≤ 140737488355328 := by decide
    · intro v' w1 ho1 hg1 _
      refine h v' w1 ⟨?_, hown.2⟩ ((Below.refl _ _).grown hg1 hb (fun k hk => (World.ownsRow.lt hown.1 k hk).1)) hg1
      rw [cellsOf_append, List.length_append]
      exact ho1
theorem RdG.grown {w w' : World} {b n c : Nat} {row : Option Nat} {xs : List α} (h : RdG enc size w (.slice (some ⟨b, 0, none⟩) n c) xs) (hg : w.grownBy w' row) (hne : some b ≠ row) : RdG enc size w' (.slice (some ⟨b, 0, none⟩) n c) xs := by
  obtain ⟨a, c', hv, h1, h2, h3, hl, h4⟩ := h
  refine ⟨a, c', hv, h1, h2, h3, hl, fun x hx j u hu => ?_⟩
  have h5 := h4 x hx j u hu
  cases hv
  cases hx
  have h6 := World.block_lt_of_cell? w _ h5
  rw [addr_block] at h6
  rw [World.cell?_of_block (w := w) (by rw [addr_block]; exact hg.block b h6 hne)]
  exact h5
end

/-- What Weigh builds. -/
def whF (e : Ent) : Bool → List Ent → List Ent
  | put, [] => if put then [] else [e]
  | put, y :: l => if y.1 = e.1 then MM.lat y e :: whF e true l else if (!put && decide (e.1 < y.1)) = true then e :: y :: whF e true l else y :: whF e put l
theorem whF_true {e : Ent} {l : List Ent} (h : ∀ y ∈ l, e.1 < y.1) : whF e true l = l := by
  induction l with
  | nil => rfl
  | cons y l ih =>
    have := h y (by simp)
    rw [whF, if_neg (by omega), if_neg (by simp), ih (fun z hz => h z (by simp [hz]))]
theorem whF_srt {e : Ent} {l : List Ent} (h : MM.Srt MM.kW l) : whF e false l = MM.insW e l := by
  induction l with
  | nil => rfl
  | cons y l ih =>
    have a1 := h.hd MM.kW
    unfold MM.insW MM.ins
    rw [whF]
    show _ = if y.1 = e.1 then MM.lat y e :: l else if e.1 < y.1 then e :: y :: l else y :: MM.insW e l
    by_cases h1 : y.1 = e.1
    · rw [if_pos h1, if_pos h1, whF_true (fun z hz => by have : y.1 < z.1 := a1 z hz; omega)]
    · rw [if_neg h1, if_neg h1]
      by_cases h2 : e.1 < y.1
      · rw [if_pos h2, if_pos (by simp [h2]), whF_true (fun z hz => by have : y.1 < z.1 := a1 z hz; omega)]
      · rw [if_neg h2, if_neg (by simp [h2]), ih (h.tl MM.kW)]

set_option maxRecDepth 100000 in
set_option maxHeartbeats 8000000 in
theorem rWeigh (v : Value) (l : List Ent) (s t x a n : Int) (w : World) (h : RdW w v l) (hl : l.length ≤ 1000000) :
    Calls Tryz.prog 25 #[v, wv s t x a n] w fun e w' => ∃ v', e = .returned v' ∧ OwnW w.heap.size w' v' (whF (s, t, x, a, n) false l) ∧ Below w.heap.size w w' := by
  obtain ⟨ad, c, rfl, hc, hlc⟩ := h.shape
  have hb0 := below_fresh w (.cells #[.int .i64 s, .int .i64 t, .int .i64 x, .int .i64 a, .int .i64 n] 51)
  have hP0 := WBox.fresh w 51 s t x a n
  obtain ⟨w1, hw1⟩ : ∃ w1, w.alloc (.cells #[.int .i64 s, .int .i64 t, .int .i64 x, .int .i64 a, .int .i64 n] 51) = w1 := ⟨_, rfl⟩
  rw [hw1] at hb0 hP0
  have hs1 : w1.heap.size = w.heap.size + 1 := by rw [← hw1]; exact World.size_alloc _ _
  have H := Lib.hid (h.below hb0)
  have HL := Lib.hid hl
  have HB0 := Lib.hid hb0
  have HP := Lib.hid hP0
  have HW := Lib.hid hw1
  have HS1 := Lib.hid hs1
  have HLT := Lib.hid (fun (y1 y2 y3 y4 y5 : Int) (w' : World) => rLater s t x a n y1 y2 y3 y4 y5 w')
  clear h hl hb0 hP0 hw1 hs1
  obtain ⟨R, hR⟩ : ∃ R, R = whF (s, t, x, a, n) false l := ⟨_, rfl⟩
  rw [← hR]
  have HR := Lib.hid (show R = [] ++ whF (s, t, x, a, n) false (l.drop 0) from hR)
  have HI0 := Lib.hid (show OwnW w1.heap.size w1 (.slice none 0 0) [] from OwnG.nil hlW _ _ _)
  clear hR
  go_enter Tryz.func25, Tryz.ntmps25
  go_wp2
  rw [HW.out]
  go_loopw [5, 6, 7] (fun o p i wr => ∃ (j : Nat) (put : Bool) (ys : List Ent), j ≤ l.length ∧ i = .int .i64 j ∧ p = .bool put ∧ Hid (OwnW w1.heap.size wr o ys) ∧ Hid (Below w1.heap.size w1 wr) ∧ Hid (ys.length ≤ 2 * j) ∧ Hid (R = ys ++ whF (s, t, x, a, n) put (l.drop j))) (fun _ _ i _ => l.length - (intOf i).toNat)
  case atStart => exact ⟨0, false, [], Nat.zero_le _, rfl, rfl, HI0, Lib.hid (Below.refl _ _), Lib.hid (Nat.le_refl _), HR⟩
  case round =>
    obtain ⟨j, put, ys, hj, rfl, rfl, ho, hb, hyl, he⟩ := hrel
    clear HR HI0
    obtain ⟨a5, l5, c5, hv5⟩ : ∃ a l c, u5 = .slice a l c := by obtain ⟨a, c, h, _⟩ := ho.out.rd.shape; exact ⟨a, _, c, h⟩
    subst hv5
    have hsz := hb.out.size
    have hyb : ys.length ≤ 1073741824 := by have h1 := hyl.out; have h2 := HL.out; omega
    obtain ⟨p0, p1, p2, p3, p4⟩ := HP.out
    replace p0 := below_cell hb.out p0
    replace p1 := below_cell hb.out p1
    replace p2 := below_cell hb.out p2
    replace p3 := below_cell hb.out p3
    replace p4 := below_cell hb.out p4
    by_cases hlt : j < l.length
    · obtain ⟨⟨y1, y2, y3, y4, y5⟩, hy⟩ : ∃ e, e = l[j] := ⟨_, rfl⟩
      have hg : l[j]? = some (y1, y2, y3, y4, y5) := by rw [hy]; exact List.getElem?_eq_getElem hlt
      obtain ⟨b, o, hi, hbb, c0, c1, c2, c3, c4⟩ := atW (H.out.below hb.out) j _ _ _ _ _ hg
      have hq : (j : Int) < (l.length : Int) := by omega
      have hd := Lib.hid (show l.drop j = (y1, y2, y3, y4, y5) :: l.drop (j + 1) by rw [drop_get hlt, hy])
      clear hy hg
      have P0 := fun p : Later wr => below_cell p.h p0
      have P1 := fun p : Later wr => below_cell p.h p1
      have P2 := fun p : Later wr => below_cell p.h p2
      have P3 := fun p : Later wr => below_cell p.h p3
      have P4 := fun p : Later wr => below_cell p.h p4
      have C0 := fun p : Later wr => below_cell p.h c0
      have C1 := fun p : Later wr => below_cell p.h c1
      have C2 := fun p : Later wr => below_cell p.h c2
      have C3 := fun p : Later wr => below_cell p.h c3
      have C4 := fun p : Later wr => below_cell p.h c4
      have hlt2 := fun p : Later wr => Calls.later (HLT.out y1 y2 y3 y4 y5 p.val)
      by_cases h1 : y1 = s
      · have hy1 : (y1 == s) = true := beq_t h1
        have e1 := Lib.hid (show R = (ys ++ [if MM.aft (x, a, n) (y3, y4, y5) = true then (s, t, x, a, n) else (y1, y2, y3, y4, y5)]) ++ whF (s, t, x, a, n) true (l.drop (j + 1)) by
          rw [he.out, hd.out, whF, if_pos h1]; simp [MM.lat])
        generalize MM.aft (x, a, n) (y3, y4, y5) = u at hlt2 e1
        have HT := Lib.hid hlt2
        clear he h1 hlt2
        cases u
        · replace e1 := Lib.hid (show R = (ys ++ [(y1, y2, y3, y4, y5)]) ++ whF (s, t, x, a, n) true (l.drop (j + 1)) from e1.out)
          go_wp2
          refine wp_region_later (by kernel_rfl) (by kernel_rfl) ?_
          repeat (go_big_quiet_step (first | (with_reducible exact HT.out _)))
          refine wpQuiet_nil ?_
          rintro _ ⟨p', rfl⟩
          have HO2 := Lib.hid (ho.out.below p'.h)
          have HB2 := Lib.hid (hb.out.trans (p'.h.mono hb.out.size))
          have k0 := C0 p'
          have k1 := C1 p'
          have k2 := C2 p'
          have k3 := C3 p'
          have k4 := C4 p'
          have m0 := P0 p'
          have m1 := P1 p'
          have m2 := P2 p'
          have m3 := P3 p'
          have m4 := P4 p'
          generalize p'.val = w2 at HO2 HB2 k0 k1 k2 k3 k4 m0 m1 m2 m3 m4 ⊢
          clear P0 P1 P2 P3 P4 C0 C1 C2 C3 C4 p0 p1 p2 p3 p4 c0 c1 c2 c3 c4
          have hsz2 := HB2.out.size
          go_wp2
          go_quiet (fail)
          go_wp2_with (at_builtin; refine wp_appG1 wgtE (y1, y2, y3, y4, y5) rfl _ _ rfl rfl (HO2.out.drewN _) rfl hyb hsz2 ?_)
          intro v3 w3 ho3 hb3 _ _
          have HO3 := Lib.hid ho3
          have HB3 := Lib.hid (HB2.out.trans (show Below w1.heap.size w2 w3 from ⟨hb3.os, hb3.tape, hb3.output, hb3.size, hb3.block⟩))
          clear ho3 hb3 k0 k1 k2 k3 k4 m0 m1 m2 m3 m4 HO2 HB2
          go_wp2
          go_roundw
          case rel => exact ⟨j + 1, true, ys ++ [(y1, y2, y3, y4, y5)], by omega, by go_num, rfl, HO3, HB3, Lib.hid (by have := hyl.out; simp; omega), e1⟩
          case measure => simp [intOf]; omega
        · replace e1 := Lib.hid (show R = (ys ++ [(s, t, x, a, n)]) ++ whF (s, t, x, a, n) true (l.drop (j + 1)) from e1.out)
          go_wp2
          refine wp_region_later (by kernel_rfl) (by kernel_rfl) ?_
          repeat (go_big_quiet_step (first | (with_reducible exact HT.out _)))
          refine wpQuiet_nil ?_
          rintro _ ⟨p', rfl⟩
          have HO2 := Lib.hid (ho.out.below p'.h)
          have HB2 := Lib.hid (hb.out.trans (p'.h.mono hb.out.size))
          have k0 := C0 p'
          have k1 := C1 p'
          have k2 := C2 p'
          have k3 := C3 p'
          have k4 := C4 p'
          have m0 := P0 p'
          have m1 := P1 p'
          have m2 := P2 p'
          have m3 := P3 p'
          have m4 := P4 p'
          generalize p'.val = w2 at HO2 HB2 k0 k1 k2 k3 k4 m0 m1 m2 m3 m4 ⊢
          clear P0 P1 P2 P3 P4 C0 C1 C2 C3 C4 p0 p1 p2 p3 p4 c0 c1 c2 c3 c4
          have hsz2 := HB2.out.size
          go_wp2_with (at_builtin; refine wp_appG1 wgtE (s, t, x, a, n) rfl _ _ rfl rfl (HO2.out) rfl hyb hsz2 ?_)
          intro v3 w3 ho3 hb3 _ _
          have HO3 := Lib.hid ho3
          have HB3 := Lib.hid (HB2.out.trans (show Below w1.heap.size w2 w3 from ⟨hb3.os, hb3.tape, hb3.output, hb3.size, hb3.block⟩))
          clear ho3 hb3 k0 k1 k2 k3 k4 m0 m1 m2 m3 m4 HO2 HB2
          go_wp2
          go_roundw
          case rel => exact ⟨j + 1, true, ys ++ [(s, t, x, a, n)], by omega, by go_num, rfl, HO3, HB3, Lib.hid (by have := hyl.out; simp; omega), e1⟩
          case measure => simp [intOf]; omega
      · have hy1 : (y1 == s) = false := beq_f h1
        clear hlt2
        cases put
        · by_cases h2 : s < y1
          · have e1 := Lib.hid (show R = (ys ++ [(s, t, x, a, n), (y1, y2, y3, y4, y5)]) ++ whF (s, t, x, a, n) true (l.drop (j + 1)) by rw [he.out, hd.out, whF, if_neg h1, if_pos (by simp [h2])]; simp)
            clear he h1
            go_wp2
            refine wp_region_later (by kernel_rfl) (by kernel_rfl) ?_
            repeat (go_big_quiet_step (fail))
            refine wpQuiet_nil ?_
            rintro _ ⟨p', rfl⟩
            have HO2 := Lib.hid (ho.out.below p'.h)
            have HB2 := Lib.hid (hb.out.trans (p'.h.mono hb.out.size))
            have k0 := C0 p'
            have k1 := C1 p'
            have k2 := C2 p'
            have k3 := C3 p'
            have k4 := C4 p'
            have m0 := P0 p'
            have m1 := P1 p'
            have m2 := P2 p'
            have m3 := P3 p'
            have m4 := P4 p'
            generalize p'.val = w2 at HO2 HB2 k0 k1 k2 k3 k4 m0 m1 m2 m3 m4 ⊢
            clear P0 P1 P2 P3 P4 C0 C1 C2 C3 C4 p0 p1 p2 p3 p4 c0 c1 c2 c3 c4
            have hsz2 := HB2.out.size
            go_wp2
            go_quiet (fail)
            go_wp2
            go_quiet (fail)
            go_wp2
            generalize hw : World.drewN (World.drewN w2 _) _ = wq
            have HOq := Lib.hid (show OwnW w1.heap.size wq (.slice a5 l5 c5) ys by rw [← hw]; exact (HO2.out.drewN _).drewN _)
            have HBq := Lib.hid (show Below w1.heap.size w1 wq by rw [← hw]; exact ⟨HB2.out.os, HB2.out.tape, HB2.out.output, HB2.out.size, HB2.out.block⟩)
            have k0 : wq.cell? ⟨b, o, none⟩ = some (.int .i64 y1) := by rw [← hw]; exact k0
            have k1 : wq.cell? ⟨b, o + 1, none⟩ = some (.int .i64 y2) := by rw [← hw]; exact k1
            have k2 : wq.cell? ⟨b, o + 2, none⟩ = some (.int .i64 y3) := by rw [← hw]; exact k2
            have k3 : wq.cell? ⟨b, o + 3, none⟩ = some (.int .i64 y4) := by rw [← hw]; exact k3
            have k4 : wq.cell? ⟨b, o + 4, none⟩ = some (.int .i64 y5) := by rw [← hw]; exact k4
            have m0 : wq.cell? ⟨w.heap.size, 0, none⟩ = some (.int .i64 s) := by rw [← hw]; exact m0
            have m1 : wq.cell? ⟨w.heap.size, 1, none⟩ = some (.int .i64 t) := by rw [← hw]; exact m1
            have m2 : wq.cell? ⟨w.heap.size, 2, none⟩ = some (.int .i64 x) := by rw [← hw]; exact m2
            have m3 : wq.cell? ⟨w.heap.size, 3, none⟩ = some (.int .i64 a) := by rw [← hw]; exact m3
            have m4 : wq.cell? ⟨w.heap.size, 4, none⟩ = some (.int .i64 n) := by rw [← hw]; exact m4
            clear hw HO2 HB2 hsz2
            have HOq2 := Lib.hid (show OwnW w1.heap.size wq.drew (.slice a5 l5 c5) ys from HOq.out)
            have HBq2 := Lib.hid (HBq.out.drew)
            have hz0 := ownG_fresh hlW 51 wq.drew [(s, t, x, a, n), (y1, y2, y3, y4, y5)] (by unfold maxLen; simp)
            have hzb := below_fresh wq.drew (.cells #[.int .i64 s, .int .i64 t, .int .i64 x, .int .i64 a, .int .i64 n, .int .i64 y1, .int .i64 y2, .int .i64 y3, .int .i64 y4, .int .i64 y5] 51)
            have HZ := Lib.hid (show RdW (wq.drew.alloc (.cells #[.int .i64 s, .int .i64 t, .int .i64 x, .int .i64 a, .int .i64 n, .int .i64 y1, .int .i64 y2, .int .i64 y3, .int .i64 y4, .int .i64 y5] 51)) (.slice (some ⟨wq.drew.heap.size, 0, none⟩) 2 2) [(s, t, x, a, n), (y1, y2, y3, y4, y5)] from hz0.rd)
            have HO2 := Lib.hid (HOq2.out.below hzb)
            have HB2 := Lib.hid (HBq2.out.trans (hzb.mono HBq2.out.size))
            have hsz2 := HB2.out.size
            clear hz0 hzb
            go_region_law (first
              | (refine step_appGS (base := w1.heap.size) wgtE (by rfl) _ _ rfl (by rfl) HO2.out (by rfl) HZ.out hyb (by simp) hsz2 ?_; intro v3 w3 ho3 hb3 _; have HO3 := Lib.hid ho3; have HB3 := Lib.hid (HB2.out.trans hb3); obtain ⟨a3, l3, c3, hv3⟩ : ∃ a l c, v3 = .slice a l c := (by obtain ⟨a, c, h, _⟩ := ho3.rd.shape; exact ⟨a, _, c, h⟩); subst hv3; clear ho3 hb3))
            all_goals
              clear HO2 HB2 HZ k0 k1 k2 k3 k4 m0 m1 m2 m3 m4
              go_wp2
              go_roundw
              case rel => exact ⟨j + 1, true, ys ++ [(s, t, x, a, n), (y1, y2, y3, y4, y5)], by omega, by go_num, rfl, HO3, HB3, Lib.hid (by have := hyl.out; simp; omega), e1⟩
              case measure => simp [intOf]; omega
          · have e1 := Lib.hid (show R = (ys ++ [(y1, y2, y3, y4, y5)]) ++ whF (s, t, x, a, n) false (l.drop (j + 1)) by rw [he.out, hd.out, whF, if_neg h1, if_neg (by simp [h2])]; simp)
            clear he h1
            go_wp2
            refine wp_region_later (by kernel_rfl) (by kernel_rfl) ?_
            repeat (go_big_quiet_step (fail))
            refine wpQuiet_nil ?_
            rintro _ ⟨p', rfl⟩
            have HO2 := Lib.hid (ho.out.below p'.h)
            have HB2 := Lib.hid (hb.out.trans (p'.h.mono hb.out.size))
            have k0 := C0 p'
            have k1 := C1 p'
            have k2 := C2 p'
            have k3 := C3 p'
            have k4 := C4 p'
            have m0 := P0 p'
            have m1 := P1 p'
            have m2 := P2 p'
            have m3 := P3 p'
            have m4 := P4 p'
            generalize p'.val = w2 at HO2 HB2 k0 k1 k2 k3 k4 m0 m1 m2 m3 m4 ⊢
            clear P0 P1 P2 P3 P4 C0 C1 C2 C3 C4 p0 p1 p2 p3 p4 c0 c1 c2 c3 c4
            have hsz2 := HB2.out.size
            go_wp2
            go_quiet (fail)
            go_wp2
            go_quiet (fail)
            go_wp2_with (at_builtin; refine wp_appG1 wgtE (y1, y2, y3, y4, y5) rfl _ _ rfl rfl (HO2.out.drewN _) rfl hyb hsz2 ?_)
            intro v3 w3 ho3 hb3 _ _
            have HO3 := Lib.hid ho3
            have HB3 := Lib.hid (HB2.out.trans (show Below w1.heap.size w2 w3 from ⟨hb3.os, hb3.tape, hb3.output, hb3.size, hb3.block⟩))
            clear ho3 hb3 k0 k1 k2 k3 k4 m0 m1 m2 m3 m4 HO2 HB2
            go_wp2
            go_roundw
            case rel => exact ⟨j + 1, false, ys ++ [(y1, y2, y3, y4, y5)], by omega, by go_num, rfl, HO3, HB3, Lib.hid (by have := hyl.out; simp; omega), e1⟩
            case measure => simp [intOf]; omega
        · have e1 := Lib.hid (show R = (ys ++ [(y1, y2, y3, y4, y5)]) ++ whF (s, t, x, a, n) true (l.drop (j + 1)) by rw [he.out, hd.out, whF, if_neg h1, if_neg (by simp)]; simp)
          clear he h1
          go_wp2
          refine wp_region_later (by kernel_rfl) (by kernel_rfl) ?_
          repeat (go_big_quiet_step (fail))
          refine wpQuiet_nil ?_
          rintro _ ⟨p', rfl⟩
          have HO2 := Lib.hid (ho.out.below p'.h)
          have HB2 := Lib.hid (hb.out.trans (p'.h.mono hb.out.size))
          have k0 := C0 p'
          have k1 := C1 p'
          have k2 := C2 p'
          have k3 := C3 p'
          have k4 := C4 p'
          have m0 := P0 p'
          have m1 := P1 p'
          have m2 := P2 p'
          have m3 := P3 p'
          have m4 := P4 p'
          generalize p'.val = w2 at HO2 HB2 k0 k1 k2 k3 k4 m0 m1 m2 m3 m4 ⊢
          clear P0 P1 P2 P3 P4 C0 C1 C2 C3 C4 p0 p1 p2 p3 p4 c0 c1 c2 c3 c4
          have hsz2 := HB2.out.size
          go_wp2
          go_quiet (fail)
          go_wp2
          go_quiet (fail)
          go_wp2_with (at_builtin; refine wp_appG1 wgtE (y1, y2, y3, y4, y5) rfl _ _ rfl rfl (HO2.out.drewN _) rfl hyb hsz2 ?_)
          intro v3 w3 ho3 hb3 _ _
          have HO3 := Lib.hid ho3
          have HB3 := Lib.hid (HB2.out.trans (show Below w1.heap.size w2 w3 from ⟨hb3.os, hb3.tape, hb3.output, hb3.size, hb3.block⟩))
          clear ho3 hb3 k0 k1 k2 k3 k4 m0 m1 m2 m3 m4 HO2 HB2
          go_wp2
          go_roundw
          case rel => exact ⟨j + 1, true, ys ++ [(y1, y2, y3, y4, y5)], by omega, by go_num, rfl, HO3, HB3, Lib.hid (by have := hyl.out; simp; omega), e1⟩
          case measure => simp [intOf]; omega
    · have hq : ¬ ((j : Int) < (l.length : Int)) := by omega
      have HBF := Lib.hid (show Below w.heap.size w wr from HB0.out.trans (hb.out.mono (by have := HS1.out; omega)))
      cases put
      · have e2 := Lib.hid (show R = ys ++ [(s, t, x, a, n)] by rw [he.out, List.drop_of_length_le (by omega)]; rfl)
        clear he
        go_wp2_with (at_builtin; refine wp_appG1 wgtE (s, t, x, a, n) rfl _ _ rfl rfl ho.out rfl hyb hsz ?_)
        intro v3 w3 ho3 hb3 _ _
        have HO3 := Lib.hid (ho3.mono (show w.heap.size ≤ w1.heap.size by have := HS1.out; omega))
        have HB3 := Lib.hid (HBF.out.trans (hb3.mono (show w.heap.size ≤ w1.heap.size by have := HS1.out; omega)))
        clear ho3 hb3
        go_wp2
        go_ret
        exact ⟨_, rfl, by rw [e2.out]; exact HO3.out, HB3.out⟩
      · have e2 := Lib.hid (show R = ys by rw [he.out, List.drop_of_length_le (by omega)]; show ys ++ [] = ys; simp)
        clear he
        go_wp2
        go_ret
        exact ⟨_, rfl, by rw [e2.out]; exact ho.out.mono (by have := HS1.out; omega), HBF.out⟩

end Go.Proofs.YthgnhaimdkcmeaaGreatDoor

namespace Go.Proofs.YthgnhaimdkcmeaaGreatDoor
open Go.RowKit
open MM (Mem Ent Sm Tri)

theorem rini_ret {R : Ending → World → Prop} {a : Act} {w : World} {g : Nat} {x y z : Value} {k c f v a' n : Int} (hp : a.tmps.getD 2 undef = .pointer (some ⟨g, 0, none⟩)) (hg : w.heap[g]? = some (.cells (s9 x y z k c f v a' n) 37 (0, 0)))
    (hd : a.defers = []) (hR : R (.returned (sv x y z k c f v a' n)) w) : bodyPost Tryz.prog Tryz.f13 R .ret a w :=
  bodyPost_ret (results_cell_row (P := Tryz.prog) rfl a.tmps w g 37 _ _ _ hp hg Tryz.underlying37 rfl (by kernel_rfl)) hd hR

set_option maxRecDepth 100000 in
set_option maxHeartbeats 4000000 in
theorem rInitial (u : Value) (k c f : Int) (ms : List Mem) (w : World) (h : RdM w u ms) (hlen : ms.length ≤ 1000000) :
    Calls Tryz.prog 13 #[vw u k c f] w fun e w' => ∃ v, e = .returned v ∧ FrS w.heap.size w' v (MM.ini ms k c f) ∧ Below w.heap.size w w' := by
  obtain ⟨ad, cp, rfl, hcp, hl⟩ := h.shape
  obtain ⟨w3, hw3, hB, hsz, hG, hZ, hS⟩ := ini_boxes w (.slice ad ms.length cp) k c f
  have H := Lib.hid h
  have HW := Lib.hid hw3
  have HB := Lib.hid hB
  have HSZ := Lib.hid hsz
  have HLEN := Lib.hid hlen
  have HI0 := Lib.hid (show OwnI w3.heap.size w3 (.slice none 0 0) ((ms.map (·.1)).take 0) from OwnG.nil hlI _ _ _)
  have HE0 := Lib.hid (show OwnW w3.heap.size w3 (.slice none 0 0) ((ms.map fun m => ((m.1, m.2, 0, 0, 0) : Ent)).take 0) from OwnG.nil hlW _ _ _)
  have HG := Lib.hid hG
  have HZ := Lib.hid hZ
  have HS := Lib.hid hS
  clear h hw3 hB hsz hG hZ hS hlen
  go_enter Tryz.func13, Tryz.ntmps13
  go_wp2
  rw [HW.out]
  go_loopw [4] (fun i wr => ∃ (j : Nat) (vj vw' : Value), j ≤ ms.length ∧ i = .int .i64 j ∧ Hid (Below w.heap.size w wr) ∧ Hid (w3.heap.size ≤ wr.heap.size) ∧
    Hid (wr.heap[w.heap.size]? = some (.cells #[.slice ad ms.length cp, .int .i64 k, .int .i64 c, .int .i64 f] 30 (0, 0))) ∧
    Hid (wr.heap[w.heap.size + 1]? = some (.cells (s9 (.slice none 0 0) (.slice none 0 0) (.slice none 0 0) 0 0 0 0 0 0) 37 (0, 0))) ∧
    Hid (wr.heap[w.heap.size + 1 + 1]? = some (.cells (s9 vj (.slice none 0 0) vw' k c f 0 0 0) 37 (0, 0))) ∧
    Hid (OwnI w3.heap.size wr vj ((ms.map (·.1)).take j)) ∧ Hid (OwnW w3.heap.size wr vw' ((ms.map fun m => ((m.1, m.2, 0, 0, 0) : Ent)).take j))) (fun i _ => ms.length - (intOf i).toNat)
  case atStart => exact ⟨0, _, _, Nat.zero_le _, rfl, HB, Lib.hid (Nat.le_refl _), HG, HZ, HS, HI0, HE0⟩
  case round =>
    obtain ⟨j, vj, vw', hj, rfl, hb, hs3, hg, hz, hsb, hoi, hoe⟩ := hrel
    clear HI0 HE0 HB HW HG HZ HS
    obtain ⟨ai, li, ci, hvi⟩ : ∃ a l c, vj = .slice a l c := by obtain ⟨a, c, h, _⟩ := hoi.out.rd.shape; exact ⟨a, _, c, h⟩
    obtain ⟨ae, le, ce, hve⟩ : ∃ a l c, vw' = .slice a l c := by obtain ⟨a, c, h, _⟩ := hoe.out.rd.shape; exact ⟨a, _, c, h⟩
    subst hvi hve
    obtain ⟨⟨q0, q1, q2, q3⟩, _⟩ := row4_at hg.out
    by_cases hlt : j < ms.length
    · obtain ⟨⟨x, t⟩, hx⟩ : ∃ m, m = ms[j] := ⟨_, rfl⟩
      obtain ⟨b, o, hi, hbb, c0, c1⟩ := atM (H.out.below hb.out) j (x, t) (by rw [hx]; exact List.getElem?_eq_getElem hlt)
      simp only at c0 c1
      have hq : (j : Int) < (ms.length : Int) := by omega
      have HJX := Lib.hid (show ms[j]? = some (x, t) by rw [hx]; exact List.getElem?_eq_getElem hlt)
      have HTI := Lib.hid (show (ms.map (·.1)).take j ++ [x] = (ms.map (·.1)).take (j + 1) by rw [List.take_add_one, List.getElem?_map, List.getElem?_eq_getElem hlt, ← hx]; rfl)
      have HTE := Lib.hid (show (ms.map fun m => ((m.1, m.2, 0, 0, 0) : Ent)).take j ++ [((x, t, 0, 0, 0) : Ent)] = (ms.map fun m => ((m.1, m.2, 0, 0, 0) : Ent)).take (j + 1) by rw [List.take_add_one, List.getElem?_map, List.getElem?_eq_getElem hlt, ← hx]; rfl)
      have hle1 : ((ms.map (·.1)).take j).length ≤ 1073741824 := by rw [List.length_take, List.length_map]; have := HLEN.out; omega
      have HLE2 := Lib.hid (show ((ms.map fun m => ((m.1, m.2, 0, 0, 0) : Ent)).take j).length ≤ 1073741824 by rw [List.length_take, List.length_map]; have := HLEN.out; omega)
      obtain ⟨⟨z0, z1, z2, z3, z4, z5, z6, z7, z8⟩, _⟩ := row9_at hsb.out
      have HC := Lib.hid (And.intro c0 c1)
      have HOI := Lib.hid (show OwnI w3.heap.size wr.drew (.slice ai li ci) ((ms.map (·.1)).take j) from hoi.out)
      have hsz : w3.heap.size ≤ wr.drew.heap.size := hs3.out
      have HB1 := Lib.hid (show Below w.heap.size w wr.drew from hb.out.drew)
      have HG1 := Lib.hid (show wr.drew.heap[w.heap.size]? = some (.cells #[.slice ad ms.length cp, .int .i64 k, .int .i64 c, .int .i64 f] 30 (0, 0)) from hg.out)
      have HZ1 := Lib.hid (show wr.drew.heap[w.heap.size + 1]? = some (.cells (s9 (.slice none 0 0) (.slice none 0 0) (.slice none 0 0) 0 0 0 0 0 0) 37 (0, 0)) from hz.out)
      have HS1 := Lib.hid (show wr.drew.heap[w.heap.size + 1 + 1]? = some (.cells (s9 (.slice ai li ci) (.slice none 0 0) (.slice ae le ce) k c f 0 0 0) 37 (0, 0)) from hsb.out)
      have HE1 := Lib.hid (show OwnW w3.heap.size wr.drew (.slice ae le ce) ((ms.map fun m => ((m.1, m.2, 0, 0, 0) : Ent)).take j) from hoe.out)
      obtain ⟨⟨zz0, _⟩, _⟩ := row9_at (below_block hsb.out (below_fresh wr (.cells #[.int .i64 x] 3)))
      clear hx hb hs3 hg hz hsb hoi hoe
      go_upto_region 5 with fail
      go_cut [4] from 15 to 25 (fun p4 wx => p4 = .int .i64 j ∧ ∃ (a1 : Option Addr) (l1 c1' : Nat), Hid (wx.heap[w.heap.size + 1 + 1]? = some (.cells (s9 (.slice a1 l1 c1') (.slice none 0 0) (.slice ae le ce) k c f 0 0 0) 37 (0, 0))) ∧
        Hid (wx.heap[w.heap.size + 1]? = some (.cells (s9 (.slice none 0 0) (.slice none 0 0) (.slice none 0 0) 0 0 0 0 0 0) 37 (0, 0))) ∧ Hid (wx.heap[w.heap.size]? = some (.cells #[.slice ad ms.length cp, .int .i64 k, .int .i64 c, .int .i64 f] 30 (0, 0))) ∧
        Hid (OwnI w3.heap.size wx (.slice a1 l1 c1') ((ms.map (·.1)).take (j + 1))) ∧ Hid (OwnW w3.heap.size wx (.slice ae le ce) ((ms.map fun m => ((m.1, m.2, 0, 0, 0) : Ent)).take j)) ∧ Hid (Below w.heap.size w wx) ∧ Hid (w3.heap.size ≤ wx.heap.size))
      case first =>
       go_region_law (first
        | (refine step_appG1 intE x rfl _ _ rfl rfl HOI.out rfl hle1 hsz ?_; intro v1 w1 ho1 hb1 hk1; obtain ⟨a1, l1, c1', hv1⟩ : ∃ a l c, v1 = .slice a l c := (by obtain ⟨a, c, h, _⟩ := ho1.rd.shape; exact ⟨a, _, c, h⟩); subst hv1; have hs1 := blk_keep hb1 (by have := HSZ.out; omega) HS1.out; obtain ⟨⟨r0, r1, r2, r3, r4, r5, r6, r7, r8⟩, f0, f1, f2, f3, f4, f5, f6, f7, f8⟩ := row9_at hs1; have HS2 := Lib.hid hs1; clear hs1))
       all_goals
        have hs2 : (w1.setCell ⟨w.heap.size + 1 + 1, 0, none⟩ (.slice a1 l1 c1')).heap[w.heap.size + 1 + 1]? = some (.cells (s9 (.slice a1 l1 c1') (.slice none 0 0) (.slice ae le ce) k c f 0 0 0) 37 (0, 0)) := heap_setCell_same w1 _ 0 _ _ _ HS2.out
        have ho2 : Only (w.heap.size + 1 + 1) w1 (w1.setCell ⟨w.heap.size + 1 + 1, 0, none⟩ (.slice a1 l1 c1')) := Only.set 0 _
        have hb12 := HB1.out.trans (hb1.mono (show w.heap.size ≤ w3.heap.size by have := HSZ.out; omega))
        have HS3 := Lib.hid hs2
        have HZ3 := Lib.hid (ho2.at (blk_keep hb1 (by have := HSZ.out; omega) HZ1.out) (by omega))
        have HG3 := Lib.hid (ho2.at (blk_keep hb1 (by have := HSZ.out; omega) HG1.out) (by omega))
        have HOI3 := Lib.hid (ownG_only ho1 HS2.out (by decide) ho2)
        have HE3 := Lib.hid (ownG_only (ownG_keep HE1.out hk1 (by decide)) HS2.out (by decide) ho2)
        have HB3 := Lib.hid (hb12.trans (ho2.below (by omega) hb12.size))
        have HSZ3 := Lib.hid (Nat.le_trans (Nat.le_trans hsz hb1.size) ho2.size)
        clear hs2 ho2 hb12 ho1 hb1 hk1 r0 r1 r2 r3 r4 r5 r6 r7 r8 f0 f1 f2 f3 f4 f5 f6 f7 f8 z0 z1 z2 z3 z4 z5 z6 z7 z8 zz0 c0 c1 q0 q1 q2 q3 HS2 HOI HE1 HS1 HZ1 HG1 HB1 hle1 hsz
        generalize w1.setCell ⟨w.heap.size + 1 + 1, 0, none⟩ (.slice a1 l1 c1') = w2 at HS3 HZ3 HG3 HOI3 HE3 HB3 HSZ3 ⊢
        go_wp2
        go_meet
        exact ⟨rfl, a1, l1, c1', HS3, HZ3, HG3, Lib.hid (by rw [← HTI.out]; exact HOI3.out), HE3, HB3, HSZ3⟩
      case rest =>
        obtain ⟨rfl, a1, l1, c1', HS3, HZ3, HG3, HOI3, HE3, HB3, HSZ3⟩ := hcut
        clear hi hbb c0 c1
        obtain ⟨⟨z0, z1, z2, z3, z4, z5, z6, z7, z8⟩, _⟩ := row9_at HS3.out
        obtain ⟨⟨q0, q1, q2, q3⟩, _⟩ := row4_at HG3.out
        obtain ⟨b, o, hi, hbb, c0, c1⟩ := atM (H.out.below HB3.out) j (x, t) HJX.out
        simp only at c0 c1
        have HOE := Lib.hid (show OwnW w3.heap.size wc.drew (.slice ae le ce) ((ms.map fun m => ((m.1, m.2, 0, 0, 0) : Ent)).take j) from HE3.out)
        have hsz : w3.heap.size ≤ wc.drew.heap.size := HSZ3.out
        have hle2 := HLE2.out
        have HB4 := Lib.hid (show Below w.heap.size w wc.drew from HB3.out.drew)
        have HG4 := Lib.hid (show wc.drew.heap[w.heap.size]? = some (.cells #[.slice ad ms.length cp, .int .i64 k, .int .i64 c, .int .i64 f] 30 (0, 0)) from HG3.out)
        have HZ4 := Lib.hid (show wc.drew.heap[w.heap.size + 1]? = some (.cells (s9 (.slice none 0 0) (.slice none 0 0) (.slice none 0 0) 0 0 0 0 0 0) 37 (0, 0)) from HZ3.out)
        have HS4 := Lib.hid (show wc.drew.heap[w.heap.size + 1 + 1]? = some (.cells (s9 (.slice a1 l1 c1') (.slice none 0 0) (.slice ae le ce) k c f 0 0 0) 37 (0, 0)) from HS3.out)
        have HI4 := Lib.hid (show OwnI w3.heap.size wc.drew (.slice a1 l1 c1') ((ms.map (·.1)).take (j + 1)) from HOI3.out)
        obtain ⟨⟨_, _, zz2, _⟩, _⟩ := row9_at (below_block HS3.out (below_fresh wc (.cells #[.int .i64 x, .int .i64 t, .int .i64 0, .int .i64 0, .int .i64 0] 51)))
        clear HS3 HZ3 HG3 HOI3 HE3 HB3 HSZ3
        go_upto_region 6 with fail
        go_region_law (first
          | (refine step_appG1 wgtE (x, t, 0, 0, 0) rfl _ _ rfl rfl HOE.out rfl hle2 hsz ?_; intro v1 w1 ho1 hb1 hk1; obtain ⟨a2, l2, c2', hv2⟩ : ∃ a l c, v1 = .slice a l c := (by obtain ⟨a, c, h, _⟩ := ho1.rd.shape; exact ⟨a, _, c, h⟩); subst hv2; have hs1 := blk_keep hb1 (by have := HSZ.out; omega) HS4.out; obtain ⟨⟨r0, r1, r2, r3, r4, r5, r6, r7, r8⟩, f0, f1, f2, f3, f4, f5, f6, f7, f8⟩ := row9_at hs1; have HS5 := Lib.hid hs1; clear hs1))
        all_goals
          have hs2 : (w1.setCell ⟨w.heap.size + 1 + 1, 2, none⟩ (.slice a2 l2 c2')).heap[w.heap.size + 1 + 1]? = some (.cells (s9 (.slice a1 l1 c1') (.slice none 0 0) (.slice a2 l2 c2') k c f 0 0 0) 37 (0, 0)) := heap_setCell_same w1 _ 2 _ _ _ HS5.out
          have ho2 : Only (w.heap.size + 1 + 1) w1 (w1.setCell ⟨w.heap.size + 1 + 1, 2, none⟩ (.slice a2 l2 c2')) := Only.set 2 _
          have hb12 := HB4.out.trans (hb1.mono (show w.heap.size ≤ w3.heap.size by have := HSZ.out; omega))
          have HS6 := Lib.hid hs2
          have HZ6 := Lib.hid (ho2.at (blk_keep hb1 (by have := HSZ.out; omega) HZ4.out) (by omega))
          have HG6 := Lib.hid (ho2.at (blk_keep hb1 (by have := HSZ.out; omega) HG4.out) (by omega))
          have HE6 := Lib.hid (ownG_only ho1 HS5.out (by decide) ho2)
          have HI6 := Lib.hid (ownG_only (ownG_keep HI4.out hk1 (by decide)) HS5.out (by decide) ho2)
          have HB6 := Lib.hid (hb12.trans (ho2.below (by omega) hb12.size))
          have HSZ6 := Lib.hid (Nat.le_trans (Nat.le_trans hsz hb1.size) ho2.size)
          clear hs2 ho2 hb12 ho1 hb1 hk1 r0 r1 r2 r3 r4 r5 r6 r7 r8 f0 f1 f2 f3 f4 f5 f6 f7 f8 z0 z1 z2 z3 z4 z5 z6 z7 z8 zz2 c0 c1 q0 q1 q2 q3 HS5 HOE HI4 HS4 HZ4 HG4 HB4 hle2 hsz
          generalize w1.setCell ⟨w.heap.size + 1 + 1, 2, none⟩ (.slice a2 l2 c2') = w2 at HS6 HZ6 HG6 HI6 HE6 HB6 HSZ6 ⊢
          go_wp2
          go_roundw
          case rel => exact ⟨j + 1, _, _, by omega, by go_num, HB6, HSZ6, HG6, HZ6, HS6, HI6, Lib.hid (by rw [← HTE.out]; exact HE6.out)⟩
          case measure => simp [intOf]; omega
    · have hq : ¬ ((j : Int) < (ms.length : Int)) := by omega
      obtain ⟨⟨z0, z1, z2, z3, z4, z5, z6, z7, z8⟩, f0, f1, f2, f3, f4, f5, f6, f7, f8⟩ := row9_at hsb.out
      obtain ⟨⟨y0, y1, y2, y3, y4, y5, y6, y7, y8⟩, g0, g1, g2, g3, g4, g5, g6, g7, g8⟩ := row9_at hz.out
      go_wp2
      have hp := row9_put hz.out (.slice ai li ci) (.slice none 0 0) (.slice ae le ce) (.int .i64 k) (.int .i64 c) (.int .i64 f) (.int .i64 0) (.int .i64 0) (.int .i64 0) w.heap.size (by omega)
      have hon := onlyc9 (w := wr) (g := w.heap.size + 1) (.slice ai li ci) (.slice none 0 0) (.slice ae le ce) (.int .i64 k) (.int .i64 c) (.int .i64 f) (.int .i64 0) (.int .i64 0) (.int .i64 0)
      refine rini_ret rfl hp.1 rfl ⟨_, rfl, fun w'' hf => ⟨_, _, _, rfl, ?_, RdG.nil hlI _, ?_⟩, hb.out.trans hp.2⟩
      · have := ((ownG_only hoi.out hz.out (by decide) hon).fr (hf.mono (by have := HSZ.out; omega))).rd
        rw [List.take_of_length_le (by rw [List.length_map]; omega)] at this
        exact this
      · have := ((ownG_only hoe.out hz.out (by decide) hon).fr (hf.mono (by have := HSZ.out; omega))).rd
        rw [List.take_of_length_le (by rw [List.length_map]; omega)] at this
        exact this

end Go.Proofs.YthgnhaimdkcmeaaGreatDoor
