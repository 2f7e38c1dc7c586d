/-
  The calls of strings.SplitSeq and of command.Compile: what DM.cmpl gives. Conditions: the library's variables hold what they are laid with; the summary reads, no version of it is negative; the text has at most a million bytes.
-/
import Derived.Test.YthgnhaimdkcmeaaGreatDoorDSeq
namespace Go.Proofs.YthgnhaimdkcmeaaGreatDoor
open Go.RowKit Go.Joins Go.Shelf
open JM (Chg)
open MM (Mem Ent Sm Tri)
attribute [local go_sem] Oper.semAt_some

theorem OwnG.stay {α : Type} {enc : α → List Value} {e : TypeId} {size base : Nat} {w w' : World} {v : Value} {ys : List α} (h : OwnG enc e size base w v ys) (hs : ∀ g cur fr, base ≤ g → w.heap[g]? = some (.cells cur e fr) → w'.heap[g]? = some (.cells cur e fr)) : OwnG enc e size base w' v ys := by
  refine ⟨⟨h.1.1, ?_⟩, h.2⟩
  rcases h.1.2 with h6 | ⟨gg, cap, cur, hv, hgg, hh, r⟩
  · exact .inl h6
  · exact .inr ⟨gg, cap, cur, hv, hgg, hs _ _ _ hgg hh, r⟩

set_option maxRecDepth 100000 in
set_option maxHeartbeats 1000000 in
theorem cSplitSeq (s : ByteArray) (w : World) : Calls Tryz.prog 19 #[.string s, .string ⟨#[10]⟩] w fun e w' =>
    e = .returned (.func (.func 47) #[] #[.pointer (some ⟨w.heap.size + 1, 0, none⟩), .pointer (some ⟨w.heap.size, 0, none⟩), .pointer (some ⟨w.heap.size + 1 + 1, 0, none⟩)]) ∧
    w' = ((w.alloc (.cells #[.string s] 9)).alloc (.cells #[.string ⟨#[10]⟩] 9)).alloc (.cells #[.int .i64 0] 3) := by
  have hmf : ∀ (fn : Fn) (first cap : Array Value) (w : World), (Instr.makeFunc fn first cap).run Tryz.prog w = .ok (.func fn first cap) w := fun _ _ _ _ => rfl
  go_enter Tryz.func19, Tryz.ntmps19
  go_wp2
  go_ret
  exact ⟨rfl, rfl⟩

theorem seq_boxes (s : ByteArray) (w : World) : ∃ w3, ((w.alloc (.cells #[.string s] 9)).alloc (.cells #[.string ⟨#[10]⟩] 9)).alloc (.cells #[.int .i64 0] 3) = w3 ∧ Below w.heap.size w w3 ∧ w3.heap.size = w.heap.size + 3 ∧
    w3.heap[w.heap.size + 1]? = some (.cells #[.string ⟨#[10]⟩] 9 (0, 0)) ∧ w3.heap[w.heap.size]? = some (.cells #[.string s] 9 (0, 0)) ∧ w3.heap[w.heap.size + 1 + 1]? = some (.cells #[.int .i64 0] 3 (0, 0)) := by
  have b1 := below_fresh w (.cells #[.string s] 9)
  have h1 := heap_alloc_new w (.cells #[.string s] 9)
  have e1 := World.size_alloc w (.cells #[.string s] 9)
  generalize w.alloc (.cells #[.string s] 9) = w1 at *
  have b2 := below_fresh w1 (.cells #[.string ⟨#[10]⟩] 9)
  have h2 := heap_alloc_new w1 (.cells #[.string ⟨#[10]⟩] 9)
  have e2 := World.size_alloc w1 (.cells #[.string ⟨#[10]⟩] 9)
  generalize w1.alloc (.cells #[.string ⟨#[10]⟩] 9) = w2 at *
  have b3 := below_fresh w2 (.cells #[.int .i64 0] 3)
  have h3 := heap_alloc_new w2 (.cells #[.int .i64 0] 3)
  have e3 := World.size_alloc w2 (.cells #[.int .i64 0] 3)
  rw [e1] at h2
  rw [e2, e1] at h3
  exact ⟨_, rfl, bnext (bnext b1 b2) b3, by omega, below_block h2 b3, below_block (below_block h1 b2) b3, h3⟩

/-- What lies in the boxes of a call of Compile, from block B on. -/
structure Bx (B : Nat) (w0 : World) (sg : Array Value) (va : Value) (k : Int) (W : World) : Prop where
  s : W.heap[B]? = some (.cells sg 37 (0, 0))
  r1 : W.heap[B + 1]? = some (.cells #[.slice none 0 0] 39 (0, 0))
  r2 : W.heap[B + 1 + 1]? = some (.cells #[.int .i64 0] 3 (0, 0))
  r3 : W.heap[B + 1 + 1 + 1]? = some (.cells #[.int .i64 0] 40 (0, 0))
  c : W.heap[B + 1 + 1 + 1 + 1]? = some (.cells #[va] 39 (0, 0))
  n : W.heap[B + 1 + 1 + 1 + 1 + 1]? = some (.cells #[.int .i64 k] 3 (0, 0))
  b : Below B w0 W
theorem Bx.same {B : Nat} {w0 : World} {sg : Array Value} {va : Value} {k : Int} {W W' : World} (h : Bx B w0 sg va k W) (hs : ∀ i, B ≤ i → i ≤ B + 5 → W'.heap[i]? = W.heap[i]?) (hb : Below B w0 W') : Bx B w0 sg va k W' :=
  ⟨(hs _ (by omega) (by omega)).trans h.s, (hs _ (by omega) (by omega)).trans h.r1, (hs _ (by omega) (by omega)).trans h.r2, (hs _ (by omega) (by omega)).trans h.r3, (hs _ (by omega) (by omega)).trans h.c, (hs _ (by omega) (by omega)).trans h.n, hb⟩
theorem Bx.below {B : Nat} {w0 : World} {sg : Array Value} {va : Value} {k : Int} {W W' : World} (h : Bx B w0 sg va k W) (hb : Below W.heap.size W W') (hB : B ≤ W.heap.size) : Bx B w0 sg va k W' := by
  have hlt := (Array.getElem?_eq_some_iff.1 h.n).1
  exact h.same (fun i h1 h2 => hb.block i (by omega)) (h.b.trans (hb.mono hB))
theorem cmp_boxes (w : World) (s : Array Value) : ∃ w6, (((((w.alloc (.cells s 37)).alloc (.cells #[.slice none 0 0] 39)).alloc (.cells #[.int .i64 0] 3)).alloc (.cells #[.int .i64 0] 40)).alloc (.cells #[.slice none 0 0] 39)).alloc (.cells #[.int .i64 0] 3) = w6 ∧
    Bx w.heap.size w s (.slice none 0 0) 0 w6 ∧ w6.heap.size = w.heap.size + 6 := by
  have step : ∀ (w : World) (o : Obj), Below w.heap.size w (w.alloc o) ∧ (w.alloc o).heap[w.heap.size]? = some o ∧ (w.alloc o).heap.size = w.heap.size + 1 := fun w o => ⟨below_fresh w o, heap_alloc_new w o, World.size_alloc w o⟩
  obtain ⟨b1, h1, e1⟩ := step w (.cells s 37)
  generalize w.alloc (.cells s 37) = w1 at *
  obtain ⟨b2, h2, e2⟩ := step w1 (.cells #[.slice none 0 0] 39)
  generalize w1.alloc (.cells #[.slice none 0 0] 39) = w2 at *
  obtain ⟨b3, h3, e3⟩ := step w2 (.cells #[.int .i64 0] 3)
  generalize w2.alloc (.cells #[.int .i64 0] 3) = w3 at *
  obtain ⟨b4, h4, e4⟩ := step w3 (.cells #[.int .i64 0] 40)
  generalize w3.alloc (.cells #[.int .i64 0] 40) = w4 at *
  obtain ⟨b5, h5, e5⟩ := step w4 (.cells #[.slice none 0 0] 39)
  generalize w4.alloc (.cells #[.slice none 0 0] 39) = w5 at *
  obtain ⟨b6, h6, e6⟩ := step w5 (.cells #[.int .i64 0] 3)
  generalize w5.alloc (.cells #[.int .i64 0] 3) = w6 at *
  rw [e1] at h2
  rw [e2, e1] at h3
  rw [e3, e2, e1] at h4
  rw [e4, e3, e2, e1] at h5
  rw [e5, e4, e3, e2, e1] at h6
  have b56 := bnext b5 b6
  have b46 := bnext b4 b56
  have b36 := bnext b3 b46
  have b26 := bnext b2 b36
  exact ⟨w6, rfl, ⟨below_block h1 b26, below_block h2 b36, below_block h3 b46, below_block h4 b56, below_block h5 b6, h6, bnext b1 b26⟩, by omega⟩

/-- All lines so far are done, acc has come of them. -/
def Came (s : Sm) (pre : List Ln) (acc : List Chg) : Prop := acc.length ≤ 6 ∧ ∀ r, DM.comp s (pre.map dat ++ r) [] 0 = DM.comp s r acc (pre.length : Int)
/-- The last of them has a fault. -/
def Fell (s : Sm) (pre : List Ln) (n er : Int) : Prop := ∀ r, DM.comp s (pre.map dat ++ r) [] 0 = ([], n, er)
theorem Came.nil (s : Sm) : Came s [] [] := ⟨Nat.zero_le _, fun _ => rfl⟩
theorem Came.skip {s : Sm} {pre : List Ln} {acc : List Chg} {x : Ln} (h : Came s pre acc) (hs : DM.skip (dat x) = true) : Came s (pre ++ [x]) acc := ⟨h.1, fun r => by
  rw [List.map_append, List.append_assoc, h.2]
  show DM.comp s (dat x :: r) acc _ = _
  rw [DM.comp_skip hs, List.length_append]; rfl⟩
theorem plc_len {x : Chg} {acc : List Chg} {s : Sm} (h : (DM.plc x acc s).2 = 0) : acc.length < 6 := by
  obtain ⟨k, sv, t, v, a, b, c⟩ := x
  by_cases h6 : 6 ≤ acc.length
  · have e : DM.plc (k, sv, t, v, a, b, c) acc s = (DM.zc, 3) := if_pos h6
    rw [e] at h; cases h
  · omega
theorem Came.step {s : Sm} {pre : List Ln} {acc : List Chg} {x : Ln} (h : Came s pre acc) (hs : DM.skip (dat x) = false) (h1 : (DM.prs (dat x)).2 = 0) (h2 : (DM.plc (DM.prs (dat x)).1 acc s).2 = 0) : Came s (pre ++ [x]) (acc ++ [(DM.plc (DM.prs (dat x)).1 acc s).1]) := by
  have e : DM.step s acc (dat x) = DM.plc (DM.prs (dat x)).1 acc s := by unfold DM.step; rw [if_pos h1]
  refine ⟨by have := plc_len h2; simp; omega, fun r => ?_⟩
  rw [List.map_append, List.append_assoc, h.2]
  show DM.comp s (dat x :: r) acc _ = _
  rw [DM.comp_ok hs (by rw [e]; exact h2), e, List.length_append]; rfl
theorem Came.bad1 {s : Sm} {pre : List Ln} {acc : List Chg} {x : Ln} (h : Came s pre acc) (hs : DM.skip (dat x) = false) (h1 : (DM.prs (dat x)).2 ≠ 0) : Fell s (pre ++ [x]) ((pre.length : Int) + 1) (DM.prs (dat x)).2 := fun r => by
  have e : DM.step s acc (dat x) = (DM.zc, (DM.prs (dat x)).2) := by unfold DM.step; rw [if_neg h1]
  rw [List.map_append, List.append_assoc, h.2]
  show DM.comp s (dat x :: r) acc _ = _
  rw [DM.comp_bad hs (by rw [e]; exact h1), e]
theorem Came.bad2 {s : Sm} {pre : List Ln} {acc : List Chg} {x : Ln} (h : Came s pre acc) (hs : DM.skip (dat x) = false) (h1 : (DM.prs (dat x)).2 = 0) (h2 : (DM.plc (DM.prs (dat x)).1 acc s).2 ≠ 0) : Fell s (pre ++ [x]) ((pre.length : Int) + 1) (DM.plc (DM.prs (dat x)).1 acc s).2 := fun r => by
  have e : DM.step s acc (dat x) = DM.plc (DM.prs (dat x)).1 acc s := by unfold DM.step; rw [if_pos h1]
  rw [List.map_append, List.append_assoc, h.2]
  show DM.comp s (dat x :: r) acc _ = _
  rw [DM.comp_bad hs (by rw [e]; exact h2), e]

/-- What is so between two rounds; how a round has left. -/
def Inv (B : Nat) (w0 : World) (sg : Array Value) (s : Sm) (pre : List Ln) (W : World) : Prop := ∃ (acc : List Chg) (a : Option Addr) (l c : Nat), Came s pre acc ∧ Bx B w0 sg (.slice a l c) (pre.length : Int) W ∧ OwnC (B + 9) W (.slice a l c) acc ∧ B + 9 ≤ W.heap.size
def Ivx (B : Nat) (w0 : World) (s : Sm) (pre : List Ln) (W : World) : Prop := ∃ n er : Int, Fell s pre n er ∧ W.heap[B + 1]? = some (.cells #[.slice none 0 0] 39 (0, 0)) ∧ W.heap[B + 1 + 1]? = some (.cells #[.int .i64 n] 3 (0, 0)) ∧ W.heap[B + 1 + 1 + 1]? = some (.cells #[.int .i64 er] 40 (0, 0)) ∧ Below B w0 W ∧ B + 9 ≤ W.heap.size
theorem below_blocks {B : Nat} {w0 W W' : World} (h : Below B w0 W) (ho : W.grownBy W' none ∨ ∃ k, W.grownBy W' (some k) ∧ B ≤ k) (hB : B ≤ W.heap.size) : Below B w0 W' := by
  rcases ho with h1 | ⟨k, h1, hk⟩
  · exact h.grown h1 hB (fun j e => by cases e)
  · exact h.grown h1 hB (fun j e => by cases e; exact hk)
theorem inv_from (B : Nat) (w0 : World) (sg : Array Value) (s : Sm) : OwnFrom (B + 9) (Inv B w0 sg s) := by
  rintro pre W W' row ⟨acc, a, l, c, h1, h2, h3, h4⟩ hg hr
  have hsame : ∀ i, i < W.heap.size → (∀ r, row = some r → i ≠ r) → W'.heap[i]? = W.heap[i]? := fun i hi hne => hg.block i hi (fun e => hne i e.symm rfl)
  refine ⟨acc, a, l, c, h1, h2.same (fun i h5 h6 => hsame i (by omega) (fun r e => by have := (hr r e).1; omega)) ?_, h3.stay fun g cur fr h5 h6 => (hsame g (Array.getElem?_eq_some_iff.1 h6).1 (fun r e he => ?_)).trans h6, Nat.le_trans h4 hg.size⟩
  · exact h2.b.grown hg (by omega) (fun k e => by have := (hr k e).1; omega)
  · subst he
    obtain ⟨_, o, ho, hc⟩ := hr g e
    rw [h6] at ho
    cases ho
    cases hc
theorem ivx_from (B : Nat) (w0 : World) (s : Sm) : OwnFrom (B + 9) (Ivx B w0 s) := by
  rintro pre W W' row ⟨n, er, h1, h2, h3, h4, h5, h6⟩ hg hr
  have hsame : ∀ i, i < B + 9 → W'.heap[i]? = W.heap[i]? := fun i hi => hg.block i (by omega) (fun e => by have := (hr i e.symm).1; omega)
  exact ⟨n, er, h1, (hsame _ (by omega)).trans h2, (hsame _ (by omega)).trans h3, (hsame _ (by omega)).trans h4, h5.grown hg (by omega) (fun k e => by have := (hr k e).1; omega), Nat.le_trans h6 hg.size⟩
theorem inv_lets (B : Nat) (w0 : World) (sg : Array Value) (s : Sm) : Lets (B + 6) (Inv B w0 sg s) := by
  rintro pre W v ⟨acc, a, l, c, h1, h2, h3, h4⟩
  have hsame : ∀ i, i ≠ B + 6 → (W.setCell ⟨B + 6, 0, none⟩ v).heap[i]? = W.heap[i]? := fun i hi => heap_setCell_other _ _ _ _ hi
  exact ⟨acc, a, l, c, h1, h2.same (fun i h5 h6 => hsame i (by omega)) (h2.b.setCell (show B ≤ B + 6 by omega) v), h3.stay fun g cur fr h5 h6 => (hsame g (by omega)).trans h6, by simpa using h4⟩
theorem ivx_lets (B : Nat) (w0 : World) (s : Sm) : Lets (B + 6) (Ivx B w0 s) := by
  rintro pre W v ⟨n, er, h1, h2, h3, h4, h5, h6⟩
  have hsame : ∀ i, i ≠ B + 6 → (W.setCell ⟨B + 6, 0, none⟩ v).heap[i]? = W.heap[i]? := fun i hi => heap_setCell_other _ _ _ _ hi
  exact ⟨n, er, h1, (hsame _ (by omega)).trans h2, (hsame _ (by omega)).trans h3, (hsame _ (by omega)).trans h4, h5.setCell (show B ≤ B + 6 by omega) v, by simpa using h6⟩

end Go.Proofs.YthgnhaimdkcmeaaGreatDoor
