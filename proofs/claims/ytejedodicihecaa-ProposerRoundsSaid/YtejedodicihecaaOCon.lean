/-
  What package proposer's functions give, as a structure of contracts. Blocks of proposers.
-/
import Derived.Laws.Rows
import Derived.Laws.Tables
import Derived.Deep.CutRange
import Derived.Deep.RegionHeld3
import Derived.Test.YtejedodicihecaaOBase
namespace Go.Proofs.Ytejedodicihecaa
open Go.RowKit
open VM (Ent)

structure PT : Prop where
  new : ∀ (G : Nat → Prop) (n : Int) (v : Value) (xs : List Ent) (w : World), (∀ k, G k → k < w.heap.size) → (Off G w fun w => VX.RdV w v xs) → VM.Val 0 xs → xs.length ≤ 20000 → 1 ≤ n → n ≤ 12 →
    Calls Try.prog 9 #[.int .i64 n, v] w fun e w' => ∃ p, e = .returned p ∧ PrO G w' p ⟨n, xs, 1, [], false⟩ ∧ Below w.heap.size w w'
  recv : ∀ (G : Nat → Prop) (p v : Value) (s : PM.Ps) (a r : Int) (xs : List Ent) (w : World), (∀ k, G k → k < w.heap.size) → PrO G w p s → (Off G w fun w => VX.RdV w v xs) → PM.Ok s → VM.Val 0 xs → s.val.length ≤ 20000 → xs.length ≤ 20000 → 0 ≤ s.round → s.round ≤ 1000000 →
    Calls Try.prog 13 #[p, .int .i64 a, .int .i64 r, v] w fun e w' => ∃ p', e = .returned (.tuple #[p', .bool (PM.rcv s a r xs).2]) ∧ PrO G w' p' (PM.rcv s a r xs).1 ∧ Below w.heap.size w w'
  prop : ∀ (G : Nat → Prop) (p v : Value) (s : PM.Ps) (xs : List Ent) (w : World), (∀ k, G k → k < w.heap.size) → PrO G w p s → (Off G w fun w => VX.RdV w v xs) → PM.Ok s → VM.Val 0 xs → s.val.length ≤ 20000 → xs.length ≤ 20000 → 0 ≤ s.round → s.round ≤ 1000000 →
    Calls Try.prog 11 #[p, v] w fun e w' => ∃ p', e = .returned p' ∧ PrO G w' p' (PM.prp s xs) ∧ Below w.heap.size w w'

theorem onlyR (w : World) (g : Nat) (cs : Array Value) : Only g w (w.setRow g cs) := ⟨rfl, rfl, rfl, by simp, fun _ _ h => setRow_other _ _ _ _ h⟩
theorem oneP (t : TypeId) (w : World) (c0 c1 c2 c3 c4 : Value) : ∃ w0, w.alloc (.cells #[c0, c1, c2, c3, c4] t) = w0 ∧ w0.heap[w.heap.size]? = some (.cells #[c0, c1, c2, c3, c4] t (0, 0)) ∧ Below w.heap.size w w0 ∧ w0.heap.size = w.heap.size + 1 :=
  ⟨_, rfl, heap_alloc_new w _, below_fresh w _, World.size_alloc _ _⟩
/-- A block of five cells, read and stored cell by cell. -/
theorem five {w : World} {g : Nat} {c0 c1 c2 c3 c4 : Value} {t : TypeId} (h : w.heap[g]? = some (.cells #[c0, c1, c2, c3, c4] t (0, 0))) :
    w.cell? ⟨g, 0, none⟩ = some c0 ∧ w.cell? ⟨g, 1, none⟩ = some c1 ∧ w.cell? ⟨g, 2, none⟩ = some c2 ∧ w.cell? ⟨g, 3, none⟩ = some c3 ∧ w.cell? ⟨g, 4, none⟩ = some c4 := by
  refine ⟨?_, ?_, ?_, ?_, ?_⟩ <;> simp [World.cell?, h]
theorem unfz {w : World} {g : Nat} {cs : Array Value} {t : TypeId} (h : w.heap[g]? = some (.cells cs t (0, 0))) (i : Nat) : w.frozen? ⟨g, i, none⟩ = false := by simp [World.frozen?, h]
theorem row_set {w : World} {g : Nat} {cs : Array Value} {t : TypeId} (h : w.heap[g]? = some (.cells cs t (0, 0))) (i : Nat) (u : Value) : (w.setCell ⟨g, i, none⟩ u).heap[g]? = some (.cells (cs.setIfInBounds i u) t (0, 0)) := heap_setCell_same w g i _ _ _ h
theorem cells5 (a b : Int) (x : Option Addr) (n c : Nat) (y : Option Addr) (m d : Nat) (z : Bool) : #[Value.int .i64 a, .slice x n c, .int .i64 b, .slice y m d, .bool z].all (·.oneCell') = true := by simp [Value.oneCell']
theorem results_cell_tmp5 {P : Program} {fn : Func} {p u : Tmp} {ty : TypeId} (h : fn.results = #[.cell p ty, .tmp u]) (tmps : Array Value) (w : World) (g : Nat) (t : TypeId) (cs : Array Value) (fr : Nat × Nat) (d : TypeDesc)
    (hp : tmps.getD p undef = .pointer (some ⟨g, 0, none⟩)) (hg : w.heap[g]? = some (.cells cs t fr))
    (hu : P.underlying ty = some d) (hd : (match d with | .struct _ | .array _ _ => true | _ => false) = true) (hi : (P.info? ty).map (·.size) = some cs.size) :
    (results fn tmps).run P w = .ok (.tuple #[.agg cs, tmps.getD u undef]) w := by
  have hp' : tmps[p]?.getD undef = .pointer (some ⟨g, 0, none⟩) := by simpa using hp
  simp [results, h, hp', asAddr, run_loadVar_row w g t ty cs fr d hg hu hd hi, Result.andThen]
/-- What a function that returns a proposer and a report ends with. -/
theorem proRet {fn : Func} {p u : Tmp} {ty : TypeId} {R : Ending → World → Prop} {a : Act} {w : World} {g : Nat} {cs : Array Value} {fs} {y : Value} (h : fn.results = #[.cell p ty, .tmp u]) (hp : a.tmps.getD p undef = .pointer (some ⟨g, 0, none⟩))
    (h3 : a.tmps.getD u undef = y) (hg : w.heap[g]? = some (.cells cs ty (0, 0))) (hu : Try.prog.underlying ty = some (.struct fs)) (hi : (Try.prog.info? ty).map (·.size) = some cs.size) (hd : a.defers = []) (hR : R (.returned (.tuple #[.agg cs, y])) w) : bodyPost Try.prog fn R .ret a w := by
  have := results_cell_tmp5 (P := Try.prog) (fn := fn) h a.tmps w g ty cs (0, 0) _ hp hg hu rfl hi
  rw [h3] at this
  exact bodyPost_ret this hd hR
theorem proRet1 {fn : Func} {p : Tmp} {ty : TypeId} {R : Ending → World → Prop} {a : Act} {w : World} {g : Nat} {cs : Array Value} {fs} (h : fn.results = #[.cell p ty]) (hp : a.tmps.getD p undef = .pointer (some ⟨g, 0, none⟩))
    (hg : w.heap[g]? = some (.cells cs ty (0, 0))) (hu : Try.prog.underlying ty = some (.struct fs)) (hi : (Try.prog.info? ty).map (·.size) = some cs.size) (hd : a.defers = []) (hR : R (.returned (.agg cs)) w) : bodyPost Try.prog fn R .ret a w :=
  bodyPost_ret (results_cell_row (P := Try.prog) (fn := fn) h a.tmps w g ty cs (0, 0) _ hp hg hu rfl hi) hd hR
end Go.Proofs.Ytejedodicihecaa
