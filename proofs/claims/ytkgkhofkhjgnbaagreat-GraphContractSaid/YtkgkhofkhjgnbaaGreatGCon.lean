/-
  What the laws of stage 10 need of the program's calls, in one structure (proved in GProg), and graphs of parts of one configuration. No conditions.
-/
import Derived.Test.YtkgkhofkhjgnbaaGreatGIs
namespace Go.Proofs.YtkgkhofkhjgnbaaGreat
open Go.RowKit Go.Joins Go.Shelf
open JM (Chg)
open CM (Fp)
open VM (Ent)

namespace IM
/-- Nodes that are parts of one configuration, in ascending order. -/
structure Gd (p : List Fp) (L : List (List Fp)) : Prop where
  len : L.length ≤ 64
  parts : ∀ f ∈ L, CM.Ok f ∧ CM.cons p f = true
  asc : L.Pairwise ltF
theorem Gd.filter {p : List Fp} {L : List (List Fp)} (h : Gd p L) (q : List Fp → Bool) : Gd p (L.filter q) := ⟨Nat.le_trans (List.length_filter_le _ _) h.1, fun f hf => h.2 f (List.mem_filter.1 hf).1, List.Pairwise.sublist List.filter_sublist h.3⟩
theorem Gd.nine {p : List Fp} {L : List (List Fp)} (h : Gd p L) : ∀ f ∈ L, f.length ≤ 9 := fun f hf => (h.2 f hf).1.nine
theorem all_le {fa fb : List Fp} (o1 : CM.Ok fa) (o2 : CM.Ok fb) : (all fa fb).length ≤ 64 := by
  cases hc : CM.cons fb fa with
  | false => rw [all_nil hc]; simp
  | true =>
    have h := all_len o1 o2 hc
    have hm : ∀ c, 1 ≤ CM.ct fb c - CM.ct fa c + 1 ∧ CM.ct fb c - CM.ct fa c + 1 ≤ 4 := fun c => by
      have := ct_mono o1 o2 hc c
      have := o2.ct3 c
      have := CM.ct_pos fa c
      omega
    have h1 := hm 201
    have h2 := hm 202
    have h3 := hm 203
    generalize CM.ct fb 201 - CM.ct fa 201 + 1 = x at *
    generalize CM.ct fb 202 - CM.ct fa 202 + 1 = y at *
    generalize CM.ct fb 203 - CM.ct fa 203 + 1 = z at *
    have e1 : x * y ≤ 16 := by
      have hx : x = 1 ∨ x = 2 ∨ x = 3 ∨ x = 4 := by omega
      rcases hx with rfl | rfl | rfl | rfl <;> omega
    have e0 : 1 ≤ x * y := by
      have hx : x = 1 ∨ x = 2 ∨ x = 3 ∨ x = 4 := by omega
      rcases hx with rfl | rfl | rfl | rfl <;> omega
    have hz : z = 1 ∨ z = 2 ∨ z = 3 ∨ z = 4 := by omega
    rcases hz with rfl | rfl | rfl | rfl <;> omega
theorem Gd.all {p fa fb : List Fp} (o1 : CM.Ok fa) (o2 : CM.Ok fb) (hb : CM.cons p fb = true) : Gd p (all fa fb) :=
  ⟨all_le o1 o2, fun f hf => by
    obtain ⟨h1, _, h3⟩ := all_within o1 o2 f hf
    exact ⟨h1, cons_trans hb h3⟩, all_sorted o1 o2⟩
theorem cons_rs (p : List Fp) (g : Int → Int) : CM.cons p (CM.rs p g) = true := CM.cons_iff.2 fun _ hf => (CM.rs_mem.1 hf).1
end IM
/-- A graph's nodes. -/
theorem run_fieldN (x y : Value) (w : World) : (Instr.field 31 (.agg #[x, y]) 0).run Tryz.prog w = .ok x w := by
  have hu := Tryz.underlying31
  have ha := Tryz.isAgg28
  have hs := Tryz.sizeOf28
  simp [Instr.field, run_underlying hu, asAgg, part, ha, hs]
/-- The program's calls of package graph. -/
structure GC : Prop where
  build : ∀ (va vb : Value) (fa fb : List Fp) (w : World), RdF w va fa → RdF w vb fb → CM.Ok fa → CM.Ok fb →
    Calls Tryz.prog 12 #[va, vb] w fun e w' => ∃ v, e = .returned v ∧ RdGr w' v (IM.all fa fb) ∧ Below w.heap.size w w'
  contract : ∀ (p : List Fp) (gv bv : Value) (L : List (List Fp)) (fb : List Fp) (w : World), CM.Ok p → IM.Gd p L → RdGr w gv L → RdF w bv fb → CM.Ok fb → CM.cons p fb = true →
    Calls Tryz.prog 15 #[gv, bv] w fun e w' => ∃ v, e = .returned v ∧ RdGr w' v (L.filter fun x => CM.conk x fb) ∧ Below w.heap.size w w'
  prune : ∀ (p : List Fp) (gv bv : Value) (L : List (List Fp)) (fb : List Fp) (w : World), CM.Ok p → IM.Gd p L → RdGr w gv L → RdF w bv fb → CM.Ok fb → CM.cons p fb = true →
    Calls Tryz.prog 20 #[gv, bv] w fun e w' => ∃ v, e = .returned v ∧ RdGr w' v (L.filter fun x => CM.conk x fb || CM.conk fb x) ∧ Below w.heap.size w w'
  equal : ∀ (p : List Fp) (gv hv : Value) (L M : List (List Fp)) (w : World), CM.Ok p → IM.Gd p L → RdGr w gv L → RdGr w hv M → L = M →
    Calls Tryz.prog 19 #[gv, hv] w fun e w' => e = .returned (.bool true) ∧ Below w.heap.size w w'
  levels : ∀ (p : List Fp) (gv : Value) (L : List (List Fp)) (w : World), CM.Ok p → IM.Gd p L → RdGr w gv L →
    Calls Tryz.prog 22 #[gv] w fun e w' => ∃ v, e = .returned v ∧ RdLs RdI w' v (IM.lvs L 10) ∧ Below w.heap.size w w'
  paths : ∀ (p : List Fp) (gv : Value) (L : List (List Fp)) (fr tg : Int) (w : World), CM.Ok p → IM.Gd p L → RdGr w gv L →
    Calls Tryz.prog 25 #[gv, .int .i64 fr, .int .i64 tg] w fun e w' => e = .returned (.int .i64 (IM.pv L (IM.edgK L) fr tg)) ∧ Below w.heap.size w w'
  path : ∀ (p : List Fp) (gv : Value) (L : List (List Fp)) (fr tg : Int) (w : World), CM.Ok p → IM.Gd p L → RdGr w gv L →
    Calls Tryz.prog 28 #[gv, .int .i64 fr, .int .i64 tg] w fun e w' => ∃ v, e = .returned v ∧ RdI w' v (IM.pathV L (IM.edgK L) fr tg) ∧ Below w.heap.size w w'

end Go.Proofs.YtkgkhofkhjgnbaaGreat
