/-
  A list of the call's own: 'make([]T, n)', a store of an element, where an element lies. No conditions beyond those that each lemma names. (Out of XMCopy, for seats without members.)
-/
import Derived.Test.YtkgkhofkhjgnbaaGreatGRef1
import Derived.OwnWalk
namespace Go.Proofs.YtkgkhofkhjgnbaaGreat
open Go.RowKit Go.Joins

section
variable {α : Type} {P : Program} {t e : TypeId} {size bytes : Nat} {enc : α → List Value}
theorem own_set {base : Nat} {w : World} {g N cap : Nat} {xs : List α} (h : OwnG enc e size base w (.slice (some ⟨g, 0, none⟩) N cap) xs) {k j : Nat} {x y : α} {u : Value} (hk : xs[k]? = some x) (hj : j < size) (hy : enc y = (enc x).set j u) :
    OwnG enc e size base (w.setCell ⟨g, k * size + j, none⟩ u) (.slice (some ⟨g, 0, none⟩) N cap) (xs.set k y) ∧ Below base w (w.setCell ⟨g, k * size + j, none⟩ u) ∧ KeepsX e w (w.setCell ⟨g, k * size + j, none⟩ u) := by
  have hlt : k < xs.length := (List.getElem?_eq_some_iff.1 hk).1
  obtain ⟨g', cap', cur, hv, hg, hh, hn, hm, hs, ht⟩ := h.form (by omega)
  cases hv
  have hl := h.2
  refine ⟨⟨⟨by rw [cellsOf_length hl.2, List.length_set], .inr ⟨g, cap, _, by rw [List.length_set], hg, block_setCell hh _, by rw [List.length_set]; exact hn, hm, by simpa using hs, ?_⟩⟩, hl⟩, (Below.refl _ w).setCell hg _, ?_⟩
  · rw [Array.toList_setIfInBounds, List.length_set, List.take_set, ht, cellsOf_set hl.2 hk hj hy]
  · intro i hi hne
    have : i ≠ g := by rintro rfl; exact hne _ _ hh
    exact heap_setCell_other w _ i u this
/-- Where an element of the call's own list lies, and that it may be stored to. -/
theorem own_at (E : IsElem P t e size bytes enc) {base : Nat} {w : World} {v : Value} {xs : List α} (h : OwnG enc e size base w v xs) {k : Nat} {x : α} (hk : xs[k]? = some x) :
    ∃ g cap, v = .slice (some ⟨g, 0, none⟩) xs.length cap ∧ (∀ w0, (Instr.indexAt t (.slice (some ⟨g, 0, none⟩) xs.length cap) (.int .i64 (k : Int))).run P w0 = .ok (.pointer (some ⟨g, k * size, none⟩)) w0) ∧ base ≤ g ∧ g < w.heap.size ∧
      ∀ j u, (enc x)[j]? = some u → w.cell? ⟨g, k * size + j, none⟩ = some u ∧ w.frozen? ⟨g, k * size + j, none⟩ = false := by
  have hlt : k < xs.length := (List.getElem?_eq_some_iff.1 hk).1
  obtain ⟨g, cap, cur, hv, hg, hh, hn, hm, hs, ht⟩ := h.form (by omega)
  subst hv
  have hl := h.2
  have hrd := h.rd
  have hgs : g < w.heap.size := (Array.getElem?_eq_some_iff.1 hh).1
  refine ⟨g, cap, rfl, fun w0 => ?_, hg, hgs, fun j u hu => ⟨?_, unfrozen_of_block hh _⟩⟩
  · have h1 : (0 : Int) ≤ (k : Int) := by omega
    have h3 : ¬ xs.length ≤ k := by omega
    have hs := E.run_size
    simp [Instr.indexAt, asIntOf, run_underlying E.ht, h1, Result.andThen, addr_plain, hs]
    intro h4
    exact absurd h4 h3
  · obtain ⟨a', c', hv', _, _, _, _, h4⟩ := hrd
    cases hv'
    have := h4 _ rfl _ _ (cellsOf_get hl.2 xs k j x u hk hu)
    rw [addr_plain, Nat.zero_add] at this
    exact this

theorem made_rep (v0 : Value) (size n : Nat) (h0 : 0 < size) : (madeCells (Array.replicate size v0) (n * size)).toList = List.replicate (n * size) v0 := by
  refine List.eq_replicate_iff.2 ⟨by simp [madeCells], fun b hb => ?_⟩
  simp [madeCells] at hb
  obtain ⟨i, hi, rfl⟩ := hb
  have hlt : i % size < size := Nat.mod_lt _ h0
  simp [hlt]
theorem cells_rep (hl : ∀ x, (enc x).length = size) (z0 : α) (v0 : Value) (hz : enc z0 = List.replicate size v0) (n : Nat) : cellsOf enc (List.replicate n z0) = List.replicate (n * size) v0 := by
  refine List.eq_replicate_iff.2 ⟨by rw [cellsOf_length hl, List.length_replicate], fun b hb => ?_⟩
  obtain ⟨x, hx, hbx⟩ := List.mem_flatMap.1 hb
  obtain rfl := (List.mem_replicate.1 hx).2
  rw [hz] at hbx
  exact (List.mem_replicate.1 hbx).2
/-- 'make([]T, n)'. -/
theorem wp_makeG (E : IsElem P t e size bytes enc) (z0 : α) {zv : Value} (hzv : (P.info? e).map (fun i => (i.zero, i.size, i.bytes)) = some (some zv, size, bytes)) (v0 : Value) (hzc : zv.cells = Array.replicate size v0) (hze : enc z0 = List.replicate size v0) {w : World} {ops : Array Oper} {rest : List Oper} {o : Oper} {a : Act} {Q : Exit → Act → World → Prop} {base n : Nat} (hgd : o.guard = none) (l c : Operand) (ho : o.op = Op.makeSlice t l c)
    (hl : a.eval l = .int .i64 (n : Int)) (hc : a.eval c = .int .i64 (n : Int)) (hn : n ≤ 1073741824) (hb : base ≤ w.heap.size)
    (h : ∀ w', OwnG enc e size base w' (.slice (some ⟨w.heap.size, 0, none⟩) n n) (List.replicate n z0) → Below w.heap.size w w' → wpList P ops Q rest (a.put o.dst (.slice (some ⟨w.heap.size, 0, none⟩) n n)) w') :
    wpList P ops Q (o :: rest) a w := by
  obtain ⟨i0, hi, hz0, hz1, hz2⟩ := info_parts hzv
  refine wpList_make_full w hgd l c t ho base e i0 zv size E.ht hi hz0 hz1 .i64 .i64 n n n hl hc rfl rfl ?_ (by unfold maxLen; omega) hb (fun w' h1 h2 => ?_)
  · rw [hz2]
    have := E.fits
    calc bytes * n ≤ 4096 * 1073741824 := Nat.mul_le_mul this hn
      _ ≤ 281474976710656 := by decide
  · refine h w' ⟨?_, E.hl⟩ ⟨h2.os, h2.tape, h2.output, h2.size, fun k hk => h2.block k hk (by simp)⟩
    have hr : (madeCells zv.cells (n * size)).toList = cellsOf enc (List.replicate n z0) := by rw [hzc, made_rep v0 size n E.pos, cells_rep E.len z0 v0 hze]
    rw [List.length_replicate, ← hr]
    exact h1
end
end Go.Proofs.YtkgkhofkhjgnbaaGreat
