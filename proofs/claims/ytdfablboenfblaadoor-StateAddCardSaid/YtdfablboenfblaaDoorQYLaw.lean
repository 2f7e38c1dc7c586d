/-
  Laws of our own: 'copy' of elements of several cells, cuts of a slice as run equations, 'make' of a list, rows of cells that are shifted. No conditions beyond those that each lemma names.
-/
import Derived.Laws.CopyRow
import Derived.Laws.Append
import Derived.Laws.OwnMore
import Derived.Test.YtdfablboenfblaaDoorQKG
namespace Go.Proofs.YtdfablboenfblaaDoor.ST
open Go.RowKit

section
variable {P : Program}
/-- 'copy(d, s)' into a block that is written out, at elements of 'size' cells. -/
theorem run_copy_rowS (w : World) (dT sT ty elem : TypeId) (size g o dLen dCap : Nat) (x : Addr) (sLen sCap : Nat) (cur : Array Value) (t : TypeId) (cs : List Value)
    (hu : P.underlying dT = some (.slice elem)) (hs : ∀ w0, Sem.run P (Go.sizeOf elem) w0 = .ok size w0)
    (hg : w.heap[g]? = some (.cells cur t (0, 0))) (hn : cs.length = Nat.min sLen dLen * size)
    (hsrc : ∀ j v, cs[j]? = some v → w.cell? (x.add j) = some v) (hfit : o + cs.length ≤ cur.size) (h1 : ∀ v ∈ cs, v.oneCell' = true) :
    (Builtin.copy_ #[dT, sT] ty #[.slice (some ⟨g, o, none⟩) dLen dCap, .slice (some x) sLen sCap]).run P w =
      .ok (goInt (Nat.min sLen dLen)) (w.setRow g (cur.toList.take o ++ cs ++ cur.toList.drop (o + cs.length)).toArray) := by
  have hl := run_firstCells_some (P := P) (w := w) size (Nat.min sLen dLen) x sLen sCap cs hn hsrc
  have hst := run_storeCells_at P g o t cs 0 cur w hg (by simpa using hfit) h1
  simp [Builtin.copy_, run_underlying hu, Builtin.lenOf, hs, hl, hst]
theorem run_copy_noneS (w : World) (dT sT ty elem : TypeId) (size : Nat) (d : Option Addr) (dLen dCap sCap : Nat)
    (hu : P.underlying dT = some (.slice elem)) (hs : ∀ w0, Sem.run P (Go.sizeOf elem) w0 = .ok size w0) :
    (Builtin.copy_ #[dT, sT] ty #[.slice d dLen dCap, .slice none 0 sCap]).run P w = .ok (goInt 0) w := by
  have hl := run_firstCells_none (P := P) (w := w) size (Nat.min 0 dLen) 0 sCap
  have hm : Nat.min 0 dLen = 0 := Nat.zero_min _
  rw [hm] at hl
  cases d <;> simp [Builtin.copy_, run_underlying hu, Builtin.lenOf, hs, hm, hl, storeCells]
theorem wpList_copy_run (w : World) {ops : Array Oper} {rest : List Oper} {o : Oper} {a : Act} {Q : Exit → Act → World → Prop} (hgd : o.guard = none) (d s : Operand) (t t' : TypeId)
    (ho : o.op = .call { callee := .builtin .copy, args := #[d, s], argTypes := #[t, t'] }) (v u : Value) (hd : a.eval d = v) (hs : a.eval s = u) {v' : Value} {w' : World}
    (hr : (Builtin.copy_ #[t, t'] o.type #[v, u]).run P w = .ok v' w') (h : wpList P ops Q rest (a.put o.dst v') w') : wpList P ops Q (o :: rest) a w := by
  refine wpList_plain hgd fun K hK => ?_
  unfold Oper.wp
  simp [execOp, ho, resolve, invoke, builtin, hd, hs, hr, Result.andThen]
  exact hK _ _ h
theorem step_copy_run {ops : Array Oper} {o : Oper} {a : Act} {w : World} {K : Act → World → Prop} {Q : Exit → Act → World → Prop} {E : Prop}
    (hw : Region.wanted o (yielded ops a.tmps) = true) (d x : Operand) (t t' : TypeId) (ho : o.op = .call { callee := .builtin .copy, args := #[d, x], argTypes := #[t, t'] })
    (v u : Value) (hd : a.eval d = v) (hx : a.eval x = u) {v' : Value} {w' : World} (hr : (Builtin.copy_ #[t, t'] o.type #[v, u]).run P w = .ok v' w') (hK : K (a.put o.dst v') w') :
    if Region.wanted o (yielded ops a.tmps) = true then Oper.wp P o a w K Q else E := by
  rw [if_pos hw]
  unfold Oper.wp
  simp [execOp, ho, resolve, invoke, builtin, hd, hx, hr, Result.andThen]
  exact hK
theorem setRow_only (w : World) (g : Nat) (cs : Array Value) : Only g w (w.setRow g cs) := by
  refine ⟨rfl, rfl, rfl, by simp [World.setRow], fun k hk hne => ?_⟩
  exact setRow_other w g k cs hne
end

section
variable {α : Type} {P : Program} {t e : TypeId} {size bytes : Nat} {enc : α → List Value}
theorem run_cutLow (E : IsElem P t e size bytes enc) (a : Option Addr) (n c lo : Nat) (h : lo ≤ n) (w0 : World) :
    (Instr.slice t (.slice a n c) (some (.int .i64 (lo : Int))) none none).run P w0 = .ok (.slice (if c = lo then a else a.map (·.add (lo * size))) (n - lo) (c - lo)) w0 := by
  have e1 : (0 : Int) ≤ (lo : Int) := by omega
  have e2 : (lo : Int) ≤ (n : Int) := by omega
  have hz := E.run_size
  simp [Instr.slice, run_underlying E.ht, Instr.sliceBounds, run_sliceBound, e1, e2, hz, Result.andThen]
theorem run_cutHigh (E : IsElem P t e size bytes enc) (a : Option Addr) (n c hi : Nat) (h : hi ≤ c) (w0 : World) :
    (Instr.slice t (.slice a n c) none (some (.int .i64 (hi : Int))) none).run P w0 = .ok (.slice a hi c) w0 := by
  have e4 : (0 : Int) ≤ (hi : Int) := by omega
  have e3 : (hi : Int) ≤ (c : Int) := by omega
  have hz := E.run_size
  cases a <;> simp [Instr.slice, run_underlying E.ht, Instr.sliceBounds, run_sliceBound, e3, e4, hz, Result.andThen, Addr.add]
/-- A list of the call's own whose block's first cells are those of another list. -/
theorem ownG_row (hl : 0 < size ∧ ∀ x, (enc x).length = size) {base g cap : Nat} {w : World} {cur : List Value} {xs : List α} (hg : base ≤ g) (hh : w.heap[g]? = some (.cells cur.toArray e (0, 0))) (hn : xs.length ≤ cap) (hm : cap ≤ maxLen)
    (hs : cur.length = cap * size) (ht : cur.take (xs.length * size) = cellsOf enc xs) : OwnG enc e size base w (.slice (some ⟨g, 0, none⟩) xs.length cap) xs :=
  ⟨⟨cellsOf_length hl.2 xs, .inr ⟨g, cap, cur.toArray, rfl, hg, hh, hn, hm, by simpa using hs, by simpa using ht⟩⟩, hl⟩
end

/-- What stands behind place p is shifted by v's length, v is laid there. -/
theorem ins_row {α : Type} (L V : List α) (p n : Nat) (hn : n + V.length ≤ L.length) (hp : p ≤ n) :
    (((L.take (p + V.length) ++ (L.take n).drop p ++ L.drop (p + V.length + ((L.take n).drop p).length)).take p ++ V ++ (L.take (p + V.length) ++ (L.take n).drop p ++ L.drop (p + V.length + ((L.take n).drop p).length)).drop (p + V.length)).take (n + V.length)) = (L.take n).take p ++ (V ++ (L.take n).drop p) := by
  have hd : ((L.take n).drop p).length = n - p := by rw [List.length_drop, List.length_take]; omega
  generalize hD : (L.take n).drop p = D at hd ⊢
  have hA : (L.take (p + V.length)).length = p + V.length := by rw [List.length_take]; omega
  have h1 : (L.take (p + V.length) ++ D ++ L.drop (p + V.length + D.length)).take p = (L.take n).take p := by
    rw [List.append_assoc, List.take_append_of_le_length (by omega), List.take_take, List.take_take]
    congr 1; omega
  have h2 : (L.take (p + V.length) ++ D ++ L.drop (p + V.length + D.length)).drop (p + V.length) = D ++ L.drop (p + V.length + D.length) := by
    rw [List.append_assoc, List.drop_left' hA]
  rw [h1, h2]
  have hl : ((L.take n).take p).length = p := by rw [List.length_take, List.length_take]; omega
  rw [show (L.take n).take p ++ V ++ (D ++ L.drop (p + V.length + D.length)) = ((L.take n).take p ++ (V ++ D)) ++ L.drop (p + V.length + D.length) by simp [List.append_assoc]]
  rw [List.take_left' (by simp only [List.length_append, hl, hd]; omega)]
/-- The same in a new row. -/
theorem ins_new {α : Type} (X Z V D : List α) (n : Nat) (hn : X.length + V.length + D.length = n) :
    ((((X ++ Z).take X.length ++ V ++ (X ++ Z).drop (X.length + V.length)).take (X.length + V.length) ++ D ++ ((X ++ Z).take X.length ++ V ++ (X ++ Z).drop (X.length + V.length)).drop (X.length + V.length + D.length)).take n) = X ++ (V ++ D) := by
  have h1 : (X ++ Z).take X.length = X := by simp
  rw [h1]
  have h2 : (X ++ V ++ (X ++ Z).drop (X.length + V.length)).take (X.length + V.length) = X ++ V := List.take_left' (by simp)
  rw [h2, List.take_left' (by simp only [List.length_append]; omega), List.append_assoc]

end Go.Proofs.YtdfablboenfblaaDoor.ST
