/-
  A list of the call's own: 'make([]T, n)', a store of an element whole, 'copy' behind its first elements. No conditions beyond those that each lemma names.
  The call of merge, at integers and at entries of weights: it returns the union of two lists. No conditions beyond that the lists read.
  The library's CompactFunc at entries of weights, on the call's own list: of entries of one server, one behind the other, the first stays; every other block stays. Conditions: the list is the call's own and short.
  The comparison that Of sorts by: by server, then the later version first; behind it lie draws and blocks of its own alone. No conditions.
  slices.Sort at integers and slices.SortFunc at entries of weights, in place, on the call's own list: sorted; every other block stays. Conditions: the list is the call's own and has elements (at most 12 for entries).
  The call of the program's Of: it returns the summary of a valid proposal. Conditions: the changes read, the proposal is valid.
  The call of the program's Join: it returns the join of two summaries. No conditions beyond that they read and are short.
  The calls of joinAll and Summarize: the summary of a genesis and a configuration. Conditions: both are valid.
  The library's binary searches at integers and at entries of weights, in ascending lists: found just where the element is there. Conditions: the list reads, ascends, is short.
  The library's search with a comparison at entries of weights, and weightOf: the weight of a server in a summary. Conditions: the summary reads, its weights ascend and are few.
  The call of the program's View: it returns the view of a summary. Conditions: the summary reads, its lists ascend and are short.
  The call of values.AppendNumbers: the bytes, and behind them the numbers' encodings. Conditions: the bytes and the numbers read; the numbers are from 0 to 2^31 - 1 and few; the bytes are at most 2^40.
  The calls of the reader's Count and of DecodeGenesis: they return what the plain mathematics says of the bytes. Conditions: the input reads as bytes.
  The call of the program's AppendGenesis: the bytes, and behind them the genesis's encoding. Conditions: the bytes and the members read; the numbers are small, the members few.
  The mathematics of a genesis's encoding: what is encoded is decoded; numbers read from a part of the bytes. No conditions beyond those that each lemma names.
  The call of the laws' awake: it returns true. No conditions.
-/
import Derived.Test.YthgnhaimdkcmeaaGreatDoorGB
import Derived.Laws.CopyOwn
import Derived.OwnWalk
import Derived.Test.YthgnhaimdkcmeaaGreatDoorGM
import Derived.Deep.RegionHeld3
import Derived.Sort.Grow
import Derived.Shelf.Slices.In.SortNone
import Derived.Test.YthgnhaimdkcmeaaGreatDoorKD
namespace Go.Proofs.YthgnhaimdkcmeaaGreatDoor
open Go.RowKit Go.Joins
open MM (Mem Ent Sm Tri)

theorem take_app {β : Type} {l m : List β} {k : Nat} (h : l.length ≤ k) : (l ++ m).take k = l ++ m.take (k - l.length) := by
  rw [List.take_append, List.take_of_length_le h]
section
variable {α : Type} {P : Program} {t e : TypeId} {size bytes : Nat} {enc : α → List Value}
theorem own_set {base : Nat} {w : World} {g N cap : Nat} {xs : List α} (h : OwnG enc e size base w (.slice (some ⟨g, 0, none⟩) N cap) xs) {k j : Nat} {x y : α} {u : Value} (hk : xs[k]? = some x) (hj : j < size) (hy : enc y = (enc x).set j u) :
    OwnG enc e size base (w.setCell ⟨g, k * size + j, none⟩ u) (.slice (some ⟨g, 0, none⟩) N cap) (xs.set k y) ∧ Below base w (w.setCell ⟨g, k * size + j, none⟩ u) ∧ KeepsX e w (w.setCell ⟨g, k * size + j, none⟩ u) := by
  have hlt : k < xs.length := (List.getElem?_eq_some_iff.1 hk).1
  obtain ⟨g', cap', cur, hv, hg, hh, hn, hm, hs, ht⟩ := h.form (by omega)
  cases hv
  have hl := h.2
  refine ⟨⟨⟨by rw [cellsOf_length hl.2, List.length_set], .inr ⟨g, cap, _, by rw [List.length_set], hg, block_setCell hh _, by rw [List.length_set]; exact hn, hm, by simpa using hs, ?_⟩⟩, hl⟩, (Below.refl _ w).setCell hg _, ?_⟩
  · rw [Array.toList_setIfInBounds, List.length_set, List.take_set, ht, cellsOf_set hl.2 hk hj hy]
  · intro i hi hne
    have : i ≠ g := by rintro rfl; exact hne _ _ hh
    exact heap_setCell_other w _ i u this
/-- Where an element of the call's own list lies, and that it may be stored to. -/
theorem own_at (E : IsElem P t e size bytes enc) {base : Nat} {w : World} {v : Value} {xs : List α} (h : OwnG enc e size base w v xs) {k : Nat} {x : α} (hk : xs[k]? = some x) :
    ∃ g cap, v = .slice (some ⟨g, 0, none⟩) xs.length cap ∧ (∀ w0, (Instr.indexAt t (.slice (some ⟨g, 0, none⟩) xs.length cap) (.int .i64 (k : Int))).run P w0 = .ok (.pointer (some ⟨g, k * size, none⟩)) w0) ∧ base ≤ g ∧ g < w.heap.size ∧
      ∀ j u, (enc x)[j]? = some u → w.cell? ⟨g, k * size + j, none⟩ = some u ∧ w.frozen? ⟨g, k * size + j, none⟩ = false := by
  have hlt : k < xs.length := (List.getElem?_eq_some_iff.1 hk).1
  obtain ⟨g, cap, cur, hv, hg, hh, hn, hm, hs, ht⟩ := h.form (by omega)
  subst hv
  have hl := h.2
  have hrd := h.rd
  have hgs : g < w.heap.size := (Array.getElem?_eq_some_iff.1 hh).1
  refine ⟨g, cap, rfl, fun w0 => ?_, hg, hgs, fun j u hu => ⟨?_, unfrozen_of_block hh _⟩⟩
  · have h1 : (0 : Int) ≤ (k : Int) := by omega
    have h3 : ¬ xs.length ≤ k := by omega
    have hs := E.run_size
    simp [Instr.indexAt, asIntOf, run_underlying E.ht, h1, Result.andThen, addr_plain, hs]
    intro h4
    exact absurd h4 h3
  · obtain ⟨a', c', hv', _, _, _, _, h4⟩ := hrd
    cases hv'
    have := h4 _ rfl _ _ (cellsOf_get hl.2 xs k j x u hk hu)
    rw [addr_plain, Nat.zero_add] at this
    exact this

/-- 'copy' of elements of whatever size. -/
theorem run_copyK (w : World) (dT sT ty elem : TypeId) (k g o dLen dCap : Nat) (a : Addr) (sLen sCap : Nat) (cur : Array Value) (t : TypeId) (n : Nat) (cs : List Value)
    (hu : P.underlying dT = some (.slice elem)) (hs : (P.info? elem).map (·.size) = some k)
    (hg : w.heap[g]? = some (.cells cur t (0, 0))) (hn : n = Nat.min sLen dLen) (hcs : cs.length = n * k)
    (hsrc : ∀ j v, cs[j]? = some v → w.cell? (a.add j) = some v) (hfit : o + cs.length ≤ cur.size) (h1 : ∀ v ∈ cs, v.oneCell' = true) :
    (Builtin.copy_ #[dT, sT] ty #[.slice (some ⟨g, o, none⟩) dLen dCap, .slice (some a) sLen sCap]).run P w =
      .ok (goInt n) (w.setRow g (cur.toList.take o ++ cs ++ cur.toList.drop (o + cs.length)).toArray) := by
  have hl := run_loadCells_list (P := P) w a cs hsrc
  have hst := run_storeCells_at P g o t cs 0 cur w hg (by simpa using hfit) h1
  cases hq : P.info? elem with
  | none => simp [hq] at hs
  | some i =>
    have hi : i.size = k := by simpa [hq] using hs
    rw [hcs] at hl
    simp [Builtin.copy_, run_underlying hu, Builtin.lenOf, Builtin.firstCells, sizeOf, typeInfo, hq, hi, ← hn, hl, hst]
theorem run_copyK0 (w : World) (dT sT ty elem : TypeId) (k : Nat) (d a : Option Addr) (dLen dCap sLen sCap : Nat) (hu : P.underlying dT = some (.slice elem)) (hs : (P.info? elem).map (·.size) = some k) (hn : Nat.min sLen dLen = 0) :
    (Builtin.copy_ #[dT, sT] ty #[.slice d dLen dCap, .slice a sLen sCap]).run P w = .ok (goInt 0) w := by
  cases hq : P.info? elem with
  | none => simp [hq] at hs
  | some i =>
    have hl : ∀ (x : Addr), (loadCells x 0).run P w = .ok #[] w := fun x => by simpa using run_loadCells_list (P := P) w x [] (by simp)
    cases d <;> cases a <;> simp [Builtin.copy_, run_underlying hu, Builtin.lenOf, Builtin.firstCells, sizeOf, typeInfo, hq, hn, storeCells, hl]

/-- 'copy(out[n:], z)', out the call's own. -/
theorem wp_copyG (E : IsElem P t e size bytes enc) {w : World} {ops : Array Oper} {rest : List Oper} {o : Oper} {a : Act} {Q : Exit → Act → World → Prop} {base : Nat} {g N cap n : Nat} {us zs : List α} {z : Value} (hgd : o.guard = none) (d s : Operand)
    (ho : o.op = .call { callee := .builtin .copy, args := #[d, s], argTypes := #[t, t] }) (hown : OwnG enc e size base w (.slice (some ⟨g, 0, none⟩) N cap) us) (hN : N = us.length) (hn : n + zs.length ≤ us.length) (hz : RdG enc size w z zs)
    (hd : a.eval d = .slice (if cap = n then some ⟨g, 0, none⟩ else some ⟨g, n * size, none⟩) (N - n) (cap - n)) (hs : a.eval s = z)
    (h : ∀ w', OwnG enc e size base w' (.slice (some ⟨g, 0, none⟩) N cap) (us.take n ++ (zs ++ us.drop (n + zs.length))) → Below base w w' → KeepsX e w w' → wpList P ops Q rest (a.put o.dst (.int .i64 zs.length)) w') :
    wpList P ops Q (o :: rest) a w := by
  refine wpList_plain hgd fun K hK => ?_
  obtain ⟨i0, zv, hi, _, hsz, _⟩ := E.info
  have hsz' : (P.info? e).map (·.size) = some size := by simp [hi, hsz]
  obtain ⟨az, cz, rfl, h1, h2, h3, hl, h4⟩ := hz
  by_cases h0 : zs.length = 0
  · obtain rfl : zs = [] := List.eq_nil_of_length_eq_zero h0
    have hrun := run_copyK0 (P := P) w t t o.type e size (if cap = n then some ⟨g, 0, none⟩ else some ⟨g, n * size, none⟩) az (N - n) (cap - n) 0 cz E.ht hsz' (by simp)
    unfold Oper.wp
    simp only [List.length_nil] at hs
    simp [execOp, ho, resolve, invoke, builtin, hd, hs, hrun, Result.andThen]
    refine hK _ _ ?_
    exact h w (by simpa using hown) (Below.refl _ _) (Below.keepsX (Below.refl _ _) e)
  · obtain ⟨g', cap', cur, hv, hg, hh, hcn, hm, hcs, ht⟩ := hown.form (by omega)
    cases hv
    cases az with
    | none => exact absurd (by have := (h3 rfl).1; rw [this]; rfl) h0
    | some ad =>
      have hcap : ¬ cap = n := by omega
      rw [if_neg hcap] at hd
      have hcl : (cellsOf enc zs).length = zs.length * size := cellsOf_length E.len zs
      have hfit : n * size + (cellsOf enc zs).length ≤ cur.size := by
        rw [hcl, hcs, ← Nat.add_mul]
        exact Nat.mul_le_mul_right _ (by omega)
      have hrun := run_copyK (P := P) w t t o.type e size g (n * size) (us.length - n) (cap - n) ad zs.length cz cur e zs.length (cellsOf enc zs) E.ht hsz' hh (by have : Nat.min zs.length (us.length - n) = zs.length := Nat.min_eq_left (by omega); exact this.symm) hcl (h4 ad rfl) hfit (cellsOf_one E.one zs)
      unfold Oper.wp
      simp [execOp, ho, resolve, invoke, builtin, hd, hs, hrun, Result.andThen]
      refine hK _ _ ?_
      refine h _ ⟨⟨?_, .inr ⟨g, cap, _, ?_, hg, setRow_heap _ _ _ _ _ _ hh, ?_, hm, ?_, ?_⟩⟩, hown.2⟩ (below_setRow (Below.refl _ _) hg _) ?_
      · rw [cellsOf_length E.len]
      · congr 1; simp; omega
      · simp; omega
      · simp [hcl]
        have : n * size + zs.length * size ≤ cap * size := by rw [← Nat.add_mul]; exact Nat.mul_le_mul_right _ (by omega)
        omega
      · have hcur : cur.toList.length = cap * size := by simpa using hcs
        have e1 : cur.toList.take (n * size) = cellsOf enc (us.take n) := by
          rw [cellsOf_take E.len us n (by omega), ← ht, List.take_take, Nat.min_eq_left (Nat.mul_le_mul_right _ (by omega))]
        have hlen2 : (us.take n ++ (zs ++ us.drop (n + zs.length))).length = us.length := by simp; omega
        rw [hlen2, cellsOf_append, cellsOf_append, ← e1]
        have e2 : (cur.toList.drop (n * size + zs.length * size)).take (us.length * size - (n * size + zs.length * size)) = cellsOf enc (us.drop (n + zs.length)) := by
          rw [cellsOf_drop E.len us _ hn, ← ht, Nat.add_mul, List.drop_take]
        rw [← e2, hcl]
        have a1 : (cur.toList.take (n * size)).length = n * size := by
          rw [List.length_take, hcur]; exact Nat.min_eq_left (Nat.mul_le_mul_right _ (by omega))
        have b1 : n * size + zs.length * size ≤ us.length * size := by rw [← Nat.add_mul]; exact Nat.mul_le_mul_right _ hn
        dsimp only
        rw [take_app (by rw [a1]; omega), take_app (by rw [hcl, a1]; omega), a1, hcl, Nat.sub_sub]
      · intro i hi' hne
        have : i ≠ g := by rintro rfl; exact hne _ _ hh
        exact setRow_other _ _ _ _ this
theorem made_rep (v0 : Value) (size n : Nat) (h0 : 0 < size) : (madeCells (Array.replicate size v0) (n * size)).toList = List.replicate (n * size) v0 := by
  refine List.eq_replicate_iff.2 ⟨by simp [madeCells], fun b hb => ?_⟩
  simp [madeCells] at hb
  obtain ⟨i, hi, rfl⟩ := hb
  have hlt : i % size < size := Nat.mod_lt _ h0
  simp [hlt]
theorem cells_rep (hl : ∀ x, (enc x).length = size) (z0 : α) (v0 : Value) (hz : enc z0 = List.replicate size v0) (n : Nat) : cellsOf enc (List.replicate n z0) = List.replicate (n * size) v0 := by
  refine List.eq_replicate_iff.2 ⟨by rw [cellsOf_length hl, List.length_replicate], fun b hb => ?_⟩
  obtain ⟨x, hx, hbx⟩ := List.mem_flatMap.1 hb
  obtain rfl := (List.mem_replicate.1 hx).2
  rw [hz] at hbx
  exact (List.mem_replicate.1 hbx).2
/-- 'make([]T, n)'. -/
theorem wp_makeG (E : IsElem P t e size bytes enc) (z0 : α) {zv : Value} (hzv : (P.info? e).map (fun i => (i.zero, i.size, i.bytes)) = some (some zv, size, bytes)) (v0 : Value) (hzc : zv.cells = Array.replicate size v0) (hze : enc z0 = List.replicate size v0) {w : World} {ops : Array Oper} {rest : List Oper} {o : Oper} {a : Act} {Q : Exit → Act → World → Prop} {base n : Nat} (hgd : o.guard = none) (l c : Operand) (ho : o.op = Op.makeSlice t l c)
    (hl : a.eval l = .int .i64 (n : Int)) (hc : a.eval c = .int .i64 (n : Int)) (hn : n ≤ 1073741824) (hb : base ≤ w.heap.size)
    (h : ∀ w', OwnG enc e size base w' (.slice (some ⟨w.heap.size, 0, none⟩) n n) (List.replicate n z0) → Below w.heap.size w w' → wpList P ops Q rest (a.put o.dst (.slice (some ⟨w.heap.size, 0, none⟩) n n)) w') :
    wpList P ops Q (o :: rest) a w := by
  obtain ⟨i0, hi, hz0, hz1, hz2⟩ := info_parts hzv
  refine wpList_make_full w hgd l c t ho base e i0 zv size E.ht hi hz0 hz1 .i64 .i64 n n n hl hc rfl rfl ?_ (by unfold maxLen; omega) hb (fun w' h1 h2 => ?_)
  · rw [hz2]
    have := E.fits
    calc bytes * n ≤ 4096 * 1073741824 := Nat.mul_le_mul this hn
      _ ≤ 281474976710656 := by decide
  · refine h w' ⟨?_, E.hl⟩ ⟨h2.os, h2.tape, h2.output, h2.size, fun k hk => h2.block k hk (by simp)⟩
    have hr : (madeCells zv.cells (n * size)).toList = cellsOf enc (List.replicate n z0) := by rw [hzc, made_rep v0 size n E.pos, cells_rep E.len z0 v0 hze]
    rw [List.length_replicate, ← hr]
    exact h1
end

/-- An entry stored whole. -/
theorem own_put5 {base : Nat} {w : World} {g N cap k : Nat} {xs : List Ent} {s t v a n : Int} (h : OwnW base w (.slice (some ⟨g, 0, none⟩) N cap) xs) (hk : xs[k]? = some (s, t, v, a, n)) (s' t' v' a' n' : Int) (o : Nat) (ho : o = k * 5) :
    OwnW base (((((w.setCell ⟨g, o, none⟩ (.int .i64 s')).setCell ⟨g, o + 1, none⟩ (.int .i64 t')).setCell ⟨g, o + 2, none⟩ (.int .i64 v')).setCell ⟨g, o + 3, none⟩ (.int .i64 a')).setCell ⟨g, o + 4, none⟩ (.int .i64 n')) (.slice (some ⟨g, 0, none⟩) N cap) (xs.set k (s', t', v', a', n')) ∧
    Below base w (((((w.setCell ⟨g, o, none⟩ (.int .i64 s')).setCell ⟨g, o + 1, none⟩ (.int .i64 t')).setCell ⟨g, o + 2, none⟩ (.int .i64 v')).setCell ⟨g, o + 3, none⟩ (.int .i64 a')).setCell ⟨g, o + 4, none⟩ (.int .i64 n')) ∧
    KeepsX 51 w (((((w.setCell ⟨g, o, none⟩ (.int .i64 s')).setCell ⟨g, o + 1, none⟩ (.int .i64 t')).setCell ⟨g, o + 2, none⟩ (.int .i64 v')).setCell ⟨g, o + 3, none⟩ (.int .i64 a')).setCell ⟨g, o + 4, none⟩ (.int .i64 n')) := by
  subst ho
  have hlt := (List.getElem?_eq_some_iff.1 hk).1
  obtain ⟨h1, b1, k1⟩ := own_set h hk (j := 0) (y := (s', t, v, a, n)) (u := .int .i64 s') (by decide) rfl
  rw [Nat.add_zero] at h1 b1 k1
  have z1 : (w.setCell ⟨g, k * 5, none⟩ (.int .i64 s')).heap.size = w.heap.size := World.size_setCell ..
  generalize w.setCell ⟨g, k * 5, none⟩ (.int .i64 s') = w1 at *
  obtain ⟨h2, b2, k2⟩ := own_set h1 (k := k) (x := (s', t, v, a, n)) (by rw [List.getElem?_set_self hlt]) (j := 1) (y := (s', t', v, a, n)) (u := .int .i64 t') (by decide) rfl
  rw [List.set_set] at h2
  have z2 : (w1.setCell ⟨g, k * 5 + 1, none⟩ (.int .i64 t')).heap.size = w1.heap.size := World.size_setCell ..
  generalize w1.setCell ⟨g, k * 5 + 1, none⟩ (.int .i64 t') = w2 at *
  obtain ⟨h3, b3, k3⟩ := own_set h2 (k := k) (x := (s', t', v, a, n)) (by rw [List.getElem?_set_self hlt]) (j := 2) (y := (s', t', v', a, n)) (u := .int .i64 v') (by decide) rfl
  rw [List.set_set] at h3
  have z3 : (w2.setCell ⟨g, k * 5 + 2, none⟩ (.int .i64 v')).heap.size = w2.heap.size := World.size_setCell ..
  generalize w2.setCell ⟨g, k * 5 + 2, none⟩ (.int .i64 v') = w3 at *
  obtain ⟨h4, b4, k4⟩ := own_set h3 (k := k) (x := (s', t', v', a, n)) (by rw [List.getElem?_set_self hlt]) (j := 3) (y := (s', t', v', a', n)) (u := .int .i64 a') (by decide) rfl
  rw [List.set_set] at h4
  have z4 : (w3.setCell ⟨g, k * 5 + 3, none⟩ (.int .i64 a')).heap.size = w3.heap.size := World.size_setCell ..
  generalize w3.setCell ⟨g, k * 5 + 3, none⟩ (.int .i64 a') = w4 at *
  obtain ⟨h5, b5, k5⟩ := own_set h4 (k := k) (x := (s', t', v', a', n)) (by rw [List.getElem?_set_self hlt]) (j := 4) (y := (s', t', v', a', n')) (u := .int .i64 n') (by decide) rfl
  rw [List.set_set] at h5
  exact ⟨h5, b1.trans (b2.trans (b3.trans (b4.trans b5))), k1.trans (by omega) (k2.trans (by omega) (k3.trans (by omega) (k4.trans (by omega) k5)))⟩

end Go.Proofs.YthgnhaimdkcmeaaGreatDoor

namespace Go.Proofs.YthgnhaimdkcmeaaGreatDoor
open Go.RowKit Go.Joins
open MM (Mem Ent Sm Tri)

def vLen : Value → Nat
  | .slice _ n _ => n
  | _ => 0
theorem run_cutL {α : Type} {P : Program} {t e : TypeId} {size bytes : Nat} {enc : α → List Value} (E : IsElem P t e size bytes enc) (g N cap n : Nat) (h1 : n ≤ N) :
    ∀ w0 : World, (Instr.slice t (.slice (some ⟨g, 0, none⟩) N cap) (some (.int .i64 (n : Int))) none none).run P w0 = .ok (.slice (if cap = n then some ⟨g, 0, none⟩ else some ⟨g, n * size, none⟩) (N - n) (cap - n)) w0 := fun w0 => by
  have e1 : (0 : Int) ≤ (n : Int) := by omega
  have e2 : (n : Int) ≤ (N : Int) := by omega
  have hz := E.run_size
  simp [Instr.slice, run_underlying E.ht, Instr.sliceBounds, run_sliceBound, e1, e2, hz, Result.andThen, addr_plain]
theorem wp_copyD {α : Type} {P : Program} {t e : TypeId} {size bytes : Nat} {enc : α → List Value} (E : IsElem P t e size bytes enc) {w : World} {ops : Array Oper} {rest : List Oper} {o : Oper} {a : Act} {Q : Exit → Act → World → Prop} {base : Nat} {g N cap n : Nat} {us zs : List α} {z dv : Value} (hgd : o.guard = none) (d s : Operand)
    (ho : o.op = .call { callee := .builtin .copy, args := #[d, s], argTypes := #[t, t] }) (hown : OwnG enc e size base w (.slice (some ⟨g, 0, none⟩) N cap) us) (hN : N = us.length) (hn : n + zs.length ≤ us.length) (hz : RdG enc size w z zs)
    (hdv : dv = .slice (if cap = n then some ⟨g, 0, none⟩ else some ⟨g, n * size, none⟩) (N - n) (cap - n)) (hd : a.eval d = dv) (hs : a.eval s = z)
    (h : ∀ w', OwnG enc e size base w' (.slice (some ⟨g, 0, none⟩) N cap) (us.take n ++ (zs ++ us.drop (n + zs.length))) → Below base w w' → KeepsX e w w' → wpList P ops Q rest (a.put o.dst (.int .i64 zs.length)) w') :
    wpList P ops Q (o :: rest) a w := wp_copyG E hgd d s ho hown hN hn hz (hd.trans hdv) hs h
theorem vnext (n : Nat) (h : n + 1 ≤ 4611686018427387904) : Value.int .i64 (wrap64 ((n : Int) + 1)) = .int .i64 ((n + 1 : Nat) : Int) := vint (by unfold wrap64; omega)
theorem own_put1 {base : Nat} {w : World} {g N cap k : Nat} {xs : List Int} {s : Int} (h : OwnI base w (.slice (some ⟨g, 0, none⟩) N cap) xs) (hk : xs[k]? = some s) (s' : Int) (o : Nat) (ho : o = k * 1) :
    OwnI base (w.setCell ⟨g, o, none⟩ (.int .i64 s')) (.slice (some ⟨g, 0, none⟩) N cap) (xs.set k s') ∧ Below base w (w.setCell ⟨g, o, none⟩ (.int .i64 s')) ∧ KeepsX 3 w (w.setCell ⟨g, o, none⟩ (.int .i64 s')) := by
  subst ho
  have := own_set h hk (j := 0) (y := s') (u := .int .i64 s') (by decide) rfl
  rwa [Nat.add_zero] at this
end Go.Proofs.YthgnhaimdkcmeaaGreatDoor

namespace Go.Proofs.YthgnhaimdkcmeaaGreatDoor
open Go.RowKit Go.Joins
open MM (Mem Ent Sm Tri)

section
variable {α : Type} {P : Program} {t e : TypeId} {size bytes : Nat} {enc : α → List Value}
/-- 'clear' of elements of whatever size. -/
theorem run_clearK (w : World) (sT ty elem : TypeId) (k g o n c : Nat) (cur : Array Value) (t : TypeId) (v0 zv : Value) (by0 : Nat)
    (hu : P.underlying sT = some (.slice elem)) (hzv : (P.info? elem).map (fun i => (i.zero, i.size, i.bytes)) = some (some zv, k, by0)) (hzc : zv.cells = Array.replicate k v0) (h0 : 0 < k) (hn : 0 < n)
    (hg : w.heap[g]? = some (.cells cur t (0, 0))) (hfit : o + n * k ≤ cur.size) (h1 : v0.oneCell' = true) :
    (Builtin.clear_ #[sT] ty #[.slice (some ⟨g, o, none⟩) n c]).run P w =
      .ok (.tuple #[]) (w.setRow g (cur.toList.take o ++ List.replicate (n * k) v0 ++ cur.toList.drop (o + n * k)).toArray) := by
  obtain ⟨i0, hi, hz0, _, _⟩ := info_parts hzv
  have hz : (Builtin.zeroCells zv.cells n).toList = List.replicate (n * k) v0 := by
    rw [hzc]
    refine List.eq_replicate_iff.2 ⟨by simp [Builtin.zeroCells], fun b hb => ?_⟩
    simp [Builtin.zeroCells] at hb
    obtain ⟨i, hi, rfl⟩ := hb
    have hlt : i % k < k := Nat.mod_lt _ h0
    simp [hlt]
  have hst := run_storeCells_at P g o t (List.replicate (n * k) v0) 0 cur w hg (by simpa using hfit) (fun v hv => by rw [List.eq_of_mem_replicate hv]; exact h1)
  obtain ⟨m, rfl⟩ : ∃ m, n = m + 1 := ⟨n - 1, by omega⟩
  simp [Builtin.clear_, run_underlying hu, zeroValue, typeInfo, hi, hz0, hz, hst]
/-- 'clear(out[n:])', out the call's own: what it leaves. -/
theorem clear_own (E : IsElem P t e size bytes enc) (z0 : α) {zv : Value} (hzv : (P.info? e).map (fun i => (i.zero, i.size, i.bytes)) = some (some zv, size, bytes)) (v0 : Value) (hzc : zv.cells = Array.replicate size v0) (hze : enc z0 = List.replicate size v0) (h1 : v0.oneCell' = true)
    {w : World} {base : Nat} {g N cap n : Nat} {us : List α} (ty : TypeId) (hown : OwnG enc e size base w (.slice (some ⟨g, 0, none⟩) N cap) us) (hN : N = us.length) (hn : n < us.length) :
    ∃ w', (Builtin.clear_ #[t] ty #[.slice (some ⟨g, n * size, none⟩) (N - n) (cap - n)]).run P w = .ok (.tuple #[]) w' ∧ OwnG enc e size base w' (.slice (some ⟨g, 0, none⟩) N cap) (us.take n ++ List.replicate (us.length - n) z0) ∧ Below base w w' ∧ (∀ k, k ≠ g → w'.heap[k]? = w.heap[k]?) := by
  obtain ⟨g', cap', cur, hv, hg, hh, hcn, hm, hcs, ht⟩ := hown.form (by omega)
  cases hv
  have hfit : n * size + (us.length - n) * size ≤ cur.size := by
    rw [hcs, ← Nat.add_mul]
    exact Nat.mul_le_mul_right _ (by omega)
  have hrun := run_clearK (P := P) w t ty e size g (n * size) (us.length - n) (cap - n) cur e v0 zv bytes E.ht hzv hzc E.pos (by omega) hh hfit h1
  refine ⟨_, hrun, ⟨⟨?_, .inr ⟨g, cap, _, ?_, hg, setRow_heap _ _ _ _ _ _ hh, ?_, hm, ?_, ?_⟩⟩, hown.2⟩, below_setRow (Below.refl _ _) hg _, ?_⟩
  · rw [cellsOf_length E.len]
  · congr 1; simp; omega
  · simp; omega
  · simp; omega
  · have hcur : cur.toList.length = cap * size := by simpa using hcs
    have e1 : cur.toList.take (n * size) = cellsOf enc (us.take n) := by
      rw [cellsOf_take E.len us n (by omega), ← ht, List.take_take, Nat.min_eq_left (Nat.mul_le_mul_right _ (by omega))]
    have hlen2 : (us.take n ++ List.replicate (us.length - n) z0).length = us.length := by simp; omega
    rw [hlen2, cellsOf_append, ← e1, cells_rep E.len z0 v0 hze]
    have a1 : (cur.toList.take (n * size)).length = n * size := by
      rw [List.length_take, hcur]; exact Nat.min_eq_left (Nat.mul_le_mul_right _ (by omega))
    have b1 : n * size + (us.length - n) * size = us.length * size := by rw [← Nat.add_mul]; congr 1; omega
    dsimp only
    have a2 : (cur.toList.take (n * size) ++ List.replicate ((us.length - n) * size) v0).length = us.length * size := by rw [List.length_append, a1, List.length_replicate, b1]
    rw [take_app (by rw [a2]; exact Nat.le_refl _), a2, Nat.sub_self, List.take_zero, List.append_nil]
  · intro i hne
    exact setRow_other _ _ _ _ hne
end

/-- 'v[:hi]', the value written out. -/
theorem RdG.takeN {α : Type} {enc : α → List Value} {size : Nat} {w : World} {a : Option Addr} {n c : Nat} {xs : List α} (h : RdG enc size w (.slice a n c) xs) (hi : Nat) (h2 : hi ≤ xs.length) : RdG enc size w (.slice a hi c) (xs.take hi) := by
  obtain ⟨a', c', hv, h3, h4, h5, ⟨hp, hl⟩, h6⟩ := h
  cases hv
  refine ⟨a, c, by rw [List.length_take]; congr 1; omega, by rw [List.length_take]; omega, h4, fun ha => ?_, ⟨hp, hl⟩, fun x hx j u hu => ?_⟩
  · obtain ⟨rfl, rfl⟩ := h5 ha
    simp
  · refine h6 x hx j u ?_
    rw [cellsOf_take hl xs hi h2, List.getElem?_take] at hu
    split at hu
    · exact hu
    · cases hu
/-- 's[k:]' of the call's own list reads. -/
theorem cut_own {base : Nat} {w : World} {g cap : Nat} {us : List Ent} (h : OwnW base w (.slice (some ⟨g, 0, none⟩) us.length cap) us) (k : Nat) (hk : k < us.length) :
    RdW w (.slice (some ⟨g, k * 5, none⟩) (us.length - k) (cap - k)) (us.drop k) := by
  obtain ⟨g', cap', cur, hv, _, _, hcn, _⟩ := h.form (by omega)
  cases hv
  obtain ⟨v', h1, h2⟩ := h.rd.cutL wgtE k (by omega)
  have h3 := h1 w
  rw [run_cutL wgtE g us.length cap k (by omega) w, if_neg (by omega)] at h3
  injection h3 with h3
  rw [h3]; exact h2
end Go.Proofs.YthgnhaimdkcmeaaGreatDoor

namespace Go.Proofs.YthgnhaimdkcmeaaGreatDoor
open Go.RowKit
open MM (Mem Ent Sm Tri)

/-- Behind w there are draws and new blocks alone. -/
def Gn (w w' : World) : Prop := ∃ q os, w' = Go.Sort.grow (w.drewN q) os
theorem Gn.refl (w : World) : Gn w w := ⟨0, #[], by simp [World.drewN]⟩
theorem Gn.trans {a b c : World} (h : Gn a b) (k : Gn b c) : Gn a c := by
  obtain ⟨q, os, rfl⟩ := h
  obtain ⟨q', os', rfl⟩ := k
  refine ⟨q + q', os ++ os', ?_⟩
  simp [Go.Sort.grow, World.drewN, Array.append_assoc, Nat.add_assoc]
theorem Gn.alloc (w : World) (o : Obj) : Gn w (w.alloc o) := ⟨0, #[o], by rw [Go.Sort.alloc_eq_grow]; simp [World.drewN]⟩
theorem Gn.drew (w : World) : Gn w w.drew := ⟨1, #[], by rw [Go.Sort.grow_empty]; rfl⟩
theorem Gn.below {w w' : World} (h : Gn w w') : Below w.heap.size w w' := by
  obtain ⟨q, os, rfl⟩ := h
  exact ⟨rfl, rfl, rfl, by simp [Go.Sort.grow, World.drewN], fun k hk => by simp [Go.Sort.grow, World.drewN, Array.getElem?_append, hk]⟩
/-- By server, then the later version first. -/
def cfW (x y : Ent) : Int := orL [cmpI x.1 y.1, cmpI y.2.2.1 x.2.2.1]
end Go.Proofs.YthgnhaimdkcmeaaGreatDoor

namespace Go.Proofs.YthgnhaimdkcmeaaGreatDoor
open Go.RowKit Go.Joins
open MM (Mem Ent Sm Tri)

/-- What a call leaves that writes into the list v alone. -/
structure InPl {α : Type} (enc : α → List Value) (e : TypeId) (size base : Nat) (w w' : World) (v : Value) (ys : List α) : Prop where
  own : OwnG enc e size base w' v ys
  below : Below base w w'
  oth : ∀ k, k < w.heap.size → v.ownBlock ≠ some k → w'.heap[k]? = w.heap[k]?
theorem row_after {α β : Type} [Inhabited β] {enc : α → List Value} {enc' : β → Value} {e : TypeId} {size base : Nat} {w : World} {blk N cap : Nat} {xs ys : List α} (h : OwnG enc e size base w (.slice (some ⟨blk, 0, none⟩) N cap) xs) (h0 : 0 < xs.length) (hlen : ys.length = xs.length)
    (d : Array β) (hd : d.size = xs.length * size) (hc : ∀ j, j < d.size → (cellsOf enc ys)[j]? = some (enc' d[j]!)) (n : Nat) (os : Array Obj) :
    InPl enc e size base w (Go.Sort.grow (Go.Sort.putRow enc' (Go.Sort.ahead w n) blk 0 d) os) (.slice (some ⟨blk, 0, none⟩) N cap) ys := by
  obtain ⟨g, cap', cur, hv, hg, hh, hn, hm, hs, ht⟩ := h.form h0
  cases hv
  have hlt : blk < w.heap.size := (Array.getElem?_eq_some_iff.1 hh).1
  have hsz : (Go.Sort.putRow enc' (Go.Sort.ahead w n) blk 0 d).heap.size = w.heap.size := by simp [Go.Sort.putRow, Go.Sort.mapBlock, Go.Sort.ahead]
  have hpc : (Go.Sort.putCells enc' 0 d cur).size = cur.size := by simp [Go.Sort.putCells]
  have hb : (Go.Sort.grow (Go.Sort.putRow enc' (Go.Sort.ahead w n) blk 0 d) os).heap[blk]? = some (.cells (Go.Sort.putCells enc' 0 d cur) e (0, 0)) := by
    rw [Go.Sort.heap_grow_old _ _ (by rw [hsz]; exact hlt)]
    show (w.heap.modify blk _)[blk]? = _
    rw [Array.getElem?_modify, if_pos rfl, hh]
    rfl
  have ho : ∀ k, k < w.heap.size → k ≠ blk → (Go.Sort.grow (Go.Sort.putRow enc' (Go.Sort.ahead w n) blk 0 d) os).heap[k]? = w.heap[k]? := by
    intro k hk hne
    rw [Go.Sort.heap_grow_old _ _ (by rw [hsz]; exact hk)]
    show (w.heap.modify blk _)[k]? = _
    rw [Array.getElem?_modify, if_neg (by omega)]
  have hl := h.2
  refine ⟨⟨⟨(by rw [cellsOf_length hl.2, hlen]), .inr ⟨blk, cap, _, by rw [hlen], hg, hb, by rw [hlen]; exact hn, hm, by rw [hpc]; exact hs, ?_⟩⟩, hl⟩, ⟨rfl, rfl, rfl, by simp [Go.Sort.grow, hsz], fun k hk => ho k (by omega) (by omega)⟩, fun k hk hne => ho k hk (fun he => hne (by rw [he]; rfl))⟩
  apply List.ext_getElem?
  intro j
  have hcl : (cellsOf enc ys).length = xs.length * size := by rw [cellsOf_length hl.2, hlen]
  rw [hlen, List.getElem?_take]
  by_cases hj : j < xs.length * size
  · rw [if_pos hj, hc j (by omega), Array.getElem?_toList]
    have hjc : j < cur.size := by
      rw [hs]
      exact Nat.lt_of_lt_of_le hj (Nat.mul_le_mul_right _ hn)
    unfold Go.Sort.putCells
    rw [Array.getElem?_mapIdx, Array.getElem?_eq_getElem hjc]
    simp [hd, hj]
  · rw [if_neg hj, List.getElem?_eq_none (by omega)]

end Go.Proofs.YthgnhaimdkcmeaaGreatDoor

namespace Go.Proofs.YthgnhaimdkcmeaaGreatDoor
open Go.RowKit Go.Joins
open JM (Chg)
open MM (Mem Ent Sm Tri)

/-- Every block but v's own is as it was. -/
def Oth (v : Value) (w w' : World) : Prop := ∀ k, k < w.heap.size → v.ownBlock ≠ some k → w'.heap[k]? = w.heap[k]?
theorem OwnG.lt {α : Type} {enc : α → List Value} {e : TypeId} {size base : Nat} {w : World} {v : Value} {ys : List α} (h : OwnG enc e size base w v ys) (g : Nat) (hg : v.ownBlock = some g) : base ≤ g ∧ g < w.heap.size := by
  rcases h.1.2 with ⟨rfl, _⟩ | ⟨gg, cap, cur, hv, hgg, hh, r⟩
  · cases hg
  · subst hv
    have : gg = g := by simpa [Value.ownBlock] using hg
    subst this
    exact ⟨hgg, (Array.getElem?_eq_some_iff.1 hh).1⟩
theorem OwnG.oth {α : Type} {enc : α → List Value} {e : TypeId} {size base : Nat} {w w' : World} {u v : Value} {ys : List α} (h : OwnG enc e size base w v ys) (ho : Oth u w w') (hne : ∀ g, u.ownBlock = some g → v.ownBlock ≠ some g) : OwnG enc e size base w' v ys := by
  refine ⟨⟨h.1.1, ?_⟩, h.2⟩
  rcases h.1.2 with h6 | ⟨gg, cap, cur, hv, hgg, hh, r⟩
  · exact .inl h6
  · refine .inr ⟨gg, cap, cur, hv, hgg, ?_, r⟩
    rw [ho gg (Array.getElem?_eq_some_iff.1 hh).1 (fun he => hne gg he (by subst hv; rfl))]
    exact hh
theorem Oth.at {v : Value} {w w' : World} (h : Oth v w w') {g : Nat} {ob : Obj} (hg : w.heap[g]? = some ob) (hne : v.ownBlock ≠ some g) : w'.heap[g]? = some ob := (h g (Array.getElem?_eq_some_iff.1 hg).1 hne).trans hg
/-- Another block than the list's own, by the element's type. -/
theorem own_ne {α : Type} {enc : α → List Value} {e t : TypeId} {size base : Nat} {w : World} {v : Value} {ys : List α} (h : OwnG enc e size base w v ys) {g : Nat} {cur : Array Value} {fr : Nat × Nat} (hg : w.heap[g]? = some (.cells cur t fr)) (ht : t ≠ e) : v.ownBlock ≠ some g := by
  rcases h.1.2 with ⟨rfl, _⟩ | ⟨gg, cap, cur', hv, hgg, hh, r⟩
  · exact fun h => by cases h
  · subst hv
    intro he
    have : gg = g := by simpa [Value.ownBlock] using he
    subst this
    rw [hg] at hh
    injection hh with hh
    injection hh with _ h2
    exact ht h2
theorem own_own_ne {α β : Type} {enc : α → List Value} {enc' : β → List Value} {e e' : TypeId} {size size' base base' : Nat} {w : World} {v v' : Value} {ys : List α} {zs : List β} (h : OwnG enc e size base w v ys) (h' : OwnG enc' e' size' base' w v' zs) (ht : e' ≠ e) : ∀ g, v'.ownBlock = some g → v.ownBlock ≠ some g := by
  intro g hg
  rcases h'.1.2 with ⟨rfl, _⟩ | ⟨gg, cap, cur', hv, hgg, hh, r⟩
  · cases hg
  · subst hv
    have : gg = g := by simpa [Value.ownBlock] using hg
    subst this
    exact own_ne h hh ht
/-- Two lists lie in two blocks. -/
def Dj (u v : Value) : Prop := ∀ g, u.ownBlock = some g → v.ownBlock ≠ some g
theorem Dj.symm {u v : Value} (h : Dj u v) : Dj v u := fun g h1 h2 => h g h2 h1

/-- 'out = append(out, x)', and that all other blocks stay. -/
theorem wp_appG1N {α : Type} {P : Program} {t e : TypeId} {size bytes : Nat} {enc : α → List Value} {w : World} {ops : Array Oper} {rest : List Oper} {o : Oper} {a : Act} {Q : Exit → Act → World → Prop} {base : Nat} {v : Value} {ys : List α}
    (E : IsElem P t e size bytes enc) (x : α) (hgd : o.guard = none) (s r : Operand) (ho : o.op = .call { callee := .builtin .append, args := #[s, r], argTypes := #[t, t] })
    (hs : a.eval s = v) (hown : OwnG enc e size base w v ys) (hx : a.eval r = .slice (some ⟨w.heap.size, 0, none⟩) 1 1) (hlen : ys.length ≤ 1073741824) (hb : base ≤ w.heap.size)
    (h : ∀ v' w', OwnG enc e size base w' v' (ys ++ [x]) → Below base w w' → KeepsX e w w' → Oth v w w' → (∀ g, v'.ownBlock = some g → v.ownBlock = some g ∨ w.heap.size ≤ g) → wpList P ops Q rest (a.put o.dst v') w') :
    wpList P ops Q (o :: rest) a (w.alloc (.cells (enc x).toArray e)) := by
  obtain ⟨i0, z, hi, hz0, hz1, hz2, hz3⟩ := E.info
  refine wpList_append_own_at _ hgd s r t ho base e i0 z size bytes E.ht hi hz0 hz1 hz2 hz3 E.pos _ _ _ hs (World.ownsRow.alloc hown.1 _) ⟨w.heap.size, 0, none⟩ 1 1 (enc x) hx (by rw [E.len, Nat.one_mul]) ?_ (E.one x) ?_ ?_ ?_ ?_
  · intro j u hu
    rw [addr_plain, Nat.zero_add, World.cell?_alloc_new]
    simpa using hu
  · unfold maxLen; omega
  · have := E.fits
    calc (ys.length + 1) * bytes ≤ (1073741824 + 1) * 4096 := Nat.mul_le_mul (by omega) this
      _ ≤ 140737488355328 := by decide
  · simp; omega
  · intro v' w1 ho1 hg1 _ hat
    have hk0 : KeepsX e w (w.alloc (.cells (enc x).toArray e)) := Below.keepsX (below_fresh w _) e
    refine h v' w1 ⟨?_, hown.2⟩ (((Below.refl _ _).alloc hb _).grown hg1 (by simp; omega) (fun k hk => (World.ownsRow.lt hown.1 k hk).1)) (hk0.trans (by simp) (keepsX_grown (World.ownsRow.alloc hown.1 _) hg1)) ?_ ?_
    · rw [cellsOf_append, List.length_append]
      simpa [cellsOf] using ho1
    · intro k hk hne
      rw [hg1.block k (by simp; omega) hne.symm, (below_fresh w _).block k hk]
    · intro g hgv
      rcases hat with h1 | h1
      · exact .inl (by rw [← h1]; exact hgv)
      · refine .inr ?_
        rw [h1] at hgv
        injection hgv with hgv
        simp at hgv
        omega
theorem Dj.app {u v u' : Value} {n : Nat} (h : Dj u v) (hu : ∀ g, u'.ownBlock = some g → u.ownBlock = some g ∨ n ≤ g) (hv : ∀ g, v.ownBlock = some g → g < n) : Dj u' v := fun g h1 h2 => by
  rcases hu g h1 with h3 | h3
  · exact h g h3 h2
  · have := hv g h2; omega

/-! The sorts, of lists that may be empty. -/
theorem ord_of {ys : List Ent} (h : ∀ (i j : Nat) (a b : Ent), i < j → ys[i]? = some a → ys[j]? = some b → ¬ cfW b a < 0) : MM.Ord ys := by
  intro i j a b hij ha hb
  have h1 := h i j a b hij ha hb
  unfold cfW orL orL orL cmpI at h1
  revert h1
  (repeat' split) <;> omega
/-! Of. -/
theorem row7_at {w : World} {g : Nat} {t : TypeId} {a0 a1 a2 a3 a4 a5 a6 : Value} (h : w.heap[g]? = some (.cells #[a0, a1, a2, a3, a4, a5, a6] t (0, 0))) :
    w.cell? ⟨g, 0, none⟩ = some a0 ∧ w.cell? ⟨g, 1, none⟩ = some a1 ∧ w.cell? ⟨g, 2, none⟩ = some a2 ∧ w.cell? ⟨g, 3, none⟩ = some a3 ∧ w.cell? ⟨g, 4, none⟩ = some a4 ∧ w.cell? ⟨g, 5, none⟩ = some a5 ∧ w.cell? ⟨g, 6, none⟩ = some a6 := by
  refine ⟨?_, ?_, ?_, ?_, ?_, ?_, ?_⟩
  all_goals (simp [World.cell?, h]; done)
abbrev pCells (ad nu : Int) (u : Value) : Array Value := #[.int .i64 ad, .int .i64 nu, u]
abbrev cCells (k s t v x y z : Int) : Array Value := #[.int .i64 k, .int .i64 s, .int .i64 t, .int .i64 v, .int .i64 x, .int .i64 y, .int .i64 z]
/-- The boxes of Of: the proposal, the result, the summary. -/
theorem of_boxes (w : World) (ad nu : Int) (u : Value) :
    ∃ w3, ((w.alloc (.cells (pCells ad nu u) 44)).alloc (.cells (s9 (.slice none 0 0) (.slice none 0 0) (.slice none 0 0) 0 0 0 0 0 0) 37)).alloc (.cells (s9 (.slice none 0 0) (.slice none 0 0) (.slice none 0 0) 0 0 0 0 0 0) 37) = w3 ∧ Below w.heap.size w w3 ∧ w3.heap.size = w.heap.size + 3 ∧
      w3.heap[w.heap.size]? = some (.cells (pCells ad nu u) 44 (0, 0)) ∧
      w3.heap[w.heap.size + 1]? = some (.cells (s9 (.slice none 0 0) (.slice none 0 0) (.slice none 0 0) 0 0 0 0 0 0) 37 (0, 0)) ∧
      w3.heap[w.heap.size + 1 + 1]? = some (.cells (s9 (.slice none 0 0) (.slice none 0 0) (.slice none 0 0) 0 0 0 0 0 0) 37 (0, 0)) := by
  have h1 := heap_alloc_new w (.cells (pCells ad nu u) 44)
  have b1 := below_fresh w (.cells (pCells ad nu u) 44)
  have z1 := World.size_alloc w (.cells (pCells ad nu u) 44)
  generalize w.alloc (.cells (pCells ad nu u) 44) = w1 at *
  have h2 := heap_alloc_new w1 (.cells (s9 (.slice none 0 0) (.slice none 0 0) (.slice none 0 0) 0 0 0 0 0 0) 37)
  have b2 := below_fresh w1 (.cells (s9 (.slice none 0 0) (.slice none 0 0) (.slice none 0 0) 0 0 0 0 0 0) 37)
  have z2 := World.size_alloc w1 (.cells (s9 (.slice none 0 0) (.slice none 0 0) (.slice none 0 0) 0 0 0 0 0 0) 37)
  generalize w1.alloc (.cells (s9 (.slice none 0 0) (.slice none 0 0) (.slice none 0 0) 0 0 0 0 0 0) 37) = w2 at *
  have h3 := heap_alloc_new w2 (.cells (s9 (.slice none 0 0) (.slice none 0 0) (.slice none 0 0) 0 0 0 0 0 0) 37)
  have b3 := below_fresh w2 (.cells (s9 (.slice none 0 0) (.slice none 0 0) (.slice none 0 0) 0 0 0 0 0 0) 37)
  have z3 := World.size_alloc w2 (.cells (s9 (.slice none 0 0) (.slice none 0 0) (.slice none 0 0) 0 0 0 0 0 0) 37)
  refine ⟨_, rfl, bnext b1 (bnext b2 b3), by omega, below_block (below_block h1 b2) b3, ?_, ?_⟩
  · rw [← z1]; exact below_block h2 b3
  · rw [← z1, ← z2]; exact h3

end Go.Proofs.YthgnhaimdkcmeaaGreatDoor

namespace Go.Proofs.YthgnhaimdkcmeaaGreatDoor
open Go.RowKit
open MM (Mem Ent Sm Tri)

theorem B9.of_block {w : World} {B : Nat} {t : TypeId} {x y z : Value} {k c f v a n : Int} (h : w.heap[B]? = some (.cells (s9 x y z k c f v a n) t (0, 0))) : B9 w B x y z k c f v a n := by
  obtain ⟨⟨z0, z1, z2, z3, z4, z5, z6, z7, z8⟩, _⟩ := row9_at h
  exact ⟨(Array.getElem?_eq_some_iff.1 h).1, z0, z1, z2, z3, z4, z5, z6, z7, z8⟩
/-- The boxes of Join: both summaries, the result, the summary that is built. -/
theorem join_boxes (w : World) (x y z x' y' z' : Value) (k c f v a n k' c' f' v' a' n' : Int) :
    ∃ w4, (((w.alloc (.cells (s9 x y z k c f v a n) 37)).alloc (.cells (s9 x' y' z' k' c' f' v' a' n') 37)).alloc (.cells (s9 (.slice none 0 0) (.slice none 0 0) (.slice none 0 0) 0 0 0 0 0 0) 37)).alloc (.cells (s9 x y z k c f v a n) 37) = w4 ∧
      Below w.heap.size w w4 ∧ w4.heap.size = w.heap.size + 4 ∧
      w4.heap[w.heap.size]? = some (.cells (s9 x y z k c f v a n) 37 (0, 0)) ∧
      w4.heap[w.heap.size + 1]? = some (.cells (s9 x' y' z' k' c' f' v' a' n') 37 (0, 0)) ∧
      w4.heap[w.heap.size + 1 + 1]? = some (.cells (s9 (.slice none 0 0) (.slice none 0 0) (.slice none 0 0) 0 0 0 0 0 0) 37 (0, 0)) ∧
      w4.heap[w.heap.size + 1 + 1 + 1]? = some (.cells (s9 x y z k c f v a n) 37 (0, 0)) := by
  have h1 := heap_alloc_new w (.cells (s9 x y z k c f v a n) 37)
  have b1 := below_fresh w (.cells (s9 x y z k c f v a n) 37)
  have z1 := World.size_alloc w (.cells (s9 x y z k c f v a n) 37)
  generalize w.alloc (.cells (s9 x y z k c f v a n) 37) = w1 at *
  have h2 := heap_alloc_new w1 (.cells (s9 x' y' z' k' c' f' v' a' n') 37)
  have b2 := below_fresh w1 (.cells (s9 x' y' z' k' c' f' v' a' n') 37)
  have z2 := World.size_alloc w1 (.cells (s9 x' y' z' k' c' f' v' a' n') 37)
  generalize w1.alloc (.cells (s9 x' y' z' k' c' f' v' a' n') 37) = w2 at *
  have h3 := heap_alloc_new w2 (.cells (s9 (.slice none 0 0) (.slice none 0 0) (.slice none 0 0) 0 0 0 0 0 0) 37)
  have b3 := below_fresh w2 (.cells (s9 (.slice none 0 0) (.slice none 0 0) (.slice none 0 0) 0 0 0 0 0 0) 37)
  have z3 := World.size_alloc w2 (.cells (s9 (.slice none 0 0) (.slice none 0 0) (.slice none 0 0) 0 0 0 0 0 0) 37)
  generalize w2.alloc (.cells (s9 (.slice none 0 0) (.slice none 0 0) (.slice none 0 0) 0 0 0 0 0 0) 37) = w3 at *
  have h4 := heap_alloc_new w3 (.cells (s9 x y z k c f v a n) 37)
  have b4 := below_fresh w3 (.cells (s9 x y z k c f v a n) 37)
  have z4 := World.size_alloc w3 (.cells (s9 x y z k c f v a n) 37)
  refine ⟨_, rfl, bnext b1 (bnext b2 (bnext b3 b4)), by omega, below_block (below_block (below_block h1 b2) b3) b4, ?_, ?_, ?_⟩
  · rw [← z1]; exact below_block (below_block h2 b3) b4
  · rw [← z1, ← z2]; exact below_block h3 b4
  · rw [← z1, ← z2, ← z3]; exact h4

end Go.Proofs.YthgnhaimdkcmeaaGreatDoor

namespace Go.Proofs.YthgnhaimdkcmeaaGreatDoor
open Go.RowKit Go.Joins
open JM (Chg)
open MM (Mem Ent Sm Tri)

theorem srt_len {α : Type} {key : α → Int} {l : List α} : ∀ {a : Int}, MM.Srt key l → (∀ x ∈ l, a ≤ key x ∧ key x ≤ 12) → a ≤ 13 → (l.length : Int) ≤ 13 - a := by
  induction l with
  | nil => intro a _ _ h; simpa using (by omega : (0 : Int) ≤ 13 - a)
  | cons x l ih =>
    intro a h hx ha
    have h1 := hx x (by simp)
    have h2 := ih (a := key x + 1) (h.tl key) (fun y hy => ⟨h.hd key y hy, (hx y (by simp [hy])).2⟩) (by omega)
    rw [List.length_cons]
    omega
theorem okS_len {s : Sm} (h : MM.OkS s) : s.J.length ≤ 1000000 ∧ s.R.length ≤ 1000000 ∧ s.W.length ≤ 1000000 := by
  have h1 := srt_len (a := 1) h.j (fun x hx => h.js x hx) (by decide)
  have h2 := srt_len (a := 1) h.r (fun x hx => h.rs x hx) (by decide)
  have h3 := srt_len (a := 1) h.w (fun x hx => (h.ws x hx).1) (by decide)
  omega
theorem okS_jall {n : Nat} {fs : List MM.Prp} (hn : fs.length ≤ n) (h : ∀ x ∈ fs, JM.errP x.1 x.2.1 x.2.2 = 0) : MM.OkS (MM.jall n fs) := (MM.sp_jall n fs hn h).ok

/-- What a summary's value looks like. -/
theorem RdS.shape {w : World} {v : Value} {s : Sm} (h : RdS w v s) : ∃ (ax : Option Addr) (lx cx : Nat) (ay : Option Addr) (ly cy : Nat) (az : Option Addr) (lz cz : Nat), v = sv (.slice ax lx cx) (.slice ay ly cy) (.slice az lz cz) s.k s.c s.f s.v s.a s.n := by
  obtain ⟨x, y, z, rfl, h1, h2, h3⟩ := h
  obtain ⟨ax, cx, rfl, _⟩ := h1.shape
  obtain ⟨ay, cy, rfl, _⟩ := h2.shape
  obtain ⟨az, cz, rfl, _⟩ := h3.shape
  exact ⟨_, _, _, _, _, _, _, _, _, rfl⟩
abbrev zBox : Obj := .cells (s9 (.slice none 0 0) (.slice none 0 0) (.slice none 0 0) 0 0 0 0 0 0) 37 (0, 0)

end Go.Proofs.YthgnhaimdkcmeaaGreatDoor

namespace Go.Proofs.YthgnhaimdkcmeaaGreatDoor
open Go.RowKit
open MM (Mem Ent Sm Tri)

theorem srt_lt {α : Type} {key : α → Int} {l : List α} (h : MM.Srt key l) {i j : Nat} {x y : α} (hi : l[i]? = some x) (hj : l[j]? = some y) (hij : i < j) : key x < key y := by
  obtain ⟨h1, rfl⟩ := List.getElem?_eq_some_iff.1 hi
  obtain ⟨h2, rfl⟩ := List.getElem?_eq_some_iff.1 hj
  exact List.pairwise_iff_getElem.1 h i j h1 h2 hij
/-- Where the search ends. -/
structure AtK {α : Type} (key : α → Int) (l : List α) (a : Int) (i : Nat) : Prop where
  le : i ≤ l.length
  lo : ∀ k e, l[k]? = some e → k < i → key e < a
  hi : ∀ k e, l[k]? = some e → i ≤ k → a ≤ key e
/-- What the search tells. -/
def fndK {α : Type} (key : α → Int) (l : List α) (a : Int) (i : Nat) : Bool := match l[i]? with
  | some e => decide (key e = a)
  | none => false
theorem fndK_lk {α : Type} {key : α → Int} {l : List α} (hs : MM.Srt key l) {a : Int} {i : Nat} (h : AtK key l a i) : (fndK key l a i = true ↔ ∃ e, l[i]? = some e ∧ MM.lk key l a = some e) ∧ (fndK key l a i = false → MM.lk key l a = none) := by
  unfold fndK
  cases hi : l[i]? with
  | none =>
    refine ⟨by simp, fun _ => MM.lk_none key fun y hy => ?_⟩
    obtain ⟨k, hk⟩ := List.getElem?_of_mem hy
    have hlen := List.getElem?_eq_none_iff.1 hi
    have := (List.getElem?_eq_some_iff.1 hk).1
    have := h.lo k y hk (by omega)
    omega
  | some e =>
    refine ⟨⟨fun hd => ⟨e, rfl, ?_⟩, fun ⟨e', h1, h2⟩ => ?_⟩, fun hd => MM.lk_none key fun y hy => ?_⟩
    · have hd' : key e = a := of_decide_eq_true hd
      rw [← hd']
      exact MM.lk_mem key hs (List.mem_of_getElem? hi)
    · cases h1
      exact decide_eq_true (MM.lk_some key h2).2
    · obtain ⟨k, hk⟩ := List.getElem?_of_mem hy
      have hne : key e ≠ a := of_decide_eq_false hd
      have hge := h.hi i e hi (Nat.le_refl _)
      rcases Nat.lt_trichotomy k i with h1 | h1 | h1
      · have := h.lo k y hk h1; omega
      · subst h1; rw [hi] at hk; cases hk; exact hne
      · have := srt_lt hs hi hk h1; omega

end Go.Proofs.YthgnhaimdkcmeaaGreatDoor

namespace Go.Proofs.YthgnhaimdkcmeaaGreatDoor
open Go.RowKit
open MM (Mem Ent Sm Tri)

end Go.Proofs.YthgnhaimdkcmeaaGreatDoor

namespace Go.Proofs.YthgnhaimdkcmeaaGreatDoor
open Go.RowKit
open MM (Mem Ent Sm Tri)

abbrev v4 (s : Value) (k c f : Int) : Array Value := #[s, .int .i64 k, .int .i64 c, .int .i64 f]
/-- The members of the first j that joined. -/
def memsTo (J R : List Int) (W : List Ent) (j : Nat) : List Mem := ((J.take j).filter fun x => !R.contains x).map fun x => (x, MM.wtOf W x)
theorem memsTo_in {J R : List Int} {W : List Ent} {j : Nat} {x : Int} (h : J[j]? = some x) (hx : R.contains x = true) : memsTo J R W (j + 1) = memsTo J R W j := by
  unfold memsTo
  rw [List.take_add_one, h, List.filter_append]
  have hx2 := List.contains_iff_mem.1 hx
  simp [hx2]
theorem memsTo_out {J R : List Int} {W : List Ent} {j : Nat} {x : Int} (h : J[j]? = some x) (hx : R.contains x = false) : memsTo J R W (j + 1) = memsTo J R W j ++ [(x, MM.wtOf W x)] := by
  unfold memsTo
  rw [List.take_add_one, h, List.filter_append]
  have hx2 : ¬ x ∈ R := fun hm => by rw [List.contains_iff_mem.2 hm] at hx; cases hx
  simp [hx2]
theorem memsTo_len (J R : List Int) (W : List Ent) (j : Nat) : (memsTo J R W j).length ≤ j := by
  unfold memsTo
  rw [List.length_map]
  exact Nat.le_trans (List.length_filter_le _ _) (by rw [List.length_take]; omega)

end Go.Proofs.YthgnhaimdkcmeaaGreatDoor

namespace Go.Proofs.YthgnhaimdkcmeaaGreatDoor
open Go.RowKit

end Go.Proofs.YthgnhaimdkcmeaaGreatDoor

namespace Go.Proofs.YthgnhaimdkcmeaaGreatDoor
open Go.RowKit Go.Joins
open JM (Chg St)
open MM (Mem Ent Sm Tri)

/-- The members read, two numbers each. -/
def gms (xs : List Int) (s : St) : Nat → List Mem × St
  | 0 => ([], s)
  | j + 1 => ((gms xs s j).1 ++ [((JM.step xs (gms xs s j).2).1, (JM.step xs (JM.step xs (gms xs s j).2).2).1)], (JM.step xs (JM.step xs (gms xs s j).2).2).2)
theorem gms_len (xs : List Int) (s : St) (j : Nat) : (gms xs s j).1.length = j := by
  induction j with
  | zero => rfl
  | succ j ih => simp [gms, ih]
theorem gms_used (xs : List Int) (s : St) (hb : WM.Bytes xs) (hu : s.1 ≤ xs.length) (j : Nat) : (gms xs s j).2.1 ≤ xs.length := by
  induction j with
  | zero => exact hu
  | succ j ih => exact (JM.step_small xs _ hb (JM.step_small xs _ hb ih).2).2
/-- The answer: error, used, the rule, the members. -/
abbrev GAns := Int × Nat × Int × Int × Int × List Mem
def gbad (e : Int) : GAns := (e, 0, 0, 0, 0, [])
def gfin (k c f : Int) (u : Nat) (er : Int) (ms : List Mem) : GAns := if MM.or2 er (MM.errG k c f ms) ≠ 0 then gbad (MM.or2 er (MM.errG k c f ms)) else (0, u, k, c, f, ms)
def decG (xs : List Int) : GAns :=
  let n := JM.step xs (0, 0)
  let q : St := if 12 < n.1 then (n.2.1, 3) else n.2
  let m := gms xs q (if 12 < n.1 then 0 else n.1).toNat
  let a := JM.step xs m.2
  let b := JM.step xs a.2
  let c := JM.step xs b.2
  gfin a.1 b.1 c.1 c.2.1 c.2.2 m.1

theorem rd2e (w : World) (x y : Int) : RdI (w.alloc (.cells #[.int .i64 x, .int .i64 y] 40)) (.slice (some ⟨w.heap.size, 0, none⟩) 2 2) [x, y] := (ownG_fresh hlI 40 w [x, y] (by unfold maxLen; simp)).rd
theorem results_gen {P : Program} {fn : Func} {p u q : Tmp} {ty : TypeId} (h : fn.results = #[.cell p ty, .tmp u, .tmp q]) (tmps : Array Value) (w : World) (g : Nat) (t : TypeId) (cs : Array Value) (fr : Nat × Nat) (d : TypeDesc)
    (hp : tmps.getD p undef = .pointer (some ⟨g, 0, none⟩)) (hg : w.heap[g]? = some (.cells cs t fr))
    (hu : P.underlying ty = some d) (hd : (match d with | .struct _ | .array _ _ => true | _ => false) = true) (hi : (P.info? ty).map (·.size) = some cs.size) :
    (results fn tmps).run P w = .ok (.tuple #[.agg cs, tmps.getD u undef, tmps.getD q undef]) w := by
  have hp' : tmps[p]?.getD undef = .pointer (some ⟨g, 0, none⟩) := by simpa using hp
  simp [results, h, hp', asAddr, run_loadVar_row w g t ty cs fr d hg hu hd hi, Result.andThen]
abbrev gBox (s : Value) (k c f : Int) : Obj := .cells #[s, .int .i64 k, .int .i64 c, .int .i64 f] 30 (0, 0)
end Go.Proofs.YthgnhaimdkcmeaaGreatDoor

namespace Go.Proofs.YthgnhaimdkcmeaaGreatDoor
open Go.RowKit
open MM (Mem Ent Sm Tri)

/-- The numbers of a genesis. -/
def gnum (ms : List Mem) (k c f : Int) : List Int := ((ms.length : Int) :: ms.flatMap fun m => [m.1, m.2]) ++ [k, c, f]
theorem flat_len (ms : List Mem) : (ms.flatMap fun m => [m.1, m.2]).length = 2 * ms.length := by
  induction ms with
  | nil => rfl
  | cons m ms ih => rw [List.flatMap_cons, List.length_append, ih]; simp; omega
theorem flat_take {ms : List Mem} {j : Nat} {x t : Int} (h : ms[j]? = some (x, t)) : (ms.take (j + 1)).flatMap (fun m => [m.1, m.2]) = (ms.take j).flatMap (fun m => [m.1, m.2]) ++ [x, t] := by
  rw [List.take_add_one, h, List.flatMap_append]; rfl

end Go.Proofs.YthgnhaimdkcmeaaGreatDoor

namespace Go.Proofs.YthgnhaimdkcmeaaGreatDoor
open JM (Chg St)
open MM (Mem Ent Sm Tri)

def flat (ms : List Mem) : List Int := ms.flatMap fun m => [m.1, m.2]
theorem flat_snoc (ms : List Mem) (m : Mem) : flat (ms ++ [m]) = flat ms ++ [m.1, m.2] := by unfold flat; rw [List.flatMap_append]; rfl
theorem flat_inj : ∀ {a b : List Mem}, flat a = flat b → a = b
  | [], [], _ => rfl
  | [], _ :: _, h => by simp [flat] at h
  | _ :: _, [], h => by simp [flat] at h
  | (x, y) :: a, (x', y') :: b, h => by
    simp only [flat, List.flatMap_cons, List.cons_append, List.nil_append, List.cons.injEq] at h
    obtain ⟨rfl, rfl, h⟩ := h
    rw [flat_inj h]
theorem gms_many (xs : List Int) (s : St) (j : Nat) : JM.many xs s (2 * j) = (flat (gms xs s j).1, (gms xs s j).2) := by
  induction j with
  | zero => rfl
  | succ j ih =>
    show JM.many xs s (2 * j + 1 + 1) = _
    simp only [JM.many, ih, gms]
    rw [flat_snoc]
    simp
theorem many_tri (xs : List Int) (s : St) : JM.many xs s 3 = ([(JM.step xs s).1, (JM.step xs (JM.step xs s).2).1, (JM.step xs (JM.step xs (JM.step xs s).2).2).1], (JM.step xs (JM.step xs (JM.step xs s).2).2).2) := by simp [JM.many]
/-- What the numbers of a genesis are read as. -/
theorem decG_many {xs : List Int} {n : Int} {q : St} {C : Nat} (hn : JM.step xs (0, 0) = (n, q)) (h12 : n ≤ 12) (hC : n = (C : Int)) {ms : List Mem} {a b c : Int} {u : Nat} {er : Int} (hm : JM.many xs q (2 * C + 3) = (flat ms ++ [a, b, c], (u, er))) :
    decG xs = gfin a b c u er ms := by
  rw [JM.many_add, gms_many, many_tri] at hm
  simp only [Prod.mk.injEq] at hm
  obtain ⟨h1, h2⟩ := hm
  have hl : (flat (gms xs q C).1).length = (flat ms).length := by
    have := congrArg List.length h1
    simpa using this
  have h3 := List.append_inj h1 hl
  obtain ⟨h4, h5⟩ := h3
  injection h5 with h5 h6
  injection h6 with h6 h7
  injection h7 with h7 _
  unfold decG
  simp only [hn]
  rw [if_neg (by omega), if_neg (by omega)]
  rw [hC, Int.toNat_natCast, h5, h6, h7, h2, flat_inj h4]
theorem decG_enc {ms : List Mem} {k c f : Int} (hv : MM.errG k c f ms = 0) (hs : ∀ x ∈ gnum ms k c f, JM.small x) (hl : ms.length ≤ 12) (tail : List Int) :
    decG (JM.encN (gnum ms k c f) ++ tail) = (0, (JM.encN (gnum ms k c f)).length, k, c, f, ms) := by
  have hg : gnum ms k c f = (ms.length : Int) :: (flat ms ++ [k, c, f]) := rfl
  rw [hg] at hs ⊢
  have hfl : (flat ms ++ [k, c, f]).length = 2 * ms.length + 3 := by rw [List.length_append]; show (ms.flatMap fun m => [m.1, m.2]).length + 3 = _; rw [flat_len]
  have e0 : JM.encN ((ms.length : Int) :: (flat ms ++ [k, c, f])) ++ tail = WM.enc ms.length ++ (JM.encN (flat ms ++ [k, c, f]) ++ tail) := by rw [JM.encN_cons, List.append_assoc, Int.toNat_natCast]
  have h1 := JM.step_enc [] (JM.encN (flat ms ++ [k, c, f]) ++ tail) (ms.length : Int) (hs _ (by simp))
  rw [List.nil_append, List.nil_append, Int.toNat_natCast] at h1
  have h2 := JM.many_enc (flat ms ++ [k, c, f]) (WM.enc ms.length) tail (fun x hx => hs x (List.mem_cons_of_mem _ hx))
  rw [hfl] at h2
  rw [e0, decG_many h1 (by omega) rfl h2]
  unfold gfin
  rw [if_neg (by rw [hv]; simp [MM.or2])]
  rw [JM.encN_cons, List.length_append, List.length_append, Int.toNat_natCast]
theorem gnum_small {ms : List Mem} {k c f : Int} (h : MM.errG k c f ms = 0) (hl : ms.length ≤ 1000) : ∀ x ∈ gnum ms k c f, JM.small x := by
  obtain ⟨h1, h2, _⟩ := MM.errG_zero h
  obtain ⟨s1, s2, s3⟩ := JM.errR_small h1
  have h3 := (MM.val_srt h2).2
  intro x hx
  have hg : gnum ms k c f = (ms.length : Int) :: (flat ms ++ [k, c, f]) := rfl
  rw [hg] at hx
  rcases List.mem_cons.1 hx with rfl | hx
  · unfold JM.small; omega
  · rcases List.mem_append.1 hx with hx | hx
    · obtain ⟨m, hm, hmx⟩ := List.mem_flatMap.1 hx
      have := h3 m hm
      simp only [List.mem_cons, List.mem_nil_iff, or_false] at hmx
      unfold JM.small
      rcases hmx with rfl | rfl <;> omega
    · simp only [List.mem_cons, List.mem_nil_iff, or_false] at hx
      rcases hx with rfl | rfl | rfl
      · exact s1
      · exact s2
      · exact s3
theorem val_len {p : Int} {ms : List Mem} (h : MM.Val p ms) (hp : p ≤ 12) : (ms.length : Int) ≤ 12 - p := by
  induction ms generalizing p with
  | nil => simpa using (by omega : (0 : Int) ≤ 12 - p)
  | cons m v ih =>
    obtain ⟨h1, h2, h3, h4, h5, h6⟩ := h
    have := ih h6 (by omega)
    rw [List.length_cons]
    omega
theorem gen_len {ms : List Mem} {k c f : Int} (h : MM.errG k c f ms = 0) : ms.length ≤ 12 := by
  have := val_len (MM.errG_zero h).2.1 (by decide)
  omega

end Go.Proofs.YthgnhaimdkcmeaaGreatDoor

namespace Go.Proofs.YthgnhaimdkcmeaaGreatDoor
open Go.RowKit Go.Joins
open JM (Chg St)
open MM (Mem Ent Sm Tri)

def Ga : List Mem := [(1, 1), (2, 3)]
def Ca : List Chg := [(1, 4, 2, 0, 0, 0, 0), (2, 1, 0, 0, 0, 0, 0), (4, 0, 0, 1, 2, 0, 0)]
def Pa : MM.Prp := (201, 1, Ca)
def Sa : Sm := ⟨[1, 2, 4], [1], [(1, 1, 0, 0, 0), (2, 3, 0, 0, 0), (4, 2, 0, 201, 1)], 2, 0, 0, 1, 201, 1⟩
theorem gen_a : MM.errG 1 0 0 Ga = 0 := by decide
theorem gen_n : MM.errG 1 0 0 [] = 2 := by decide
theorem prp_a : JM.errP 201 1 Ca = 0 := by decide
theorem prp_all : ∀ x ∈ [Pa], JM.errP x.1 x.2.1 x.2.2 = 0 := fun x hx => by
  obtain rfl : x = Pa := by simpa using hx
  exact prp_a
theorem of_a : MM.ofP 201 1 Ca = ⟨[4], [1], [(4, 2, 0, 201, 1)], 2, 0, 0, 1, 201, 1⟩ := by rfl
theorem summ_a : MM.summ Ga 1 0 0 [Pa] = Sa := by
  show MM.join (MM.ini Ga 1 0 0) (MM.ofP 201 1 Ca) = Sa
  rw [of_a]
  show (⟨MM.mg MM.kI MM.fstI [1, 2] [4], MM.mg MM.kI MM.fstI [] [1], MM.mg MM.kW MM.lat [(1, 1, 0, 0, 0), (2, 3, 0, 0, 0)] [(4, 2, 0, 201, 1)], 2, 0, 0, 1, 201, 1⟩ : Sm) = Sa
  rw [MM.mg_nil, MM.mg_lt (key := MM.kI) (x := 1) (y := 4) MM.fstI (by decide), MM.mg_lt (key := MM.kI) (x := 2) (y := 4) MM.fstI (by decide), MM.mg_nil,
    MM.mg_lt (key := MM.kW) (x := (1, 1, 0, 0, 0)) (y := (4, 2, 0, 201, 1)) MM.lat (by decide), MM.mg_lt (key := MM.kW) (x := (2, 3, 0, 0, 0)) (y := (4, 2, 0, 201, 1)) MM.lat (by decide), MM.mg_nil]
  rfl
theorem ok_sa : MM.OkS Sa := by
  obtain ⟨h1, h2, _⟩ := MM.errG_zero gen_a
  rw [← summ_a]
  exact (MM.sp_summ h1 h2 prp_all).ok
theorem mems_a : MM.mems Sa = [(2, 3), (4, 2)] := by rfl
theorem join_a : (MM.join Sa Sa).J.length = 3 := by
  show (MM.mg MM.kI MM.fstI [1, 2, 4] [1, 2, 4]).length = 3
  rw [MM.mg_eq (key := MM.kI) (x := 1) (y := 1) MM.fstI rfl, MM.mg_eq (key := MM.kI) (x := 2) (y := 2) MM.fstI rfl, MM.mg_eq (key := MM.kI) (x := 4) (y := 4) MM.fstI rfl, MM.mg_nil]
  rfl
theorem sa_shape {w : World} {v : Value} (h : RdS w v Sa) : ∃ (ax : Option Addr) (cx : Nat) (ay : Option Addr) (cy : Nat) (az : Option Addr) (cz : Nat), v = sv (.slice ax 3 cx) (.slice ay 1 cy) (.slice az 3 cz) 2 0 0 1 201 1 := by
  obtain ⟨x, y, z, rfl, h1, h2, h3⟩ := h
  obtain ⟨ax, cx, rfl, _⟩ := h1.shape
  obtain ⟨ay, cy, rfl, _⟩ := h2.shape
  obtain ⟨az, cz, rfl, _⟩ := h3.shape
  exact ⟨_, _, _, _, _, _, rfl⟩
/-- A summary's first list, by its length. -/
theorem j_shape {w : World} {v : Value} {s : Sm} {n : Nat} (h : RdS w v s) (hn : s.J.length = n) : ∃ (a : Option Addr) (c : Nat) (y z : Value), v = sv (.slice a n c) y z s.k s.c s.f s.v s.a s.n := by
  obtain ⟨x, y, z, rfl, h1, h2, h3⟩ := h
  obtain ⟨ax, cx, rfl, _⟩ := h1.shape
  rw [hn]
  exact ⟨_, _, _, _, rfl⟩
theorem run_fieldJ (x y z : Value) (k c f v a n : Int) (w : World) : (Instr.field 37 (sv x y z k c f v a n) 0).run Tryz.prog w = .ok x w := by
  have hu := Tryz.underlying37
  have ha := Tryz.isAgg22
  have hs := Tryz.sizeOf22
  simp [Instr.field, run_underlying hu, asAgg, part, ha, hs]
/-- The blocks that awake lays ahead of its calls. -/
theorem awake_blocks (w : World) :
    ∃ w4, (((w.alloc (.cells #[.int .i64 1, .int .i64 1, .int .i64 2, .int .i64 3] 57)).alloc (.cells #[.slice (some ⟨w.heap.size, 0, none⟩) 2 2, .int .i64 1, .int .i64 0, .int .i64 0] 30)).alloc
        (.cells #[.int .i64 1, .int .i64 4, .int .i64 2, .int .i64 0, .int .i64 0, .int .i64 0, .int .i64 0, .int .i64 2, .int .i64 1, .int .i64 0, .int .i64 0, .int .i64 0, .int .i64 0, .int .i64 0, .int .i64 4, .int .i64 0, .int .i64 0, .int .i64 1, .int .i64 2, .int .i64 0, .int .i64 0] 49)).alloc
        (.cells #[.int .i64 201, .int .i64 1, .slice (some ⟨w.heap.size + 1 + 1, 0, none⟩) 3 3] 44) = w4 ∧ Below w.heap.size w w4 ∧
      RdM w4 (.slice (some ⟨w.heap.size, 0, none⟩) 2 2) Ga ∧ RdF w4 (.slice (some ⟨w.heap.size + 1 + 1 + 1, 0, none⟩) 1 1) [Pa] ∧ w4.heap[w.heap.size + 1]? = some (gBox (.slice (some ⟨w.heap.size, 0, none⟩) 2 2) 1 0 0) := by
  have b1 := below_fresh w (.cells #[.int .i64 1, .int .i64 1, .int .i64 2, .int .i64 3] 57)
  have z1 := World.size_alloc w (.cells #[.int .i64 1, .int .i64 1, .int .i64 2, .int .i64 3] 57)
  have h1 : RdM (w.alloc (.cells #[.int .i64 1, .int .i64 1, .int .i64 2, .int .i64 3] 57)) (.slice (some ⟨w.heap.size, 0, none⟩) 2 2) Ga := (ownG_fresh hlM 57 w Ga (by unfold maxLen; simp [Ga])).rd
  generalize w.alloc (.cells #[.int .i64 1, .int .i64 1, .int .i64 2, .int .i64 3] 57) = w1 at *
  have b2 := below_fresh w1 (.cells #[.slice (some ⟨w.heap.size, 0, none⟩) 2 2, .int .i64 1, .int .i64 0, .int .i64 0] 30)
  have z2 := World.size_alloc w1 (.cells #[.slice (some ⟨w.heap.size, 0, none⟩) 2 2, .int .i64 1, .int .i64 0, .int .i64 0] 30)
  have h2 := heap_alloc_new w1 (.cells #[.slice (some ⟨w.heap.size, 0, none⟩) 2 2, .int .i64 1, .int .i64 0, .int .i64 0] 30)
  generalize w1.alloc (.cells #[.slice (some ⟨w.heap.size, 0, none⟩) 2 2, .int .i64 1, .int .i64 0, .int .i64 0] 30) = w2 at *
  have b3 := below_fresh w2 (.cells #[.int .i64 1, .int .i64 4, .int .i64 2, .int .i64 0, .int .i64 0, .int .i64 0, .int .i64 0, .int .i64 2, .int .i64 1, .int .i64 0, .int .i64 0, .int .i64 0, .int .i64 0, .int .i64 0, .int .i64 4, .int .i64 0, .int .i64 0, .int .i64 1, .int .i64 2, .int .i64 0, .int .i64 0] 49)
  have z3 := World.size_alloc w2 (.cells #[.int .i64 1, .int .i64 4, .int .i64 2, .int .i64 0, .int .i64 0, .int .i64 0, .int .i64 0, .int .i64 2, .int .i64 1, .int .i64 0, .int .i64 0, .int .i64 0, .int .i64 0, .int .i64 0, .int .i64 4, .int .i64 0, .int .i64 0, .int .i64 1, .int .i64 2, .int .i64 0, .int .i64 0] 49)
  have h3 : RdC (w2.alloc (.cells #[.int .i64 1, .int .i64 4, .int .i64 2, .int .i64 0, .int .i64 0, .int .i64 0, .int .i64 0, .int .i64 2, .int .i64 1, .int .i64 0, .int .i64 0, .int .i64 0, .int .i64 0, .int .i64 0, .int .i64 4, .int .i64 0, .int .i64 0, .int .i64 1, .int .i64 2, .int .i64 0, .int .i64 0] 49)) (.slice (some ⟨w2.heap.size, 0, none⟩) 3 3) Ca := (ownG_fresh hlC 49 w2 Ca (by unfold maxLen; simp [Ca])).rd
  generalize w2.alloc (.cells #[.int .i64 1, .int .i64 4, .int .i64 2, .int .i64 0, .int .i64 0, .int .i64 0, .int .i64 0, .int .i64 2, .int .i64 1, .int .i64 0, .int .i64 0, .int .i64 0, .int .i64 0, .int .i64 0, .int .i64 4, .int .i64 0, .int .i64 0, .int .i64 1, .int .i64 2, .int .i64 0, .int .i64 0] 49) = w3 at *
  have b4 := below_fresh w3 (.cells #[.int .i64 201, .int .i64 1, .slice (some ⟨w.heap.size + 1 + 1, 0, none⟩) 3 3] 44)
  have h4 : RdQ (w3.alloc (.cells #[.int .i64 201, .int .i64 1, .slice (some ⟨w.heap.size + 1 + 1, 0, none⟩) 3 3] 44)) (.slice (some ⟨w3.heap.size, 0, none⟩) 1 1) [(201, 1, some ⟨w.heap.size + 1 + 1, 0, none⟩, 3, 3)] := (ownG_fresh hlQ 44 w3 [(201, 1, some ⟨w.heap.size + 1 + 1, 0, none⟩, 3, 3)] (by unfold maxLen; simp)).rd
  refine ⟨_, rfl, bnext (bnext (bnext b1 b2) b3) b4, ((h1.below b2).below b3).below b4, ?_, ?_⟩
  · have hz3 : w3.heap.size = w.heap.size + 1 + 1 + 1 := by omega
    have hz2 : w2.heap.size = w.heap.size + 1 + 1 := by omega
    rw [← hz3]
    rw [hz2] at h3
    exact ⟨_, h4, Tel.one ⟨rfl, rfl, h3.below b4⟩⟩
  · rw [z1] at h2
    exact below_block (below_block h2 b3) b4

end Go.Proofs.YthgnhaimdkcmeaaGreatDoor
