/-
  A list of the call's own: 'make([]T, n)', a store of an element whole, 'copy' behind its first elements. No conditions beyond those that each lemma names.
-/
import Derived.Test.YtkaafbdhgekeeaaGreatMEv
import Derived.Laws.CopyOwn
import Derived.OwnWalk
namespace Go.Proofs.YtkaafbdhgekeeaaGreat
open Go.RowKit Go.Joins
open MM (Mem Ent Sm Tri)

theorem take_app {β : Type} {l m : List β} {k : Nat} (h : l.length ≤ k) : (l ++ m).take k = l ++ m.take (k - l.length) := by
  rw [List.take_append, List.take_of_length_le h]
section
variable {α : Type} {P : Program} {t e : TypeId} {size bytes : Nat} {enc : α → List Value}
theorem own_set {base : Nat} {w : World} {g N cap : Nat} {xs : List α} (h : OwnG enc e size base w (.slice (some ⟨g, 0, none⟩) N cap) xs) {k j : Nat} {x y : α} {u : Value} (hk : xs[k]? = some x) (hj : j < size) (hy : enc y = (enc x).set j u) :
    OwnG enc e size base (w.setCell ⟨g, k * size + j, none⟩ u) (.slice (some ⟨g, 0, none⟩) N cap) (xs.set k y) ∧ Below base w (w.setCell ⟨g, k * size + j, none⟩ u) ∧ KeepsX e w (w.setCell ⟨g, k * size + j, none⟩ u) := by
  have hlt : k < xs.length := (List.getElem?_eq_some_iff.1 hk).1
  obtain ⟨g', cap', cur, hv, hg, hh, hn, hm, hs, ht⟩ := h.form (by omega)
  cases hv
  have hl := h.2
  refine ⟨⟨⟨by rw [cellsOf_length hl.2, List.length_set], .inr ⟨g, cap, _, by rw [List.length_set], hg, block_setCell hh _, by rw [List.length_set]; exact hn, hm, by simpa using hs, ?_⟩⟩, hl⟩, (Below.refl _ w).setCell hg _, ?_⟩
  · rw [Array.toList_setIfInBounds, List.length_set, List.take_set, ht, cellsOf_set hl.2 hk hj hy]
  · intro i hi hne
    have : i ≠ g := by rintro rfl; exact hne _ _ hh
    exact heap_setCell_other w _ i u this
/-- Where an element of the call's own list lies, and that it may be stored to. -/
theorem own_at (E : IsElem P t e size bytes enc) {base : Nat} {w : World} {v : Value} {xs : List α} (h : OwnG enc e size base w v xs) {k : Nat} {x : α} (hk : xs[k]? = some x) :
    ∃ g cap, v = .slice (some ⟨g, 0, none⟩) xs.length cap ∧ (∀ w0, (Instr.indexAt t (.slice (some ⟨g, 0, none⟩) xs.length cap) (.int .i64 (k : Int))).run P w0 = .ok (.pointer (some ⟨g, k * size, none⟩)) w0) ∧ base ≤ g ∧ g < w.heap.size ∧
      ∀ j u, (enc x)[j]? = some u → w.cell? ⟨g, k * size + j, none⟩ = some u ∧ w.frozen? ⟨g, k * size + j, none⟩ = false := by
  have hlt : k < xs.length := (List.getElem?_eq_some_iff.1 hk).1
  obtain ⟨g, cap, cur, hv, hg, hh, hn, hm, hs, ht⟩ := h.form (by omega)
  subst hv
  have hl := h.2
  have hrd := h.rd
  have hgs : g < w.heap.size := (Array.getElem?_eq_some_iff.1 hh).1
  refine ⟨g, cap, rfl, fun w0 => ?_, hg, hgs, fun j u hu => ⟨?_, unfrozen_of_block hh _⟩⟩
  · have h1 : (0 : Int) ≤ (k : Int) := by omega
    have h3 : ¬ xs.length ≤ k := by omega
    have hs := E.run_size
    simp [Instr.indexAt, asIntOf, run_underlying E.ht, h1, Result.andThen, addr_plain, hs]
    intro h4
    exact absurd h4 h3
  · obtain ⟨a', c', hv', _, _, _, _, h4⟩ := hrd
    cases hv'
    have := h4 _ rfl _ _ (cellsOf_get hl.2 xs k j x u hk hu)
    rw [addr_plain, Nat.zero_add] at this
    exact this

/-- 'copy' of elements of whatever size. -/
theorem run_copyK (w : World) (dT sT ty elem : TypeId) (k g o dLen dCap : Nat) (a : Addr) (sLen sCap : Nat) (cur : Array Value) (t : TypeId) (n : Nat) (cs : List Value)
    (hu : P.underlying dT = some (.slice elem)) (hs : (P.info? elem).map (·.size) = some k)
    (hg : w.heap[g]? = some (.cells cur t (0, 0))) (hn : n = Nat.min sLen dLen) (hcs : cs.length = n * k)
    (hsrc : ∀ j v, cs[j]? = some v → w.cell? (a.add j) = some v) (hfit : o + cs.length ≤ cur.size) (h1 : ∀ v ∈ cs, v.oneCell' = true) :
    (Builtin.copy_ #[dT, sT] ty #[.slice (some ⟨g, o, none⟩) dLen dCap, .slice (some a) sLen sCap]).run P w =
      .ok (goInt n) (w.setRow g (cur.toList.take o ++ cs ++ cur.toList.drop (o + cs.length)).toArray) := by
  have hl := run_loadCells_list (P := P) w a cs hsrc
  have hst := run_storeCells_at P g o t cs 0 cur w hg (by simpa using hfit) h1
  cases hq : P.info? elem with
  | none => simp [hq] at hs
  | some i =>
    have hi : i.size = k := by simpa [hq] using hs
    rw [hcs] at hl
    simp [Builtin.copy_, run_underlying hu, Builtin.lenOf, Builtin.firstCells, sizeOf, typeInfo, hq, hi, ← hn, hl, hst]
theorem run_copyK0 (w : World) (dT sT ty elem : TypeId) (k : Nat) (d a : Option Addr) (dLen dCap sLen sCap : Nat) (hu : P.underlying dT = some (.slice elem)) (hs : (P.info? elem).map (·.size) = some k) (hn : Nat.min sLen dLen = 0) :
    (Builtin.copy_ #[dT, sT] ty #[.slice d dLen dCap, .slice a sLen sCap]).run P w = .ok (goInt 0) w := by
  cases hq : P.info? elem with
  | none => simp [hq] at hs
  | some i =>
    have hl : ∀ (x : Addr), (loadCells x 0).run P w = .ok #[] w := fun x => by simpa using run_loadCells_list (P := P) w x [] (by simp)
    cases d <;> cases a <;> simp [Builtin.copy_, run_underlying hu, Builtin.lenOf, Builtin.firstCells, sizeOf, typeInfo, hq, hn, storeCells, hl]

/-- 'copy(out[n:], z)', out the call's own. -/
theorem wp_copyG (E : IsElem P t e size bytes enc) {w : World} {ops : Array Oper} {rest : List Oper} {o : Oper} {a : Act} {Q : Exit → Act → World → Prop} {base : Nat} {g N cap n : Nat} {us zs : List α} {z : Value} (hgd : o.guard = none) (d s : Operand)
    (ho : o.op = .call { callee := .builtin .copy, args := #[d, s], argTypes := #[t, t] }) (hown : OwnG enc e size base w (.slice (some ⟨g, 0, none⟩) N cap) us) (hN : N = us.length) (hn : n + zs.length ≤ us.length) (hz : RdG enc size w z zs)
    (hd : a.eval d = .slice (if cap = n then some ⟨g, 0, none⟩ else some ⟨g, n * size, none⟩) (N - n) (cap - n)) (hs : a.eval s = z)
    (h : ∀ w', OwnG enc e size base w' (.slice (some ⟨g, 0, none⟩) N cap) (us.take n ++ (zs ++ us.drop (n + zs.length))) → Below base w w' → KeepsX e w w' → wpList P ops Q rest (a.put o.dst (.int .i64 zs.length)) w') :
    wpList P ops Q (o :: rest) a w := by
  refine wpList_plain hgd fun K hK => ?_
  obtain ⟨i0, zv, hi, _, hsz, _⟩ := E.info
  have hsz' : (P.info? e).map (·.size) = some size := by simp [hi, hsz]
  obtain ⟨az, cz, rfl, h1, h2, h3, hl, h4⟩ := hz
  by_cases h0 : zs.length = 0
  · obtain rfl : zs = [] := List.eq_nil_of_length_eq_zero h0
    have hrun := run_copyK0 (P := P) w t t o.type e size (if cap = n then some ⟨g, 0, none⟩ else some ⟨g, n * size, none⟩) az (N - n) (cap - n) 0 cz E.ht hsz' (by simp)
    unfold Oper.wp
    simp only [List.length_nil] at hs
    simp [execOp, ho, resolve, invoke, builtin, hd, hs, hrun, Result.andThen]
    refine hK _ _ ?_
    exact h w (by simpa using hown) (Below.refl _ _) (Below.keepsX (Below.refl _ _) e)
  · obtain ⟨g', cap', cur, hv, hg, hh, hcn, hm, hcs, ht⟩ := hown.form (by omega)
    cases hv
    cases az with
    | none => exact absurd (by have := (h3 rfl).1; rw [this]; rfl) h0
    | some ad =>
      have hcap : ¬ cap = n := by omega
      rw [if_neg hcap] at hd
      have hcl : (cellsOf enc zs).length = zs.length * size := cellsOf_length E.len zs
      have hfit : n * size + (cellsOf enc zs).length ≤ cur.size := by
        rw [hcl, hcs, ← Nat.add_mul]
        exact Nat.mul_le_mul_right _ (by omega)
      have hrun := run_copyK (P := P) w t t o.type e size g (n * size) (us.length - n) (cap - n) ad zs.length cz cur e zs.length (cellsOf enc zs) E.ht hsz' hh (by have : Nat.min zs.length (us.length - n) = zs.length := Nat.min_eq_left (by omega); exact this.symm) hcl (h4 ad rfl) hfit (cellsOf_one E.one zs)
      unfold Oper.wp
      simp [execOp, ho, resolve, invoke, builtin, hd, hs, hrun, Result.andThen]
      refine hK _ _ ?_
      refine h _ ⟨⟨?_, .inr ⟨g, cap, _, ?_, hg, setRow_heap _ _ _ _ _ _ hh, ?_, hm, ?_, ?_⟩⟩, hown.2⟩ (below_setRow (Below.refl _ _) hg _) ?_
      · rw [cellsOf_length E.len]
      · congr 1; simp; omega
      · simp; omega
      · simp [hcl]
        have : n * size + zs.length * size ≤ cap * size := by rw [← Nat.add_mul]; exact Nat.mul_le_mul_right _ (by omega)
        omega
      · have hcur : cur.toList.length = cap * size := by simpa using hcs
        have e1 : cur.toList.take (n * size) = cellsOf enc (us.take n) := by
          rw [cellsOf_take E.len us n (by omega), ← ht, List.take_take, Nat.min_eq_left (Nat.mul_le_mul_right _ (by omega))]
        have hlen2 : (us.take n ++ (zs ++ us.drop (n + zs.length))).length = us.length := by simp; omega
        rw [hlen2, cellsOf_append, cellsOf_append, ← e1]
        have e2 : (cur.toList.drop (n * size + zs.length * size)).take (us.length * size - (n * size + zs.length * size)) = cellsOf enc (us.drop (n + zs.length)) := by
          rw [cellsOf_drop E.len us _ hn, ← ht, Nat.add_mul, List.drop_take]
        rw [← e2, hcl]
        have a1 : (cur.toList.take (n * size)).length = n * size := by
          rw [List.length_take, hcur]; exact Nat.min_eq_left (Nat.mul_le_mul_right _ (by omega))
        have b1 : n * size + zs.length * size ≤ us.length * size := by rw [← Nat.add_mul]; exact Nat.mul_le_mul_right _ hn
        dsimp only
        rw [take_app (by rw [a1]; omega), take_app (by rw [hcl, a1]; omega), a1, hcl, Nat.sub_sub]
      · intro i hi' hne
        have : i ≠ g := by rintro rfl; exact hne _ _ hh
        exact setRow_other _ _ _ _ this
theorem made_rep (v0 : Value) (size n : Nat) (h0 : 0 < size) : (madeCells (Array.replicate size v0) (n * size)).toList = List.replicate (n * size) v0 := by
  refine List.eq_replicate_iff.2 ⟨by simp [madeCells], fun b hb => ?_⟩
  simp [madeCells] at hb
  obtain ⟨i, hi, rfl⟩ := hb
  have hlt : i % size < size := Nat.mod_lt _ h0
  simp [hlt]
theorem cells_rep (hl : ∀ x, (enc x).length = size) (z0 : α) (v0 : Value) (hz : enc z0 = List.replicate size v0) (n : Nat) : cellsOf enc (List.replicate n z0) = List.replicate (n * size) v0 := by
  refine List.eq_replicate_iff.2 ⟨by rw [cellsOf_length hl, List.length_replicate], fun b hb => ?_⟩
  obtain ⟨x, hx, hbx⟩ := List.mem_flatMap.1 hb
  obtain rfl := (List.mem_replicate.1 hx).2
  rw [hz] at hbx
  exact (List.mem_replicate.1 hbx).2
/-- 'make([]T, n)'. -/
theorem wp_makeG (E : IsElem P t e size bytes enc) (z0 : α) {zv : Value} (hzv : (P.info? e).map (fun i => (i.zero, i.size, i.bytes)) = some (some zv, size, bytes)) (v0 : Value) (hzc : zv.cells = Array.replicate size v0) (hze : enc z0 = List.replicate size v0) {w : World} {ops : Array Oper} {rest : List Oper} {o : Oper} {a : Act} {Q : Exit → Act → World → Prop} {base n : Nat} (hgd : o.guard = none) (l c : Operand) (ho : o.op = Op.makeSlice t l c)
    (hl : a.eval l = .int .i64 (n : Int)) (hc : a.eval c = .int .i64 (n : Int)) (hn : n ≤ 1073741824) (hb : base ≤ w.heap.size)
    (h : ∀ w', OwnG enc e size base w' (.slice (some ⟨w.heap.size, 0, none⟩) n n) (List.replicate n z0) → Below w.heap.size w w' → wpList P ops Q rest (a.put o.dst (.slice (some ⟨w.heap.size, 0, none⟩) n n)) w') :
    wpList P ops Q (o :: rest) a w := by
  obtain ⟨i0, hi, hz0, hz1, hz2⟩ := info_parts hzv
  refine wpList_make_full w hgd l c t ho base e i0 zv size E.ht hi hz0 hz1 .i64 .i64 n n n hl hc rfl rfl ?_ (by unfold maxLen; omega) hb (fun w' h1 h2 => ?_)
  · rw [hz2]
    have := E.fits
    calc bytes * n ≤ 4096 * 1073741824 := Nat.mul_le_mul this hn
      _ ≤ 281474976710656 := by decide
  · refine h w' ⟨?_, E.hl⟩ ⟨h2.os, h2.tape, h2.output, h2.size, fun k hk => h2.block k hk (by simp)⟩
    have hr : (madeCells zv.cells (n * size)).toList = cellsOf enc (List.replicate n z0) := by rw [hzc, made_rep v0 size n E.pos, cells_rep E.len z0 v0 hze]
    rw [List.length_replicate, ← hr]
    exact h1
end

/-- An entry stored whole. -/
theorem own_put5 {base : Nat} {w : World} {g N cap k : Nat} {xs : List Ent} {s t v a n : Int} (h : OwnW base w (.slice (some ⟨g, 0, none⟩) N cap) xs) (hk : xs[k]? = some (s, t, v, a, n)) (s' t' v' a' n' : Int) (o : Nat) (ho : o = k * 5) :
    OwnW base (((((w.setCell ⟨g, o, none⟩ (.int .i64 s')).setCell ⟨g, o + 1, none⟩ (.int .i64 t')).setCell ⟨g, o + 2, none⟩ (.int .i64 v')).setCell ⟨g, o + 3, none⟩ (.int .i64 a')).setCell ⟨g, o + 4, none⟩ (.int .i64 n')) (.slice (some ⟨g, 0, none⟩) N cap) (xs.set k (s', t', v', a', n')) ∧
    Below base w (((((w.setCell ⟨g, o, none⟩ (.int .i64 s')).setCell ⟨g, o + 1, none⟩ (.int .i64 t')).setCell ⟨g, o + 2, none⟩ (.int .i64 v')).setCell ⟨g, o + 3, none⟩ (.int .i64 a')).setCell ⟨g, o + 4, none⟩ (.int .i64 n')) ∧
    KeepsX 62 w (((((w.setCell ⟨g, o, none⟩ (.int .i64 s')).setCell ⟨g, o + 1, none⟩ (.int .i64 t')).setCell ⟨g, o + 2, none⟩ (.int .i64 v')).setCell ⟨g, o + 3, none⟩ (.int .i64 a')).setCell ⟨g, o + 4, none⟩ (.int .i64 n')) := by
  subst ho
  have hlt := (List.getElem?_eq_some_iff.1 hk).1
  obtain ⟨h1, b1, k1⟩ := own_set h hk (j := 0) (y := (s', t, v, a, n)) (u := .int .i64 s') (by decide) rfl
  rw [Nat.add_zero] at h1 b1 k1
  have z1 : (w.setCell ⟨g, k * 5, none⟩ (.int .i64 s')).heap.size = w.heap.size := World.size_setCell ..
  generalize w.setCell ⟨g, k * 5, none⟩ (.int .i64 s') = w1 at *
  obtain ⟨h2, b2, k2⟩ := own_set h1 (k := k) (x := (s', t, v, a, n)) (by rw [List.getElem?_set_self hlt]) (j := 1) (y := (s', t', v, a, n)) (u := .int .i64 t') (by decide) rfl
  rw [List.set_set] at h2
  have z2 : (w1.setCell ⟨g, k * 5 + 1, none⟩ (.int .i64 t')).heap.size = w1.heap.size := World.size_setCell ..
  generalize w1.setCell ⟨g, k * 5 + 1, none⟩ (.int .i64 t') = w2 at *
  obtain ⟨h3, b3, k3⟩ := own_set h2 (k := k) (x := (s', t', v, a, n)) (by rw [List.getElem?_set_self hlt]) (j := 2) (y := (s', t', v', a, n)) (u := .int .i64 v') (by decide) rfl
  rw [List.set_set] at h3
  have z3 : (w2.setCell ⟨g, k * 5 + 2, none⟩ (.int .i64 v')).heap.size = w2.heap.size := World.size_setCell ..
  generalize w2.setCell ⟨g, k * 5 + 2, none⟩ (.int .i64 v') = w3 at *
  obtain ⟨h4, b4, k4⟩ := own_set h3 (k := k) (x := (s', t', v', a, n)) (by rw [List.getElem?_set_self hlt]) (j := 3) (y := (s', t', v', a', n)) (u := .int .i64 a') (by decide) rfl
  rw [List.set_set] at h4
  have z4 : (w3.setCell ⟨g, k * 5 + 3, none⟩ (.int .i64 a')).heap.size = w3.heap.size := World.size_setCell ..
  generalize w3.setCell ⟨g, k * 5 + 3, none⟩ (.int .i64 a') = w4 at *
  obtain ⟨h5, b5, k5⟩ := own_set h4 (k := k) (x := (s', t', v', a', n)) (by rw [List.getElem?_set_self hlt]) (j := 4) (y := (s', t', v', a', n')) (u := .int .i64 n') (by decide) rfl
  rw [List.set_set] at h5
  exact ⟨h5, b1.trans (b2.trans (b3.trans (b4.trans b5))), k1.trans (by omega) (k2.trans (by omega) (k3.trans (by omega) (k4.trans (by omega) k5)))⟩

end Go.Proofs.YtkaafbdhgekeeaaGreat
