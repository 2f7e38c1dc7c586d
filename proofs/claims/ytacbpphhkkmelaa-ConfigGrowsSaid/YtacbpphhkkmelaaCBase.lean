/-
  Configurations in memory: when a slice value reads as a list of proposals, whole with their changes; what the call's own list is; a store into it; vectors as lists of entries. No conditions beyond those that each lemma names.
-/
import Derived.Test.YtacbpphhkkmelaaCMath
import Derived.Test.YtacbpphhkkmelaaJRDec
import Derived.Test.YtacbpphhkkmelaaJEq
import Derived.Test.YtacbpphhkkmelaaVxRead
import Derived.Lib.SmallJoins
import Derived.Laws.Rows
namespace Go.Proofs.Ytacbpphhkkmelaa
open Go.RowKit Go.Joins
open JM (Chg)
open CM (Fp)
open VM (Ent)

theorem proE : IsElem Try.prog 23 45 3 40 encQ where
  ht := Try.underlying23
  info := by
    obtain ⟨i0, hi, hz0, hz1, hz2⟩ := info_parts (show (Try.prog.info? 45).map (fun i => (i.zero, i.size, i.bytes)) = some (some (.agg #[.int .i64 0, .int .i64 0, .slice none 0 0]), 3, 40) by kernel_rfl)
    exact ⟨i0, _, hi, hz0, hz1, hz2, rfl⟩
  len := fun _ => rfl
  one := by
    rintro ⟨a, n, ad, l, c⟩ u hu
    simp only [encQ, List.mem_cons, List.mem_nil_iff, or_false] at hu
    rcases hu with rfl | rfl | rfl <;> rfl
  pos := by decide
  fits := by decide
theorem hlQ : 0 < 3 ∧ ∀ x, (encQ x).length = 3 := ⟨by decide, fun _ => rfl⟩
abbrev OwnQ := OwnG encQ 45 3
abbrev RdQ := RdG encQ 3
/-- 'out = append(out, x)' where the new block's number is given in another form. -/
theorem wp_appG1' {α : Type} {P : Program} {t e : TypeId} {size bytes : Nat} {enc : α → List Value} {w : World} {ops : Array Oper} {rest : List Oper} {o : Oper} {a : Act} {Q : Exit → Act → World → Prop} {base : Nat} {v : Value} {ys : List α}
    (E : IsElem P t e size bytes enc) (x : α) (B0 : Nat) (hB0 : w.heap.size = B0) (hgd : o.guard = none) (s r : Operand) (ho : o.op = .call { callee := .builtin .append, args := #[s, r], argTypes := #[t, t] })
    (hs : a.eval s = v) (hown : OwnG enc e size base w v ys) (hx : a.eval r = .slice (some ⟨B0, 0, none⟩) 1 1) (hlen : ys.length ≤ 1073741824) (hb : base ≤ w.heap.size)
    (h : ∀ v' w', OwnG enc e size base w' v' (ys ++ [x]) → Below base w w' → KeepsX e w w' → wpList P ops Q rest (a.put o.dst v') w') :
    wpList P ops Q (o :: rest) a (w.alloc (.cells (enc x).toArray e)) :=
  wp_appG1 E x hgd s r ho hs hown (by rw [hx, hB0]) hlen hb (fun v' w' h1 h2 h3 _ => h v' w' h1 h2 h3)
theorem atQ {w : World} {a : Option Addr} {n c : Nat} {xs : List Pro} (h : RdQ w (.slice a n c) xs) (i : Nat) (x n' : Int) (ad : Option Addr) (l cp : Nat) (hk : xs[i]? = some (x, n', ad, l, cp)) :
    ∃ b o, (∀ w0, (Instr.indexAt 23 (.slice a n c) (.int .i64 (i : Int))).run Try.prog w0 = .ok (.pointer (some ⟨b, o, none⟩)) w0) ∧ b < w.heap.size ∧
      w.cell? ⟨b, o, none⟩ = some (.int .i64 x) ∧ w.cell? ⟨b, o + 1, none⟩ = some (.int .i64 n') ∧ w.cell? ⟨b, o + 2, none⟩ = some (.slice ad l cp) := by
  obtain ⟨b, o, h1, h2, h3⟩ := h.at_ proE i _ hk
  exact ⟨b, o, h1, h2, h3 0 _ rfl, h3 1 _ rfl, h3 2 _ rfl⟩

/-! A list of proposals, with their changes. -/
def sl (q : Pro) : Value := .slice q.2.2.1 q.2.2.2.1 q.2.2.2.2
def Tell1 (w : World) (q : Pro) (f : Fp) : Prop := q.1 = f.1 ∧ q.2.1 = f.2.1 ∧ RdC w (sl q) f.2.2
theorem Tell1.below {w w' : World} {q : Pro} {f : Fp} (h : Tell1 w q f) (hb : Below w.heap.size w w') : Tell1 w' q f := ⟨h.1, h.2.1, h.2.2.below hb⟩
def Tel (w : World) : List Pro → List Fp → Prop
  | [], [] => True
  | q :: qs, f :: fs => Tell1 w q f ∧ Tel w qs fs
  | _, _ => False
theorem Tel.below {w w' : World} (hb : Below w.heap.size w w') : ∀ {qs : List Pro} {fs : List Fp}, Tel w qs fs → Tel w' qs fs
  | [], [], _ => trivial
  | _ :: _, _ :: _, h => ⟨h.1.below hb, Tel.below hb h.2⟩
  | [], _ :: _, h => h.elim
  | _ :: _, [], h => h.elim
theorem Tel.len {w : World} : ∀ {qs : List Pro} {fs : List Fp}, Tel w qs fs → qs.length = fs.length
  | [], [], _ => rfl
  | _ :: _, _ :: _, h => by rw [List.length_cons, List.length_cons, Tel.len h.2]
  | [], _ :: _, h => h.elim
  | _ :: _, [], h => h.elim
theorem Tel.get {w : World} : ∀ {qs : List Pro} {fs : List Fp} {k : Nat} {f : Fp}, Tel w qs fs → fs[k]? = some f → ∃ q, qs[k]? = some q ∧ Tell1 w q f
  | [], [], _, _, _, hk => by simp at hk
  | q :: _, g :: _, 0, _, h, hk => ⟨q, rfl, by simp at hk; subst hk; exact h.1⟩
  | _ :: qs, _ :: fs, k + 1, f, h, hk => by
    obtain ⟨q, h1, h2⟩ := Tel.get (k := k) h.2 (by simpa using hk)
    exact ⟨q, by simpa using h1, h2⟩
  | [], _ :: _, _, _, h, _ => h.elim
  | _ :: _, [], _, _, h, _ => h.elim
theorem Tel.app {w : World} : ∀ {qs qs2 : List Pro} {fs fs2 : List Fp}, Tel w qs fs → Tel w qs2 fs2 → Tel w (qs ++ qs2) (fs ++ fs2)
  | [], _, [], _, _, k => k
  | _ :: _, _, _ :: _, _, h, k => ⟨h.1, Tel.app h.2 k⟩
  | [], _, _ :: _, _, h, _ => h.elim
  | _ :: _, _, [], _, h, _ => h.elim
theorem Tel.drop {w : World} : ∀ {qs : List Pro} {fs : List Fp} (n : Nat), Tel w qs fs → Tel w (qs.drop n) (fs.drop n)
  | _, _, 0, h => h
  | [], [], _ + 1, _ => trivial
  | _ :: _, _ :: _, n + 1, h => Tel.drop n h.2
  | [], _ :: _, _, h => h.elim
  | _ :: _, [], _, h => h.elim
theorem Tel.take {w : World} : ∀ {qs : List Pro} {fs : List Fp} (n : Nat), Tel w qs fs → Tel w (qs.take n) (fs.take n)
  | _, _, 0, _ => trivial
  | [], [], _ + 1, _ => trivial
  | _ :: _, _ :: _, n + 1, h => ⟨h.1, Tel.take n h.2⟩
  | [], _ :: _, _, h => h.elim
  | _ :: _, [], _, h => h.elim
theorem Tel.one {w : World} {q : Pro} {f : Fp} (h : Tell1 w q f) : Tel w [q] [f] := ⟨h, trivial⟩

/-- The slice value v reads in w as the configuration fs. -/
def RdF (w : World) (v : Value) (fs : List Fp) : Prop := ∃ qs, RdQ w v qs ∧ Tel w qs fs
theorem RdF.below {w w' : World} {v : Value} {fs : List Fp} (h : RdF w v fs) (hb : Below w.heap.size w w') : RdF w' v fs := by
  obtain ⟨qs, h1, h2⟩ := h; exact ⟨qs, h1.below hb, h2.below hb⟩
theorem RdF.nil (w : World) : RdF w (.slice none 0 0) [] := ⟨[], RdG.nil hlQ w, trivial⟩
theorem RdF.shape {w : World} {v : Value} {fs : List Fp} (h : RdF w v fs) : ∃ a c, v = .slice a fs.length c ∧ c ≤ 9223372036854775807 ∧ fs.length ≤ c := by
  obtain ⟨qs, h1, h2⟩ := h
  have := h1.shape
  rw [h2.len] at this
  exact this
/-- 'c[k]': where it lies and what is there. -/
theorem RdF.at_ {w : World} {a : Option Addr} {n c : Nat} {fs : List Fp} (h : RdF w (.slice a n c) fs) (k : Nat) (x m : Int) (cs : List Chg) (hk : fs[k]? = some (x, m, cs)) :
    ∃ b o ad l cp, (∀ w0, (Instr.indexAt 23 (.slice a n c) (.int .i64 (k : Int))).run Try.prog w0 = .ok (.pointer (some ⟨b, o, none⟩)) w0) ∧ b < w.heap.size ∧
      w.cell? ⟨b, o, none⟩ = some (.int .i64 x) ∧ w.cell? ⟨b, o + 1, none⟩ = some (.int .i64 m) ∧ w.cell? ⟨b, o + 2, none⟩ = some (.slice ad l cp) ∧ RdC w (.slice ad l cp) cs := by
  obtain ⟨qs, h1, h2⟩ := h
  obtain ⟨⟨x', m', ad, l, cp⟩, h3, h4, h5, h6⟩ := h2.get hk
  simp only at h4 h5
  subst h4 h5
  obtain ⟨b, o, hi, hb, c0, c1, c2⟩ := atQ h1 k _ _ _ _ _ h3
  exact ⟨b, o, ad, l, cp, hi, hb, c0, c1, c2, h6⟩
theorem RdF.cutL {w : World} {a : Option Addr} {n c : Nat} {fs : List Fp} (h : RdF w (.slice a n c) fs) (lo : Nat) (h2 : lo ≤ fs.length) :
    ∃ v', (∀ w0 : World, (Instr.slice 23 (.slice a n c) (some (.int .i64 (lo : Int))) none none).run Try.prog w0 = .ok v' w0) ∧ RdF w v' (fs.drop lo) := by
  obtain ⟨qs, h3, h4⟩ := h
  obtain ⟨v', h5, h6⟩ := h3.cutL proE lo (by rw [h4.len]; exact h2)
  exact ⟨v', h5, _, h6, h4.drop lo⟩
theorem RdF.cut0 {w : World} {a : Option Addr} {n c : Nat} {fs : List Fp} (h : RdF w (.slice a n c) fs) (hi : Nat) (h2 : hi ≤ fs.length) :
    ∃ v', (∀ w0 : World, (Instr.slice 23 (.slice a n c) none (some (.int .i64 (hi : Int))) none).run Try.prog w0 = .ok v' w0) ∧ RdF w v' (fs.take hi) := by
  obtain ⟨qs, h3, h4⟩ := h
  obtain ⟨v', h5, h6⟩ := h3.cut0 proE hi (by rw [h4.len]; exact h2)
  exact ⟨v', h5, _, h6, h4.take hi⟩
/-- A list of the call's own whose proposals' changes lie as they did in w0. -/
def OwnF (w0 : World) (base : Nat) (w : World) (v : Value) (fs : List Fp) : Prop := ∃ qs, OwnQ base w v qs ∧ Tel w0 qs fs
theorem OwnF.nil (w0 : World) (base : Nat) (w : World) : OwnF w0 base w (.slice none 0 0) [] := ⟨[], OwnG.nil hlQ _ _ _, trivial⟩
theorem OwnF.rd {w0 w : World} {base : Nat} {v : Value} {fs : List Fp} (h : OwnF w0 base w v fs) (hb : Below w0.heap.size w0 w) : RdF w v fs := by
  obtain ⟨qs, h1, h2⟩ := h; exact ⟨qs, h1.rd, h2.below hb⟩
theorem OwnF.below {w0 w w' : World} {base : Nat} {v : Value} {fs : List Fp} (h : OwnF w0 base w v fs) (hb : Below w.heap.size w w') : OwnF w0 base w' v fs := by
  obtain ⟨qs, h1, h2⟩ := h; exact ⟨qs, h1.below hb, h2⟩
theorem OwnF.shape {w0 w : World} {base : Nat} {v : Value} {fs : List Fp} (h : OwnF w0 base w v fs) : ∃ a c, v = .slice a fs.length c ∧ c ≤ 9223372036854775807 ∧ fs.length ≤ c := by
  obtain ⟨qs, h1, h2⟩ := h
  have := h1.rd.shape
  rw [h2.len] at this
  exact this

section
variable {α : Type} {P : Program} {t e : TypeId} {size bytes : Nat} {enc : α → List Value}
theorem cellsOf_set (hl : ∀ x, (enc x).length = size) {xs : List α} {k j : Nat} {x y : α} {u : Value} (hk : xs[k]? = some x) (hj : j < size) (hy : enc y = (enc x).set j u) :
    cellsOf enc (xs.set k y) = (cellsOf enc xs).set (k * size + j) u := by
  obtain ⟨hlt, rfl⟩ := List.getElem?_eq_some_iff.1 hk
  have hd : xs = xs.take k ++ ([xs[k]] ++ xs.drop (k + 1)) := by
    show xs = xs.take k ++ (xs[k] :: xs.drop (k + 1))
    rw [← List.drop_eq_getElem_cons hlt, List.take_append_drop]
  have e1 : xs.set k y = xs.take k ++ ([y] ++ xs.drop (k + 1)) := by rw [List.set_eq_take_append_cons_drop, if_pos hlt]; rfl
  have hlen : (cellsOf enc (xs.take k)).length = k * size := by rw [cellsOf_length hl, List.length_take, Nat.min_eq_left (Nat.le_of_lt hlt)]
  have hone : ∀ z : α, cellsOf enc [z] = enc z := fun z => by simp [cellsOf]
  have e2 := congrArg (fun l => (cellsOf enc l).set (k * size + j) u) hd
  rw [e1]
  refine Eq.trans ?_ e2.symm
  simp only [cellsOf_append, hone]
  rw [List.set_append_right _ _ (by omega), hlen, Nat.add_sub_cancel_left, List.set_append_left _ _ (by rw [hl]; exact hj), hy]
/-- 'v[k].F = u' in the call's own list. -/
theorem OwnG.at_put (E : IsElem P t e size bytes enc) {base : Nat} {w : World} {v : Value} {xs : List α} (h : OwnG enc e size base w v xs) {k : Nat} {x : α} (hk : xs[k]? = some x) :
    ∃ g o a c, v = .slice a xs.length c ∧ (∀ w0, (Instr.indexAt t (.slice a xs.length c) (.int .i64 (k : Int))).run P w0 = .ok (.pointer (some ⟨g, o, none⟩)) w0) ∧ base ≤ g ∧ g < w.heap.size ∧
      (∀ j u, (enc x)[j]? = some u → w.cell? ⟨g, o + j, none⟩ = some u ∧ w.frozen? ⟨g, o + j, none⟩ = false) ∧
      ∀ j y u, j < size → enc y = (enc x).set j u → OwnG enc e size base (w.setCell ⟨g, o + j, none⟩ u) (.slice a xs.length c) (xs.set k y) ∧ Below base w (w.setCell ⟨g, o + j, none⟩ u) ∧ KeepsX e w (w.setCell ⟨g, o + j, none⟩ u) := by
  have hlt : k < xs.length := (List.getElem?_eq_some_iff.1 hk).1
  obtain ⟨g, cap, cur, hv, hg, hh, hn, hm, hs, ht⟩ := h.form (by omega)
  subst hv
  have hl := h.2
  have hrd := h.rd
  have hgs : g < w.heap.size := (Array.getElem?_eq_some_iff.1 hh).1
  refine ⟨g, k * size, some ⟨g, 0, none⟩, cap, rfl, fun w0 => ?_, hg, hgs, fun j u hu => ?_, fun j y u hj hy => ?_⟩
  · have h1 : (0 : Int) ≤ (k : Int) := by omega
    have h3 : ¬ xs.length ≤ k := by omega
    have hs := E.run_size
    simp [Instr.indexAt, asIntOf, run_underlying E.ht, h1, Result.andThen, addr_plain, hs]
    intro h4
    exact absurd h4 h3
  · refine ⟨?_, unfrozen_of_block hh _⟩
    obtain ⟨a', c', hv', _, _, _, _, h4⟩ := hrd
    cases hv'
    have := h4 _ rfl _ _ (cellsOf_get hl.2 xs k j x u hk hu)
    rw [addr_plain, Nat.zero_add] at this
    exact this
  · refine ⟨⟨⟨by rw [cellsOf_length hl.2, List.length_set], .inr ⟨g, cap, _, by rw [List.length_set], hg, block_setCell hh _, by rw [List.length_set]; exact hn, hm, by simpa using hs, ?_⟩⟩, hl⟩, (Below.refl _ w).setCell hg _, ?_⟩
    · rw [Array.toList_setIfInBounds, List.length_set, List.take_set, ht, cellsOf_set hl.2 hk hj hy]
    · intro i hi hne
      have : i ≠ g := by rintro rfl; exact hne _ _ hh
      exact heap_setCell_other w _ i u this
end

/-! Vectors, as lists of entries. -/
def encE : Ent → List Value
  | (a, n) => [.int .i64 a, .int .i64 n]
theorem entE : IsElem Try.prog 32 68 2 16 encE where
  ht := Try.underlying32
  info := by
    obtain ⟨i0, hi, hz0, hz1, hz2⟩ := info_parts (show (Try.prog.info? 68).map (fun i => (i.zero, i.size, i.bytes)) = some (some (.agg #[.int .i64 0, .int .i64 0]), 2, 16) by kernel_rfl)
    exact ⟨i0, _, hi, hz0, hz1, hz2, rfl⟩
  len := fun _ => rfl
  one := by
    rintro ⟨a, n⟩ u hu
    simp only [encE, List.mem_cons, List.mem_nil_iff, or_false] at hu
    rcases hu with rfl | rfl <;> rfl
  pos := by decide
  fits := by decide
theorem hlE : 0 < 2 ∧ ∀ x, (encE x).length = 2 := ⟨by decide, fun _ => rfl⟩
abbrev OwnE := OwnG encE 68 2
theorem ents_cells (xs : List Ent) : VX.ents xs = cellsOf encE xs := by
  unfold cellsOf
  induction xs with
  | nil => rfl
  | cons x xs ih => obtain ⟨a, n⟩ := x; rw [List.flatMap_cons, ← ih]; rfl
theorem OwnE.vx {base : Nat} {w : World} {v : Value} {xs : List Ent} (h : OwnE base w v xs) : VX.OwnV base w v xs := by
  unfold VX.OwnV; rw [ents_cells]; exact h.1
theorem vx_ownE {base : Nat} {w : World} {v : Value} {xs : List Ent} (h : VX.OwnV base w v xs) : OwnE base w v xs := by
  unfold VX.OwnV at h; rw [ents_cells] at h; exact ⟨h, hlE⟩

end Go.Proofs.Ytacbpphhkkmelaa
