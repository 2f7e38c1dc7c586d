/-
  Slices in memory, of whatever element type: when a slice value reads as a list, what the call's own list is; an index, a cut, an append. Over any program. No conditions beyond those that each lemma names.
-/
import Derived.WalkKit
import Derived.ProofKit
import Derived.OpenShut
import Derived.ShutString
import Derived.ChangeOld
import Derived.Below
import Derived.WalkSpells
import Derived.WalkLawsBesides
import Derived.ArgAppend
import Derived.Laws.AppendOwnNone
import Derived.Lib.Hide
import Derived.Lib.SliceRun
import Derived.Handy
import Derived.OneCell
import Derived.BigQuiet
namespace Go.Proofs.Ytejedodicihecaa
open Go.RowKit

/-- The slice type t has elements of type e; an element takes 'size' cells and 'bytes' bytes; a value x of it lies as 'enc x'. -/
structure IsElem {α : Type} (P : Program) (t e : TypeId) (size bytes : Nat) (enc : α → List Value) : Prop where
  ht : P.underlying t = some (.slice e)
  info : ∃ i z, P.info? e = some i ∧ i.zero = some z ∧ i.size = size ∧ i.bytes = bytes ∧ z.cells.size = size
  len : ∀ x, (enc x).length = size
  one : ∀ x, ∀ u ∈ enc x, u.oneCell' = true
  pos : 0 < size
  fits : bytes ≤ 4096

/-- The cells of a list. -/
def cellsOf {α : Type} (enc : α → List Value) (xs : List α) : List Value := xs.flatMap enc

theorem addr_plain (b off j : Nat) : (⟨b, off, none⟩ : Addr).add j = ⟨b, off + j, none⟩ := by unfold Addr.add; split <;> simp_all
theorem addr_block (x : Addr) (j : Nat) : (x.add j).block = x.block := by unfold Addr.add; split <;> rfl
theorem below_cell {w wr : World} {p : Addr} {v : Value} (hb : Below w.heap.size w wr) (hc : w.cell? p = some v) : wr.cell? p = some v := by
  rw [hb.cell (World.block_lt_of_cell? w _ hc)]; exact hc
theorem below_drewN (B : Nat) (w : World) (m : Nat) : Below B w (w.drewN m) := ⟨rfl, rfl, rfl, Nat.le_refl _, fun _ _ => rfl⟩
theorem below_fresh (w : World) (o : Obj) : Below w.heap.size w (w.alloc o) := (Below.refl _ w).alloc (Nat.le_refl _) _
/-- What one call leaves, seen from an earlier world. -/
theorem bnext {a w w' : World} (h : Below a.heap.size a w) (k : Below w.heap.size w w') : Below a.heap.size a w' := h.trans (k.mono h.size)

section
variable {α : Type} {P : Program} {t e : TypeId} {size bytes : Nat} {enc : α → List Value}

theorem cellsOf_append (enc : α → List Value) (xs ys : List α) : cellsOf enc (xs ++ ys) = cellsOf enc xs ++ cellsOf enc ys := List.flatMap_append
theorem cellsOf_length (hl : ∀ x, (enc x).length = size) (xs : List α) : (cellsOf enc xs).length = xs.length * size := by
  induction xs with
  | nil => simp [cellsOf]
  | cons x xs ih => rw [show x :: xs = [x] ++ xs from rfl, cellsOf_append, List.length_append, ih, List.length_append, Nat.add_mul]; simp [cellsOf, hl]
theorem cellsOf_one (h : ∀ x, ∀ u ∈ enc x, u.oneCell' = true) (xs : List α) : ∀ u ∈ cellsOf enc xs, u.oneCell' = true := by
  intro u hu
  obtain ⟨x, _, hx⟩ := List.mem_flatMap.1 hu
  exact h x u hx
theorem cellsOf_get (hl : ∀ x, (enc x).length = size) (xs : List α) (k j : Nat) (x : α) (u : Value) (hk : xs[k]? = some x) (hj : (enc x)[j]? = some u) : (cellsOf enc xs)[k * size + j]? = some u := by
  have hkl : k < xs.length := (List.getElem?_eq_some_iff.1 hk).1
  have hx : xs[k] = x := (List.getElem?_eq_some_iff.1 hk).2
  have hjl : j < (enc x).length := (List.getElem?_eq_some_iff.1 hj).1
  have hd : xs = xs.take k ++ (x :: xs.drop (k + 1)) := by rw [← hx, ← List.drop_eq_getElem_cons hkl, List.take_append_drop]
  have hlen : (cellsOf enc (xs.take k)).length = k * size := by rw [cellsOf_length hl, List.length_take, Nat.min_eq_left (Nat.le_of_lt hkl)]
  rw [hd, cellsOf_append, List.getElem?_append_right (by omega), hlen, Nat.add_sub_cancel_left, show x :: xs.drop (k + 1) = [x] ++ xs.drop (k + 1) from rfl, cellsOf_append]
  rw [show cellsOf enc [x] = enc x by simp [cellsOf], List.getElem?_append_left hjl]
  exact hj
theorem cellsOf_take (hl : ∀ x, (enc x).length = size) (xs : List α) (k : Nat) (hk : k ≤ xs.length) : cellsOf enc (xs.take k) = (cellsOf enc xs).take (k * size) := by
  have := congrArg (List.take (k * size)) (cellsOf_append enc (xs.take k) (xs.drop k))
  rw [List.take_append_drop] at this
  rw [this, List.take_left' (by rw [cellsOf_length hl, List.length_take, Nat.min_eq_left hk])]
theorem cellsOf_drop (hl : ∀ x, (enc x).length = size) (xs : List α) (k : Nat) (hk : k ≤ xs.length) : cellsOf enc (xs.drop k) = (cellsOf enc xs).drop (k * size) := by
  have := congrArg (List.drop (k * size)) (cellsOf_append enc (xs.take k) (xs.drop k))
  rw [List.take_append_drop] at this
  rw [this, List.drop_left' (by rw [cellsOf_length hl, List.length_take, Nat.min_eq_left hk])]

/-- The slice value v reads in w as the list xs. -/
def RdG (enc : α → List Value) (size : Nat) (w : World) (v : Value) (xs : List α) : Prop :=
  ∃ a c, v = .slice a xs.length c ∧ xs.length ≤ c ∧ c ≤ maxLen ∧ (a = none → xs = [] ∧ c = 0) ∧ (0 < size ∧ ∀ x, (enc x).length = size) ∧
    (∀ x, a = some x → ∀ j u, (cellsOf enc xs)[j]? = some u → w.cell? (x.add j) = some u)
/-- The slice value v holds the list xs in memory of the call's own (blocks from 'base' on). -/
def OwnG (enc : α → List Value) (e : TypeId) (size : Nat) (base : Nat) (w : World) (v : Value) (xs : List α) : Prop :=
  w.ownsRow base e size v xs.length (cellsOf enc xs) ∧ (0 < size ∧ ∀ x, (enc x).length = size)

theorem RdG.nil (hl : 0 < size ∧ ∀ x, (enc x).length = size) (w : World) : RdG enc size w (.slice none 0 0) [] := ⟨none, 0, rfl, Nat.le_refl _, Nat.zero_le _, fun _ => ⟨rfl, rfl⟩, hl, fun _ h => by cases h⟩
theorem RdG.below {w w' : World} {v : Value} {xs : List α} (h : RdG enc size w v xs) (hb : Below w.heap.size w w') : RdG enc size w' v xs := by
  obtain ⟨a, c, rfl, h1, h2, h3, hl, h4⟩ := h
  exact ⟨a, c, rfl, h1, h2, h3, hl, fun x hx j u hu => below_cell hb (h4 x hx j u hu)⟩
theorem RdG.drewN {w : World} {v : Value} {xs : List α} (h : RdG enc size w v xs) (n : Nat) : RdG enc size (w.drewN n) v xs := h
theorem RdG.shape {w : World} {v : Value} {xs : List α} (h : RdG enc size w v xs) : ∃ a c, v = .slice a xs.length c ∧ c ≤ 9223372036854775807 ∧ xs.length ≤ c := by
  obtain ⟨a, c, rfl, h1, h2, _⟩ := h
  unfold maxLen at h2
  exact ⟨a, c, rfl, by omega, h1⟩
theorem OwnG.nil (hl : 0 < size ∧ ∀ x, (enc x).length = size) (e : TypeId) (base : Nat) (w : World) : OwnG enc e size base w (.slice none 0 0) [] := ⟨World.ownsRow_nil _ _ _ _, hl⟩
theorem OwnG.rd {base : Nat} {w : World} {v : Value} {xs : List α} (h : OwnG enc e size base w v xs) : RdG enc size w v xs := by
  obtain ⟨ho, hl⟩ := h
  have hk := ho
  rcases hk.2 with ⟨rfl, h0⟩ | ⟨g, cap, cur, rfl, hg, hh, hn, hm, hs, ht⟩
  · obtain rfl : xs = [] := List.eq_nil_of_length_eq_zero h0
    exact RdG.nil hl w
  · refine ⟨_, cap, rfl, hn, hm, (fun h => by cases h), hl, fun x hx j u hu => ?_⟩
    cases hx
    exact ho.cells (g := g) rfl j u hu
theorem OwnG.below {base : Nat} {w w' : World} {v : Value} {xs : List α} (h : OwnG enc e size base w v xs) (hb : Below w.heap.size w w') : OwnG enc e size base w' v xs :=
  ⟨World.ownsRow.kept h.1 (row := none) ⟨hb.os, hb.tape, hb.output, hb.size, fun k hk _ => hb.block k hk⟩ (by cases v.ownBlock <;> simp), h.2⟩
theorem OwnG.mono {base base' : Nat} {w : World} {v : Value} {xs : List α} (h : OwnG enc e size base w v xs) (hle : base' ≤ base) : OwnG enc e size base' w v xs := by
  obtain ⟨⟨hl, h⟩, h2⟩ := h
  refine ⟨⟨hl, ?_⟩, h2⟩
  rcases h with h | ⟨g, cap, cur, hv, hg, r⟩
  · exact .inl h
  · exact .inr ⟨g, cap, cur, hv, Nat.le_trans hle hg, r⟩
theorem OwnG.drewN {base : Nat} {w : World} {v : Value} {xs : List α} (h : OwnG enc e size base w v xs) (n : Nat) : OwnG enc e size base (w.drewN n) v xs := h
/-- A list that is made out of the values at hand. -/
theorem ownG_fresh (hl : 0 < size ∧ ∀ x, (enc x).length = size) (e : TypeId) (w : World) (xs : List α) (h : xs.length ≤ maxLen) :
    OwnG enc e size w.heap.size (w.alloc (.cells (cellsOf enc xs).toArray e)) (.slice (some ⟨w.heap.size, 0, none⟩) xs.length xs.length) xs :=
  ⟨⟨cellsOf_length hl.2 xs, .inr ⟨w.heap.size, xs.length, (cellsOf enc xs).toArray, rfl, Nat.le_refl _, heap_alloc_new w _, Nat.le_refl _, h, by simp [cellsOf_length hl.2], by rw [List.take_of_length_le]; simp [cellsOf_length hl.2]⟩⟩, hl⟩

theorem IsElem.hl (E : IsElem P t e size bytes enc) : 0 < size ∧ ∀ x, (enc x).length = size := ⟨E.pos, E.len⟩
theorem IsElem.run_size (E : IsElem P t e size bytes enc) (w : World) : Sem.run P (Go.sizeOf e) w = .ok size w := by
  obtain ⟨i, z, hi, _, hs, _⟩ := E.info
  simp [Go.sizeOf, typeInfo, hi, hs]

/-- A list that has elements lies at a plain address. -/
theorem RdG.plain {w : World} {a : Option Addr} {n c : Nat} {xs : List α} (h : RdG enc size w (.slice a n c) xs) (h0 : 0 < xs.length) :
    ∃ b o, a = some ⟨b, o, none⟩ ∧ b < w.heap.size ∧ ∀ i x, xs[i]? = some x → ∀ j u, (enc x)[j]? = some u → w.cell? ⟨b, o + i * size + j, none⟩ = some u := by
  obtain ⟨a', c', hv, h1, h2, h3, ⟨hp, hl⟩, h4⟩ := h
  cases hv
  cases a with
  | none => have := (h3 rfl).1; subst this; simp at h0
  | some x =>
    obtain ⟨b, o, spot⟩ := x
    have hx0 : xs[0]? = some xs[0] := List.getElem?_eq_getElem h0
    have hj0 : (enc xs[0])[0]? = some ((enc xs[0])[0]'(by rw [hl]; exact hp)) := List.getElem?_eq_getElem _
    have hc0 := h4 _ rfl _ _ (cellsOf_get hl xs 0 0 _ _ hx0 hj0)
    have hspot : spot = none := by simpa [Addr.add] using World.cell?_spot hc0
    subst hspot
    rw [addr_plain] at hc0
    refine ⟨b, o, rfl, World.block_lt_of_cell? w _ hc0, fun i y hi j u hu => ?_⟩
    have := h4 _ rfl _ _ (cellsOf_get hl xs i j y u hi hu)
    rw [addr_plain] at this
    rw [Nat.add_assoc]
    exact this

/-- 'v[k]': where the index leads, and what is there. -/
theorem RdG.at_ (E : IsElem P t e size bytes enc) {w : World} {a : Option Addr} {n c : Nat} {xs : List α} (h : RdG enc size w (.slice a n c) xs) (k : Nat) (x : α) (hk : xs[k]? = some x) :
    ∃ b o, (∀ w0, (Instr.indexAt t (.slice a n c) (.int .i64 (k : Int))).run P w0 = .ok (.pointer (some ⟨b, o, none⟩)) w0) ∧ b < w.heap.size ∧
      ∀ j u, (enc x)[j]? = some u → w.cell? ⟨b, o + j, none⟩ = some u := by
  have hlt : k < xs.length := (List.getElem?_eq_some_iff.1 hk).1
  obtain ⟨b, o, rfl, hb, hc⟩ := h.plain (by omega)
  obtain ⟨a', c', hv, _⟩ := h
  cases hv
  refine ⟨b, o + k * size, fun w0 => ?_, hb, hc k x hk⟩
  have h1 : (0 : Int) ≤ (k : Int) := by omega
  have h3 : ¬ xs.length ≤ k := by omega
  have hs := E.run_size
  simp [Instr.indexAt, asIntOf, run_underlying E.ht, h1, Result.andThen, addr_plain, hs]
  intro h4
  exact absurd h4 h3

/-- '&v[k]', the call's own list: the cell's block and place, for a store. -/
theorem OwnG.form {base : Nat} {w : World} {v : Value} {xs : List α} (h : OwnG enc e size base w v xs) (h0 : 0 < xs.length) :
    ∃ g cap cur, v = .slice (some ⟨g, 0, none⟩) xs.length cap ∧ base ≤ g ∧ w.heap[g]? = some (.cells cur e (0, 0)) ∧ xs.length ≤ cap ∧ cap ≤ maxLen ∧ cur.size = cap * size ∧ cur.toList.take (xs.length * size) = cellsOf enc xs := by
  rcases h.1.2 with ⟨_, h1⟩ | h1
  · omega
  · exact h1

/-- 'v[lo:]', 'v[:hi]': one run equation each, and what it reads as. -/
theorem RdG.cutL (E : IsElem P t e size bytes enc) {w : World} {a : Option Addr} {n c : Nat} {xs : List α} (h : RdG enc size w (.slice a n c) xs) (lo : Nat) (h2 : lo ≤ xs.length) :
    ∃ v', (∀ w0 : World, (Instr.slice t (.slice a n c) (some (.int .i64 (lo : Int))) none none).run P w0 = .ok v' w0) ∧ RdG enc size w v' (xs.drop lo) := by
  obtain ⟨a', c', hv, h3, h4, h5, ⟨hp, hl⟩, h6⟩ := h
  cases hv
  refine ⟨.slice (if c = lo then a else a.map (·.add (lo * size))) (xs.length - lo) (c - lo), fun w0 => ?_, ?_⟩
  · have e1 : (0 : Int) ≤ (lo : Int) := by omega
    have e2 : (lo : Int) ≤ (xs.length : Int) := by omega
    have hz := E.run_size
    simp [Instr.slice, run_underlying E.ht, Instr.sliceBounds, run_sliceBound, e1, e2, hz, Result.andThen]
  · refine ⟨if c = lo then a else a.map (·.add (lo * size)), c - lo, by rw [List.length_drop], by rw [List.length_drop]; omega, by omega, ?_, ⟨hp, hl⟩, ?_⟩
    · intro hn
      have : a = none := by
        split at hn
        · exact hn
        · simpa using hn
      obtain ⟨rfl, rfl⟩ := h5 this
      simp
    · intro x hx j u hu
      have hne : ¬ c = lo := by
        rintro rfl
        rw [List.drop_of_length_le (by omega)] at hu
        cases hu
      rw [if_neg hne] at hx
      obtain ⟨y, rfl, rfl⟩ := Option.map_eq_some_iff.1 hx
      rw [cellsOf_drop hl xs lo h2, List.getElem?_drop] at hu
      have hc := h6 y rfl _ _ hu
      have hpos : 0 < xs.length := by
        have := (List.getElem?_eq_some_iff.1 hu).1
        rw [cellsOf_length hl] at this
        rcases Nat.eq_zero_or_pos xs.length with h0 | h0
        · rw [h0] at this; omega
        · exact h0
      obtain ⟨b, o, hy, _, _⟩ := RdG.plain ⟨_, _, rfl, h3, h4, h5, ⟨hp, hl⟩, h6⟩ hpos
      cases hy
      rw [addr_plain] at hc
      rw [addr_plain, addr_plain, Nat.add_assoc]
      exact hc
theorem RdG.cut0 (E : IsElem P t e size bytes enc) {w : World} {a : Option Addr} {n c : Nat} {xs : List α} (h : RdG enc size w (.slice a n c) xs) (hi : Nat) (h2 : hi ≤ xs.length) :
    ∃ v', (∀ w0 : World, (Instr.slice t (.slice a n c) none (some (.int .i64 (hi : Int))) none).run P w0 = .ok v' w0) ∧ RdG enc size w v' (xs.take hi) := by
  obtain ⟨a', c', hv, h3, h4, h5, ⟨hp, hl⟩, h6⟩ := h
  cases hv
  refine ⟨.slice a hi c, fun w0 => ?_, ?_⟩
  · have e4 : (0 : Int) ≤ (hi : Int) := by omega
    have e3 : (hi : Int) ≤ (c : Int) := by omega
    have hz := E.run_size
    cases a <;> simp [Instr.slice, run_underlying E.ht, Instr.sliceBounds, run_sliceBound, e3, e4, hz, Result.andThen, Addr.add]
  · refine ⟨a, c, by rw [List.length_take]; congr 1; omega, by rw [List.length_take]; omega, h4, fun ha => ?_, ⟨hp, hl⟩, fun x hx j u hu => ?_⟩
    · obtain ⟨rfl, rfl⟩ := h5 ha
      simp
    · refine h6 x hx j u ?_
      rw [cellsOf_take hl xs hi h2, List.getElem?_take] at hu
      split at hu
      · exact hu
      · cases hu
/-- 'v[lo:hi:top]'. -/
theorem RdG.cut3 (E : IsElem P t e size bytes enc) {w : World} {a : Option Addr} {n c : Nat} {xs : List α} (h : RdG enc size w (.slice a n c) xs) (lo hi : Nat) (h1 : lo ≤ hi) (h2 : hi ≤ xs.length) :
    ∃ v', v' = .slice (if hi = lo then a else a.map (·.add (lo * size))) (hi - lo) (hi - lo) ∧ (∀ w0 : World, (Instr.slice t (.slice a n c) (some (.int .i64 (lo : Int))) (some (.int .i64 (hi : Int))) (some (.int .i64 (hi : Int)))).run P w0 = .ok v' w0) ∧
      RdG enc size w v' ((xs.drop lo).take (hi - lo)) := by
  obtain ⟨a', c', hv, h3, h4, h5, ⟨hp, hl⟩, h6⟩ := h
  cases hv
  refine ⟨_, rfl, fun w0 => ?_, ?_⟩
  · have e1 : (0 : Int) ≤ (lo : Int) := by omega
    have e2 : (lo : Int) ≤ (hi : Int) := by omega
    have e3 : (hi : Int) ≤ (c : Int) := by omega
    have e4 : (0 : Int) ≤ (hi : Int) := by omega
    have hz := E.run_size
    simp [Instr.slice, run_underlying E.ht, Instr.sliceBounds, run_sliceBound, e1, e2, e3, e4, hz, Result.andThen]
  · refine ⟨if hi = lo then a else a.map (·.add (lo * size)), hi - lo, by congr 1; rw [List.length_take, List.length_drop]; omega, by rw [List.length_take, List.length_drop]; omega, by omega, ?_, ⟨hp, hl⟩, ?_⟩
    · intro hn
      have : a = none := by
        split at hn
        · exact hn
        · simpa using hn
      obtain ⟨rfl, rfl⟩ := h5 this
      simp at h2
      subst h2
      simp
    · intro x hx j u hu
      have hne : ¬ hi = lo := by
        rintro rfl
        rw [Nat.sub_self, List.take_zero] at hu
        cases hu
      rw [if_neg hne] at hx
      obtain ⟨y, rfl, rfl⟩ := Option.map_eq_some_iff.1 hx
      rw [cellsOf_take hl _ _ (by rw [List.length_drop]; omega), List.getElem?_take] at hu
      split at hu
      · rw [cellsOf_drop hl xs lo (by omega), List.getElem?_drop] at hu
        have hc := h6 y rfl _ _ hu
        have hpos : 0 < xs.length := by omega
        obtain ⟨b, o, hy, _, _⟩ := RdG.plain ⟨_, _, rfl, h3, h4, h5, ⟨hp, hl⟩, h6⟩ hpos
        cases hy
        rw [addr_plain] at hc
        rw [addr_plain, addr_plain, Nat.add_assoc]
        exact hc
      · cases hu

/-- All blocks whose element type is not e are as they were. -/
def KeepsX (e : TypeId) (w w' : World) : Prop := ∀ (k : Nat), k < w.heap.size → (∀ cur fr, w.heap[k]? ≠ some (Obj.cells cur e fr)) → w'.heap[k]? = w.heap[k]?
theorem Below.keepsX {w w' : World} (h : Below w.heap.size w w') (e : TypeId) : KeepsX e w w' := fun k hk _ => h.block k hk
theorem KeepsX.trans {e : TypeId} {a b c : World} (h : KeepsX e a b) (hs : a.heap.size ≤ b.heap.size) (k : KeepsX e b c) : KeepsX e a c := fun i hi hne => by
  have h1 := h i hi hne
  rw [k i (by omega) (by intro cur fr; rw [h1]; exact hne cur fr), h1]
theorem keepsX_grown {base : Nat} {w w' : World} {v : Value} {n : Nat} {us : List Value} (ho : w.ownsRow base e size v n us) (hg : w.grownBy w' v.ownBlock) : KeepsX e w w' := by
  intro k hk hne
  rw [hg.block k hk]
  intro he
  rcases ho.2 with ⟨rfl, _⟩ | ⟨g, cap, cur', rfl, _, hh, _⟩
  · cases he
  · simp only [Value.ownBlock] at he
    cases he
    exact hne _ _ hh

section
variable {w : World} {ops : Array Oper} {rest : List Oper} {o : Oper} {a : Act} {Q : Exit → Act → World → Prop} {base : Nat} {v : Value} {ys : List α}

/-- 'out = append(out, x)', out the call's own list. -/
theorem wp_appG1 (E : IsElem P t e size bytes enc) (x : α) (hgd : o.guard = none) (s r : Operand) (ho : o.op = .call { callee := .builtin .append, args := #[s, r], argTypes := #[t, t] })
    (hs : a.eval s = v) (hown : OwnG enc e size base w v ys) (hx : a.eval r = .slice (some ⟨w.heap.size, 0, none⟩) 1 1) (hlen : ys.length ≤ 1073741824) (hb : base ≤ w.heap.size)
    (h : ∀ v' w', OwnG enc e size base w' v' (ys ++ [x]) → Below base w w' → KeepsX e w w' → (v'.ownBlock = v.ownBlock ∨ w.heap.size ≤ v'.ownBlock.getD 0) → wpList P ops Q rest (a.put o.dst v') w') :
    wpList P ops Q (o :: rest) a (w.alloc (.cells (enc x).toArray e)) := by
  obtain ⟨i0, z, hi, hz0, hz1, hz2, hz3⟩ := E.info
  refine wpList_append_own_at _ hgd s r t ho base e i0 z size bytes E.ht hi hz0 hz1 hz2 hz3 E.pos _ _ _ hs (World.ownsRow.alloc hown.1 _) ⟨w.heap.size, 0, none⟩ 1 1 (enc x) hx (by rw [E.len, Nat.one_mul]) ?_ (E.one x) ?_ ?_ ?_ ?_
  · intro j u hu
    rw [addr_plain, Nat.zero_add, World.cell?_alloc_new]
    simpa using hu
  · unfold maxLen; omega
  · have := E.fits
    calc (ys.length + 1) * bytes ≤ (1073741824 + 1) * 4096 := Nat.mul_le_mul (by omega) this
      _ ≤ 140737488355328 := by decide
  · simp; omega
  · intro v' w1 ho1 hg1 _ hat
    have hk0 : KeepsX e w (w.alloc (.cells (enc x).toArray e)) := Below.keepsX (below_fresh w _) e
    refine h v' w1 ⟨?_, hown.2⟩ (((Below.refl _ _).alloc hb _).grown hg1 (by simp; omega) (fun k hk => (World.ownsRow.lt hown.1 k hk).1)) (hk0.trans (by simp) (keepsX_grown (World.ownsRow.alloc hown.1 _) hg1)) ?_
    · rw [cellsOf_append, List.length_append]
      simpa [cellsOf] using ho1
    · rcases hat with h1 | h1
      · exact .inl h1
      · refine .inr ?_
        rw [h1]
        simp

/-- 'append(out, u...)', out the call's own list, u any list. -/
theorem wp_appGS (E : IsElem P t e size bytes enc) {u : Value} {zs : List α} (hgd : o.guard = none) (s r : Operand) (ho : o.op = .call { callee := .builtin .append, args := #[s, r], argTypes := #[t, t] })
    (hs : a.eval s = v) (hown : OwnG enc e size base w v ys) (hx : a.eval r = u) (hu : RdG enc size w u zs) (hlen : ys.length ≤ 1073741824) (hlen2 : zs.length ≤ 1073741824) (hb : base ≤ w.heap.size)
    (h : ∀ v' w', OwnG enc e size base w' v' (ys ++ zs) → Below base w w' → KeepsX e w w' → wpList P ops Q rest (a.put o.dst v') w') :
    wpList P ops Q (o :: rest) a w := by
  obtain ⟨i0, z, hi, hz0, hz1, hz2, hz3⟩ := E.info
  obtain ⟨ad, c, rfl, h1, h2, h3, hl, h4⟩ := hu
  cases ad with
  | none =>
    obtain ⟨rfl, rfl⟩ := h3 rfl
    exact wpList_append_own_none hgd s r t ho base e i0 size E.ht hi _ _ _ hs hown.1 hx (h _ _ (by rw [List.append_nil]; exact hown) (Below.refl _ _) (Below.keepsX (Below.refl _ _) e))
  | some ad =>
    refine wpList_append_own _ hgd s r t ho base e i0 z size bytes E.ht hi hz0 hz1 hz2 hz3 E.pos _ _ _ hs hown.1 ad zs.length c (cellsOf enc zs) hx (cellsOf_length E.len zs) (h4 ad rfl) (cellsOf_one E.one zs) ?_ ?_ hb ?_
    · unfold maxLen; omega
    · have := E.fits
      calc (ys.length + zs.length) * bytes ≤ (1073741824 + 1073741824) * 4096 := Nat.mul_le_mul (by omega) this
        _ ≤ 140737488355328 := by decide
    · intro v' w1 ho1 hg1 _
      refine h v' w1 ⟨?_, hown.2⟩ ((Below.refl _ _).grown hg1 hb (fun k hk => (World.ownsRow.lt hown.1 k hk).1)) (keepsX_grown hown.1 hg1)
      rw [cellsOf_append, List.length_append]
      exact ho1
end
end

theorem ret_true {p : Prop} [Decidable p] (h : p) : Ending.returned (.bool (decide p)) = Ending.returned (.bool true) := by rw [decide_eq_true h]
theorem ret_int {k : IntKind} {a b : Int} (h : a = b) : Ending.returned (.int k a) = .returned (.int k b) := by rw [h]
theorem ret_bool {a b : Bool} (h : a = b) : Ending.returned (.bool a) = .returned (.bool b) := by rw [h]
theorem vint {x y : Int} (h : x = y) : Value.int .i64 x = Value.int .i64 y := by rw [h]

/-! A region that draws its order, whose operations read and whose calls may make memory, each of one value: walked once. -/
/-- A world that keeps all that lay in w. -/
structure Later (w : World) where
  val : World
  h : Below w.heap.size w val
instance (w : World) : Inhabited (Later w) := ⟨⟨w, Below.refl _ _⟩⟩
/-- A call's contract, met in such a world. -/
theorem Calls.later {P : Program} {f : FuncId} {args : Array Value} {w : World} {v : Value} {p : Later w} (h : Calls P f args p.val fun e w' => e = .returned v ∧ Below p.val.heap.size p.val w') :
    Calls P f args p.val fun e w'' => e = .returned v ∧ ∃ q : Later w, w'' = q.val :=
  h.mono fun _ w' ⟨he, hb⟩ => ⟨he, ⟨w', bnext p.h hb⟩, rfl⟩
theorem Calls.later_same {P : Program} {f : FuncId} {args : Array Value} {w : World} {v : Value} {p : Later w} (h : Calls P f args p.val fun e w' => e = .returned v ∧ p.val = w') :
    Calls P f args p.val fun e w'' => e = .returned v ∧ ∃ q : Later w, w'' = q.val :=
  h.mono fun _ _ ⟨he, hb⟩ => ⟨he, p, hb.symm⟩
theorem wp_region_later {P : Program} {id : Nat} {Q : Exit → Act → World → Prop} {a : Act} {w : World} {l : List Oper} (hm : P.follows .mixedOrders = true) (hB : Region.lexB .any l.toArray = true)
    (h : wpQuiet P l.toArray (fun w' => ∃ p : Later w, w' = p.val) (fun a' => ∀ w', (∃ p : Later w, w' = p.val) → Q .normal a' w') l a) : (Code.region id l.toArray true).wp P Q a w :=
  wp_region_quiet (C := fun w' => ∃ p : Later w, w' = p.val) hm hB ⟨⟨w.drew, (Below.refl _ w).drew⟩, rfl⟩ (by simpa using h)

end Go.Proofs.Ytejedodicihecaa
