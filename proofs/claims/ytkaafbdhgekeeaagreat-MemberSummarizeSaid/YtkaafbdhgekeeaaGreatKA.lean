/-
  Slices in memory, of whatever element type: when a slice value reads as a list, what the call's own list is; an index, a cut, an append. Over any program. No conditions beyond those that each lemma names.
  Plain mathematics of the base-128 encoding (P1.1, P1.2) and the zigzag numbers (P1.3): lists and integers alone. No conditions beyond those that each lemma names.
  Base of the proofs of package wire: when a slice value reads as a list of bytes; what the call's own bytes are; the built-in append of a string to the call's own bytes. No conditions beyond those that each lemma names.
-/
import Derived.WalkKit
import Derived.ProofKit
import Derived.OpenShut
import Derived.ShutString
import Derived.ChangeOld
import Derived.Below
import Derived.WalkSpells
import Derived.WalkLawsBesides
import Derived.ArgAppend
import Derived.Laws.AppendOwnNone
import Derived.Lib.Hide
import Derived.Lib.SliceRun
import Derived.Handy
import Derived.OneCell
import Derived.BigQuiet
import GoSem.Claim
import Derived.Test.YtkaafbdhgekeeaaGreatProg
import Derived.Laws.BytesArg
import Derived.ScopeJumps
namespace Go.Proofs.YtkaafbdhgekeeaaGreat
open Go.RowKit

/-- The slice type t has elements of type e; an element takes 'size' cells and 'bytes' bytes; a value x of it lies as 'enc x'. -/
structure IsElem {α : Type} (P : Program) (t e : TypeId) (size bytes : Nat) (enc : α → List Value) : Prop where
  ht : P.underlying t = some (.slice e)
  info : ∃ i z, P.info? e = some i ∧ i.zero = some z ∧ i.size = size ∧ i.bytes = bytes ∧ z.cells.size = size
  len : ∀ x, (enc x).length = size
  one : ∀ x, ∀ u ∈ enc x, u.oneCell' = true
  pos : 0 < size
  fits : bytes ≤ 4096

/-- The cells of a list. -/
def cellsOf {α : Type} (enc : α → List Value) (xs : List α) : List Value := xs.flatMap enc

theorem addr_plain (b off j : Nat) : (⟨b, off, none⟩ : Addr).add j = ⟨b, off + j, none⟩ := by unfold Addr.add; split <;> simp_all
theorem addr_block (x : Addr) (j : Nat) : (x.add j).block = x.block := by unfold Addr.add; split <;> rfl
theorem below_cell {w wr : World} {p : Addr} {v : Value} (hb : Below w.heap.size w wr) (hc : w.cell? p = some v) : wr.cell? p = some v := by
  rw [hb.cell (World.block_lt_of_cell? w _ hc)]; exact hc
theorem below_drewN (B : Nat) (w : World) (m : Nat) : Below B w (w.drewN m) := ⟨rfl, rfl, rfl, Nat.le_refl _, fun _ _ => rfl⟩
theorem below_fresh (w : World) (o : Obj) : Below w.heap.size w (w.alloc o) := (Below.refl _ w).alloc (Nat.le_refl _) _
/-- What one call leaves, seen from an earlier world. -/
theorem bnext {a w w' : World} (h : Below a.heap.size a w) (k : Below w.heap.size w w') : Below a.heap.size a w' := h.trans (k.mono h.size)

section
variable {α : Type} {P : Program} {t e : TypeId} {size bytes : Nat} {enc : α → List Value}

theorem cellsOf_append (enc : α → List Value) (xs ys : List α) : cellsOf enc (xs ++ ys) = cellsOf enc xs ++ cellsOf enc ys := List.flatMap_append
theorem cellsOf_length (hl : ∀ x, (enc x).length = size) (xs : List α) : (cellsOf enc xs).length = xs.length * size := by
  induction xs with
  | nil => simp [cellsOf]
  | cons x xs ih => rw [show x :: xs = [x] ++ xs from rfl, cellsOf_append, List.length_append, ih, List.length_append, Nat.add_mul]; simp [cellsOf, hl]
theorem cellsOf_one (h : ∀ x, ∀ u ∈ enc x, u.oneCell' = true) (xs : List α) : ∀ u ∈ cellsOf enc xs, u.oneCell' = true := by
  intro u hu
  obtain ⟨x, _, hx⟩ := List.mem_flatMap.1 hu
  exact h x u hx
theorem cellsOf_get (hl : ∀ x, (enc x).length = size) (xs : List α) (k j : Nat) (x : α) (u : Value) (hk : xs[k]? = some x) (hj : (enc x)[j]? = some u) : (cellsOf enc xs)[k * size + j]? = some u := by
  have hkl : k < xs.length := (List.getElem?_eq_some_iff.1 hk).1
  have hx : xs[k] = x := (List.getElem?_eq_some_iff.1 hk).2
  have hjl : j < (enc x).length := (List.getElem?_eq_some_iff.1 hj).1
  have hd : xs = xs.take k ++ (x :: xs.drop (k + 1)) := by rw [← hx, ← List.drop_eq_getElem_cons hkl, List.take_append_drop]
  have hlen : (cellsOf enc (xs.take k)).length = k * size := by rw [cellsOf_length hl, List.length_take, Nat.min_eq_left (Nat.le_of_lt hkl)]
  rw [hd, cellsOf_append, List.getElem?_append_right (by omega), hlen, Nat.add_sub_cancel_left, show x :: xs.drop (k + 1) = [x] ++ xs.drop (k + 1) from rfl, cellsOf_append]
  rw [show cellsOf enc [x] = enc x by simp [cellsOf], List.getElem?_append_left hjl]
  exact hj
theorem cellsOf_take (hl : ∀ x, (enc x).length = size) (xs : List α) (k : Nat) (hk : k ≤ xs.length) : cellsOf enc (xs.take k) = (cellsOf enc xs).take (k * size) := by
  have := congrArg (List.take (k * size)) (cellsOf_append enc (xs.take k) (xs.drop k))
  rw [List.take_append_drop] at this
  rw [this, List.take_left' (by rw [cellsOf_length hl, List.length_take, Nat.min_eq_left hk])]
theorem cellsOf_drop (hl : ∀ x, (enc x).length = size) (xs : List α) (k : Nat) (hk : k ≤ xs.length) : cellsOf enc (xs.drop k) = (cellsOf enc xs).drop (k * size) := by
  have := congrArg (List.drop (k * size)) (cellsOf_append enc (xs.take k) (xs.drop k))
  rw [List.take_append_drop] at this
  rw [this, List.drop_left' (by rw [cellsOf_length hl, List.length_take, Nat.min_eq_left hk])]

/-- The slice value v reads in w as the list xs. -/
def RdG (enc : α → List Value) (size : Nat) (w : World) (v : Value) (xs : List α) : Prop :=
  ∃ a c, v = .slice a xs.length c ∧ xs.length ≤ c ∧ c ≤ maxLen ∧ (a = none → xs = [] ∧ c = 0) ∧ (0 < size ∧ ∀ x, (enc x).length = size) ∧
    (∀ x, a = some x → ∀ j u, (cellsOf enc xs)[j]? = some u → w.cell? (x.add j) = some u)
/-- The slice value v holds the list xs in memory of the call's own (blocks from 'base' on). -/
def OwnG (enc : α → List Value) (e : TypeId) (size : Nat) (base : Nat) (w : World) (v : Value) (xs : List α) : Prop :=
  w.ownsRow base e size v xs.length (cellsOf enc xs) ∧ (0 < size ∧ ∀ x, (enc x).length = size)

theorem RdG.nil (hl : 0 < size ∧ ∀ x, (enc x).length = size) (w : World) : RdG enc size w (.slice none 0 0) [] := ⟨none, 0, rfl, Nat.le_refl _, Nat.zero_le _, fun _ => ⟨rfl, rfl⟩, hl, fun _ h => by cases h⟩
theorem RdG.below {w w' : World} {v : Value} {xs : List α} (h : RdG enc size w v xs) (hb : Below w.heap.size w w') : RdG enc size w' v xs := by
  obtain ⟨a, c, rfl, h1, h2, h3, hl, h4⟩ := h
  exact ⟨a, c, rfl, h1, h2, h3, hl, fun x hx j u hu => below_cell hb (h4 x hx j u hu)⟩
theorem RdG.drewN {w : World} {v : Value} {xs : List α} (h : RdG enc size w v xs) (n : Nat) : RdG enc size (w.drewN n) v xs := h
theorem RdG.shape {w : World} {v : Value} {xs : List α} (h : RdG enc size w v xs) : ∃ a c, v = .slice a xs.length c ∧ c ≤ 9223372036854775807 ∧ xs.length ≤ c := by
  obtain ⟨a, c, rfl, h1, h2, _⟩ := h
  unfold maxLen at h2
  exact ⟨a, c, rfl, by omega, h1⟩
theorem OwnG.nil (hl : 0 < size ∧ ∀ x, (enc x).length = size) (e : TypeId) (base : Nat) (w : World) : OwnG enc e size base w (.slice none 0 0) [] := ⟨World.ownsRow_nil _ _ _ _, hl⟩
theorem OwnG.rd {base : Nat} {w : World} {v : Value} {xs : List α} (h : OwnG enc e size base w v xs) : RdG enc size w v xs := by
  obtain ⟨ho, hl⟩ := h
  have hk := ho
  rcases hk.2 with ⟨rfl, h0⟩ | ⟨g, cap, cur, rfl, hg, hh, hn, hm, hs, ht⟩
  · obtain rfl : xs = [] := List.eq_nil_of_length_eq_zero h0
    exact RdG.nil hl w
  · refine ⟨_, cap, rfl, hn, hm, (fun h => by cases h), hl, fun x hx j u hu => ?_⟩
    cases hx
    exact ho.cells (g := g) rfl j u hu
theorem OwnG.below {base : Nat} {w w' : World} {v : Value} {xs : List α} (h : OwnG enc e size base w v xs) (hb : Below w.heap.size w w') : OwnG enc e size base w' v xs :=
  ⟨World.ownsRow.kept h.1 (row := none) ⟨hb.os, hb.tape, hb.output, hb.size, fun k hk _ => hb.block k hk⟩ (by cases v.ownBlock <;> simp), h.2⟩
theorem OwnG.mono {base base' : Nat} {w : World} {v : Value} {xs : List α} (h : OwnG enc e size base w v xs) (hle : base' ≤ base) : OwnG enc e size base' w v xs := by
  obtain ⟨⟨hl, h⟩, h2⟩ := h
  refine ⟨⟨hl, ?_⟩, h2⟩
  rcases h with h | ⟨g, cap, cur, hv, hg, r⟩
  · exact .inl h
  · exact .inr ⟨g, cap, cur, hv, Nat.le_trans hle hg, r⟩
theorem OwnG.drewN {base : Nat} {w : World} {v : Value} {xs : List α} (h : OwnG enc e size base w v xs) (n : Nat) : OwnG enc e size base (w.drewN n) v xs := h
/-- A list that is made out of the values at hand. -/
theorem ownG_fresh (hl : 0 < size ∧ ∀ x, (enc x).length = size) (e : TypeId) (w : World) (xs : List α) (h : xs.length ≤ maxLen) :
    OwnG enc e size w.heap.size (w.alloc (.cells (cellsOf enc xs).toArray e)) (.slice (some ⟨w.heap.size, 0, none⟩) xs.length xs.length) xs :=
  ⟨⟨cellsOf_length hl.2 xs, .inr ⟨w.heap.size, xs.length, (cellsOf enc xs).toArray, rfl, Nat.le_refl _, heap_alloc_new w _, Nat.le_refl _, h, by simp [cellsOf_length hl.2], by rw [List.take_of_length_le]; simp [cellsOf_length hl.2]⟩⟩, hl⟩

theorem IsElem.hl (E : IsElem P t e size bytes enc) : 0 < size ∧ ∀ x, (enc x).length = size := ⟨E.pos, E.len⟩
theorem IsElem.run_size (E : IsElem P t e size bytes enc) (w : World) : Sem.run P (Go.sizeOf e) w = .ok size w := by
  obtain ⟨i, z, hi, _, hs, _⟩ := E.info
  simp [Go.sizeOf, typeInfo, hi, hs]

/-- A list that has elements lies at a plain address. -/
theorem RdG.plain {w : World} {a : Option Addr} {n c : Nat} {xs : List α} (h : RdG enc size w (.slice a n c) xs) (h0 : 0 < xs.length) :
    ∃ b o, a = some ⟨b, o, none⟩ ∧ b < w.heap.size ∧ ∀ i x, xs[i]? = some x → ∀ j u, (enc x)[j]? = some u → w.cell? ⟨b, o + i * size + j, none⟩ = some u := by
  obtain ⟨a', c', hv, h1, h2, h3, ⟨hp, hl⟩, h4⟩ := h
  cases hv
  cases a with
  | none => have := (h3 rfl).1; subst this; simp at h0
  | some x =>
    obtain ⟨b, o, spot⟩ := x
    have hx0 : xs[0]? = some xs[0] := List.getElem?_eq_getElem h0
    have hj0 : (enc xs[0])[0]? = some ((enc xs[0])[0]'(by rw [hl]; exact hp)) := List.getElem?_eq_getElem _
    have hc0 := h4 _ rfl _ _ (cellsOf_get hl xs 0 0 _ _ hx0 hj0)
    have hspot : spot = none := by simpa [Addr.add] using World.cell?_spot hc0
    subst hspot
    rw [addr_plain] at hc0
    refine ⟨b, o, rfl, World.block_lt_of_cell? w _ hc0, fun i y hi j u hu => ?_⟩
    have := h4 _ rfl _ _ (cellsOf_get hl xs i j y u hi hu)
    rw [addr_plain] at this
    rw [Nat.add_assoc]
    exact this

/-- 'v[k]': where the index leads, and what is there. -/
theorem RdG.at_ (E : IsElem P t e size bytes enc) {w : World} {a : Option Addr} {n c : Nat} {xs : List α} (h : RdG enc size w (.slice a n c) xs) (k : Nat) (x : α) (hk : xs[k]? = some x) :
    ∃ b o, (∀ w0, (Instr.indexAt t (.slice a n c) (.int .i64 (k : Int))).run P w0 = .ok (.pointer (some ⟨b, o, none⟩)) w0) ∧ b < w.heap.size ∧
      ∀ j u, (enc x)[j]? = some u → w.cell? ⟨b, o + j, none⟩ = some u := by
  have hlt : k < xs.length := (List.getElem?_eq_some_iff.1 hk).1
  obtain ⟨b, o, rfl, hb, hc⟩ := h.plain (by omega)
  obtain ⟨a', c', hv, _⟩ := h
  cases hv
  refine ⟨b, o + k * size, fun w0 => ?_, hb, hc k x hk⟩
  have h1 : (0 : Int) ≤ (k : Int) := by omega
  have h3 : ¬ xs.length ≤ k := by omega
  have hs := E.run_size
  simp [Instr.indexAt, asIntOf, run_underlying E.ht, h1, Result.andThen, addr_plain, hs]
  intro h4
  exact absurd h4 h3

/-- '&v[k]', the call's own list: the cell's block and place, for a store. -/
theorem OwnG.form {base : Nat} {w : World} {v : Value} {xs : List α} (h : OwnG enc e size base w v xs) (h0 : 0 < xs.length) :
    ∃ g cap cur, v = .slice (some ⟨g, 0, none⟩) xs.length cap ∧ base ≤ g ∧ w.heap[g]? = some (.cells cur e (0, 0)) ∧ xs.length ≤ cap ∧ cap ≤ maxLen ∧ cur.size = cap * size ∧ cur.toList.take (xs.length * size) = cellsOf enc xs := by
  rcases h.1.2 with ⟨_, h1⟩ | h1
  · omega
  · exact h1

/-- 'v[lo:]', 'v[:hi]': one run equation each, and what it reads as. -/
theorem RdG.cutL (E : IsElem P t e size bytes enc) {w : World} {a : Option Addr} {n c : Nat} {xs : List α} (h : RdG enc size w (.slice a n c) xs) (lo : Nat) (h2 : lo ≤ xs.length) :
    ∃ v', (∀ w0 : World, (Instr.slice t (.slice a n c) (some (.int .i64 (lo : Int))) none none).run P w0 = .ok v' w0) ∧ RdG enc size w v' (xs.drop lo) := by
  obtain ⟨a', c', hv, h3, h4, h5, ⟨hp, hl⟩, h6⟩ := h
  cases hv
  refine ⟨.slice (if c = lo then a else a.map (·.add (lo * size))) (xs.length - lo) (c - lo), fun w0 => ?_, ?_⟩
  · have e1 : (0 : Int) ≤ (lo : Int) := by omega
    have e2 : (lo : Int) ≤ (xs.length : Int) := by omega
    have hz := E.run_size
    simp [Instr.slice, run_underlying E.ht, Instr.sliceBounds, run_sliceBound, e1, e2, hz, Result.andThen]
  · refine ⟨if c = lo then a else a.map (·.add (lo * size)), c - lo, by rw [List.length_drop], by rw [List.length_drop]; omega, by omega, ?_, ⟨hp, hl⟩, ?_⟩
    · intro hn
      have : a = none := by
        split at hn
        · exact hn
        · simpa using hn
      obtain ⟨rfl, rfl⟩ := h5 this
      simp
    · intro x hx j u hu
      have hne : ¬ c = lo := by
        rintro rfl
        rw [List.drop_of_length_le (by omega)] at hu
        cases hu
      rw [if_neg hne] at hx
      obtain ⟨y, rfl, rfl⟩ := Option.map_eq_some_iff.1 hx
      rw [cellsOf_drop hl xs lo h2, List.getElem?_drop] at hu
      have hc := h6 y rfl _ _ hu
      have hpos : 0 < xs.length := by
        have := (List.getElem?_eq_some_iff.1 hu).1
        rw [cellsOf_length hl] at this
        rcases Nat.eq_zero_or_pos xs.length with h0 | h0
        · rw [h0] at this; omega
        · exact h0
      obtain ⟨b, o, hy, _, _⟩ := RdG.plain ⟨_, _, rfl, h3, h4, h5, ⟨hp, hl⟩, h6⟩ hpos
      cases hy
      rw [addr_plain] at hc
      rw [addr_plain, addr_plain, Nat.add_assoc]
      exact hc
theorem RdG.cut0 (E : IsElem P t e size bytes enc) {w : World} {a : Option Addr} {n c : Nat} {xs : List α} (h : RdG enc size w (.slice a n c) xs) (hi : Nat) (h2 : hi ≤ xs.length) :
    ∃ v', (∀ w0 : World, (Instr.slice t (.slice a n c) none (some (.int .i64 (hi : Int))) none).run P w0 = .ok v' w0) ∧ RdG enc size w v' (xs.take hi) := by
  obtain ⟨a', c', hv, h3, h4, h5, ⟨hp, hl⟩, h6⟩ := h
  cases hv
  refine ⟨.slice a hi c, fun w0 => ?_, ?_⟩
  · have e4 : (0 : Int) ≤ (hi : Int) := by omega
    have e3 : (hi : Int) ≤ (c : Int) := by omega
    have hz := E.run_size
    cases a <;> simp [Instr.slice, run_underlying E.ht, Instr.sliceBounds, run_sliceBound, e3, e4, hz, Result.andThen, Addr.add]
  · refine ⟨a, c, by rw [List.length_take]; congr 1; omega, by rw [List.length_take]; omega, h4, fun ha => ?_, ⟨hp, hl⟩, fun x hx j u hu => ?_⟩
    · obtain ⟨rfl, rfl⟩ := h5 ha
      simp
    · refine h6 x hx j u ?_
      rw [cellsOf_take hl xs hi h2, List.getElem?_take] at hu
      split at hu
      · exact hu
      · cases hu
/-- 'v[lo:hi:top]'. -/
theorem RdG.cut3 (E : IsElem P t e size bytes enc) {w : World} {a : Option Addr} {n c : Nat} {xs : List α} (h : RdG enc size w (.slice a n c) xs) (lo hi : Nat) (h1 : lo ≤ hi) (h2 : hi ≤ xs.length) :
    ∃ v', v' = .slice (if hi = lo then a else a.map (·.add (lo * size))) (hi - lo) (hi - lo) ∧ (∀ w0 : World, (Instr.slice t (.slice a n c) (some (.int .i64 (lo : Int))) (some (.int .i64 (hi : Int))) (some (.int .i64 (hi : Int)))).run P w0 = .ok v' w0) ∧
      RdG enc size w v' ((xs.drop lo).take (hi - lo)) := by
  obtain ⟨a', c', hv, h3, h4, h5, ⟨hp, hl⟩, h6⟩ := h
  cases hv
  refine ⟨_, rfl, fun w0 => ?_, ?_⟩
  · have e1 : (0 : Int) ≤ (lo : Int) := by omega
    have e2 : (lo : Int) ≤ (hi : Int) := by omega
    have e3 : (hi : Int) ≤ (c : Int) := by omega
    have e4 : (0 : Int) ≤ (hi : Int) := by omega
    have hz := E.run_size
    simp [Instr.slice, run_underlying E.ht, Instr.sliceBounds, run_sliceBound, e1, e2, e3, e4, hz, Result.andThen]
  · refine ⟨if hi = lo then a else a.map (·.add (lo * size)), hi - lo, by congr 1; rw [List.length_take, List.length_drop]; omega, by rw [List.length_take, List.length_drop]; omega, by omega, ?_, ⟨hp, hl⟩, ?_⟩
    · intro hn
      have : a = none := by
        split at hn
        · exact hn
        · simpa using hn
      obtain ⟨rfl, rfl⟩ := h5 this
      simp at h2
      subst h2
      simp
    · intro x hx j u hu
      have hne : ¬ hi = lo := by
        rintro rfl
        rw [Nat.sub_self, List.take_zero] at hu
        cases hu
      rw [if_neg hne] at hx
      obtain ⟨y, rfl, rfl⟩ := Option.map_eq_some_iff.1 hx
      rw [cellsOf_take hl _ _ (by rw [List.length_drop]; omega), List.getElem?_take] at hu
      split at hu
      · rw [cellsOf_drop hl xs lo (by omega), List.getElem?_drop] at hu
        have hc := h6 y rfl _ _ hu
        have hpos : 0 < xs.length := by omega
        obtain ⟨b, o, hy, _, _⟩ := RdG.plain ⟨_, _, rfl, h3, h4, h5, ⟨hp, hl⟩, h6⟩ hpos
        cases hy
        rw [addr_plain] at hc
        rw [addr_plain, addr_plain, Nat.add_assoc]
        exact hc
      · cases hu

/-- All blocks whose element type is not e are as they were. -/
def KeepsX (e : TypeId) (w w' : World) : Prop := ∀ (k : Nat), k < w.heap.size → (∀ cur fr, w.heap[k]? ≠ some (Obj.cells cur e fr)) → w'.heap[k]? = w.heap[k]?
theorem Below.keepsX {w w' : World} (h : Below w.heap.size w w') (e : TypeId) : KeepsX e w w' := fun k hk _ => h.block k hk
theorem KeepsX.trans {e : TypeId} {a b c : World} (h : KeepsX e a b) (hs : a.heap.size ≤ b.heap.size) (k : KeepsX e b c) : KeepsX e a c := fun i hi hne => by
  have h1 := h i hi hne
  rw [k i (by omega) (by intro cur fr; rw [h1]; exact hne cur fr), h1]
theorem keepsX_grown {base : Nat} {w w' : World} {v : Value} {n : Nat} {us : List Value} (ho : w.ownsRow base e size v n us) (hg : w.grownBy w' v.ownBlock) : KeepsX e w w' := by
  intro k hk hne
  rw [hg.block k hk]
  intro he
  rcases ho.2 with ⟨rfl, _⟩ | ⟨g, cap, cur', rfl, _, hh, _⟩
  · cases he
  · simp only [Value.ownBlock] at he
    cases he
    exact hne _ _ hh

section
variable {w : World} {ops : Array Oper} {rest : List Oper} {o : Oper} {a : Act} {Q : Exit → Act → World → Prop} {base : Nat} {v : Value} {ys : List α}

/-- 'out = append(out, x)', out the call's own list. -/
theorem wp_appG1 (E : IsElem P t e size bytes enc) (x : α) (hgd : o.guard = none) (s r : Operand) (ho : o.op = .call { callee := .builtin .append, args := #[s, r], argTypes := #[t, t] })
    (hs : a.eval s = v) (hown : OwnG enc e size base w v ys) (hx : a.eval r = .slice (some ⟨w.heap.size, 0, none⟩) 1 1) (hlen : ys.length ≤ 1073741824) (hb : base ≤ w.heap.size)
    (h : ∀ v' w', OwnG enc e size base w' v' (ys ++ [x]) → Below base w w' → KeepsX e w w' → (v'.ownBlock = v.ownBlock ∨ w.heap.size ≤ v'.ownBlock.getD 0) → wpList P ops Q rest (a.put o.dst v') w') :
    wpList P ops Q (o :: rest) a (w.alloc (.cells (enc x).toArray e)) := by
  obtain ⟨i0, z, hi, hz0, hz1, hz2, hz3⟩ := E.info
  refine wpList_append_own_at _ hgd s r t ho base e i0 z size bytes E.ht hi hz0 hz1 hz2 hz3 E.pos _ _ _ hs (World.ownsRow.alloc hown.1 _) ⟨w.heap.size, 0, none⟩ 1 1 (enc x) hx (by rw [E.len, Nat.one_mul]) ?_ (E.one x) ?_ ?_ ?_ ?_
  · intro j u hu
    rw [addr_plain, Nat.zero_add, World.cell?_alloc_new]
    simpa using hu
  · unfold maxLen; omega
  · have := E.fits
    calc (ys.length + 1) * bytes ≤ (1073741824 + 1) * 4096 := Nat.mul_le_mul (by omega) this
      _ ≤ 140737488355328 := by decide
  · simp; omega
  · intro v' w1 ho1 hg1 _ hat
    have hk0 : KeepsX e w (w.alloc (.cells (enc x).toArray e)) := Below.keepsX (below_fresh w _) e
    refine h v' w1 ⟨?_, hown.2⟩ (((Below.refl _ _).alloc hb _).grown hg1 (by simp; omega) (fun k hk => (World.ownsRow.lt hown.1 k hk).1)) (hk0.trans (by simp) (keepsX_grown (World.ownsRow.alloc hown.1 _) hg1)) ?_
    · rw [cellsOf_append, List.length_append]
      simpa [cellsOf] using ho1
    · rcases hat with h1 | h1
      · exact .inl h1
      · refine .inr ?_
        rw [h1]
        simp

/-- 'append(out, u...)', out the call's own list, u any list. -/
theorem wp_appGS (E : IsElem P t e size bytes enc) {u : Value} {zs : List α} (hgd : o.guard = none) (s r : Operand) (ho : o.op = .call { callee := .builtin .append, args := #[s, r], argTypes := #[t, t] })
    (hs : a.eval s = v) (hown : OwnG enc e size base w v ys) (hx : a.eval r = u) (hu : RdG enc size w u zs) (hlen : ys.length ≤ 1073741824) (hlen2 : zs.length ≤ 1073741824) (hb : base ≤ w.heap.size)
    (h : ∀ v' w', OwnG enc e size base w' v' (ys ++ zs) → Below base w w' → KeepsX e w w' → wpList P ops Q rest (a.put o.dst v') w') :
    wpList P ops Q (o :: rest) a w := by
  obtain ⟨i0, z, hi, hz0, hz1, hz2, hz3⟩ := E.info
  obtain ⟨ad, c, rfl, h1, h2, h3, hl, h4⟩ := hu
  cases ad with
  | none =>
    obtain ⟨rfl, rfl⟩ := h3 rfl
    exact wpList_append_own_none hgd s r t ho base e i0 size E.ht hi _ _ _ hs hown.1 hx (h _ _ (by rw [List.append_nil]; exact hown) (Below.refl _ _) (Below.keepsX (Below.refl _ _) e))
  | some ad =>
    refine wpList_append_own _ hgd s r t ho base e i0 z size bytes E.ht hi hz0 hz1 hz2 hz3 E.pos _ _ _ hs hown.1 ad zs.length c (cellsOf enc zs) hx (cellsOf_length E.len zs) (h4 ad rfl) (cellsOf_one E.one zs) ?_ ?_ hb ?_
    · unfold maxLen; omega
    · have := E.fits
      calc (ys.length + zs.length) * bytes ≤ (1073741824 + 1073741824) * 4096 := Nat.mul_le_mul (by omega) this
        _ ≤ 140737488355328 := by decide
    · intro v' w1 ho1 hg1 _
      refine h v' w1 ⟨?_, hown.2⟩ ((Below.refl _ _).grown hg1 hb (fun k hk => (World.ownsRow.lt hown.1 k hk).1)) (keepsX_grown hown.1 hg1)
      rw [cellsOf_append, List.length_append]
      exact ho1
end
end

theorem ret_true {p : Prop} [Decidable p] (h : p) : Ending.returned (.bool (decide p)) = Ending.returned (.bool true) := by rw [decide_eq_true h]
theorem ret_int {k : IntKind} {a b : Int} (h : a = b) : Ending.returned (.int k a) = .returned (.int k b) := by rw [h]
theorem ret_bool {a b : Bool} (h : a = b) : Ending.returned (.bool a) = .returned (.bool b) := by rw [h]
theorem vint {x y : Int} (h : x = y) : Value.int .i64 x = Value.int .i64 y := by rw [h]

/-! A region that draws its order, whose operations read and whose calls may make memory, each of one value: walked once. -/
/-- A world that keeps all that lay in w. -/
structure Later (w : World) where
  val : World
  h : Below w.heap.size w val
instance (w : World) : Inhabited (Later w) := ⟨⟨w, Below.refl _ _⟩⟩
/-- A call's contract, met in such a world. -/
theorem Calls.later {P : Program} {f : FuncId} {args : Array Value} {w : World} {v : Value} {p : Later w} (h : Calls P f args p.val fun e w' => e = .returned v ∧ Below p.val.heap.size p.val w') :
    Calls P f args p.val fun e w'' => e = .returned v ∧ ∃ q : Later w, w'' = q.val :=
  h.mono fun _ w' ⟨he, hb⟩ => ⟨he, ⟨w', bnext p.h hb⟩, rfl⟩
theorem Calls.later_same {P : Program} {f : FuncId} {args : Array Value} {w : World} {v : Value} {p : Later w} (h : Calls P f args p.val fun e w' => e = .returned v ∧ p.val = w') :
    Calls P f args p.val fun e w'' => e = .returned v ∧ ∃ q : Later w, w'' = q.val :=
  h.mono fun _ _ ⟨he, hb⟩ => ⟨he, p, hb.symm⟩
theorem wp_region_later {P : Program} {id : Nat} {Q : Exit → Act → World → Prop} {a : Act} {w : World} {l : List Oper} (hm : P.follows .mixedOrders = true) (hB : Region.lexB .any l.toArray = true)
    (h : wpQuiet P l.toArray (fun w' => ∃ p : Later w, w' = p.val) (fun a' => ∀ w', (∃ p : Later w, w' = p.val) → Q .normal a' w') l a) : (Code.region id l.toArray true).wp P Q a w :=
  wp_region_quiet (C := fun w' => ∃ p : Later w, w' = p.val) hm hB ⟨⟨w.drew, (Below.refl _ w).drew⟩, rfl⟩ (by simpa using h)

end Go.Proofs.YtkaafbdhgekeeaaGreat

namespace Go.Proofs.YtkaafbdhgekeeaaGreat.WM

/-- The base-128 groups of n, least significant first. -/
def enc (n : Nat) : List Int := if n < 128 then [(n : Int)] else ((n % 128 + 128 : Nat) : Int) :: enc (n / 128)
termination_by n
decreasing_by omega

theorem enc_small {n : Nat} (h : n < 128) : enc n = [(n : Int)] := by rw [enc, if_pos h]
theorem enc_big {n : Nat} (h : ¬ n < 128) : enc n = ((n % 128 + 128 : Nat) : Int) :: enc (n / 128) := by rw [enc, if_neg h]

/-- P1.2 read off a list of bytes, from index i on, v being gathered: (value, bytes consumed, error). -/
def dec (i : Nat) (v : Int) : List Int → Int × Int × Int
  | [] => (0, 0, 1)
  | c :: r => if i = 9 ∧ 1 < c then (0, 0, 9) else if c < 128 then (if c = 0 ∧ 0 < i then (0, 0, 2) else (v + c * 128 ^ i, i + 1, 0)) else dec (i + 1) (v + (c - 128) * 128 ^ i) r

def isByte (c : Int) : Prop := 0 ≤ c ∧ c < 256
def Bytes (xs : List Int) : Prop := ∀ c ∈ xs, isByte c

theorem enc_bytes (n : Nat) : Bytes (enc n) := by
  induction n using Nat.strongRecOn with
  | _ n ih =>
    intro c hc
    by_cases h : n < 128
    · rw [enc_small h] at hc; simp at hc; subst hc; unfold isByte; omega
    · rw [enc_big h] at hc
      rcases List.mem_cons.1 hc with rfl | hc
      · unfold isByte; omega
      · exact ih (n / 128) (by omega) c hc

theorem enc_pos (n : Nat) : 1 ≤ (enc n).length := by
  by_cases h : n < 128
  · rw [enc_small h]; simp
  · rw [enc_big h]; simp

theorem enc_len (k n : Nat) (h : n < 128 ^ (k + 1)) : (enc n).length ≤ k + 1 := by
  induction k generalizing n with
  | zero => rw [enc_small (by simpa using h)]; simp
  | succ k ih =>
    by_cases h1 : n < 128
    · rw [enc_small h1]; simp
    · rw [enc_big h1]
      have := ih (n / 128) (by rw [Nat.div_lt_iff_lt_mul (by omega)]; rw [Nat.pow_succ] at h; exact h)
      simp; omega

theorem enc_len10 (n : Nat) (h : n < 18446744073709551616) : (enc n).length ≤ 10 := enc_len 9 n (by omega)

theorem enc_mono (m n : Nat) (h : m ≤ n) : (enc m).length ≤ (enc n).length := by
  induction n using Nat.strongRecOn generalizing m with
  | _ n ih =>
    by_cases h1 : m < 128
    · rw [enc_small h1]; have := enc_pos n; simpa using this
    · have h2 : ¬ n < 128 := by omega
      rw [enc_big h1, enc_big h2]
      have := ih (n / 128) (by omega) (m / 128) (by omega)
      simpa using this

theorem pow_step (i : Nat) : (128 : Int) ^ (i + 1) = 128 * 128 ^ i := by rw [Int.pow_succ]; omega
theorem pow_pos' (i : Nat) : 0 < (128 : Nat) ^ i := Nat.pow_pos (by omega)

/-- What is encoded is decoded, whatever follows. -/
theorem dec_enc (n : Nat) : ∀ (i : Nat) (v : Int) (tail : List Int), i ≤ 9 → n * 128 ^ i < 18446744073709551616 → (0 < i → 0 < n) →
    dec i v (enc n ++ tail) = (v + n * 128 ^ i, ((i + (enc n).length : Nat) : Int), 0) := by
  induction n using Nat.strongRecOn with
  | _ n ih =>
    intro i v tail hi hb hp
    have hpi := pow_pos' i
    have hi9 : i = 9 → n < 2 := by
      rintro rfl
      have e : (128 : Nat) ^ 9 = 9223372036854775808 := by simp
      rw [e] at hb
      omega
    by_cases h : n < 128
    · rw [enc_small h]
      simp only [List.cons_append, List.nil_append, dec]
      rw [if_neg (by rintro ⟨h1, h2⟩; have := hi9 h1; omega), if_pos (by omega), if_neg (by rintro ⟨h1, h2⟩; have := hp h2; omega)]
      simp
    · have hi' : i ≠ 9 := fun e => by have := hi9 e; omega
      rw [enc_big h]
      simp only [List.cons_append, dec]
      rw [if_neg (by rintro ⟨h1, _⟩; exact hi' h1), if_neg (by omega)]
      have hle : n / 128 * 128 ^ (i + 1) ≤ n * 128 ^ i := by
        rw [Nat.pow_succ, Nat.mul_comm (128 ^ i) 128, ← Nat.mul_assoc]
        exact Nat.mul_le_mul_right _ (Nat.div_mul_le_self n 128)
      rw [ih (n / 128) (by omega) (i + 1) _ tail (by omega) (by omega) (by omega)]
      have e : ((n % 128 + 128 : Nat) : Int) - 128 = (n % 128 : Nat) := by omega
      have e2 : (n : Int) = 128 * ((n / 128 : Nat) : Int) + ((n % 128 : Nat) : Int) := by omega
      rw [e, pow_step]
      simp only [Prod.mk.injEq, List.length_cons, and_true]
      refine ⟨?_, by push_cast; omega⟩
      rw [e2]
      generalize ((n / 128 : Nat) : Int) = q
      generalize ((n % 128 : Nat) : Int) = r
      generalize (128 : Int) ^ i = p
      have h1 : q * (128 * p) = 128 * q * p := by rw [← Int.mul_assoc, Int.mul_comm q 128]
      rw [h1, Int.add_mul]
      omega

/-- What is accepted is the encoding of what comes out. -/
theorem dec_ok : ∀ (xs : List Int) (i : Nat) (v u n : Int), i ≤ 9 → Bytes xs → dec i v xs = (u, n, 0) →
    ∃ m : Nat, u = v + m * 128 ^ i ∧ m < 2 ^ (64 - 7 * i) ∧ n = i + (enc m).length ∧ (enc m).length ≤ xs.length ∧ xs.take (enc m).length = enc m ∧ (0 < i → 0 < m)
  | [], i, v, u, n, _, _, h => by simp [dec] at h
  | c :: r, i, v, u, n, hi, hb, h => by
    have hc : isByte c := hb c (by simp)
    unfold isByte at hc
    unfold dec at h
    by_cases h1 : i = 9 ∧ 1 < c
    · rw [if_pos h1] at h; simp at h
    rw [if_neg h1] at h
    obtain ⟨q, rfl⟩ := Int.eq_ofNat_of_zero_le hc.1
    by_cases h2 : (q : Int) < 128
    · rw [if_pos h2] at h
      by_cases h3 : (q : Int) = 0 ∧ 0 < i
      · rw [if_pos h3] at h; simp at h
      rw [if_neg h3] at h
      simp only [Prod.mk.injEq, and_true] at h
      have hq : q < 128 := by omega
      refine ⟨q, h.1.symm, ?_, ?_, ?_, ?_, ?_⟩
      · by_cases h9 : i = 9
        · subst h9; have : q ≤ 1 := by omega
          have : (2 : Nat) ^ (64 - 7 * 9) = 2 := by simp
          omega
        · have : (2 : Nat) ^ 7 ≤ 2 ^ (64 - 7 * i) := Nat.pow_le_pow_right (by omega) (by omega)
          omega
      · rw [enc_small hq]; simp; omega
      · rw [enc_small hq]; simp
      · rw [enc_small hq]; simp
      · intro h0; omega
    · rw [if_neg h2] at h
      have h9 : i ≠ 9 := by intro e; exact h1 ⟨e, by omega⟩
      obtain ⟨m, hu, hlt, hn, hl, ht, hm⟩ := dec_ok r (i + 1) _ u n (by omega) (fun c hc => hb c (by simp [hc])) h
      have hm' := hm (by omega)
      have hq : q - 128 < 128 := by omega
      have hbig : ¬ (m * 128 + (q - 128)) < 128 := by omega
      have hd : (m * 128 + (q - 128)) / 128 = m := by omega
      have hr : (m * 128 + (q - 128)) % 128 + 128 = q := by omega
      refine ⟨m * 128 + (q - 128), ?_, ?_, ?_, ?_, ?_, fun _ => by omega⟩
      · rw [hu, pow_step]
        have e : ((m * 128 + (q - 128) : Nat) : Int) = m * 128 + ((q : Int) - 128) := by omega
        rw [e]
        generalize (128 : Int) ^ i = p
        have h1 : (m : Int) * (128 * p) = m * 128 * p := by rw [Int.mul_assoc]
        rw [h1, Int.add_mul]
        omega
      · have e1 : 64 - 7 * i = (64 - 7 * (i + 1)) + 7 := by omega
        rw [e1, Nat.pow_add]
        generalize 2 ^ (64 - 7 * (i + 1)) = z at hlt
        omega
      · rw [enc_big hbig, hd, hn]; simp; omega
      · rw [enc_big hbig, hd]; simp; exact hl
      · rw [enc_big hbig, hd, hr]; simp; exact ht

theorem dec_cases : ∀ (xs : List Int) (i : Nat) (v : Int), (∃ e : Int, (e = 1 ∨ e = 2 ∨ e = 9) ∧ dec i v xs = (0, 0, e)) ∨ ∃ u n, dec i v xs = (u, n, 0)
  | [], i, v => .inl ⟨1, .inl rfl, rfl⟩
  | c :: r, i, v => by
    unfold dec
    by_cases h1 : i = 9 ∧ 1 < c
    · rw [if_pos h1]; exact .inl ⟨9, .inr (.inr rfl), rfl⟩
    rw [if_neg h1]
    by_cases h2 : c < 128
    · rw [if_pos h2]
      by_cases h3 : c = 0 ∧ 0 < i
      · rw [if_pos h3]; exact .inl ⟨2, .inr (.inl rfl), rfl⟩
      · rw [if_neg h3]; exact .inr ⟨_, _, rfl⟩
    · rw [if_neg h2]; exact dec_cases r (i + 1) _

/-- An error with zeros, or the number whose encoding stands at the beginning. -/
theorem dec_two (xs : List Int) (hb : Bytes xs) : (∃ e : Int, (e = 1 ∨ e = 2 ∨ e = 9) ∧ dec 0 0 xs = (0, 0, e)) ∨
    ∃ m : Nat, m < 18446744073709551616 ∧ dec 0 0 xs = ((m : Int), ((enc m).length : Int), 0) ∧ (enc m).length ≤ xs.length ∧ xs.take (enc m).length = enc m := by
  rcases dec_cases xs 0 0 with h | ⟨u, n, h⟩
  · exact .inl h
  · obtain ⟨m, hu, hm, hn, hl, ht, _⟩ := dec_ok xs 0 0 u n (by omega) hb h
    refine .inr ⟨m, by simpa using hm, ?_, hl, ht⟩
    rw [h, hu, hn]; simp

theorem dec_enc0 (n : Nat) (tail : List Int) (h : n < 18446744073709551616) : dec 0 0 (enc n ++ tail) = ((n : Int), ((enc n).length : Int), 0) := by
  rw [dec_enc n 0 0 tail (by omega) (by simpa using h) (by omega)]; simp

/-- P1.3: the zigzag number. -/
def zig (v : Int) : Nat := (if 0 ≤ v then 2 * v else -2 * v - 1).toNat
def zag (u : Int) : Int := if u % 2 = 0 then u / 2 else -(u / 2) - 1
theorem zag_zig (v : Int) : zag (zig v) = v := by
  unfold zag zig
  by_cases h : 0 ≤ v
  · rw [if_pos h]; split <;> omega
  · rw [if_neg h]; split <;> omega
theorem zig_lt (v : Int) (h1 : -9223372036854775808 ≤ v) (h2 : v ≤ 9223372036854775807) : zig v < 18446744073709551616 := by
  unfold zig; split <;> omega

end Go.Proofs.YtkaafbdhgekeeaaGreat.WM

namespace Go.Proofs.YtkaafbdhgekeeaaGreat
open Go.RowKit
open WM (Bytes)

theorem infoU8 : (Tryz.prog.info? 5).map (fun i => (i.zero, i.size, i.bytes)) = some (some (.int .u8 0), 1, 1) := by kernel_rfl

/-- The slice value v reads in w as the bytes xs. -/
def Rd (w : World) (v : Value) (xs : List Int) : Prop :=
  ∃ a n c, v = .slice a n c ∧ xs.length = n ∧ n ≤ c ∧ c ≤ maxLen ∧ (a = none → n = 0 ∧ c = 0) ∧
    (∀ x, a = some x → ∀ i, i < n → w.cell? (x.add i) = some (.int .u8 (xs.getD i 0))) ∧ Bytes xs

/-- The slice value v holds the bytes xs in memory of the call's own (blocks from 'base' on). -/
def Own (base : Nat) (w : World) (v : Value) (xs : List Int) : Prop := w.ownsRow base 5 1 v xs.length (xs.map (Value.int .u8)) ∧ Bytes xs

theorem Rd.bytes {w : World} {v : Value} {xs : List Int} (h : Rd w v xs) : Bytes xs := by
  obtain ⟨_, _, _, _, _, _, _, _, _, h⟩ := h; exact h

theorem Rd.nil (w : World) : Rd w (.slice none 0 0) [] := ⟨none, 0, 0, rfl, rfl, Nat.le_refl _, Nat.zero_le _, (fun _ => ⟨rfl, rfl⟩), (fun _ h => by cases h), (fun _ h => by cases h)⟩

/-- What reads in a world reads the same in a later one that keeps all older blocks. -/
theorem Rd.below {w w' : World} {v : Value} {xs : List Int} (h : Rd w v xs) (hb : Below w.heap.size w w') : Rd w' v xs := by
  obtain ⟨a, n, c, rfl, h1, h2, h3, h4, h5, h6⟩ := h
  refine ⟨a, n, c, rfl, h1, h2, h3, h4, fun x hx i hi => ?_, h6⟩
  have hc := h5 x hx i hi
  rw [hb.cell (World.block_lt_of_cell? w _ hc)]
  exact hc

theorem Own.rd {base : Nat} {w : World} {v : Value} {xs : List Int} (h : Own base w v xs) : Rd w v xs := by
  obtain ⟨⟨hl, h⟩, hb⟩ := h
  have ho : w.ownsRow base 5 1 v xs.length (xs.map (Value.int .u8)) := ⟨hl, h⟩
  rcases h with ⟨rfl, h0⟩ | ⟨g, cap, cur, rfl, hg, hh, hn, hm, hs, ht⟩
  · obtain rfl : xs = [] := List.eq_nil_of_length_eq_zero h0
    exact Rd.nil w
  · refine ⟨_, _, _, rfl, rfl, hn, hm, fun h => (by cases h), fun x hx i hi => ?_, hb⟩
    cases hx
    refine ho.cells (g := g) rfl i _ ?_
    simp [List.getD, List.getElem?_eq_getElem hi]

/-- The call's own bytes stay so while no block from 'base' on is written but new ones. -/
theorem Own.below {base : Nat} {w w' : World} {v : Value} {xs : List Int} (h : Own base w v xs) (hb : Below w.heap.size w w') : Own base w' v xs := by
  obtain ⟨h, hx⟩ := h
  refine ⟨h.kept (row := none) ⟨hb.os, hb.tape, hb.output, hb.size, fun k hk _ => hb.block k hk⟩ (by cases v.ownBlock <;> simp), hx⟩

theorem Own.mono {base base' : Nat} {w : World} {v : Value} {xs : List Int} (h : Own base w v xs) (hle : base' ≤ base) : Own base' w v xs := by
  obtain ⟨⟨hl, h⟩, hx⟩ := h
  refine ⟨⟨hl, ?_⟩, hx⟩
  rcases h with h | ⟨g, cap, cur, hv, hg, r⟩
  · exact .inl h
  · exact .inr ⟨g, cap, cur, hv, Nat.le_trans hle hg, r⟩


/-- The two shapes in which a walk takes a slice of bytes: none at all, or some at a plain address. -/
theorem Rd.cases {w : World} {v : Value} {xs : List Int} (h : Rd w v xs) :
    (xs = [] ∧ ∃ a c, v = .slice a 0 c ∧ c ≤ maxLen ∧ (a = none → c = 0)) ∨
    (0 < xs.length ∧ ∃ b off c, v = .slice (some ⟨b, off, none⟩) xs.length c ∧ xs.length ≤ c ∧ c ≤ maxLen ∧ b < w.heap.size ∧ (∀ i, i < xs.length → w.cell? ⟨b, off + i, none⟩ = some (.int .u8 (xs.getD i 0)))) := by
  obtain ⟨a, n, c, rfl, h1, h2, h3, h4, h5, h6⟩ := h
  subst h1
  by_cases h0 : xs = []
  · subst h0
    exact .inl ⟨rfl, a, c, rfl, h3, fun h => (h4 h).2⟩
  · have hp : 0 < xs.length := List.length_pos_iff.2 h0
    cases a with
    | none => have := (h4 rfl).1; omega
    | some x =>
      obtain ⟨b, off, spot⟩ := x
      have hc := h5 _ rfl 0 hp
      have hspot : spot = none := by simpa [Addr.add] using World.cell?_spot hc
      subst hspot
      have hlt := World.block_lt_of_cell? w _ hc
      refine .inr ⟨hp, b, off, c, rfl, h2, h3, by simpa [Addr.add] using hlt, fun i hi => ?_⟩
      have := h5 _ rfl i hi
      rw [addr_plain] at this
      exact this

theorem Bytes.append {xs ys : List Int} (h : Bytes xs) (k : Bytes ys) : Bytes (xs ++ ys) := fun c hc => (List.mem_append.1 hc).elim (h c) (k c)

/-- 'string(b)'. -/
theorem Rd.str {w : World} {v : Value} {xs : List Int} (h : Rd w v xs) : (convert 54 9 v).run Tryz.prog w = .ok (.string (strOfNums xs)) w := by
  rcases h.cases with ⟨rfl, a, c, rfl, _, hn⟩ | ⟨_, b, off, c, rfl, _, _, _, hc⟩
  · cases a with
    | none => rw [run_convert_bytes_nil w _ _ Tryz.underlying54 Tryz.underlying5 0 c _ Tryz.underlying9]; rfl
    | some x =>
      rw [run_convert_bytes_string w _ _ _ _ 0 c Tryz.underlying54 Tryz.underlying5 Tryz.underlying9]
      have := run_bytesToString (P := Tryz.prog) w x 0 c [] (run_loadCells_list (P := Tryz.prog) w x [] (fun j v hj => by rw [List.getElem?_nil] at hj; cases hj))
      rw [this]; rfl
  · exact run_convert_bytes_arg w _ _ Tryz.underlying54 Tryz.underlying5 b off xs.length c xs rfl hc _ Tryz.underlying9

theorem run_sizeU8 (w : World) : Sem.run Tryz.prog (Go.sizeOf 5) w = .ok 1 w := by
  obtain ⟨i0, hi, hz0, hz1, hz2⟩ := info_parts infoU8
  simp [Go.sizeOf, typeInfo, hi, hz1]

/-- 'b[lo:hi]': one run equation, and what it reads as. -/
theorem Rd.cut {w : World} {a : Option Addr} {n c : Nat} {xs : List Int} (h : Rd w (.slice a n c) xs) (lo hi : Nat) (h1 : lo ≤ hi) (h2 : hi ≤ xs.length) :
    ∃ v', v' = .slice (if c = lo then a else a.map (·.add lo)) (hi - lo) (c - lo) ∧ (∀ w0 : World, (Instr.slice 54 (.slice a n c) (some (.int .i64 (lo : Int))) (some (.int .i64 (hi : Int))) none).run Tryz.prog w0 = .ok v' w0) ∧
      Rd w v' ((xs.drop lo).take (hi - lo)) := by
  obtain ⟨a', n', c', hv, h3, h4, h5, h6, h7, h8⟩ := h
  cases hv
  refine ⟨_, rfl, fun w0 => ?_, ?_⟩
  · have e1 : (0 : Int) ≤ (lo : Int) := by omega
    have e2 : (lo : Int) ≤ (hi : Int) := by omega
    have e3 : (hi : Int) ≤ (c : Int) := by omega
    have e4 : (0 : Int) ≤ (hi : Int) := by omega
    have hz := fun w => run_sizeU8 w
    simp [Instr.slice, run_underlying Tryz.underlying54, Instr.sliceBounds, run_sliceBound, e1, e2, e3, e4, hz, Result.andThen]
  · refine ⟨_, hi - lo, c - lo, rfl, ?_, by omega, by omega, ?_, ?_, ?_⟩
    · rw [List.length_take, List.length_drop]; omega
    · intro hn
      have : a = none := by
        split at hn
        · exact hn
        · simpa using hn
      have := h6 this
      omega
    · intro x hx i hi'
      have hne : ¬ c = lo := by omega
      rw [if_neg hne] at hx
      obtain ⟨y, rfl, rfl⟩ := Option.map_eq_some_iff.1 hx
      have hadd : (y.add lo).add i = y.add (lo + i) := by
        have hc := h7 y rfl 0 (by omega)
        have hsp : (y.add 0) = y := by simp [Addr.add]
        rw [hsp] at hc
        have hspot : y.spot = none := World.cell?_spot hc
        obtain ⟨b, off, spot⟩ := y
        simp only at hspot
        subst hspot
        rw [addr_plain, addr_plain, addr_plain, Nat.add_assoc]
      rw [hadd, h7 y rfl (lo + i) (by omega)]
      congr 2
      simp [List.getD, List.getElem?_drop, hi']
    · intro q hq
      exact h8 q (List.mem_of_mem_drop (List.mem_of_mem_take hq))

/-- The bytes of a string, as numbers. -/
def nums (s : ByteArray) : List Int := s.data.toList.map fun b => (b.toNat : Int)
theorem nums_length (s : ByteArray) : (nums s).length = s.size := by rw [nums, List.length_map]; exact Array.length_toList
theorem nums_bytes (s : ByteArray) : Bytes (nums s) := by
  intro c hc
  obtain ⟨b, _, rfl⟩ := List.mem_map.1 hc
  have := b.toNat_lt
  unfold WM.isByte; omega
theorem strOfNums_nums (s : ByteArray) : strOfNums (nums s) = s := by
  cases s with
  | mk data =>
    simp only [strOfNums, nums, List.map_map]
    congr 1
    apply Array.ext'
    show List.map _ data.toList = data.toList
    conv => rhs; rw [← List.map_id data.toList]
    apply List.map_congr_left
    intro b _
    simp

section
variable {w : World} {ops : Array Oper} {rest : List Oper} {o : Oper} {a : Act} {Q : Exit → Act → World → Prop} {base : Nat} {v : Value} {ys : List Int}

/-- 'out = append(out, y)', out the call's own bytes. -/
theorem wp_app1 {y : Int} (hgd : o.guard = none) (s x : Operand) (ho : o.op = .call { callee := .builtin .append, args := #[s, x], argTypes := #[54, 54] })
    (hs : a.eval s = v) (hown : Own base w v ys) (hx : a.eval x = .slice (some ⟨w.heap.size, 0, none⟩) 1 1) (hy : WM.isByte y) (hlen : ys.length ≤ 70368744177664) (hb : base ≤ w.heap.size)
    (h : ∀ v' w', Own base w' v' (ys ++ [y]) → Below base w w' → wpList Tryz.prog ops Q rest (a.put o.dst v') w') :
    wpList Tryz.prog ops Q (o :: rest) a (w.alloc (.cells #[.int .u8 y] 5)) := by
  obtain ⟨i0, hi, hz0, hz1, hz2⟩ := info_parts infoU8
  refine wpList_append_own _ hgd s x 54 ho base 5 i0 (.int .u8 0) 1 1 Tryz.underlying54 hi hz0 hz1 hz2 rfl (by decide) _ _ _ hs (hown.1.alloc _) ⟨w.heap.size, 0, none⟩ 1 1 [.int .u8 y] hx rfl (cell_one_new _ _ _) ?_ ?_ ?_ ?_ ?_
  · intro u hu; simp at hu; subst hu; rfl
  · unfold maxLen; omega
  · omega
  · simp; omega
  · intro v' w1 ho1 hg1 _
    refine h v' w1 ⟨by simpa using ho1, Bytes.append hown.2 (fun c hc => by simp at hc; subst hc; exact hy)⟩ (((Below.refl _ _).alloc hb _).grown hg1 (by simp; omega) (fun k hk => (hown.1.lt k hk).1))

/-- 'append(out, b...)', out the call's own bytes, b any slice of bytes. -/
theorem wp_appS {u : Value} {zs : List Int} (hgd : o.guard = none) (s x : Operand) (ho : o.op = .call { callee := .builtin .append, args := #[s, x], argTypes := #[54, 54] })
    (hs : a.eval s = v) (hown : Own base w v ys) (hx : a.eval x = u) (hu : Rd w u zs) (hlen : ys.length ≤ 35184372088832) (hlen2 : zs.length ≤ 35184372088832) (hb : base ≤ w.heap.size)
    (h : ∀ v' w', Own base w' v' (ys ++ zs) → Below base w w' → wpList Tryz.prog ops Q rest (a.put o.dst v') w') :
    wpList Tryz.prog ops Q (o :: rest) a w := by
  obtain ⟨i0, hi, hz0, hz1, hz2⟩ := info_parts infoU8
  have hzb := hu.bytes
  obtain ⟨ad, n, c, rfl, h1, h2, h3, h4, h5, h6⟩ := hu
  subst h1
  cases ad with
  | none =>
    obtain ⟨h0, rfl⟩ := h4 rfl
    obtain rfl : zs = [] := List.eq_nil_of_length_eq_zero h0
    exact wpList_append_own_none hgd s x 54 ho base 5 i0 1 Tryz.underlying54 hi _ _ _ hs hown.1 hx (h _ _ (by simpa using hown) (Below.refl _ _))
  | some ad =>
    refine wpList_append_own _ hgd s x 54 ho base 5 i0 (.int .u8 0) 1 1 Tryz.underlying54 hi hz0 hz1 hz2 rfl (by decide) _ _ _ hs hown.1 ad zs.length c (zs.map (Value.int .u8)) hx (by simp) ?_ (ints_oneCell _ _) ?_ ?_ hb ?_
    · intro j u hj
      have hjn : j < zs.length := by
        have := (List.getElem?_eq_some_iff.1 hj).1
        simpa using this
      rw [h5 ad rfl j hjn]
      simp [List.getElem?_eq_getElem hjn] at hj
      simp [List.getD, List.getElem?_eq_getElem hjn, hj]
    · unfold maxLen; omega
    · omega
    · intro v' w1 ho1 hg1 _
      exact h v' w1 ⟨by simpa using ho1, Bytes.append hown.2 hzb⟩ ((Below.refl _ _).grown hg1 hb (fun k hk => (hown.1.lt k hk).1))
end

theorem own_empty (w : World) : Own w.heap.size (w.alloc (.cells #[] 5)) (.slice (some ⟨w.heap.size, 0, none⟩) 0 0) [] := ⟨World.ownsRow_made w #[] 0 (Nat.le_refl _) (Nat.zero_le _) rfl, fun _ h => by cases h⟩
theorem below_empty (w : World) : Below w.heap.size w (w.alloc (.cells #[] 5)) := (Below.refl _ w).alloc (Nat.le_refl _) _
theorem Rd.shape {w : World} {v : Value} {xs : List Int} (h : Rd w v xs) : ∃ a c, v = .slice a xs.length c ∧ c ≤ 9223372036854775807 := by
  obtain ⟨a, n, c, rfl, hn, _, hcm, _⟩ := h
  subst hn
  unfold maxLen at hcm
  exact ⟨a, c, rfl, by omega⟩

/-- What a shell tells of a slice of bytes that came in. -/
theorem rd_row {w : World} {a : Option Addr} {len cap : Nat} {zs : List Int}
    (h : (a = none ∧ len = 0 ∧ cap = 0 ∧ zs = []) ∨ ∃ x, a = some x ∧ len ≤ cap ∧ cap ≤ maxLen ∧ zs.length = cap ∧ (∀ i, i < zs.length → w.cell? (x.add i) = some (.int .u8 (zs.getD i 0))) ∧ ∀ n ∈ zs, (Lit.int .u8 n).wf = true) :
    Rd w (.slice a len cap) (zs.take len) := by
  rcases h with ⟨rfl, rfl, rfl, rfl⟩ | ⟨x, rfl, h1, h2, h3, h4, h5⟩
  · exact Rd.nil w
  · refine ⟨_, _, _, rfl, by rw [List.length_take]; omega, h1, h2, fun h => (by cases h), fun y hy i hi => ?_, fun c hc => ?_⟩
    · cases hy
      rw [h4 i (by omega)]
      congr 2
      simp [List.getD, hi]
    · have := bounds_u8 (h5 c (List.mem_of_mem_take hc))
      unfold WM.isByte; omega

theorem u64_nat {x : Int} (h : (Lit.int .u64 x).wf = true) : ∃ n : Nat, x = n ∧ n < 18446744073709551616 := by
  have := bounds_u64 h
  obtain ⟨n, rfl⟩ := Int.eq_ofNat_of_zero_le this.1
  exact ⟨n, rfl, by omega⟩

theorem u8_nat {x : Int} (h : (Lit.int .u8 x).wf = true) : ∃ n : Nat, x = n ∧ n < 256 := by
  have := bounds_u8 h
  obtain ⟨n, rfl⟩ := Int.eq_ofNat_of_zero_le this.1
  exact ⟨n, rfl, by omega⟩
theorem u16_nat {x : Int} (h : (Lit.int .u16 x).wf = true) : ∃ n : Nat, x = n ∧ n < 65536 := by
  have := bounds_u16 h
  obtain ⟨n, rfl⟩ := Int.eq_ofNat_of_zero_le this.1
  exact ⟨n, rfl, by omega⟩

/-- 'b[:hi]': one run equation, and what it reads as. -/
theorem Rd.cut0 {w : World} {a : Option Addr} {n c : Nat} {xs : List Int} (h : Rd w (.slice a n c) xs) (hi : Nat) (h2 : hi ≤ xs.length) :
    ∃ v', (∀ w0 : World, (Instr.slice 54 (.slice a n c) none (some (.int .i64 (hi : Int))) none).run Tryz.prog w0 = .ok v' w0) ∧ Rd w v' (xs.take hi) := by
  obtain ⟨v', hv', hsl, hrd⟩ := h.cut 0 hi (by omega) h2
  refine ⟨v', fun w0 => ?_, by simpa using hrd⟩
  rw [← hsl w0]
  have e4 : (0 : Int) ≤ (hi : Int) := by omega
  have e3 : (hi : Int) ≤ (c : Int) := by
    obtain ⟨a', n', c', hv, h3, h4, _⟩ := h
    cases hv
    omega
  have hz := fun w => run_sizeU8 w
  simp [Instr.slice, run_underlying Tryz.underlying54, Instr.sliceBounds, run_sliceBound, e3, e4, hz, Result.andThen]

/-- 'x[k]' of a slice of one-cell elements that came in: where the index leads, and what is there. -/
theorem index_of {w : World} {t e : TypeId} {a : Option Addr} {n c : Nat} {f : Nat → Value} (ht : Tryz.prog.underlying t = some (.slice e)) (hs : ∀ w, Sem.run Tryz.prog (Go.sizeOf e) w = .ok 1 w)
    (hn : a = none → n = 0) (hc : ∀ x, a = some x → ∀ i, i < n → w.cell? (x.add i) = some (f i)) (k : Nat) (hk : k < n) :
    ∃ p, (∀ w0, (Instr.indexAt t (.slice a n c) (.int .i64 (k : Int))).run Tryz.prog w0 = .ok (.pointer (some p)) w0) ∧ w.cell? p = some (f k) := by
  cases a with
  | none => have := hn rfl; omega
  | some x =>
    refine ⟨x.add k, fun w0 => ?_, hc x rfl k hk⟩
    have h1 : (0 : Int) ≤ (k : Int) := by omega
    have h2 : (k : Int) < (n : Int) := by omega
    have h3 : ¬ n ≤ k := by omega
    simp [Instr.indexAt, asIntOf, run_underlying ht, h1, hs, Result.andThen]
    intro h4
    exact absurd h4 h3

theorem run_size {e : TypeId} {z : Value} {b : Nat} (h : (Tryz.prog.info? e).map (fun i => (i.zero, i.size, i.bytes)) = some (some z, 1, b)) (w : World) : Sem.run Tryz.prog (Go.sizeOf e) w = .ok 1 w := by
  obtain ⟨i0, hi, hz0, hz1, hz2⟩ := info_parts h
  simp [Go.sizeOf, typeInfo, hi, hz1]
/-- 'b[lo:]': one run equation, and what it reads as. -/
theorem Rd.cutL {w : World} {a : Option Addr} {c : Nat} {xs : List Int} (h : Rd w (.slice a xs.length c) xs) (lo : Nat) (h2 : lo ≤ xs.length) :
    ∃ v', (∀ w0 : World, (Instr.slice 54 (.slice a xs.length c) (some (.int .i64 (lo : Int))) none none).run Tryz.prog w0 = .ok v' w0) ∧ Rd w v' (xs.drop lo) := by
  obtain ⟨v', hv', hsl, hrd⟩ := h.cut lo xs.length h2 (Nat.le_refl _)
  refine ⟨v', fun w0 => ?_, by rw [← List.length_drop, List.take_length] at hrd; exact hrd⟩
  rw [hv']
  have e1 : (0 : Int) ≤ (lo : Int) := by omega
  have e2 : (lo : Int) ≤ (xs.length : Int) := by omega
  have hz := fun w => run_sizeU8 w
  simp [Instr.slice, run_underlying Tryz.underlying54, Instr.sliceBounds, run_sliceBound, e1, e2, hz, Result.andThen]

theorem cell_at {xs : List Int} {w : World} {b off k : Nat} (h : Bytes xs) (hc : ∀ i, i < xs.length → w.cell? ⟨b, off + i, none⟩ = some (.int .u8 (xs.getD i 0))) (hk : k < xs.length) :
    ∃ y : Nat, w.cell? ⟨b, off + k, none⟩ = some (.int .u8 (y : Int)) ∧ y < 256 ∧ Hid (xs.drop k = (y : Int) :: xs.drop (k + 1)) := by
  have h1 : xs.getD k 0 = xs[k] := by simp [List.getD, List.getElem?_eq_getElem hk]
  have h2 := h _ (List.getElem_mem hk)
  unfold WM.isByte at h2
  obtain ⟨y, hy⟩ := Int.eq_ofNat_of_zero_le h2.1
  refine ⟨y, by rw [← hy, ← h1]; exact hc k hk, by omega, ?_⟩
  show _ = _
  rw [← hy]
  exact List.drop_eq_getElem_cons hk

/-- A row that is made out of the values at hand. -/
theorem own_fresh (w : World) (us : List Value) (e : TypeId) (h : us.length ≤ maxLen) : (w.alloc (.cells us.toArray e)).ownsRow w.heap.size e 1 (.slice (some ⟨w.heap.size, 0, none⟩) us.length us.length) us.length us :=
  ⟨by simp, .inr ⟨w.heap.size, us.length, us.toArray, rfl, Nat.le_refl _, heap_alloc_new w _, Nat.le_refl _, h, by simp, by simp⟩⟩

end Go.Proofs.YtkaafbdhgekeeaaGreat
