/-
  Vectors in memory: when a slice value reads as a list of an author and a count; what the call's own vector is; an index, a cut, an append. No conditions beyond those that each lemma names.
-/
import Derived.Test.YtacbpphhkkmelaaProg
import Derived.Test.YtacbpphhkkmelaaVecMath
import Derived.WalkKit
import Derived.ProofKit
import Derived.OpenShut
import Derived.ShutString
import Derived.ChangeOld
import Derived.Below
import Derived.WalkSpells
import Derived.WalkLawsBesides
import Derived.Laws.AppendOwnNone
import Derived.Lib.Hide
import Derived.Lib.SliceRun
import Derived.Handy
import Derived.OneCell
import Derived.BigQuiet
namespace Go.Proofs.Ytacbpphhkkmelaa.VX
open Go.RowKit
open VM (Ent)

theorem infoEnt : (Try.prog.info? 68).map (fun i => (i.zero, i.size, i.bytes)) = some (some (.agg #[.int .i64 0, .int .i64 0]), 2, 16) := by kernel_rfl

/-- The cells of a vector. -/
def ents : List Ent → List Value
  | [] => []
  | e :: v => .int .i64 e.1 :: .int .i64 e.2 :: ents v

theorem ents_length (xs : List Ent) : (ents xs).length = xs.length * 2 := by
  induction xs with
  | nil => rfl
  | cons e v ih => simp only [ents, List.length_cons, ih]; omega
theorem ents_append (xs ys : List Ent) : ents (xs ++ ys) = ents xs ++ ents ys := by
  induction xs with
  | nil => rfl
  | cons e v ih => simp only [ents, List.cons_append, ih]
theorem ents_even (xs : List Ent) : ∀ i : Nat, (ents xs)[i * 2]? = xs[i]?.map fun e => .int .i64 e.1 := by
  induction xs with
  | nil => intro i; simp [ents]
  | cons e v ih =>
    intro i
    cases i with
    | zero => rfl
    | succ i => rw [show (i + 1) * 2 = i * 2 + 1 + 1 by omega]; simp only [ents, List.getElem?_cons_succ]; exact ih i
theorem ents_odd (xs : List Ent) : ∀ i : Nat, (ents xs)[i * 2 + 1]? = xs[i]?.map fun e => .int .i64 e.2 := by
  induction xs with
  | nil => intro i; simp [ents]
  | cons e v ih =>
    intro i
    cases i with
    | zero => rfl
    | succ i => rw [show (i + 1) * 2 + 1 = i * 2 + 1 + 1 + 1 by omega]; simp only [ents, List.getElem?_cons_succ]; exact ih i
theorem ents_one (xs : List Ent) : ∀ u ∈ ents xs, u.oneCell' = true := by
  induction xs with
  | nil => intro u h; cases h
  | cons e v ih =>
    intro u h
    simp only [ents, List.mem_cons] at h
    rcases h with rfl | rfl | h
    · rfl
    · rfl
    · exact ih u h

/-- The slice value v reads in w as the vector xs. -/
def RdV (w : World) (v : Value) (xs : List Ent) : Prop :=
  ∃ a c, v = .slice a xs.length c ∧ xs.length ≤ c ∧ c ≤ maxLen ∧ (a = none → xs = [] ∧ c = 0) ∧
    (∀ x, a = some x → ∀ j u, (ents xs)[j]? = some u → w.cell? (x.add j) = some u)

/-- The slice value v holds the vector xs in memory of the call's own (blocks from 'base' on). -/
def OwnV (base : Nat) (w : World) (v : Value) (xs : List Ent) : Prop := w.ownsRow base 68 2 v xs.length (ents xs)

theorem RdV.nil (w : World) : RdV w (.slice none 0 0) [] := ⟨none, 0, rfl, Nat.le_refl _, Nat.zero_le _, fun _ => ⟨rfl, rfl⟩, fun _ h => by cases h⟩
theorem below_cell {w wr : World} {p : Addr} {v : Value} (hb : Below w.heap.size w wr) (hc : w.cell? p = some v) : wr.cell? p = some v := by
  rw [hb.cell (World.block_lt_of_cell? w _ hc)]; exact hc
theorem RdV.below {w w' : World} {v : Value} {xs : List Ent} (h : RdV w v xs) (hb : Below w.heap.size w w') : RdV w' v xs := by
  obtain ⟨a, c, rfl, h1, h2, h3, h4⟩ := h
  exact ⟨a, c, rfl, h1, h2, h3, fun x hx j u hu => below_cell hb (h4 x hx j u hu)⟩
theorem rdV_drewN {w : World} {v : Value} {xs : List Ent} (h : RdV w v xs) (n : Nat) : RdV (w.drewN n) v xs := h
theorem below_drewN (B : Nat) (w : World) (m : Nat) : Below B w (w.drewN m) := ⟨rfl, rfl, rfl, Nat.le_refl _, fun _ _ => rfl⟩
theorem below_fresh (w : World) (o : Obj) : Below w.heap.size w (w.alloc o) := (Below.refl _ w).alloc (Nat.le_refl _) _
theorem RdV.shape {w : World} {v : Value} {xs : List Ent} (h : RdV w v xs) : ∃ a c, v = .slice a xs.length c ∧ c ≤ 9223372036854775807 ∧ xs.length ≤ c := by
  obtain ⟨a, c, rfl, h1, h2, _⟩ := h
  unfold maxLen at h2
  exact ⟨a, c, rfl, by omega, h1⟩

theorem OwnV.nil (base : Nat) (w : World) : OwnV base w (.slice none 0 0) [] := World.ownsRow_nil _ _ _ _
theorem OwnV.rd {base : Nat} {w : World} {v : Value} {xs : List Ent} (h : OwnV base w v xs) : RdV w v xs := by
  have ho := h
  rcases h.2 with ⟨rfl, h0⟩ | ⟨g, cap, cur, rfl, hg, hh, hn, hm, hs, ht⟩
  · obtain rfl : xs = [] := List.eq_nil_of_length_eq_zero h0
    exact RdV.nil w
  · refine ⟨_, cap, rfl, hn, hm, (fun h => by cases h), fun x hx j u hu => ?_⟩
    cases hx
    exact ho.cells (g := g) rfl j u hu
theorem OwnV.below {base : Nat} {w w' : World} {v : Value} {xs : List Ent} (h : OwnV base w v xs) (hb : Below w.heap.size w w') : OwnV base w' v xs :=
  World.ownsRow.kept h (row := none) ⟨hb.os, hb.tape, hb.output, hb.size, fun k hk _ => hb.block k hk⟩ (by cases v.ownBlock <;> simp)
theorem OwnV.mono {base base' : Nat} {w : World} {v : Value} {xs : List Ent} (h : OwnV base w v xs) (hle : base' ≤ base) : OwnV base' w v xs := by
  obtain ⟨hl, h⟩ := h
  refine ⟨hl, ?_⟩
  rcases h with h | ⟨g, cap, cur, hv, hg, r⟩
  · exact .inl h
  · exact .inr ⟨g, cap, cur, hv, Nat.le_trans hle hg, r⟩
theorem ownV_empty (w : World) : OwnV w.heap.size (w.alloc (.cells #[] 68)) (.slice (some ⟨w.heap.size, 0, none⟩) 0 0) [] := World.ownsRow_made w #[] 0 (Nat.le_refl _) (Nat.zero_le _) rfl
/-- A vector that is made out of the values at hand. -/
theorem ownV_fresh (w : World) (xs : List Ent) (h : xs.length ≤ maxLen) : OwnV w.heap.size (w.alloc (.cells (ents xs).toArray 68)) (.slice (some ⟨w.heap.size, 0, none⟩) xs.length xs.length) xs :=
  ⟨ents_length xs, .inr ⟨w.heap.size, xs.length, (ents xs).toArray, rfl, Nat.le_refl _, heap_alloc_new w _, Nat.le_refl _, h, by simp [ents_length], by rw [List.take_of_length_le]; simp [ents_length]⟩⟩

theorem addr_plain (b off j : Nat) : (⟨b, off, none⟩ : Addr).add j = ⟨b, off + j, none⟩ := by unfold Addr.add; split <;> simp_all
theorem addr_block (x : Addr) (j : Nat) : (x.add j).block = x.block := by unfold Addr.add; split <;> rfl

theorem run_sizeEnt (w : World) : Sem.run Try.prog (Go.sizeOf 68) w = .ok 2 w := by
  obtain ⟨i0, hi, hz0, hz1, hz2⟩ := info_parts infoEnt
  simp [Go.sizeOf, typeInfo, hi, hz1]

/-- A vector that has entries lies at a plain address. -/
theorem RdV.plain {w : World} {a : Option Addr} {n c : Nat} {xs : List Ent} (h : RdV w (.slice a n c) xs) (h0 : 0 < xs.length) :
    ∃ b o, a = some ⟨b, o, none⟩ ∧ b < w.heap.size ∧ ∀ i e, xs[i]? = some e → w.cell? ⟨b, o + i * 2, none⟩ = some (.int .i64 e.1) ∧ w.cell? ⟨b, o + i * 2 + 1, none⟩ = some (.int .i64 e.2) := by
  obtain ⟨a', c', hv, h1, h2, h3, h4⟩ := h
  cases hv
  cases a with
  | none => have := (h3 rfl).1; subst this; simp at h0
  | some x =>
    obtain ⟨b, o, spot⟩ := x
    have hc0 := h4 _ rfl 0 _ (by rw [show 0 = 0 * 2 from rfl, ents_even, List.getElem?_eq_getElem h0]; rfl)
    have hspot : spot = none := by simpa [Addr.add] using World.cell?_spot hc0
    subst hspot
    rw [addr_plain] at hc0
    refine ⟨b, o, rfl, World.block_lt_of_cell? w _ hc0, fun i e he => ⟨?_, ?_⟩⟩
    · have := h4 _ rfl (i * 2) (.int .i64 e.1) (by rw [ents_even, he]; rfl)
      rw [addr_plain] at this
      exact this
    · have := h4 _ rfl (i * 2 + 1) (.int .i64 e.2) (by rw [ents_odd, he]; rfl)
      rw [addr_plain] at this
      exact this

/-- 'v[k]': where the index leads, and what is there. -/
theorem RdV.at {w : World} {a : Option Addr} {n c : Nat} {xs : List Ent} (h : RdV w (.slice a n c) xs) (k : Nat) (e : Ent) (hk : xs[k]? = some e) :
    ∃ b o, (∀ w0, (Instr.indexAt 32 (.slice a n c) (.int .i64 (k : Int))).run Try.prog w0 = .ok (.pointer (some ⟨b, o, none⟩)) w0) ∧ b < w.heap.size ∧
      w.cell? ⟨b, o, none⟩ = some (.int .i64 e.1) ∧ w.cell? ⟨b, o + 1, none⟩ = some (.int .i64 e.2) := by
  have hlt : k < xs.length := (List.getElem?_eq_some_iff.1 hk).1
  obtain ⟨b, o, rfl, hb, hc⟩ := h.plain (by omega)
  obtain ⟨a', c', hv, _⟩ := h
  cases hv
  refine ⟨b, o + k * 2, fun w0 => ?_, hb, hc k e hk⟩
  have h1 : (0 : Int) ≤ (k : Int) := by omega
  have h2 : (k : Int) < (xs.length : Int) := by omega
  have h3 : ¬ xs.length ≤ k := by omega
  simp [Instr.indexAt, asIntOf, run_underlying Try.underlying32, h1, Result.andThen, addr_plain]
  intro h4
  exact absurd h4 h3

/-- 'v[lo:]', 'v[:hi]': one run equation each, and what it reads as. -/
theorem RdV.cutL {w : World} {a : Option Addr} {n c : Nat} {xs : List Ent} (h : RdV w (.slice a n c) xs) (lo : Nat) (h2 : lo ≤ xs.length) :
    ∃ v', (∀ w0 : World, (Instr.slice 32 (.slice a n c) (some (.int .i64 (lo : Int))) none none).run Try.prog w0 = .ok v' w0) ∧ RdV w v' (xs.drop lo) := by
  obtain ⟨a', c', hv, h3, h4, h5, h6⟩ := h
  cases hv
  refine ⟨.slice (if c = lo then a else a.map (·.add (lo * 2))) (xs.length - lo) (c - lo), fun w0 => ?_, ?_⟩
  · have e1 : (0 : Int) ≤ (lo : Int) := by omega
    have e2 : (lo : Int) ≤ (xs.length : Int) := by omega
    have hz := fun w => run_sizeEnt w
    simp [Instr.slice, run_underlying Try.underlying32, Instr.sliceBounds, run_sliceBound, e1, e2, hz, Result.andThen]
  · refine ⟨if c = lo then a else a.map (·.add (lo * 2)), c - lo, by rw [List.length_drop], by rw [List.length_drop]; omega, by omega, ?_, ?_⟩
    · intro hn
      have : a = none := by
        split at hn
        · exact hn
        · simpa using hn
      obtain ⟨rfl, rfl⟩ := h5 this
      simp
    · intro x hx j u hu
      have hne : ¬ c = lo := by
        rintro rfl
        rw [List.drop_of_length_le (by omega)] at hu
        cases hu
      rw [if_neg hne] at hx
      obtain ⟨y, rfl, rfl⟩ := Option.map_eq_some_iff.1 hx
      have hd : ents (xs.drop lo) = (ents xs).drop (lo * 2) := by
        have := congrArg (List.drop (lo * 2)) (ents_append (xs.take lo) (xs.drop lo))
        rw [List.take_append_drop] at this
        rw [this, List.drop_left' (by rw [ents_length, List.length_take]; omega)]
      rw [hd, List.getElem?_drop] at hu
      have hc := h6 y rfl _ _ hu
      have hpos : 0 < xs.length := by
        have := (List.getElem?_eq_some_iff.1 hu).1
        rw [ents_length] at this
        omega
      obtain ⟨b, o, hy, _, _⟩ := RdV.plain ⟨_, _, rfl, h3, h4, h5, h6⟩ hpos
      cases hy
      rw [addr_plain] at hc
      rw [addr_plain, addr_plain, Nat.add_assoc]
      exact hc
theorem RdV.cut0 {w : World} {a : Option Addr} {n c : Nat} {xs : List Ent} (h : RdV w (.slice a n c) xs) (hi : Nat) (h2 : hi ≤ xs.length) :
    ∃ v', (∀ w0 : World, (Instr.slice 32 (.slice a n c) none (some (.int .i64 (hi : Int))) none).run Try.prog w0 = .ok v' w0) ∧ RdV w v' (xs.take hi) := by
  obtain ⟨a', c', hv, h3, h4, h5, h6⟩ := h
  cases hv
  refine ⟨.slice a hi c, fun w0 => ?_, ?_⟩
  · have e4 : (0 : Int) ≤ (hi : Int) := by omega
    have e3 : (hi : Int) ≤ (c : Int) := by omega
    have hz := fun w => run_sizeEnt w
    cases a <;> simp [Instr.slice, run_underlying Try.underlying32, Instr.sliceBounds, run_sliceBound, e3, e4, hz, Result.andThen, Addr.add]
  · refine ⟨a, c, by rw [List.length_take]; congr 1; omega, by rw [List.length_take]; omega, h4, fun ha => ?_, fun x hx j u hu => ?_⟩
    · obtain ⟨rfl, rfl⟩ := h5 ha
      simp
    · refine h6 x hx j u ?_
      have hd := ents_append (xs.take hi) (xs.drop hi)
      rw [List.take_append_drop] at hd
      rw [hd, List.getElem?_append_left (List.getElem?_eq_some_iff.1 hu).1]
      exact hu

/-- All blocks that hold something else than entries are as they were. -/
def KeepsE (w w' : World) : Prop := ∀ (k : Nat) (cur : Array Value) (t : TypeId) (fr : Nat × Nat), t ≠ 68 → w.heap[k]? = some (Obj.cells cur t fr) → w'.heap[k]? = some (Obj.cells cur t fr)
theorem Below.keepsE {w w' : World} (h : Below w.heap.size w w') : KeepsE w w' := fun k cur t fr _ hk => by
  have hlt : k < w.heap.size := (Array.getElem?_eq_some_iff.1 hk).1
  rw [h.block k hlt]; exact hk
theorem KeepsE.trans {a b c : World} (h : KeepsE a b) (k : KeepsE b c) : KeepsE a c := fun i cur t fr ht hi => k i cur t fr ht (h i cur t fr ht hi)
theorem keepsE_grown {base : Nat} {w w' : World} {v : Value} {n : Nat} {us : List Value} (ho : w.ownsRow base 68 2 v n us) (hg : w.grownBy w' v.ownBlock) : KeepsE w w' := by
  intro k cur t fr ht hk
  have hlt : k < w.heap.size := (Array.getElem?_eq_some_iff.1 hk).1
  rw [hg.block k hlt]
  · exact hk
  · intro he
    rcases ho.2 with ⟨rfl, _⟩ | ⟨g, cap, cur', rfl, _, hh, _⟩
    · cases he
    · simp only [Value.ownBlock] at he
      cases he
      rw [hh] at hk
      cases hk
      exact ht rfl

section
variable {w : World} {ops : Array Oper} {rest : List Oper} {o : Oper} {a : Act} {Q : Exit → Act → World → Prop} {base : Nat} {v : Value} {ys : List Ent}

/-- 'out = append(out, Entry{x, n})', out the call's own vector. -/
theorem wp_appV1 {x n : Int} (hgd : o.guard = none) (s r : Operand) (ho : o.op = .call { callee := .builtin .append, args := #[s, r], argTypes := #[32, 32] })
    (hs : a.eval s = v) (hown : OwnV base w v ys) (hx : a.eval r = .slice (some ⟨w.heap.size, 0, none⟩) 1 1) (hlen : ys.length ≤ 1099511627776) (hb : base ≤ w.heap.size)
    (h : ∀ v' w', OwnV base w' v' (ys ++ [(x, n)]) → Below base w w' → KeepsE w w' → wpList Try.prog ops Q rest (a.put o.dst v') w') :
    wpList Try.prog ops Q (o :: rest) a (w.alloc (.cells #[.int .i64 x, .int .i64 n] 68)) := by
  obtain ⟨i0, hi, hz0, hz1, hz2⟩ := info_parts infoEnt
  refine wpList_append_own _ hgd s r 32 ho base 68 i0 _ 2 16 Try.underlying32 hi hz0 hz1 hz2 rfl (by decide) _ _ _ hs (World.ownsRow.alloc hown _) ⟨w.heap.size, 0, none⟩ 1 1 [.int .i64 x, .int .i64 n] hx rfl ?_ ?_ ?_ ?_ ?_ ?_
  · intro j u hu
    rw [addr_plain, Nat.zero_add, World.cell?_alloc_new]
    simpa using hu
  · intro u hu
    simp at hu
    rcases hu with rfl | rfl <;> rfl
  · unfold maxLen; omega
  · omega
  · simp; omega
  · intro v' w1 ho1 hg1 _
    have hk0 : KeepsE w (w.alloc (.cells #[.int .i64 x, .int .i64 n] 68)) := Below.keepsE (below_fresh w _)
    refine h v' w1 ?_ (((Below.refl _ _).alloc hb _).grown hg1 (by simp; omega) (fun k hk => (World.ownsRow.lt hown k hk).1)) (hk0.trans (keepsE_grown (World.ownsRow.alloc hown _) hg1))
    unfold OwnV
    rw [ents_append, List.length_append]
    exact ho1

/-- 'append(out, u...)', out the call's own vector, u any vector. -/
theorem wp_appVS {u : Value} {zs : List Ent} (hgd : o.guard = none) (s r : Operand) (ho : o.op = .call { callee := .builtin .append, args := #[s, r], argTypes := #[32, 32] })
    (hs : a.eval s = v) (hown : OwnV base w v ys) (hx : a.eval r = u) (hu : RdV w u zs) (hlen : ys.length ≤ 1099511627776) (hlen2 : zs.length ≤ 1099511627776) (hb : base ≤ w.heap.size)
    (h : ∀ v' w', OwnV base w' v' (ys ++ zs) → Below base w w' → wpList Try.prog ops Q rest (a.put o.dst v') w') :
    wpList Try.prog ops Q (o :: rest) a w := by
  obtain ⟨i0, hi, hz0, hz1, hz2⟩ := info_parts infoEnt
  obtain ⟨ad, c, rfl, h1, h2, h3, h4⟩ := hu
  cases ad with
  | none =>
    obtain ⟨rfl, rfl⟩ := h3 rfl
    exact wpList_append_own_none hgd s r 32 ho base 68 i0 2 Try.underlying32 hi _ _ _ hs hown hx (h _ _ (by rw [List.append_nil]; exact hown) (Below.refl _ _))
  | some ad =>
    refine wpList_append_own _ hgd s r 32 ho base 68 i0 _ 2 16 Try.underlying32 hi hz0 hz1 hz2 rfl (by decide) _ _ _ hs hown ad zs.length c (ents zs) hx (ents_length zs) (h4 ad rfl) (ents_one zs) ?_ ?_ hb ?_
    · unfold maxLen; omega
    · omega
    · intro v' w1 ho1 hg1 _
      refine h v' w1 ?_ ((Below.refl _ _).grown hg1 hb (fun k hk => (World.ownsRow.lt hown k hk).1))
      unfold OwnV
      rw [ents_append, List.length_append]
      exact ho1
end

theorem ret_true {p : Prop} [Decidable p] (h : p) : Ending.returned (.bool (decide p)) = Ending.returned (.bool true) := by rw [decide_eq_true h]

end Go.Proofs.Ytacbpphhkkmelaa.VX
