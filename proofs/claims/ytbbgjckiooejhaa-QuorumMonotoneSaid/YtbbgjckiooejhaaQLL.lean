/-
  Lists of lists of servers in memory: what reads as one, what is the call's own, an index, an append to a full slice, a cut with a bound. No conditions beyond those that each lemma names.
-/
import Derived.ArgAppend
import Derived.Test.YtbbgjckiooejhaaQVisit
namespace Go.Proofs.Ytbbgjckiooejhaa
open Go.RowKit
open QM (Mem)

/-! Lists of lists. -/
abbrev LI := SlV × List Int
def encP (p : LI) : List Value := [slV p.1]
theorem pairE : IsElem Try.prog 36 33 1 24 encP where
  ht := Try.underlying36
  info := by
    obtain ⟨i0, hi, hz0, hz1, hz2⟩ := info_parts (show (Try.prog.info? 33).map (fun i => (i.zero, i.size, i.bytes)) = some (some (.slice none 0 0), 1, 24) by kernel_rfl)
    exact ⟨i0, _, hi, hz0, hz1, hz2, rfl⟩
  len := fun _ => rfl
  one := by intro x u hu; simp [encP] at hu; subst hu; rfl
  pos := by decide
  fits := by decide
theorem hlP : 0 < 1 ∧ ∀ x, (encP x).length = 1 := ⟨by decide, fun _ => rfl⟩
theorem cellsP (ps : List LI) : cellsOf encP ps = ps.map fun p => slV p.1 := by
  unfold cellsOf
  induction ps with
  | nil => rfl
  | cons p ps ih => rw [List.flatMap_cons, ih]; rfl
/-- A slice of slices that reads as a list of lists; one of the call's own. -/
def RdLL (w : World) (v : Value) (ls : List (List Int)) : Prop := ∃ ps : List LI, RdG encP 1 w v ps ∧ (∀ p ∈ ps, RdI w (slV p.1) p.2) ∧ ps.map (·.2) = ls
def OwnLL (base : Nat) (w : World) (v : Value) (ls : List (List Int)) : Prop := ∃ ps : List LI, OwnG encP 33 1 base w v ps ∧ (∀ p ∈ ps, OwnI base w (slV p.1) p.2) ∧ ps.map (·.2) = ls
theorem OwnLL.rd {base : Nat} {w : World} {v : Value} {ls : List (List Int)} (h : OwnLL base w v ls) : RdLL w v ls := by
  obtain ⟨ps, h1, h2, h3⟩ := h; exact ⟨ps, h1.rd, fun p hp => (h2 p hp).rd, h3⟩
theorem OwnLL.below {base : Nat} {w w' : World} {v : Value} {ls : List (List Int)} (h : OwnLL base w v ls) (hb : Below w.heap.size w w') : OwnLL base w' v ls := by
  obtain ⟨ps, h1, h2, h3⟩ := h; exact ⟨ps, h1.below hb, fun p hp => (h2 p hp).below hb, h3⟩
theorem RdLL.below {w w' : World} {v : Value} {ls : List (List Int)} (h : RdLL w v ls) (hb : Below w.heap.size w w') : RdLL w' v ls := by
  obtain ⟨ps, h1, h2, h3⟩ := h; exact ⟨ps, h1.below hb, fun p hp => (h2 p hp).below hb, h3⟩
theorem RdLL.shape {w : World} {v : Value} {ls : List (List Int)} (h : RdLL w v ls) : ∃ a c, v = .slice a ls.length c ∧ c ≤ 9223372036854775807 ∧ ls.length ≤ c := by
  obtain ⟨ps, h1, h2, rfl⟩ := h
  obtain ⟨a, c, h3, h4, h5⟩ := h1.shape
  exact ⟨a, c, by rw [h3, List.length_map], h4, by rw [List.length_map]; exact h5⟩
theorem OwnLL.nil (base : Nat) (w : World) : OwnLL base w (.slice none 0 0) [] := ⟨[], OwnG.nil hlP _ _ _, (fun _ h => by cases h), rfl⟩
/-- 'v[k]' of a slice of slices. -/
theorem RdLL.at_ {w : World} {a : Option Addr} {n c : Nat} {ls : List (List Int)} (h : RdLL w (.slice a n c) ls) (k : Nat) (l : List Int) (hk : ls[k]? = some l) :
    ∃ b o u, (∀ w0, (Instr.indexAt 36 (.slice a n c) (.int .i64 (k : Int))).run Try.prog w0 = .ok (.pointer (some ⟨b, o, none⟩)) w0) ∧ b < w.heap.size ∧ w.cell? ⟨b, o, none⟩ = some u ∧ RdI w u l := by
  obtain ⟨ps, h1, h2, rfl⟩ := h
  rw [List.getElem?_map] at hk
  obtain ⟨p, hp, rfl⟩ := Option.map_eq_some_iff.1 hk
  obtain ⟨b, o, h3, h4, h5⟩ := h1.at_ pairE k p hp
  exact ⟨b, o, slV p.1, h3, h4, h5 0 _ rfl, h2 p (List.mem_of_getElem? hp)⟩
/-- Blocks of integers stay when a row of slices grows. -/
theorem ownI_keep {e : TypeId} {base : Nat} {w w' : World} {v : Value} {xs : List Int} (h : OwnI base w v xs) (he : e ≠ 3) (hk : KeepsX e w w') : OwnI base w' v xs := by
  refine ⟨⟨h.1.1, ?_⟩, h.2⟩
  rcases h.1.2 with h6 | ⟨gg, cap, cur, hv, hgg, hh, r⟩
  · exact .inl h6
  · refine .inr ⟨gg, cap, cur, hv, hgg, ?_, r⟩
    rw [hk gg (Array.getElem?_eq_some_iff.1 hh).1 (by intro cur' fr' e'; rw [hh] at e'; injection e' with e'; injection e' with _ ht; exact he ht.symm)]
    exact hh
theorem rdI_slV {w : World} {v : Value} {xs : List Int} (h : RdI w v xs) : ∃ s : SlV, v = slV s := by
  obtain ⟨a, c, rfl, _⟩ := h.shape; exact ⟨(a, _, c), rfl⟩

section
variable {α : Type} {P : Program} {t e : TypeId} {size bytes : Nat} {enc : α → List Value}
/-- 'v[:hi:hi]'. -/
theorem RdG.cutF (E : IsElem P t e size bytes enc) {w : World} {a : Option Addr} {n c : Nat} {xs : List α} (h : RdG enc size w (.slice a n c) xs) (hi : Nat) (h2 : hi ≤ xs.length) :
    (∀ w0 : World, (Instr.slice t (.slice a n c) none (some (.int .i64 (hi : Int))) (some (.int .i64 (hi : Int)))).run P w0 = .ok (.slice a hi hi) w0) ∧ RdG enc size w (.slice a hi hi) (xs.take hi) := by
  obtain ⟨a', c', hv, h3, h4, h5, ⟨hp, hl⟩, h6⟩ := h
  cases hv
  refine ⟨fun w0 => ?_, ?_⟩
  · have e4 : (0 : Int) ≤ (hi : Int) := by omega
    have e3 : (hi : Int) ≤ (c : Int) := by omega
    have hz := E.run_size
    cases a <;> simp [Instr.slice, run_underlying E.ht, Instr.sliceBounds, run_sliceBound, e3, e4, hz, Result.andThen, Addr.add]
  · refine ⟨a, hi, by rw [List.length_take]; congr 1; omega, by rw [List.length_take]; omega, by omega, fun ha => ?_, ⟨hp, hl⟩, fun x hx j u hu => ?_⟩
    · obtain ⟨rfl, rfl⟩ := h5 ha
      simp at h2
      simp [h2]
    · refine h6 x hx j u ?_
      rw [cellsOf_take hl xs hi h2, List.getElem?_take] at hu
      split at hu
      · exact hu
      · cases hu

variable {w : World} {ops : Array Oper} {rest : List Oper} {o : Oper} {a : Act} {Q : Exit → Act → World → Prop}
/-- 'append(v[:k:k], u...)', u not empty: a row of the call's own. -/
theorem wp_appFull (E : IsElem P t e size bytes enc) {ad : Option Addr} {n : Nat} {ys : List α} {u : Value} {zs : List α} (hgd : o.guard = none) (s r : Operand) (ho : o.op = .call { callee := .builtin .append, args := #[s, r], argTypes := #[t, t] })
    (hs : a.eval s = .slice ad n n) (hrd : RdG enc size w (.slice ad n n) ys) (hx : a.eval r = u) (hu : RdG enc size w u zs) (hz : 0 < zs.length) (hlen : ys.length ≤ 1073741824) (hlen2 : zs.length ≤ 1073741824)
    (h : ∀ v' w', OwnG enc e size w.heap.size w' v' (ys ++ zs) → Below w.heap.size w w' → wpList P ops Q rest (a.put o.dst v') w') :
    wpList P ops Q (o :: rest) a w := by
  obtain ⟨i0, z, hi, hz0, hz1, hz2, hz3⟩ := E.info
  obtain ⟨a1, c1, hv, h1, h2, h3, hl, h4⟩ := hrd
  cases hv
  obtain ⟨a2, c2, rfl, g1, g2, g3, _, g4⟩ := hu
  cases a2 with
  | none => have := (g3 rfl).1; rw [this] at hz; exact absurd hz (Nat.lt_irrefl 0)
  | some a2 =>
    refine wpList_append_grows w hgd s r t ho e i0 z size bytes E.ht hi hz0 hz1 hz2 hz3 E.pos ad ys.length ys.length (cellsOf enc ys) hs (fun hn => ?_) (cellsOf_length E.len ys) (fun b hb => h4 b hb) a2 zs.length c2 (cellsOf enc zs) hx (cellsOf_length E.len zs) (g4 a2 rfl) (cellsOf_one E.one zs) (by omega) ?_ ?_ ?_
    · have := (h3 hn).1
      subst this
      exact ⟨rfl, rfl⟩
    · unfold maxLen; omega
    · have := E.fits
      calc (ys.length + zs.length) * bytes ≤ (1073741824 + 1073741824) * 4096 := Nat.mul_le_mul (by omega) this
        _ ≤ 140737488355328 := by decide
    · intro v' w1 ho1 hg1
      refine h v' w1 ⟨?_, hl⟩ ⟨hg1.os, hg1.tape, hg1.output, hg1.size, fun k hk => hg1.block k hk (by simp)⟩
      rw [cellsOf_append, List.length_append]
      exact ho1
end

end Go.Proofs.Ytbbgjckiooejhaa
