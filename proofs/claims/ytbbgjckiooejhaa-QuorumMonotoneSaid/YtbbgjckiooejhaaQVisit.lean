/-
  The calls of visit and minimalSets: just the masks of the minimal quorums are found, each once. Conditions: the members read and the view is valid.
-/
import Derived.Maps.OwnSet
import Derived.Test.YtbbgjckiooejhaaQRef
namespace Go.Proofs.Ytbbgjckiooejhaa
open Go.RowKit
open QM (Mem)
open Go.Maps (int_keyed keyOf_int_mk)

/-- The map in block B knows of just the masks D, of each whether it is a quorum. -/
def Seen (Q : Nat → Bool) (w : World) (B : Nat) (D : List Nat) : Prop :=
  ∃ (n : Nat) (d : DataW Unit), w.ownsMap Try.prog 54 (plainElem Try.prog 4) B n d ∧ n ≤ D.length ∧ ∀ s : Nat, s < 65536 → Maps.has d (.int .u16 (s : Int)) = decide (s ∈ D) ∧ (s ∈ D → d.atKey (.int .u16 (s : Int)) (.lit (.bool false)) = .lit (.bool (Q s)))
theorem plainElem_bool_inv {v : Value} {z : DataW Unit × List MemPlace} (h : plainElem Try.prog 4 v = some z) : ∃ b, v = .bool b ∧ z = (.lit (.bool b), []) := by
  unfold plainElem at h
  rw [Try.underlying4] at h
  cases v <;> simp at h
  exact ⟨_, rfl, h.symm⟩
theorem key_lit (s : Nat) : WideAt.IsKeyLit (.int .u16 (s : Int)) := trivial
theorem wf_u16 {s : Nat} (h : s < 65536) : (Lit.int .u16 (s : Int)).wf = true := WalkArith.wf_u16 (by omega)
theorem Seen.fresh (Q : Nat → Bool) (w : World) : Seen Q (w.alloc (.map #[] 0)) w.heap.size [] :=
  ⟨0, .map [], World.ownsMap_made _ _ _ _, Nat.le_refl _, fun s _ => ⟨by simp [Maps.has_eq], fun h => by cases h⟩⟩
theorem Seen.lt {Q : Nat → Bool} {w : World} {B : Nat} {D : List Nat} (h : Seen Q w B D) : B < w.heap.size := by
  obtain ⟨n, d, h1, _⟩ := h; exact h1.lt
theorem Seen.kept {Q : Nat → Bool} {w w' : World} {B : Nat} {D : List Nat} {row : Option Nat} (h : Seen Q w B D) (hg : w.grownBy w' row) (hne : some B ≠ row) : Seen Q w' B D := by
  obtain ⟨n, d, h1, h2⟩ := h; exact ⟨n, d, h1.kept hg hne, h2⟩
theorem grown_below {w w' : World} (h : Below w.heap.size w w') (row : Option Nat) : w.grownBy w' row := ⟨h.os, h.tape, h.output, h.size, fun k hk _ => h.block k hk⟩
theorem Seen.below {Q : Nat → Bool} {w w' : World} {B : Nat} {D : List Nat} (h : Seen Q w B D) (hb : Below w.heap.size w w') : Seen Q w' B D := h.kept (grown_below hb none) (by simp)
theorem Seen.setCell {Q : Nat → Bool} {w : World} {B : Nat} {D : List Nat} (h : Seen Q w B D) {a : Addr} (ha : B ≠ a.block) (u : Value) : Seen Q (w.setCell a u) B D := by
  obtain ⟨n, d, h1, h2⟩ := h; exact ⟨n, d, h1.setCell ha u, h2⟩
/-- The map's block is no row of cells. -/
theorem Seen.no_cells {Q : Nat → Bool} {w : World} {B : Nat} {D : List Nat} (h : Seen Q w B D) (cur : Array Value) (t : TypeId) (fr : Nat × Nat) : w.heap[B]? ≠ some (.cells cur t fr) := by
  obtain ⟨n, d, ⟨es, clock, hb, _⟩, _⟩ := h
  rw [hb]; intro he; cases he

section
variable {w : World} {ops : Array Oper} {rest : List Oper} {o : Oper} {a : Act} {Q' : Exit → Act → World → Prop} {Q : Nat → Bool} {B : Nat} {D : List Nat}
theorem wp_seen (s : Nat) (hs : s < 65536) (h : Seen Q w B D) (hg : o.guard = none) (m x : Operand) (hop : o.op = Op.lookup 71 m x true) (hm : a.eval m = .map (some B)) (hx : a.eval x = .int .u16 (s : Int))
    (hK : wpList Try.prog ops Q' rest (a.put o.dst (.tuple #[.bool (decide (s ∈ D) && Q s), .bool (decide (s ∈ D))])) w) : wpList Try.prog ops Q' (o :: rest) a w := by
  obtain ⟨n, d, h1, h2, h3⟩ := h
  refine wpList_lookup_own_ok w hg m x _ hop 54 4 (int_keyed Try.underlying54) Try.underlying71 (plainElem Try.prog 4) (Try.zeroValue4 _) (.lit (.bool false)) [] (plainElem_bool Try.underlying4 false) B n d hm h1 _ (.int .u16 (s : Int)) hx (keyOf_int_mk Try.underlying54 (wf_u16 hs)) ?_
  intro v ps hv
  obtain ⟨b, rfl, hz⟩ := plainElem_bool_inv hv
  obtain ⟨h4, h5⟩ := h3 s hs
  rw [h4]
  have e : b = (decide (s ∈ D) && Q s) := by
    by_cases hin : s ∈ D
    · have := h5 hin
      rw [this] at hz
      simp only [Prod.mk.injEq, DataW.lit.injEq, Lit.bool.injEq] at hz
      rw [decide_eq_true hin, Bool.true_and]; exact hz.1.symm
    · rw [decide_eq_false hin] at h4
      rw [Maps.atKey_of_not_has h4] at hz
      simp only [Prod.mk.injEq, DataW.lit.injEq, Lit.bool.injEq] at hz
      rw [decide_eq_false hin, Bool.false_and]; exact hz.1.symm
  rw [e]
  exact hK
theorem wp_seen_in (s : Nat) (hs : s < 65536) (h : Seen Q w B D) (hin : s ∈ D) (q : Bool) (hq : q = Q s) (hg : o.guard = none) (m x : Operand) (hop : o.op = Op.lookup 71 m x true) (hm : a.eval m = .map (some B)) (hx : a.eval x = .int .u16 (s : Int))
    (hK : wpList Try.prog ops Q' rest (a.put o.dst (.tuple #[.bool q, .bool true])) w) : wpList Try.prog ops Q' (o :: rest) a w := by
  refine wp_seen s hs h hg m x hop hm hx ?_
  rw [decide_eq_true hin, Bool.true_and, ← hq]
  exact hK
theorem wp_seen_out (s : Nat) (hs : s < 65536) (h : Seen Q w B D) (hin : s ∉ D) (hg : o.guard = none) (m x : Operand) (hop : o.op = Op.lookup 71 m x true) (hm : a.eval m = .map (some B)) (hx : a.eval x = .int .u16 (s : Int))
    (hK : wpList Try.prog ops Q' rest (a.put o.dst (.tuple #[.bool false, .bool false])) w) : wpList Try.prog ops Q' (o :: rest) a w := by
  refine wp_seen s hs h hg m x hop hm hx ?_
  rw [decide_eq_false hin, Bool.false_and]
  exact hK
theorem wp_see (s : Nat) (hs : s < 65536) (h : Seen Q w B D) (hn : s ∉ D) (hl : D.length ≤ 65536) (hg : o.guard = none) (m x v : Operand) (hop : o.op = Op.mapUpdate 71 m x v) (hm : a.eval m = .map (some B)) (hx : a.eval x = .int .u16 (s : Int)) (hv : a.eval v = .bool (Q s))
    (hK : ∀ w', Seen Q w' B (s :: D) → w.grownBy w' (some B) → wpList Try.prog ops Q' rest (a.put o.dst undef) w') : wpList Try.prog ops Q' (o :: rest) a w := by
  obtain ⟨n, d, h1, h2, h3⟩ := h
  have hm0 := h1.isMap
  refine wpList_mapUpdate_own w hg m x v _ hop 54 4 (int_keyed Try.underlying54) Try.underlying71 (plainElem Try.prog 4) B n d hm h1 (by unfold maxLen; omega) _ _ (.int .u16 (s : Int)) hx hv (keyOf_int_mk Try.underlying54 (wf_u16 hs)) (.lit (.bool (Q s))) [] (plainElem_bool Try.underlying4 _) ?_
  intro w' h4 h5
  refine hK w' ⟨n + 1, _, h4, by simp; omega, fun t ht => ?_⟩ h5
  by_cases e : t = s
  · subst e
    exact ⟨by rw [Maps.has_put_same hm0 (key_lit t)]; simp, fun _ => Maps.atKey_put_same hm0 (key_lit t) _ _⟩
  · have hne : (Lit.int .u16 (t : Int)) ≠ .int .u16 (s : Int) := fun h => e (by injection h with _ h; omega)
    obtain ⟨h6, h7⟩ := h3 t ht
    refine ⟨by rw [Maps.has_put_other hne, h6]; simp [e], fun hin => ?_⟩
    rw [Maps.atKey_put_other hne]
    exact h7 ((List.mem_cons.1 hin).resolve_left e)
end

/-- What the search has in memory: its block g, its map in block B, the list of what was found. -/
def LookAt (Q : Nat → Bool) (base g B : Nat) (w : World) (sv : Value) (k c f : Int) (D M : List Nat) : Prop :=
  ∃ mv, w.heap[g]? = some (.cells #[sv, .int .i64 k, .int .i64 c, .int .i64 f, .map (some B), mv] 73 (0, 0)) ∧ Seen Q w B D ∧ OwnS base w mv M ∧ base ≤ g ∧ base ≤ B
/-- All rows of cells but those of masks and of searches are as they were. -/
def KeepsC (w w' : World) : Prop := w.heap.size ≤ w'.heap.size ∧ ∀ (i : Nat) (cur : Array Value) (t : TypeId) (fr : Nat × Nat), t ≠ 54 → t ≠ 73 → w.heap[i]? = some (.cells cur t fr) → w'.heap[i]? = some (.cells cur t fr)
theorem KeepsC.refl (w : World) : KeepsC w w := ⟨Nat.le_refl _, fun _ _ _ _ _ _ h => h⟩
theorem KeepsC.trans {a b c : World} (h : KeepsC a b) (k : KeepsC b c) : KeepsC a c := ⟨Nat.le_trans h.1 k.1, fun i cur t fr h1 h2 h3 => k.2 i cur t fr h1 h2 (h.2 i cur t fr h1 h2 h3)⟩
theorem KeepsC.of_below {w w' : World} (h : Below w.heap.size w w') : KeepsC w w' := ⟨h.size, fun i cur t fr _ _ hi => by rw [h.block i (Array.getElem?_eq_some_iff.1 hi).1]; exact hi⟩
theorem OwnG.keepC {base : Nat} {w w' : World} {v : Value} {xs : List Int} (h : OwnI base w v xs) (hk : KeepsC w w') : OwnI base w' v xs := by
  obtain ⟨⟨hl, h⟩, h2⟩ := h
  refine ⟨⟨hl, ?_⟩, h2⟩
  rcases h with h | ⟨g, cap, cur, hv, hg, hh, r⟩
  · exact .inl h
  · exact .inr ⟨g, cap, cur, hv, hg, hk.2 _ _ _ _ (by decide) (by decide) hh, r⟩
section
variable {Q : Nat → Bool} {base g B : Nat} {w w' : World} {sv : Value} {k c f : Int} {D M : List Nat}
theorem LookAt.below (h : LookAt Q base g B w sv k c f D M) (hb : Below w.heap.size w w') : LookAt Q base g B w' sv k c f D M := by
  obtain ⟨mv, h1, h2, h3, h4⟩ := h
  exact ⟨mv, by rw [hb.block g (Array.getElem?_eq_some_iff.1 h1).1]; exact h1, h2.below hb, h3.below hb, h4⟩
theorem LookAt.cells (h : LookAt Q base g B w sv k c f D M) : ∃ mv, g < w.heap.size ∧ w.cell? ⟨g, 0, none⟩ = some sv ∧ w.cell? ⟨g, 1, none⟩ = some (.int .i64 k) ∧ w.cell? ⟨g, 2, none⟩ = some (.int .i64 c) ∧ w.cell? ⟨g, 3, none⟩ = some (.int .i64 f) ∧
    w.cell? ⟨g, 4, none⟩ = some (.map (some B)) ∧ w.cell? ⟨g, 5, none⟩ = some mv ∧ w.frozen? ⟨g, 5, none⟩ = false ∧ OwnS base w mv M ∧ Seen Q w B D := by
  obtain ⟨mv, h1, h2, h3, h4⟩ := h
  refine ⟨mv, (Array.getElem?_eq_some_iff.1 h1).1, ?_, ?_, ?_, ?_, ?_, ?_, ?_, h3, h2⟩ <;> simp [World.cell?, World.frozen?, h1]
/-- The map has turned: one more is known. -/
theorem LookAt.see {s : Nat} (h : LookAt Q base g B w sv k c f D M) (hg : w.grownBy w' (some B)) (hs : Seen Q w' B (s :: D)) : LookAt Q base g B w' sv k c f (s :: D) M ∧ KeepsC w w' ∧ ∀ w0 : World, Below base w0 w → Below base w0 w' := by
  obtain ⟨mv, h1, h2, h3, h4, h5⟩ := h
  have hlt := (Array.getElem?_eq_some_iff.1 h1).1
  have hc : ∀ (i : Nat) (cur : Array Value) (t : TypeId) (fr : Nat × Nat), w.heap[i]? = some (.cells cur t fr) → w'.heap[i]? = some (.cells cur t fr) := fun i cur t fr hi => by
    rw [hg.block i (Array.getElem?_eq_some_iff.1 hi).1 (by intro e; cases e; exact h2.no_cells _ _ _ hi)]; exact hi
  refine ⟨⟨mv, hc _ _ _ _ h1, hs, ⟨World.ownsRow.kept h3.1 hg ?_, h3.2⟩, h4, h5⟩, ⟨hg.size, fun i cur t fr _ _ hi => hc i cur t fr hi⟩, fun w0 hb => hb.trans ⟨hg.os, hg.tape, hg.output, hg.size, fun i hi => ?_⟩⟩
  · have hk := World.ownsRow.lt h3.1
    rcases h3.1.2 with ⟨rfl, _⟩ | ⟨gg, cap, cur, rfl, _, hh, _⟩
    · exact .inl rfl
    · right
      intro e
      simp only [Value.ownBlock] at e
      cases e
      exact h2.no_cells _ _ _ hh
  · by_cases hlt2 : i < w.heap.size
    · exact hg.block i hlt2 (by intro e; cases e; omega)
    · have := h2.lt
      omega
end

/-- What was found is among what was examined. -/
def Good (ms : List Mem) (D M : List Nat) : Prop := D.Nodup ∧ (∀ t ∈ D, QM.Sub ms t) ∧ M.Nodup ∧ ∀ t ∈ M, t ∈ D
theorem Good.run {Q : Nat → Bool} {ms : List Mem} {D M D' M' : List Nat} (h : Good ms D M) (r : QM.Run Q ms D M D' M') : Good ms D' M' := by
  obtain ⟨h1, h2, h3, h4⟩ := h
  obtain ⟨N, rfl, n1, m1⟩ := r.found
  refine ⟨r.nodup h1, fun t ht => (r.dom t ht).elim (h2 t) id, List.nodup_append.2 ⟨h3, n1, fun a ha b hb => ?_⟩, fun t ht => ?_⟩
  · rintro rfl
    exact ((m1 a).1 hb).2.1 (h4 a ha)
  · rcases List.mem_append.1 ht with h5 | h5
    · exact r.sub t (h4 t h5)
    · exact ((m1 t).1 h5).1
theorem Good.length {ms : List Mem} (hv : QM.Val 0 ms) {D M : List Nat} (h : Good ms D M) : D.length ≤ 8192 ∧ M.length ≤ 8192 :=
  ⟨QM.nodup_bound 8192 D h.1 fun t ht => (h.2.1 t ht).lt hv, QM.nodup_bound 8192 M h.2.2.1 fun t ht => (h.2.1 t (h.2.2.2 t ht)).lt hv⟩
/-- What a visit leaves. -/
def Visited (Q : Nat → Bool) (ms : List Mem) (w0 : World) (g B : Nat) (sv : Value) (k c f : Int) (D M : List Nat) (s : Nat) (w : World) (e : Ending) (w' : World) : Prop :=
  e = .returned (.bool (Q s)) ∧ ∃ D' M', QM.Run Q ms D M D' M' ∧ s ∈ D' ∧ LookAt Q w0.heap.size g B w' sv k c f D' M' ∧ Below w0.heap.size w0 w' ∧ KeepsC w w'
theorem srv_bits {ms : List Mem} (hv : QM.Val 0 ms) {s : Nat} (hs : QM.Sub ms s) (i : Nat) (hi : s.testBit i = true) : ∃ (j : Nat) (x : Int), (QM.srv s)[j]? = some x ∧ x.toNat = i := by
  obtain ⟨m, hm, rfl⟩ := hs i hi
  have h1 := hv.mem m hm
  have h2 : m.1 ∈ QM.srv s := (QM.srv_mem s m.1).2 ⟨decide_eq_true ⟨by omega, by omega⟩, hi⟩
  obtain ⟨j, hj, hx⟩ := List.getElem_of_mem h2
  exact ⟨j, m.1, by rw [List.getElem?_eq_getElem hj, hx], rfl⟩
theorem srv_at {s j : Nat} {x : Int} (h : (QM.srv s)[j]? = some x) : 1 ≤ x ∧ x ≤ 12 ∧ s.testBit x.toNat = true := by
  obtain ⟨h1, h2⟩ := (QM.srv_mem s x).1 (List.mem_of_getElem? h)
  obtain ⟨h3, h4⟩ := isSrv_iff.1 h1
  exact ⟨h3, h4, h2⟩
theorem del_lt {s i : Nat} (hs : s < 65536) (hi : i ≤ 12) (hb : s.testBit i = true) : QM.del s i < s := by
  have hle : QM.del s i ≤ s := Nat.and_le_left
  rcases Nat.lt_or_ge (QM.del s i) s with h | h
  · exact h
  · have e : QM.del s i = s := by omega
    have := QM.del_bit hs hi i
    rw [e, hb] at this
    simp at this
theorem sub_del {ms : List Mem} {s i : Nat} (h : QM.Sub ms s) : QM.Sub ms (QM.del s i) := QM.sub_dif h

theorem LookAt.place {Q : Nat → Bool} {base g B : Nat} {w w1 : World} {sv mv : Value} {k c f : Int} {D M : List Nat} (h : LookAt Q base g B w sv k c f D M) (hmv : w.cell? ⟨g, 5, none⟩ = some mv) (hk : KeepsX 54 w w1) :
    w1.cell? ⟨g, 5, none⟩ = some mv ∧ w1.frozen? ⟨g, 5, none⟩ = false := by
  obtain ⟨mv', h1, _⟩ := h
  have e1 : w1.heap[g]? = w.heap[g]? := hk g (Array.getElem?_eq_some_iff.1 h1).1 (by intro cur fr he; rw [h1] at he; injection he with he; injection he with _ ht; exact absurd ht (by decide))
  refine ⟨by rw [← hmv]; exact World.cell?_of_block e1, ?_⟩
  rw [World.frozen?_of_block (a := ⟨g, 5, none⟩) e1]
  simp [World.frozen?, h1]
/-- The search's list takes one more. -/
theorem LookAt.found {Q : Nat → Bool} {base g B : Nat} {w w1 : World} {sv mv v1 : Value} {k c f : Int} {D M : List Nat} {s : Nat} (h : LookAt Q base g B w sv k c f D M) (hmv : w.cell? ⟨g, 5, none⟩ = some mv)
    (ho : OwnS base w1 v1 (M ++ [s])) (hb : Below base w w1) (hk : KeepsX 54 w w1) :
    LookAt Q base g B (w1.setCell ⟨g, 5, none⟩ v1) sv k c f D (M ++ [s]) ∧ KeepsC w (w1.setCell ⟨g, 5, none⟩ v1) ∧ Below base w (w1.setCell ⟨g, 5, none⟩ v1) := by
  obtain ⟨mv', h1, h2, h3, h4, h5⟩ := h
  have hlt := (Array.getElem?_eq_some_iff.1 h1).1
  have hsz := hb.size
  have e1 : w1.heap[g]? = some (.cells #[sv, .int .i64 k, .int .i64 c, .int .i64 f, .map (some B), mv'] 73 (0, 0)) := by
    rw [hk g hlt (by intro cur fr he; rw [h1] at he; injection he with he; injection he with _ ht; exact absurd ht (by decide))]; exact h1
  have e2 : (w1.setCell ⟨g, 5, none⟩ v1).heap[g]? = some (.cells #[sv, .int .i64 k, .int .i64 c, .int .i64 f, .map (some B), v1] 73 (0, 0)) := by
    simp [World.setCell, Array.getElem?_modify, e1]
  have hne : g ≠ B := by
    rintro rfl
    exact h2.no_cells _ _ _ h1
  have hsB := h2.lt
  have hs1 : Seen Q w1 B D := by
    obtain ⟨n, d, ⟨es, clock, hbk, r⟩, r2⟩ := h2
    refine ⟨n, d, ⟨es, clock, ?_, r⟩, r2⟩
    rw [hk B hsB (by intro cur fr he; rw [hbk] at he; cases he)]; exact hbk
  have hrow : OwnS base (w1.setCell ⟨g, 5, none⟩ v1) v1 (M ++ [s]) := by
    refine ⟨⟨ho.1.1, ?_⟩, ho.2⟩
    rcases ho.1.2 with h6 | ⟨gg, cap, cur, hv, hgg, hh, r⟩
    · exact .inl h6
    · refine .inr ⟨gg, cap, cur, hv, hgg, ?_, r⟩
      rw [Below.heap_setCell _ _ _ _ (by show gg ≠ g; rintro rfl; rw [e1] at hh; injection hh with hh; injection hh with _ ht; exact absurd ht (by decide))]
      exact hh
  have hb2 : Below base w (w1.setCell ⟨g, 5, none⟩ v1) := hb.setCell (p := ⟨g, 5, none⟩) h4 v1
  refine ⟨⟨v1, e2, hs1.setCell (a := ⟨g, 5, none⟩) (fun e => hne e.symm) v1, hrow, h4, h5⟩, ⟨hb2.size, fun i cur t fr ht1 ht2 hi => ?_⟩, hb2⟩
  rw [Below.heap_setCell _ _ _ _ (by show i ≠ g; rintro rfl; rw [h1] at hi; injection hi with hi; injection hi with _ ht; exact ht2 ht.symm)]
  rw [hk i (Array.getElem?_eq_some_iff.1 hi).1 (by intro cur' fr' he; rw [hi] at he; injection he with he; injection he with _ ht; exact ht1 ht)]
  exact hi

set_option maxRecDepth 100000 in
set_option maxHeartbeats 4000000 in
theorem cVisit (w0 : World) (g B : Nat) (sv : Value) (k c f : Int) (ms : List Mem) (hr : RdM w0 sv ms) (he : QM.errV k c f ms = 0) (s : Nat) : ∀ (D M : List Nat) (w : World), QM.Sub ms s → Below w0.heap.size w0 w → Good ms D M →
    LookAt (QM.qm k c f ms) w0.heap.size g B w sv k c f D M → Calls Try.prog 50 #[.pointer (some ⟨g, 0, none⟩), .int .u16 (s : Int)] w (Visited (QM.qm k c f ms) ms w0 g B sv k c f D M s w) := by
  obtain ⟨her, hval⟩ := QM.errV_zero.1 he
  have HR := Lib.hid hr
  have HL := Lib.hid hval
  have HQ := Lib.hid (fun s w hw hs => cHolds sv k c f ms s w hw hval her hs)
  clear hr hval he her
  generalize QM.qm k c f ms = Q at HQ ⊢
  induction s using Nat.strongRecOn with
  | _ s ih =>
    intro D M w hsub hbw hgood hla
    have hs : s < 65536 := Nat.lt_trans (hsub.lt HL.out) (by decide)
    obtain ⟨hDl, hMl⟩ := hgood.length HL.out
    obtain ⟨mv, hg, c0, c1, c2, c3, c4, c5, c5f, hom, hseen⟩ := hla.cells
    have IH := Lib.hid ih
    have HLA := Lib.hid hla
    have HG := Lib.hid hgood
    have HB := Lib.hid hbw
    have HS := Lib.hid hsub
    have HSN := Lib.hid hseen
    clear hla hgood hbw hsub hom hseen ih
    by_cases hin : s ∈ D
    · have HIN := Lib.hid hin
      clear hin
      obtain ⟨q, hq⟩ : ∃ q, q = Q s := ⟨_, rfl⟩
      have HQS := Lib.hid hq
      clear hq
      go_enter Try.func50, Try.ntmps50
      go_wp2_with (at_lookup; refine wp_seen_in s hs HSN.out HIN.out q HQS.out rfl _ _ rfl rfl rfl ?_)
      go_ret
      rw [HQS.out]
      exact ⟨rfl, D, M, QM.Run.refl D M, HIN.out, HLA.out, HB.out, KeepsC.refl w⟩
    · have HIN := Lib.hid hin
      clear hin
      have hq0 := HQ.out s w (HR.out.below HB.out) HS.out
      obtain ⟨q, hq⟩ : ∃ q, q = Q s := ⟨_, rfl⟩
      have HQS := Lib.hid hq
      rw [← hq] at hq0
      have HQ0 := Lib.hid hq0
      clear hq hq0
      cases q
      · go_enter Try.func50, Try.ntmps50
        go_wp2_with (at_lookup; refine wp_seen_out s hs HSN.out HIN.out rfl _ _ rfl rfl rfl ?_)
        refine HQ0.out.mono ?_
        rintro e w1 ⟨rfl, hb1⟩
        have hla1 := HLA.out.below hb1
        obtain ⟨mv1, hg1, d0, d1, d2, d3, d4, d5, d5f, hom1, hseen1⟩ := hla1.cells
        have HLA1 := Lib.hid hla1
        have HSN1 := Lib.hid hseen1
        have HB1 := Lib.hid (bnext HB.out hb1)
        have HK1 := Lib.hid (KeepsC.of_below hb1)
        clear hla1 hseen1 hom1 hb1 HQ0 c0 c1 c2 c3 c4 c5 c5f hg HLA HSN HB
        go_wp2_with (at_mapUpdate; refine wp_see s hs HSN1.out HIN.out (by omega) rfl _ _ _ rfl rfl rfl (by rw [← HQS.out]; rfl) ?_; intro w2 hsn2 hgr2)
        obtain ⟨hla2, hk2, hbf⟩ := HLA1.out.see hgr2 hsn2
        have HLA2 := Lib.hid hla2
        have HB2 := Lib.hid (hbf w0 HB1.out)
        have HK2 := Lib.hid (HK1.out.trans hk2)
        clear hla2 hk2 hbf hgr2 hsn2 d0 d1 d2 d3 d4 d5 d5f hg1 HLA1 HSN1 HB1 HK1
        go_ret
        rw [HQS.out]
        exact ⟨rfl, s :: D, M, QM.Run.leaf HS.out HIN.out HQS.out.symm, by simp, HLA2.out, HB2.out, HK2.out⟩
      · go_enter Try.func50, Try.ntmps50
        go_wp2_with (at_lookup; refine wp_seen_out s hs HSN.out HIN.out rfl _ _ rfl rfl rfl ?_)
        refine HQ0.out.mono ?_
        rintro e w1 ⟨rfl, hb1⟩
        have hla1 := HLA.out.below hb1
        obtain ⟨mv1, hg1, d0, d1, d2, d3, d4, d5, d5f, hom1, hseen1⟩ := hla1.cells
        have HLA1 := Lib.hid hla1
        have HSN1 := Lib.hid hseen1
        have HB1 := Lib.hid (bnext HB.out hb1)
        have HK1 := Lib.hid (KeepsC.of_below hb1)
        clear hla1 hseen1 hom1 hb1 HQ0 c0 c1 c2 c3 c4 c5 c5f hg HLA HSN HB
        go_wp2_with (at_mapUpdate; refine wp_see s hs HSN1.out HIN.out (by omega) rfl _ _ _ rfl rfl rfl (by rw [← HQS.out]; rfl) ?_; intro w2 hsn2 hgr2)
        obtain ⟨hla2, hk2, hbf⟩ := HLA1.out.see hgr2 hsn2
        have HLA2 := Lib.hid hla2
        have HB2 := Lib.hid (hbf w0 HB1.out)
        have HK2 := Lib.hid (HK1.out.trans hk2)
        clear hla2 hk2 hbf hgr2 hsn2 d0 d1 d2 d3 d4 d5 d5f hg1 HLA1 HSN1 HB1 HK1
        refine (cServers s w2 hs).mono ?_
        rintro e w3 ⟨v', rfl, ho3, hb3⟩
        have hla3 := HLA2.out.below hb3
        have hg3 : Good ms (s :: D) M := ⟨List.nodup_cons.2 ⟨HIN.out, HG.out.1⟩, fun t ht => (List.mem_cons.1 ht).elim (fun h => h ▸ HS.out) (HG.out.2.1 t), HG.out.2.2.1, fun t ht => by simp [HG.out.2.2.2 t ht]⟩
        have hlen := QM.sv_length s 12
        obtain ⟨av, cv, rfl, hcv, hlv⟩ := ho3.rd.shape
        have HO3 := Lib.hid ho3
        have HLA3 := Lib.hid hla3
        have HB3 := Lib.hid (bnext HB2.out hb3)
        have HK3 := Lib.hid (HK2.out.trans (KeepsC.of_below hb3))
        have HG3 := Lib.hid hg3
        clear ho3 hla3 hb3 hg3 HLA2 HB2 HK2
        go_wp2
        go_loopw [8, 39] (fun l i wr => ∃ (j : Nat) (Dj Mj : List Nat) (lf : Bool), j ≤ (QM.srv s).length ∧ i = .int .i64 j ∧ l = .bool lf ∧ Hid (LookAt Q w0.heap.size g B wr sv k c f Dj Mj) ∧ Hid (QM.Run Q ms (s :: D) M Dj Mj) ∧
          Hid (∀ (i : Nat) (x : Int), i < j → (QM.srv s)[i]? = some x → QM.del s x.toNat ∈ Dj) ∧ Hid (lf = true ↔ ∀ (i : Nat) (x : Int), i < j → (QM.srv s)[i]? = some x → Q (QM.del s x.toNat) = false) ∧
          Hid (OwnI w2.heap.size wr (.slice av (QM.srv s).length cv) (QM.srv s)) ∧ Hid (Below w0.heap.size w0 wr) ∧ Hid (KeepsC w wr)) (fun _ i _ => (QM.srv s).length - (intOf i).toNat)
        case atStart => exact ⟨0, s :: D, M, true, Nat.zero_le _, rfl, rfl, HLA3.out, QM.Run.refl _ _, (fun i x h => absurd h (by omega)), ⟨fun _ i x h => absurd h (by omega), fun _ => rfl⟩, HO3.out, HB3.out, HK3.out⟩
        case round =>
          obtain ⟨j, Dj, Mj, lf, hj, rfl, rfl, hla, hrun, hdel, hlf, hov, hbr, hkr⟩ := hrel
          clear HLA3 HO3 HB3 HK3
          by_cases hlt : j < (QM.srv s).length
          · obtain ⟨b, o, hi, hb, e0⟩ := atI hov.out.rd j (QM.srv s)[j] (List.getElem?_eq_getElem hlt)
            have hq : (j : Int) < ((QM.srv s).length : Int) := by omega
            have hgx := Lib.hid (List.getElem?_eq_getElem hlt)
            have hxs := srv_at (List.getElem?_eq_getElem hlt)
            generalize (QM.srv s)[j] = x at e0 hgx hxs
            obtain ⟨hx1, hx2, hxb⟩ := hxs
            have hx0 : 0 ≤ x := by omega
            have hx16 : x ≤ 16 := by omega
            have hand := andNot_pow hs (show x.toNat ≤ 12 by omega)
            have hdl := del_lt hs (show x.toNat ≤ 12 by omega) hxb
            have hcall := IH.out (QM.del s x.toNat) hdl Dj Mj wr (sub_del HS.out) hbr.out (HG3.out.run hrun.out) hla.out
            have HCALL := Lib.hid hcall
            have hdx := Lib.hid (show QM.del s x.toNat = QM.del s x.toNat from rfl)
            clear hcall hdl hxb
            generalize hd : QM.del s x.toNat = d at hand HCALL
            have HD := Lib.hid hd
            clear hd hdx
            go_wp2_with fail
            refine HCALL.out.mono ?_
            rintro e w4 ⟨rfl, D4, M4, hr4, hin4, hla4, hb4, hk4⟩
            have HLA4 := Lib.hid hla4
            have HR4 := Lib.hid (hrun.out.trans hr4)
            have HO4 := Lib.hid (OwnG.keepC hov.out hk4)
            have HB4 := Lib.hid hb4
            have HK4 := Lib.hid (hkr.out.trans hk4)
            have HD4 := Lib.hid (show ∀ (i : Nat) (y : Int), i < j + 1 → (QM.srv s)[i]? = some y → QM.del s y.toNat ∈ D4 from fun i y h1 h2 => by
              by_cases e : i = j
              · subst e
                rw [hgx.out] at h2
                cases h2
                rw [HD.out]; exact hin4
              · exact hr4.sub _ (hdel.out i y (by omega) h2))
            have hstep : ∀ lf' : Bool, (lf' = true ↔ lf = true ∧ Q d = false) → (lf' = true ↔ ∀ (i : Nat) (y : Int), i < j + 1 → (QM.srv s)[i]? = some y → Q (QM.del s y.toNat) = false) := fun lf' h => by
              rw [h, hlf.out]
              constructor
              · rintro ⟨h1, h2⟩ i y h3 h4
                by_cases e : i = j
                · subst e
                  rw [hgx.out] at h4
                  cases h4
                  rw [HD.out]; exact h2
                · exact h1 i y (by omega) h4
              · intro h1
                exact ⟨fun i y h2 h3 => h1 i y (by omega) h3, by rw [← HD.out]; exact h1 j x (by omega) hgx.out⟩
            have HST := Lib.hid hstep
            clear hla hrun hdel hlf hov hbr hkr hla4 hr4 hb4 hk4 hin4 hstep hgx HD HCALL hand e0 hb hi
            generalize Q d = qd at HST ⊢
            cases qd
            · have HL2 := Lib.hid (HST.out lf (by simp))
              clear HST
              go_wp2
              go_roundw
              case rel => exact ⟨j + 1, D4, M4, lf, by omega, by go_num, rfl, HLA4, HR4, HD4, HL2, HO4, HB4, HK4⟩
              case measure => simp [intOf]; omega
            · have HL2 := Lib.hid (HST.out false (by simp))
              clear HST
              go_wp2
              go_roundw
              case rel => exact ⟨j + 1, D4, M4, false, by omega, by go_num, rfl, HLA4, HR4, HD4, HL2, HO4, HB4, HK4⟩
              case measure => simp [intOf]; omega
          · obtain rfl : j = (QM.srv s).length := by omega
            have hq : ¬ (((QM.srv s).length : Int) < ((QM.srv s).length : Int)) := by omega
            have HALL := Lib.hid (show ∀ i, s.testBit i = true → QM.del s i ∈ Dj from fun i hi => by
              obtain ⟨n, x, h1, rfl⟩ := srv_bits HL.out HS.out i hi
              exact hdel.out n x (List.getElem?_eq_some_iff.1 h1).1 h1)
            have HLF := Lib.hid (show lf = true ↔ ∀ i, s.testBit i = true → Q (QM.del s i) = false from by
              rw [hlf.out]
              constructor
              · intro h i hi
                obtain ⟨n, x, h1, rfl⟩ := srv_bits HL.out HS.out i hi
                exact h n x (List.getElem?_eq_some_iff.1 h1).1 h1
              · intro h n x _ h1
                exact h _ (srv_at h1).2.2)
            have hnode := QM.Run.node HS.out HIN.out HQS.out.symm hrun.out HALL.out lf HLF.out
            obtain ⟨mv3, hg3, d0, d1, d2, d3, d4, d5, d5f, hom3, hseen3⟩ := hla.out.cells
            obtain ⟨_, hMjl⟩ := (HG3.out.run hrun.out).length HL.out
            have HSIN := Lib.hid (hrun.out.sub s (by simp))
            clear hdel hlf hrun hov HALL HLF hseen3
            have HNODE := Lib.hid hnode
            have HOM := Lib.hid hom3
            clear hnode hom3
            cases lf
            · have HN := Lib.hid (show QM.Run Q ms D M Dj Mj by have := HNODE.out; simpa using this)
              clear HNODE
              go_wp2
              go_ret
              rw [HQS.out]
              exact ⟨rfl, Dj, Mj, HN.out, HSIN.out, hla.out, hbr.out, hkr.out⟩
            · have HN := Lib.hid (show QM.Run Q ms D M Dj (Mj ++ [s]) by have := HNODE.out; simpa using this)
              have hsz := hbr.out.size
              have HD5 := Lib.hid d5
              clear HNODE
              go_wp2_with (at_builtin; refine wp_appG1 setE s rfl _ _ rfl rfl HOM.out rfl (by omega) hsz ?_; intro v1 w5 ho5 hb5 hk5 _; obtain ⟨av5, cv5, rfl, _, _⟩ := ho5.rd.shape; obtain ⟨x5, x5f⟩ := hla.out.place HD5.out hk5)
              obtain ⟨hl5, hk6, hb6⟩ := hla.out.found HD5.out ho5 hb5 hk5
              rw [show (Mj ++ [s]).length = Mj.length + 1 by simp] at hl5 hk6 hb6
              go_ret
              rw [HQS.out]
              exact ⟨rfl, Dj, Mj ++ [s], HN.out, HSIN.out, hl5, hbr.out.trans hb6, hkr.out.trans hk6⟩

/-- The list of what was found. -/
def Found (k c f : Int) (ms : List Mem) (w : World) (e : Ending) (w' : World) : Prop := ∃ v M, e = .returned v ∧ OwnS w.heap.size w' v M ∧ QM.MinM k c f ms M ∧ Below w.heap.size w w'

set_option maxRecDepth 100000 in
set_option maxHeartbeats 2000000 in
theorem cMinimalSets (sv : Value) (k c f : Int) (ms : List Mem) (w : World) (hr : RdM w sv ms) (he : QM.errV k c f ms = 0) :
    Calls Try.prog 37 #[vw sv k c f] w (Found k c f ms w) := by
  obtain ⟨her, hval⟩ := QM.errV_zero.1 he
  have hv := VBox.fresh w sv k c f
  have hB := below_fresh w (.cells #[sv, .int .i64 k, .int .i64 c, .int .i64 f] 26)
  have h0 := hr.below hB
  obtain ⟨ad, cp, rfl, hcp, hl⟩ := hr.shape
  have hvl := fun w hw => cValidate (.slice ad ms.length cp) k c f ms w hw
  rw [he] at hvl
  have HC := Lib.hid hvl
  have H := Lib.hid h0
  have HV := Lib.hid hv
  have HB := Lib.hid hB
  have HL := Lib.hid hval
  have HE := Lib.hid he
  have hmm := @run_makeMap Try.prog
  clear h0 hv hB hr hval hvl he her
  generalize hw0 : w.alloc (.cells #[.slice ad ms.length cp, .int .i64 k, .int .i64 c, .int .i64 f] 26) = w0 at H HV HB
  obtain ⟨v0, v1, v2, v3, v4⟩ := HV.out
  have HW0 := Lib.hid hw0
  clear hw0
  go_enter Try.func37, Try.ntmps37
  go_wp2_with fail
  rw [HW0.out]
  refine (HC.out _ H.out).mono ?_
  rintro e w1 ⟨rfl, hb1⟩
  obtain ⟨u0, u1, u2, u3, u4⟩ := HV.out.below hb1
  have HR1 := Lib.hid (H.out.below hb1)
  have HB1 := Lib.hid (bnext HB.out hb1)
  clear v0 v1 v2 v3 v4 HC HW0 H HV HB hb1
  go_wp2_with fail
  have hla0 : LookAt (QM.qm k c f ms) w1.heap.size (w1.heap.size + 1) w1.heap.size ((w1.alloc (.map #[] 0)).alloc (.cells #[.slice ad ms.length cp, .int .i64 k, .int .i64 c, .int .i64 f, .map (some w1.heap.size), .slice none 0 0] 73)) (.slice ad ms.length cp) k c f [] [] := by
    refine ⟨.slice none 0 0, ?_, (Seen.fresh _ w1).below (below_fresh _ _), OwnG.nil hlS _ _ _, by omega, Nat.le_refl _⟩
    have := heap_alloc_new (w1.alloc (.map #[] 0)) (.cells #[.slice ad ms.length cp, .int .i64 k, .int .i64 c, .int .i64 f, .map (some w1.heap.size), .slice none 0 0] 73)
    rwa [World.size_alloc] at this
  have hb02 : Below w1.heap.size w1 ((w1.alloc (.map #[] 0)).alloc (.cells #[.slice ad ms.length cp, .int .i64 k, .int .i64 c, .int .i64 f, .map (some w1.heap.size), .slice none 0 0] 73)) := bnext (below_fresh _ _) (below_fresh _ _)
  generalize ((w1.alloc (.map #[] 0)).alloc (.cells #[.slice ad ms.length cp, .int .i64 k, .int .i64 c, .int .i64 f, .map (some w1.heap.size), .slice none 0 0] 73)) = w2 at hla0 hb02 ⊢
  refine (cMembersOf (.slice ad ms.length cp) ms 0 w2 (HR1.out.below hb02) HL.out).mono ?_
  rintro e w3 ⟨rfl, hb3⟩
  have hla3 := hla0.below hb3
  have hb13 := bnext hb02 hb3
  have HCALL := Lib.hid (cVisit w1 (w1.heap.size + 1) w1.heap.size (.slice ad ms.length cp) k c f ms HR1.out HE.out (QM.memL ms) [] [] w3 (QM.sub_mem ms) hb13 ⟨List.nodup_nil, fun _ h => (by cases h), List.nodup_nil, fun _ h => (by cases h)⟩ hla3)
  have HBK := Lib.hid HB1.out
  have HSZ := Lib.hid HB1.out.size
  clear hla0 hb02 hb3 hla3 hb13 u0 u1 u2 u3 u4 hmm HB1
  go_wp2_with fail
  refine HCALL.out.mono ?_
  rintro e w4 ⟨rfl, D', M', hrun, hin, hla, hbw, hkc⟩
  have HM := Lib.hid (hrun.whole HL.out (QM.qm_mono HL.out) hin)
  obtain ⟨mv, hg, d0, d1, d2, d3, d4, d5, d5f, hom, hseen⟩ := hla.cells
  have HO := Lib.hid (OwnG.mono hom HSZ.out)
  have HB4 := Lib.hid (HBK.out.trans (hbw.mono HSZ.out))
  clear HCALL hrun hin hla hkc hom hseen
  generalize QM.qm k c f ms (QM.memL ms) = q0
  go_wp2
  go_ret
  exact ⟨_, M', rfl, HO.out, HM.out, HB4.out⟩

end Go.Proofs.Ytbbgjckiooejhaa
