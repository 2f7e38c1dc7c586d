/-
  The call of command.Compile: what DM.cmpl gives. Conditions: the library's variables hold what they are laid with; the summary reads, no version of it is negative; the text has at most a million bytes.
-/
import Derived.Test.YthgnhaimdkcmeaaGreatDoorDCmp
namespace Go.Proofs.YthgnhaimdkcmeaaGreatDoor
open Go.RowKit Go.Joins Go.Shelf
open JM (Chg)
open MM (Mem Ent Sm Tri)
attribute [local go_sem] Oper.semAt_some

/-- 'out = append(out, x)' in a fence, out the call's own list. -/
theorem wpIn_appG1 {F : Fence} {n : Nat} {α : Type} {P : Program} {t e : TypeId} {size bytes : Nat} {enc : α → List Value} {w : World} {ops : Array Oper} {rest : List Oper} {o : Oper} {a : Act} {Q : Exit → Act → World → Prop} {base : Nat} {v : Value} {ys : List α}
    (E : IsElem P t e size bytes enc) (x : α) (hgd : o.guard = none) (s r : Operand) (ho : o.op = .call { callee := .builtin .append, args := #[s, r], argTypes := #[t, t] })
    (hs : a.eval s = v) (hown : OwnG enc e size base w v ys) (hx : a.eval r = .slice (some ⟨w.heap.size, 0, none⟩) 1 1) (hlen : ys.length ≤ 1073741824) (hb : base ≤ w.heap.size)
    (h : ∀ v' w', OwnG enc e size base w' v' (ys ++ [x]) → Below base w w' → KeepsOthers w w' → wpListIn F n P ops Q rest (a.put o.dst v') w') :
    wpListIn F n P ops Q (o :: rest) a (w.alloc (.cells (enc x).toArray e)) := by
  obtain ⟨i0, z, hi, hz0, hz1, hz2, hz3⟩ := E.info
  have ho1 := World.ownsRow.alloc hown.1 (.cells (enc x).toArray e)
  refine wpListIn_append_own _ hgd s r t ho base e i0 z size bytes E.ht hi hz0 hz1 hz2 hz3 E.pos _ _ _ hs ho1 ⟨w.heap.size, 0, none⟩ 1 1 (enc x) hx (by rw [E.len, Nat.one_mul]) ?_ (E.one x) ?_ ?_ ?_ ?_
  · intro j u hu
    rw [addr_plain, Nat.zero_add, World.cell?_alloc_new]
    simpa using hu
  · unfold maxLen; omega
  · have := E.fits
    calc (ys.length + 1) * bytes ≤ (1073741824 + 1) * 4096 := Nat.mul_le_mul (by omega) this
      _ ≤ 140737488355328 := by decide
  · simp; omega
  · intro v' w1 ho2 hg1 _
    refine h v' w1 ⟨?_, hown.2⟩ (((Below.refl _ _).alloc hb _).grown hg1 (by simp; omega) (fun k hk => (World.ownsRow.lt hown.1 k hk).1)) ⟨Nat.le_trans (by simp) hg1.size, fun _ ob hk hob => ?_⟩
    · rw [cellsOf_append, List.length_append]
      simpa [cellsOf] using ho2
    · have h0 := below_block hk (below_fresh w (.cells (enc x).toArray e))
      refine (hg1.block _ (Array.getElem?_eq_some_iff.1 h0).1 (fun he => ?_)).trans h0
      rcases ho1.2 with ⟨rfl, _⟩ | ⟨g, cap, cur, rfl, _, hh, _⟩
      · cases he
      · simp only [Value.ownBlock] at he
        cases he
        rw [h0] at hh
        cases hh
        cases hob

/-- The state within a round that began in W. -/
structure Sx (B : Nat) (w0 : World) (sg : Array Value) (acc : List Chg) (va : Value) (k : Int) (W X : World) : Prop where
  x : Bx B w0 sg va k X
  o : OwnC (B + 9) X va acc
  z : B + 9 ≤ X.heap.size
  f : KeepsFrom (B + 9) W X
  k : Kb (B + 1 + 1 + 1 + 1 + 1 + 1 + 1) (B + 1 + 1 + 1 + 1 + 1 + 1) (B + 1 + 1 + 1 + 1 + 1 + 1 + 1 + 1) W X
theorem keeps_below {B : Nat} {W W' : World} (h : Below W.heap.size W W') : KeepsFrom B W W' := ⟨h.size, fun _ _ _ hk _ => below_block hk h⟩
theorem Sx.below {B : Nat} {w0 : World} {sg : Array Value} {acc : List Chg} {va : Value} {k : Int} {W X Y : World} (h : Sx B w0 sg acc va k W X) (hb : Below X.heap.size X Y) : Sx B w0 sg acc va k W Y :=
  ⟨h.x.below hb (by have := h.z; omega), h.o.below hb, Nat.le_trans h.z hb.size, h.f.trans (keeps_below hb), h.k.trans (Kb.below hb (by have := h.z; omega) (by have := h.z; omega) (by have := h.z; omega))⟩
theorem Sx.start {B : Nat} {w0 : World} {sg : Array Value} {acc : List Chg} {va : Value} {k k' : Int} {W : World} (h : Bx B w0 sg va k W) (ho : OwnC (B + 9) W va acc) (hz : B + 9 ≤ W.heap.size) :
    Sx B w0 sg acc va k' W (W.setCell ⟨B + 1 + 1 + 1 + 1 + 1, 0, none⟩ (.int .i64 k')) := by
  have hs : ∀ i, i ≠ B + 5 → (W.setCell ⟨B + 1 + 1 + 1 + 1 + 1, 0, none⟩ (.int .i64 k')).heap[i]? = W.heap[i]? := fun i hi => heap_setCell_other _ _ _ _ hi
  exact ⟨⟨(hs _ (by omega)).trans h.s, (hs _ (by omega)).trans h.r1, (hs _ (by omega)).trans h.r2, (hs _ (by omega)).trans h.r3, (hs _ (by omega)).trans h.c, heap_setCell_same _ _ _ _ _ _ h.n, h.b.setCell (show B ≤ B + 5 by omega) _⟩,
    ho.stay fun g cur fr h1 h2 => (hs g (by omega)).trans h2, by simpa using hz, (KeepsOthers.setCell _ _ _).from _, by simp, hs _ (by omega), hs _ (by omega), hs _ (by omega)⟩

theorem Sx.store {B : Nat} {w0 : World} {sg : Array Value} {acc acc' : List Chg} {va v : Value} {k : Int} {W X Y : World} (h : Sx B w0 sg acc va k W X) (hb : Below (B + 9) X Y) (ho : OwnC (B + 9) Y v acc') (hk : KeepsOthers X Y) :
    Sx B w0 sg acc' v k W (Y.setCell ⟨B + 1 + 1 + 1 + 1, 0, none⟩ v) := by
  have hs : ∀ i, i ≠ B + 4 → i < B + 9 → (Y.setCell ⟨B + 1 + 1 + 1 + 1, 0, none⟩ v).heap[i]? = X.heap[i]? := fun i hi hj => (heap_setCell_other _ _ _ _ hi).trans (hb.block i hj)
  exact ⟨⟨(hs _ (by omega) (by omega)).trans h.x.s, (hs _ (by omega) (by omega)).trans h.x.r1, (hs _ (by omega) (by omega)).trans h.x.r2, (hs _ (by omega) (by omega)).trans h.x.r3, heap_setCell_same _ _ _ _ _ _ ((hb.block _ (by omega)).trans h.x.c), (hs _ (by omega) (by omega)).trans h.x.n, (h.x.b.trans (hb.mono (by omega))).setCell (show B ≤ B + 4 by omega) _⟩,
    ho.stay fun g cur fr h1 h2 => (heap_setCell_other _ _ _ _ (show g ≠ B + 4 by omega)).trans h2, by have := h.z; have := hb.size; simp; omega, h.f.trans ((hk.trans (KeepsOthers.setCell _ _ _)).from _), h.k.trans ⟨by have := hb.size; simpa using this, hs _ (by omega) (by omega), hs _ (by omega) (by omega), hs _ (by omega) (by omega)⟩⟩
theorem Sx.fin {B : Nat} {w0 : World} {sg : Array Value} {s : Sm} {acc : List Chg} {a : Option Addr} {l c : Nat} {pre : List Ln} {ln : Ln} {W X : World} (h : Sx B w0 sg acc (.slice a l c) ((pre.length : Int) + 1) W X) (hc : Came s (pre ++ [ln]) acc) :
    KeepsFrom (B + 9) W X ∧ Kb (B + 1 + 1 + 1 + 1 + 1 + 1 + 1) (B + 1 + 1 + 1 + 1 + 1 + 1) (B + 1 + 1 + 1 + 1 + 1 + 1 + 1 + 1) W X ∧ Inv B w0 sg s (pre ++ [ln]) X :=
  ⟨h.f, h.k, acc, a, l, c, hc, by rw [show (((pre ++ [ln]).length : Nat) : Int) = (pre.length : Int) + 1 by simp]; exact h.x, h.o, h.z⟩
/-- The results laid in their cells. -/
theorem Sx.bad {B : Nat} {w0 : World} {sg : Array Value} {s : Sm} {acc : List Chg} {va : Value} {k er : Int} {xs : List Ln} {W X : World} (h : Sx B w0 sg acc va k W X) (hf : Fell s xs k er) :
    KeepsFrom (B + 9) W (((X.setCell ⟨B + 1, 0, none⟩ (.slice none 0 0)).setCell ⟨B + 1 + 1, 0, none⟩ (.int .i64 k)).setCell ⟨B + 1 + 1 + 1, 0, none⟩ (.int .i64 er)) ∧ Ivx B w0 s xs (((X.setCell ⟨B + 1, 0, none⟩ (.slice none 0 0)).setCell ⟨B + 1 + 1, 0, none⟩ (.int .i64 k)).setCell ⟨B + 1 + 1 + 1, 0, none⟩ (.int .i64 er)) := by
  have h1 := heap_setCell_same X (B + 1) 0 _ _ (.slice none 0 0) h.x.r1
  have k1 : KeepsOthers X (X.setCell ⟨B + 1, 0, none⟩ (.slice none 0 0)) := KeepsOthers.setCell _ _ _
  have b1 := h.x.b.setCell (p := ⟨B + 1, 0, none⟩) (show B ≤ B + 1 by omega) (.slice none 0 0)
  have o1 : ∀ i, i ≠ B + 1 → (X.setCell ⟨B + 1, 0, none⟩ (.slice none 0 0)).heap[i]? = X.heap[i]? := fun i hi => heap_setCell_other _ _ _ _ hi
  have z1 : (X.setCell ⟨B + 1, 0, none⟩ (.slice none 0 0)).heap.size = X.heap.size := by simp
  generalize X.setCell ⟨B + 1, 0, none⟩ (.slice none 0 0) = Y at *
  have h2 := heap_setCell_same Y (B + 1 + 1) 0 _ _ (.int .i64 k) ((o1 _ (by omega)).trans h.x.r2)
  have k2 : KeepsOthers Y (Y.setCell ⟨B + 1 + 1, 0, none⟩ (.int .i64 k)) := KeepsOthers.setCell _ _ _
  have b2 := b1.setCell (p := ⟨B + 1 + 1, 0, none⟩) (show B ≤ B + 1 + 1 by omega) (.int .i64 k)
  have o2 : ∀ i, i ≠ B + 1 + 1 → (Y.setCell ⟨B + 1 + 1, 0, none⟩ (.int .i64 k)).heap[i]? = Y.heap[i]? := fun i hi => heap_setCell_other _ _ _ _ hi
  have z2 : (Y.setCell ⟨B + 1 + 1, 0, none⟩ (.int .i64 k)).heap.size = Y.heap.size := by simp
  generalize Y.setCell ⟨B + 1 + 1, 0, none⟩ (.int .i64 k) = Z at *
  have h3 := heap_setCell_same Z (B + 1 + 1 + 1) 0 _ _ (.int .i64 er) ((o2 _ (by omega)).trans ((o1 _ (by omega)).trans h.x.r3))
  have k3 : KeepsOthers Z (Z.setCell ⟨B + 1 + 1 + 1, 0, none⟩ (.int .i64 er)) := KeepsOthers.setCell _ _ _
  have b3 := b2.setCell (p := ⟨B + 1 + 1 + 1, 0, none⟩) (show B ≤ B + 1 + 1 + 1 by omega) (.int .i64 er)
  have o3 : ∀ i, i ≠ B + 1 + 1 + 1 → (Z.setCell ⟨B + 1 + 1 + 1, 0, none⟩ (.int .i64 er)).heap[i]? = Z.heap[i]? := fun i hi => heap_setCell_other _ _ _ _ hi
  have z3 : (Z.setCell ⟨B + 1 + 1 + 1, 0, none⟩ (.int .i64 er)).heap.size = Z.heap.size := by simp
  exact ⟨h.f.trans (((k1.trans k2).trans k3).from _), k, er, hf, (o3 _ (by omega)).trans ((o2 _ (by omega)).trans h1), (o3 _ (by omega)).trans h2, h3, b3, by rw [z3, z2, z1]; exact h.z⟩
theorem left_drew {B n : Nat} {w0 : World} {s : Sm} {xs : List Ln} {W X : World} (h : KeepsFrom n W X ∧ Ivx B w0 s xs X) : KeepsFrom n W X.drew ∧ Ivx B w0 s xs X.drew := by
  obtain ⟨h0, n, er, h1, h2, h3, h4, h5, h6⟩ := h
  exact ⟨⟨h0.size, h0.same⟩, n, er, h1, h2, h3, h4, h5.drew, h6⟩
theorem skip_pre {l : List UInt8} (h : l ≠ []) : DM.skip l = Lib.hasPrefix l [35] := by
  cases l with
  | nil => exact absurd rfl h
  | cons a r =>
    unfold DM.skip Lib.hasPrefix
    show (some a == some 35) = ((35 == a) && [].isPrefixOf r)
    rw [Bool.eq_iff_iff]
    constructor
    · intro h
      have : a = 35 := by simpa using h
      subst this; rfl
    · intro h
      have : (35 : UInt8) = a := by simpa using h
      subst this; rfl
theorem prs_shape (l : List UInt8) : ∃ k sv t a b c er, DM.prs l = ((k, sv, t, 0, a, b, c), er) ∧ (er = 0 → k = 1 ∨ k = 2 ∨ k = 3 ∨ k = 4) := by
  have key : ∀ k sv t a b c : Int, (k = 1 ∨ k = 2 ∨ k = 3 ∨ k = 4) → DM.frm (DM.sp 32 l) = some (k, sv, t, 0, a, b, c) → ∃ k sv t a b c er, DM.prs l = ((k, sv, t, 0, a, b, c), er) ∧ (er = 0 → k = 1 ∨ k = 2 ∨ k = 3 ∨ k = 4) := by
    intro k sv t a b c hk hf
    unfold DM.prs
    rw [hf]
    by_cases h : JM.errCh (DM.ver (k, sv, t, 0, a, b, c)) = 0
    · exact ⟨k, sv, t, a, b, c, 0, by simp [h], fun _ => hk⟩
    · exact ⟨0, 0, 0, 0, 0, 0, _, by simp only [if_neg h]; rfl, fun e => absurd e h⟩
  cases DM.way l with
  | join b _ _ h3 _ => exact key _ _ _ _ _ _ (by omega) h3
  | joinw b d _ _ h3 _ _ => exact key _ _ _ _ _ _ (by omega) h3
  | remove b _ _ h3 _ => exact key _ _ _ _ _ _ (by omega) h3
  | weight b d _ _ h3 _ _ => exact key _ _ _ _ _ _ (by omega) h3
  | maj _ h3 => exact key _ _ _ _ _ _ (by omega) h3
  | wtd _ h3 => exact key _ _ _ _ _ _ (by omega) h3
  | grid b _ _ h3 _ => exact key _ _ _ _ _ _ (by omega) h3
  | mask b _ _ h3 _ => exact key _ _ _ _ _ _ (by omega) h3
  | none _ _ _ _ _ _ _ _ h => exact ⟨0, 0, 0, 0, 0, 0, 11, by unfold DM.prs; rw [h]; rfl, fun e => by cases e⟩

def Cpost (text : ByteArray) (s : Sm) (w : World) (e : Ending) (w' : World) : Prop := ∃ v, e = .returned (.tuple #[v, .int .i64 (DM.cmpl text.data.toList s).2.1, .int .i64 (DM.cmpl text.data.toList s).2.2]) ∧ RdC w' v (DM.cmpl text.data.toList s).1 ∧ Below w.heap.size w w'
theorem below_putObj {B D : Nat} {w0 W : World} (h : Below B w0 W) (hD : B ≤ D) (o : Obj) : Below B w0 (W.putObj D o) :=
  h.trans ⟨rfl, rfl, rfl, by simp [World.putObj], fun k hk => World.putObj_heap_other (by omega)⟩
theorem three_put {B : Nat} {w0 W : World} {ta tb tc : TypeId} {u1 u2 u3 : Value} (r1 : W.heap[B + 1]? = some (.cells #[u1] ta (0, 0))) (r2 : W.heap[B + 1 + 1]? = some (.cells #[u2] tb (0, 0))) (r3 : W.heap[B + 1 + 1 + 1]? = some (.cells #[u3] tc (0, 0))) (b : Below B w0 W) (v1 v2 v3 : Value) :
    (((W.setCell ⟨B + 1, 0, none⟩ v1).setCell ⟨B + 1 + 1, 0, none⟩ v2).setCell ⟨B + 1 + 1 + 1, 0, none⟩ v3).heap[B + 1]? = some (.cells #[v1] ta (0, 0)) ∧
    (((W.setCell ⟨B + 1, 0, none⟩ v1).setCell ⟨B + 1 + 1, 0, none⟩ v2).setCell ⟨B + 1 + 1 + 1, 0, none⟩ v3).heap[B + 1 + 1]? = some (.cells #[v2] tb (0, 0)) ∧
    (((W.setCell ⟨B + 1, 0, none⟩ v1).setCell ⟨B + 1 + 1, 0, none⟩ v2).setCell ⟨B + 1 + 1 + 1, 0, none⟩ v3).heap[B + 1 + 1 + 1]? = some (.cells #[v3] tc (0, 0)) ∧
    (∀ i, B + 3 < i → (((W.setCell ⟨B + 1, 0, none⟩ v1).setCell ⟨B + 1 + 1, 0, none⟩ v2).setCell ⟨B + 1 + 1 + 1, 0, none⟩ v3).heap[i]? = W.heap[i]?) ∧
    Below B w0 (((W.setCell ⟨B + 1, 0, none⟩ v1).setCell ⟨B + 1 + 1, 0, none⟩ v2).setCell ⟨B + 1 + 1 + 1, 0, none⟩ v3) := by
  have h1 := heap_setCell_same W (B + 1) 0 _ _ v1 r1
  have b1 := b.setCell (p := ⟨B + 1, 0, none⟩) (show B ≤ B + 1 by omega) v1
  have o1 : ∀ i, i ≠ B + 1 → (W.setCell ⟨B + 1, 0, none⟩ v1).heap[i]? = W.heap[i]? := fun i hi => heap_setCell_other _ _ _ _ hi
  generalize W.setCell ⟨B + 1, 0, none⟩ v1 = Y at *
  have h2 := heap_setCell_same Y (B + 1 + 1) 0 _ _ v2 ((o1 _ (by omega)).trans r2)
  have b2 := b1.setCell (p := ⟨B + 1 + 1, 0, none⟩) (show B ≤ B + 1 + 1 by omega) v2
  have o2 : ∀ i, i ≠ B + 1 + 1 → (Y.setCell ⟨B + 1 + 1, 0, none⟩ v2).heap[i]? = Y.heap[i]? := fun i hi => heap_setCell_other _ _ _ _ hi
  generalize Y.setCell ⟨B + 1 + 1, 0, none⟩ v2 = Z at *
  have h3 := heap_setCell_same Z (B + 1 + 1 + 1) 0 _ _ v3 ((o2 _ (by omega)).trans ((o1 _ (by omega)).trans r3))
  have b3 := b2.setCell (p := ⟨B + 1 + 1 + 1, 0, none⟩) (show B ≤ B + 1 + 1 + 1 by omega) v3
  have o3 : ∀ i, i ≠ B + 1 + 1 + 1 → (Z.setCell ⟨B + 1 + 1 + 1, 0, none⟩ v3).heap[i]? = Z.heap[i]? := fun i hi => heap_setCell_other _ _ _ _ hi
  exact ⟨(o3 _ (by omega)).trans ((o2 _ (by omega)).trans h1), (o3 _ (by omega)).trans h2, h3, fun i hi => (o3 _ (by omega)).trans ((o2 _ (by omega)).trans (o1 _ (by omega))), b3⟩
set_option maxRecDepth 100000 in
theorem cmp_end {W : World} {B D : Nat} {tm : Array Value} {v : Value} {k er : Int} {R : Ending → World → Prop} (h4 : tm.getD 4 undef = .pointer (some ⟨B + 1, 0, none⟩)) (h5 : tm.getD 5 undef = .pointer (some ⟨B + 1 + 1, 0, none⟩)) (h6 : tm.getD 6 undef = .pointer (some ⟨B + 1 + 1 + 1, 0, none⟩))
    (c1 : W.heap[B + 1]? = some (.cells #[v] 39 (0, 0))) (c2 : W.heap[B + 1 + 1]? = some (.cells #[.int .i64 k] 3 (0, 0))) (c3 : W.heap[B + 1 + 1 + 1]? = some (.cells #[.int .i64 er] 40 (0, 0)))
    (hD : W.heap[D]? = some (.deferred (some []))) (hR : R (.returned (.tuple #[v, .int .i64 k, .int .i64 er])) (W.putObj D (.deferred none))) :
    bodyPostM Fence.wide 6 Tryz.prog Tryz.f8 R .ret { tmps := tm, defers := [{ target := .collected D, args := #[] }] } W := by
  have ne : ∀ i (u : Value) t, W.heap[i]? = some (.cells #[u] t (0, 0)) → i ≠ D := fun i u t hi e => by
    subst e
    rw [hi] at hD
    cases hD
  have d1 := cell_of_one ((World.putObj_heap_other (o := .deferred none) (ne _ _ _ c1)).trans c1)
  have d2 := cell_of_one ((World.putObj_heap_other (o := .deferred none) (ne _ _ _ c2)).trans c2)
  have d3 := cell_of_one ((World.putObj_heap_other (o := .deferred none) (ne _ _ _ c3)).trans c3)
  refine ⟨by simp, .inl ⟨D, _, rfl, run_takeDeferred hD, _, ?_, hR⟩⟩
  rw [Array.getD_eq_getD_getElem?] at h4 h5 h6
  simp [results, Tryz.f8, go_sem, h4, h5, h6, d1, d2, d3]

set_option maxRecDepth 100000 in
set_option maxHeartbeats 8000000 in
theorem cCompile (text : ByteArray) (x y z : Value) (s : Sm) (w : World) (ht : text.size ≤ 1000000) (hV : Vars w) (hx : RdI w x s.J) (hy : RdI w y s.R) (hz : RdW w z s.W) (hsv : 0 ≤ s.v) (hwv : ∀ u, 0 ≤ DM.wv s.W u) (hlW : s.W.length ≤ 1000000) :
    Calls Tryz.prog 8 #[.string text, Go.Proofs.YthgnhaimdkcmeaaGreatDoor.sv x y z s.k s.c s.f s.v s.a s.n] w (Cpost text s w) := by
  obtain ⟨w6, hw6, hB6, hs6⟩ := cmp_boxes w (s9 x y z s.k s.c s.f s.v s.a s.n)
  obtain ⟨w9, hw9, hB9, hs9, hA9, hS9, hC9⟩ := seq_boxes text w6
  have hSEQ := Lib.hid (seq_stops 5 (by omega) text ht (w6.heap.size + 1) w6.heap.size (w6.heap.size + 1 + 1) w9 (by omega) (by omega) hA9 hS9 hC9)
  have HSS := Lib.hid (cSplitSeq text w6)
  have HPR := Lib.hid (fun (ln : Ln) w' (hb : Below w.heap.size w w') => cParse ln.1 w' ln.2 (hV.below hb))
  have HRE := Lib.hid (fun (q : Chg) (hk : q.1 = 1 ∨ q.1 = 2 ∨ q.1 = 3 ∨ q.1 = 4) (acc : List Chg) (va : Value) w' (hb : Below w.heap.size w w') (ha : RdC w' va acc) (h6 : acc.length ≤ 6) =>
    cRelate q.1 q.2.1 q.2.2.1 q.2.2.2.2.1 q.2.2.2.2.2.1 q.2.2.2.2.2.2 x y z acc va s w' hk ha h6 (hx.below hb) (hy.below hb) (hz.below hb) hsv (hwv _) hlW)
  obtain ⟨xa, xc, rfl, _, _⟩ := hx.shape
  obtain ⟨ya, yc, rfl, _, _⟩ := hy.shape
  obtain ⟨za, zc, rfl, _, _⟩ := hz.shape
  have HTS := Lib.hid ht
  have HX9 := Lib.hid (hB6.below hB9 (by omega))
  have HS9 := Lib.hid (show w9.heap.size = w.heap.size + 9 by omega)
  have HW6 := Lib.hid hw6
  have HW9 := Lib.hid hw9
  have hs6' : w6.heap.size = w.heap.size + 1 + 1 + 1 + 1 + 1 + 1 := by omega
  rw [hs6'] at hSEQ HSS
  have HS6 := Lib.hid hs6'
  have HX6 := Lib.hid hB6
  clear hw6 hB6 hs6 hw9 hB9 hs9 hA9 hS9 hC9 hx hy hz hsv hwv hlW hV ht hs6'
  refine (callsIn_wide (n := 6)).1 ?_
  refine callsIn_of_wp_marks Tryz.func8 rfl trivial ?_ rfl
  simp only [Tryz.ntmps8, List.size_toArray, List.length_cons, List.length_nil, Nat.reduceAdd, Nat.reduceSub, Array.replicate_succ, Array.replicate_zero, List.push_toArray, List.append_toArray, List.nil_append, List.cons_append]
  gi_wp2_with fail
  rw [HW6.out]
  refine ⟨trivial, (callsIn_wide.2 HSS.out).mono ?_⟩
  rintro e w' ⟨rfl, hw'⟩
  rw [HW9.out] at hw'
  obtain rfl : w9 = w' := hw'.symm
  gi_wp2_with fail
  have H0 : Inv w.heap.size w (s9 (.slice xa s.J.length xc) (.slice ya s.R.length yc) (.slice za s.W.length zc) s.k s.c s.f s.v s.a s.n) s [] w9 := ⟨[], none, 0, 0, Came.nil s, HX9.out, OwnG.nil hlC _ _ _, by have := HS9.out; omega⟩
  have hs9 := HS9.out
  refine wpIn_rangeB (by omega) (gf := 47) (bx := w.heap.size + 1 + 1 + 1 + 1 + 1 + 1) rfl (enters_of Tryz.func47 (by kernel_rfl) rfl) hSEQ.out (by omega) (fun h k => h.trans k)
    (fun W l o' h1 h2 => ⟨by simp, World.putObj_heap_other (by omega), World.putObj_heap_other (by omega), World.putObj_heap_other (by omega)⟩)
    (Inv w.heap.size w (s9 (.slice xa s.J.length xc) (.slice ya s.R.length yc) (.slice za s.W.length zc) s.k s.c s.f s.v s.a s.n) s) (Ivx w.heap.size w s) (by rw [hs9]; exact inv_from _ _ _ _) (by rw [hs9]; exact ivx_from _ _ _) (inv_lets _ _ _ _) (ivx_lets _ _ _) H0
    (fun x => { tmps := #[.string text, Go.Proofs.YthgnhaimdkcmeaaGreatDoor.sv (.slice xa s.J.length xc) (.slice ya s.R.length yc) (.slice za s.W.length zc) s.k s.c s.f s.v s.a s.n, undef, .pointer (some ⟨w.heap.size, 0, none⟩), .pointer (some ⟨w.heap.size + 1, 0, none⟩), .pointer (some ⟨w.heap.size + 1 + 1, 0, none⟩), .pointer (some ⟨w.heap.size + 1 + 1 + 1, 0, none⟩), .pointer (some ⟨w.heap.size + 1 + 1 + 1 + 1, 0, none⟩), .pointer (some ⟨w.heap.size + 1 + 1 + 1 + 1 + 1, 0, none⟩), .string x.1, undef, undef, .string text, .func (.func 47) #[] #[.pointer (some ⟨w.heap.size + 1 + 1 + 1 + 1 + 1 + 1 + 1, 0, none⟩), .pointer (some ⟨w.heap.size + 1 + 1 + 1 + 1 + 1 + 1, 0, none⟩), .pointer (some ⟨w.heap.size + 1 + 1 + 1 + 1 + 1 + 1 + 1 + 1, 0, none⟩)], .string x.1, undef, undef, undef, undef, undef, undef, undef, undef, undef, undef, undef, undef, undef, undef, undef, undef, undef, undef, undef, undef, undef, undef, undef, undef, undef, undef, undef, undef, undef, undef, undef, undef, undef, undef], defers := [] })
    ?assign ?body ?done ?stop
  case assign =>
    intro l x W K hK
    gi_wp2
    exact hK
  case body =>
    rintro l pre ln W ⟨acc, a, ll, c, hcm, hbx, ho, h9⟩ hlen
    have hpb : (pre.length : Int) ≤ 1000000 := by have := HTS.out; omega
    have n0 := cell_of_one hbx.n
    have nf := free_of_one hbx.n
    have S1 := Lib.hid (Sx.start (k' := (pre.length : Int) + 1) hbx ho h9)
    have HCM := Lib.hid hcm
    clear hbx ho h9 hcm H0 hs9
    obtain ⟨W1, hW1⟩ : ∃ W1, W.setCell ⟨w.heap.size + 1 + 1 + 1 + 1 + 1, 0, none⟩ (.int .i64 ((pre.length : Int) + 1)) = W1 := ⟨_, rfl⟩
    rw [hW1] at S1
    have HW1 := Lib.hid hW1
    clear hW1
    rw [HS9.out]
    by_cases he : ln.1.data.toList = []
    · have hem : ln.val.toList.isEmpty = true := by rw [ByteArray.toList_eq, he]; rfl
      have HSK := Lib.hid (show DM.skip (dat ln) = true by unfold DM.skip dat; rw [he]; rfl)
      clear he
      gi_wp2
      refine ⟨trivial, ?_⟩
      gi_wp2
      rw [HW1.out]
      exact S1.out.fin (HCM.out.skip HSK.out)
    have hem : ln.val.toList.isEmpty = false := by
      rw [ByteArray.toList_eq]
      cases hl : ln.1.data.toList with
      | nil => exact absurd hl he
      | cons a b => rfl
    have HSK := Lib.hid (skip_pre he)
    have HPX := Lib.hid (Any.strings_HasPrefix Tryz.lPrefix ln.1 ⟨#[35]⟩ W1)
    have hdx : DM.skip ln.1.data.toList = DM.skip (dat ln) := rfl
    rw [hdx] at HSK
    have HPX2 : Hid (Calls Tryz.prog 20 #[.string ln.val, .string ⟨#[35]⟩] W1 fun e w' => e = .returned (.bool (DM.skip (dat ln))) ∧ w' = W1) := Lib.hid (by rw [HSK.out]; exact HPX.out)
    clear HPX HSK hdx he
    obtain ⟨k, sv, t, a', b', c', er, hprs, hkk⟩ := prs_shape (dat ln)
    have HPA : Hid (Calls Tryz.prog 12 #[.string ln.val] W1 fun e w' => e = .returned (.tuple #[cv k sv t 0 a' b' c', .int .i64 er]) ∧ Below W1.heap.size W1 w') := Lib.hid (by
      have := HPR.out ln W1 S1.out.x.b
      unfold Ppost at this
      have hd : DM.prs ln.1.data.toList = ((k, sv, t, 0, a', b', c'), er) := hprs
      rw [hd] at this
      exact this)
    have HPRS := Lib.hid hprs
    have HKK := Lib.hid hkk
    clear hprs hkk
    obtain ⟨SK, hSK⟩ : ∃ b, b = DM.skip (dat ln) := ⟨_, rfl⟩
    rw [← hSK] at HPX2
    have HSK := Lib.hid hSK.symm
    clear hSK
    gi_wp2_with fail
    rw [HW1.out]
    refine ⟨trivial, (CallsIn.inRound l (callsIn_wide.2 HPX2.out)).mono ?_⟩
    rintro e w' ⟨rfl, rfl⟩
    cases SK
    case true =>
      gi_wp2
      exact S1.out.fin (HCM.out.skip HSK.out)
    gi_wp2_with fail
    refine ⟨trivial, (CallsIn.inRound l (callsIn_wide.2 HPA.out)).mono ?_⟩
    rintro e W2 ⟨rfl, hb2⟩
    have S2 := Lib.hid (S1.out.below hb2)
    clear S1 hb2 HPA HPX2 HPR
    obtain ⟨C, hC⟩ : ∃ C, C = W2.heap.size := ⟨_, rfl⟩
    have hcb := heap_alloc_new W2 (cBox k sv t 0 a' b' c')
    have hfr := below_fresh W2 (cBox k sv t 0 a' b' c')
    rw [← hC] at hcb
    obtain ⟨W3, hW3⟩ : ∃ W3, W2.alloc (cBox k sv t 0 a' b' c') = W3 := ⟨_, rfl⟩
    rw [hW3] at hcb hfr
    have HC3 := Lib.hid hcb
    have HB3 := Lib.hid hfr
    have HW3 := Lib.hid hW3
    have HCE := Lib.hid hC
    have S3 := Lib.hid (S2.out.below hfr)
    clear hcb hfr hW3 hC
    by_cases her : er = 0
    case neg =>
      have h1 : (er == 0) = false := by simpa using her
      have h2 : (er != 0) = true := by simpa using her
      have HF := Lib.hid (HCM.out.bad1 HSK.out (by rw [HPRS.out]; exact her))
      rw [HPRS.out] at HF
      clear her
      obtain ⟨p1, q1⟩ := And.intro (cell_of_one S3.out.x.n) (free_of_one S3.out.x.r1)
      have q2 := free_of_one S3.out.x.r2
      have q3 := free_of_one S3.out.x.r3
      have p2 := cell_of_one S3.out.x.r1
      have p3 := cell_of_one S3.out.x.r2
      have p4 := cell_of_one S3.out.x.r3
      have HL := Lib.hid (S3.out.bad HF.out)
      gi_wp2
      have hmx : Tryz.prog.follows .mixedOrders = true := by kernel_rfl
      rw [HW3.out, ← HCE.out]
      have d1 : ¬ (w.heap.size + 1 + 1 + 1 + 1 + 1 = w.heap.size + 1) := by omega
      have d2 : ¬ (w.heap.size + 1 + 1 + 1 + 1 + 1 = w.heap.size + 1 + 1) := by omega
      gi_region_with_o (fail)
      all_goals first | exact left_drew HL.out | exact left_drew (left_drew HL.out) | (gi_wp2; exact left_drew HL.out)
    have h1 : (er == 0) = true := by simp [her]
    have h2 : (er != 0) = false := by simp [her]
    have HK4 := Lib.hid (HKK.out her)
    have HQ := Lib.hid (show (DM.prs (dat ln)).1 = (k, sv, t, 0, a', b', c') by rw [HPRS.out])
    have HCB := Lib.hid (S3.out.x.b)
    obtain ⟨⟨⟨k2, s2, t2, v2, a2, b2, c2⟩, er2⟩, hpl⟩ : ∃ d, DM.plc (k, sv, t, 0, a', b', c') acc s = d := ⟨_, rfl⟩
    have HRL : Hid (Calls Tryz.prog 21 #[cv k sv t 0 a' b' c', .slice a ll c, Go.Proofs.YthgnhaimdkcmeaaGreatDoor.sv (.slice xa s.J.length xc) (.slice ya s.R.length yc) (.slice za s.W.length zc) s.k s.c s.f s.v s.a s.n] W3 fun e w' => e = .returned (.tuple #[cv k2 s2 t2 v2 a2 b2 c2, .int .i64 er2]) ∧ Below W3.heap.size W3 w') := Lib.hid (by
      have := HRE.out (k, sv, t, 0, a', b', c') HK4.out acc (.slice a ll c) W3 HCB.out S3.out.o.rd HCM.out.1
      unfold Rpost at this
      rw [hpl] at this
      exact this)
    rw [← HW3.out] at HRL
    have HPL := Lib.hid (show DM.plc (DM.prs (dat ln)).1 acc s = ((k2, s2, t2, v2, a2, b2, c2), er2) by rw [HQ.out]; exact hpl)
    clear hpl HRE HQ
    have HP0 := Lib.hid (show (DM.prs (dat ln)).2 = 0 by rw [HPRS.out]; exact her)
    clear her HKK
    have p1 := cell_of_one S3.out.x.c
    obtain ⟨⟨c0, c1, c2, c3, c4, c5, c6⟩, _⟩ := row7_atF HC3.out
    obtain ⟨⟨s0, s1, s2, s3, s4, s5, s6, s7, s8⟩, _⟩ := row9_at S3.out.x.s
    rw [← HW3.out] at p1 c0 c1 c2 c3 c4 c5 c6 s0 s1 s2 s3 s4 s5 s6 s7 s8
    rw [HCE.out] at c0 c1 c2 c3 c4 c5 c6
    gi_wp2_with fail
    refine ⟨trivial, (CallsIn.inRound l (callsIn_wide.2 HRL.out)).mono ?_⟩
    rintro e W4 ⟨rfl, hb4⟩
    rw [HW3.out] at hb4
    clear p1 c0 c1 c2 c3 c4 c5 c6 s0 s1 s2 s3 s4 s5 s6 s7 s8 HRL
    have HC4 := Lib.hid (below_block HC3.out hb4)
    have S4 := Lib.hid (S3.out.below hb4)
    obtain ⟨W5, hW5⟩ : ∃ W5, (((((((W4.setCell ⟨C, 0, none⟩ (.int .i64 k2)).setCell ⟨C, 1, none⟩ (.int .i64 s2)).setCell ⟨C, 2, none⟩ (.int .i64 t2)).setCell ⟨C, 3, none⟩ (.int .i64 v2)).setCell ⟨C, 4, none⟩ (.int .i64 a2)).setCell ⟨C, 5, none⟩ (.int .i64 b2)).setCell ⟨C, 6, none⟩ (.int .i64 c2)) = W5 := ⟨_, rfl⟩
    have hput := (row7_putO HC4.out (.int .i64 k2) (.int .i64 s2) (.int .i64 t2) (.int .i64 v2) (.int .i64 a2) (.int .i64 b2) (.int .i64 c2)).1
    have hCge : W2.heap.size ≤ C := by rw [HCE.out]; omega
    have S5 := Lib.hid (S2.out.below (Y := W5) (by
      rw [← hW5]
      exact (((((((HB3.out.trans (hb4.mono HB3.out.size)).setCell (p := ⟨C, 0, none⟩) hCge _).setCell (p := ⟨C, 1, none⟩) hCge _).setCell (p := ⟨C, 2, none⟩) hCge _).setCell (p := ⟨C, 3, none⟩) hCge _).setCell (p := ⟨C, 4, none⟩) hCge _).setCell (p := ⟨C, 5, none⟩) hCge _).setCell (p := ⟨C, 6, none⟩) hCge _))
    rw [hW5] at hput
    have HC5 := Lib.hid hput
    have HW5 := Lib.hid hW5
    obtain ⟨⟨c0, c1, c2', c3, c4, c5, c6⟩, f0, f1, f2, f3, f4, f5, f6⟩ := row7_atF HC4.out
    clear hb4 hput hW5 hCge S3 HC3 HB3
    rw [HCE.out] at c0 c1 c2' c3 c4 c5 c6 f0 f1 f2 f3 f4 f5 f6
    by_cases her : er2 = 0
    case neg =>
      have h3 : (er2 == 0) = false := by simpa using her
      have h4 : (er2 != 0) = true := by simpa using her
      have HF := Lib.hid (HCM.out.bad2 HSK.out HP0.out (by rw [HPL.out]; exact her))
      rw [HPL.out] at HF
      have HL := Lib.hid (S5.out.bad HF.out)
      clear her
      obtain ⟨p1, q1⟩ := And.intro (cell_of_one S5.out.x.n) (free_of_one S5.out.x.r1)
      have q2 := free_of_one S5.out.x.r2
      have q3 := free_of_one S5.out.x.r3
      have p2 := cell_of_one S5.out.x.r1
      have p3 := cell_of_one S5.out.x.r2
      have p4 := cell_of_one S5.out.x.r3
      gi_wp2
      have hmx : Tryz.prog.follows .mixedOrders = true := by kernel_rfl
      rw [← HCE.out, HW5.out]
      have d1 : ¬ (w.heap.size + 1 + 1 + 1 + 1 + 1 = w.heap.size + 1) := by omega
      have d2 : ¬ (w.heap.size + 1 + 1 + 1 + 1 + 1 = w.heap.size + 1 + 1) := by omega
      gi_region_with_o (fail)
      all_goals first | exact left_drew HL.out | exact left_drew (left_drew HL.out) | (gi_wp2; exact left_drew HL.out)
    have h3 : (er2 == 0) = true := by simp [her]
    have h4 : (er2 != 0) = false := by simp [her]
    have HE2 := Lib.hid her
    clear her
    simp only []
    repeat (first | go_values | gi_guarded | gi_step | gi_upon)
    have hc4 : (W4.setCell ⟨W2.heap.size, 0, none⟩ (.int .i64 k2)).cell? ⟨w.heap.size + 1 + 1 + 1 + 1, 0, none⟩ = some (.slice a ll c) := by
      refine (World.cell?_of_block (heap_setCell_other _ _ _ _ ?_)).trans (cell_of_one S4.out.x.c)
      have := S2.out.z
      show w.heap.size + 1 + 1 + 1 + 1 ≠ W2.heap.size
      omega
    rw [hc4, ← HCE.out, HW5.out]
    clear hc4
    clear c0 c1 c2' c3 c4 c5 c6 f0 f1 f2 f3 f4 f5 f6
    have p1 := cell_of_one S5.out.x.c
    obtain ⟨⟨e0, e1, e2, e3, e4, e5, e6⟩, _⟩ := row7_atF HC5.out
    have HO5 := Lib.hid (S5.out.o)
    have hl6 : acc.length ≤ 1073741824 := by have := HCM.out.1; omega
    have hz5 : w.heap.size + 9 ≤ W5.heap.size := S5.out.z
    simp only [Result.andThen]
    gi_wp2_with (refine wpIn_appG1 chgE (k2, s2, t2, v2, a2, b2, c2) rfl _ _ rfl rfl HO5.out rfl hl6 hz5 ?_; intro v6 W6 ho6 hb6 hk6; obtain ⟨av6, cv6, rfl, _, _⟩ := ho6.rd.shape; have x6 := cell_of_one ((hb6.block (w.heap.size + 1 + 1 + 1 + 1) (by omega)).trans S5.out.x.c); have y6 := free_of_one ((hb6.block (w.heap.size + 1 + 1 + 1 + 1) (by omega)).trans S5.out.x.c); have HS7 := Lib.hid (S5.out.store hb6 ho6 hk6))
    have HC := Lib.hid (HCM.out.step HSK.out HP0.out (by rw [HPL.out]; exact HE2.out))
    rw [HPL.out] at HC
    have h7 := HS7.out
    rw [show (acc ++ [(k2, s2, t2, v2, a2, b2, c2)]).length = acc.length + 1 from List.length_append] at h7
    exact h7.fin HC.out
  case done =>
    intro D xs W hD hxs hinv hd
    obtain ⟨acc, a, ll, c, hcm, hbx, ho, h9⟩ := hinv
    have e1 : DM.cmpl text.data.toList s = if acc = [] then ([], 0, 2) else (acc, 0, 0) := by
      unfold DM.cmpl
      rw [← hxs, ← List.append_nil (xs.map dat), hcm.2]
      rfl
    have p1 := cell_of_one hbx.c
    have q1 := free_of_one hbx.r1
    have q2 := free_of_one hbx.r2
    have q3 := free_of_one hbx.r3
    have p2 := cell_of_one hbx.r1
    have p3 := cell_of_one hbx.r2
    have p4 := cell_of_one hbx.r3
    have HB := Lib.hid hbx
    have HO := Lib.hid ho
    have HE := Lib.hid e1
    have HD := Lib.hid hd
    have HCM := Lib.hid hcm
    have HL := Lib.hid (show ll = acc.length by
      obtain ⟨a', c', hv, _⟩ := ho.rd.shape
      cases hv
      rfl)
    have H9 := Lib.hid h9
    have HDD := Lib.hid hD
    clear hbx ho e1 hd hcm h9 H0 hD hxs hSEQ HRE HSS HPR
    have hmx : Tryz.prog.follows .mixedOrders = true := by kernel_rfl
    by_cases hac : acc = []
    · have hl0 : ((ll : Int) == 0) = true := by
        have := HL.out
        rw [hac] at this
        simp [this]
      have HE2 := Lib.hid (show DM.cmpl text.data.toList s = ([], 0, 2) by rw [HE.out, if_pos hac])
      clear hac
      gi_wp2
      obtain ⟨t1, t2, t3, t4, t5⟩ := three_put HB.out.r1 HB.out.r2 HB.out.r3 HB.out.b (.slice none 0 0) (.int .i64 0) (.int .i64 2)
      refine cmp_end rfl rfl rfl t1 t2 t3 ((t4 D (by have := HDD.out; have := HS9.out; omega)).trans HD.out) ?_
      unfold Cpost
      rw [HE2.out]
      exact ⟨_, rfl, RdG.nil hlC _, below_putObj t5 (by have := HDD.out; have := HS9.out; omega) _⟩
    · have hl0 : ((ll : Int) == 0) = false := by
        have := HL.out
        cases acc with
        | nil => exact absurd rfl hac
        | cons x r => rw [this]; simp; omega
      have HE2 := Lib.hid (show DM.cmpl text.data.toList s = (acc, 0, 0) by rw [HE.out, if_neg hac])
      clear hac
      gi_wp2
      obtain ⟨t1, t2, t3, t4, t5⟩ := three_put HB.out.r1 HB.out.r2 HB.out.r3 HB.out.b (.slice a ll c) (.int .i64 0) (.int .i64 0)
      refine cmp_end rfl rfl rfl t1 t2 t3 ((t4 D (by have := HDD.out; have := HS9.out; omega)).trans HD.out) ?_
      unfold Cpost
      rw [HE2.out]
      refine ⟨_, rfl, (HO.out.stay fun g cur fr hg hh => ?_).rd, below_putObj t5 (by have := HDD.out; have := HS9.out; omega) _⟩
      refine (World.putObj_heap_other ?_).trans ((t4 g (by omega)).trans hh)
      rintro rfl
      have := HD.out
      rw [hh] at this
      cases this
  case stop =>
    intro D xs W hD hxs hinv hd
    obtain ⟨n, er, hf, h1, h2, h3, h4, h5⟩ := hinv
    obtain ⟨r, hr⟩ := hxs
    have hE : DM.cmpl text.data.toList s = ([], n, er) := by
      unfold DM.cmpl
      rw [hr, hf r]
    gi_wp2
    refine cmp_end rfl rfl rfl h1 h2 h3 hd ?_
    unfold Cpost
    rw [hE]
    exact ⟨_, rfl, RdG.nil hlC _, below_putObj h4 (by have := HS9.out; omega) _⟩

end Go.Proofs.YthgnhaimdkcmeaaGreatDoor
