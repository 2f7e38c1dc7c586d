/-
  A range over an iterator that stores into one box of its own between the rounds: the law, over any program. Conditions: the caller's invariant speaks of cells alone, and abides that box's store.
-/
import Derived.RangeFuncNested
import Derived.RangeFuncLeaves
import Derived.RangeFuncBound
import Derived.RangeFuncCalls
import Derived.WalkKit
namespace Go.Proofs.YthgnhaimdkcmeaaGreatDoor
open Go.RowKit

/-- J abides a store into the box bx. -/
def Lets {α : Type} (bx : Nat) (J : List α → World → Prop) : Prop := ∀ s W v, J s W → J s (W.setCell ⟨bx, 0, none⟩ v)
/-- The iterator's contract: all of S's pieces have come, or a part of Sp's, where a round has said 'no more'. -/
def SeqB {α : Type} (n : Nat) (P : Program) (g : Nat) (lb : Array Value) (enc : α → Value) (bx : Nat) (Kp : World → World → Prop) (S Sp : List α → Prop) (N : Nat) (w : World) : Prop :=
  ∀ (l : Nat) (J Jx : List α → World → Prop) (W : World), Below w.heap.size w W → AbidesFrom W.heap.size J → AbidesFrom W.heap.size Jx → Lets bx J → Lets bx Jx →
    (∀ pre x W1, J pre W1 → pre.length < N → YieldAt Fence.wide (n - 1) P l #[enc x] W1 fun e W' =>
      (e = .returned (.bool true) ∧ J (pre ++ [x]) W' ∧ Kp W1 W') ∨ (e = .returned (.bool false) ∧ Jx (pre ++ [x]) W')) → J [] W →
    CallsIn Fence.wide n P g (#[.func (.yield l) #[] #[]] ++ lb) W fun e W' => (∃ v, e = .returned v) ∧ ((∃ xs, S xs ∧ J xs W') ∨ (∃ pre, Sp pre ∧ Jx pre W'))
/-- How a round ends: it goes on, or it leaves by a return. -/
def RoundEnds {α : Type} (B : Nat) (Kp : World → World → Prop) (I Ix : List α → World → Prop) (xs : List α) (W : World) : Exit → Act → World → Prop
  | .normal, _, W' => KeepsFrom B W W' ∧ Kp W W' ∧ I xs W'
  | .ret, _, W' => KeepsFrom B W W' ∧ Ix xs W'
  | _, _, _ => False

set_option maxHeartbeats 1000000 in
theorem wpIn_rangeB {α : Type} {P : Program} {n : Nat} {g : Operand} {p : Tmp} {assign body : Code} {Q : Exit → Act → World → Prop} {a : Act} {w : World} (h1 : 1 ≤ n) {gf bx : Nat} {lb : Array Value} (hg : a.eval g = .func (.func gf) #[] lb)
    (eg : ∀ args w, (callFunc gf args).run P w = .ok (.enter gf args) w) {enc : α → Value} {Kp : World → World → Prop} {S Sp : List α → Prop} {N : Nat} (hseq : SeqB (n - 1) P gf lb enc bx Kp S Sp N w) (hbx : bx < w.heap.size)
    (hKt : ∀ {A B C : World}, Kp A B → Kp B C → Kp A C) (hKb : ∀ (W : World) (l : Nat) (o' : Obj), w.heap.size ≤ l → l < W.heap.size → Kp W (W.putObj l o'))
    (I Ix : List α → World → Prop) (hI : OwnFrom w.heap.size I) (hIx : OwnFrom w.heap.size Ix) (hIb : Lets bx I) (hIxb : Lets bx Ix) (h0 : I [] w) (a₁ : α → Act)
    (hassign : ∀ (l : Nat) (x : α) (W : World) (K : Act → World → Prop), K (a₁ x) W →
      assign.wpIn (Fence.wide.inRound l) (n - 1 - 1) P (Exit.then K (fun _ _ _ => False)) { tmps := (#[p].zip #[enc x]).foldl (fun t (p, v) => t.setIfInBounds p v) a.tmps, defers := [] } W)
    (hbody : ∀ (l : Nat) (pre : List α) (x : α) (W : World), I pre W → pre.length < N → body.wpIn (Fence.wide.inRound l) (n - 1 - 1) P (RoundEnds w.heap.size Kp I Ix (pre ++ [x]) W) (a₁ x) W)
    (hdone : ∀ (D : Nat) (xs : List α) (W : World), w.heap.size ≤ D → S xs → I xs W → W.heap[D]? = some (.deferred (some [])) → Q .normal { a with defers := { target := .collected D, args := #[] } :: a.defers } W)
    (hstop : ∀ (D : Nat) (pre : List α) (W : World), w.heap.size ≤ D → Sp pre → Ix pre W → W.heap[D]? = some (.deferred (some [])) → Code.ret.wpIn Fence.wide n P Q { a with defers := { target := .collected D, args := #[] } :: a.defers } W) :
    (Code.rangeFunc g #[p] assign body).wpIn Fence.wide n P Q a w := by
  have other : ∀ (W : World) (k : Nat) (v : Value), k ≠ bx → (W.setCell ⟨bx, 0, none⟩ v).heap[k]? = W.heap[k]? := fun W k v hk => heap_setCell_other _ _ _ _ hk
  refine wpIn_rangeFunc fun fn hfn => ?_
  -- the loop's record and the list of its deferred calls
  obtain ⟨R, hR⟩ : ∃ R : LoopState → Option Code → Loop, R = fun st pe => { state := st, pending := pe, fn := fn, tmps := a.tmps, params := #[p], assign := assign, body := body, defers := w.heap.size } := ⟨_, rfl⟩
  obtain ⟨L, hL⟩ : ∃ L, L = w.heap.size + 1 := ⟨_, rfl⟩
  obtain ⟨W1, hW1⟩ : ∃ W1, (w.alloc (.deferred (some []))).alloc (.loop (R .ready none)) = W1 := ⟨_, rfl⟩
  have b1 : Below w.heap.size w W1 := by rw [← hW1]; exact ((Below.refl _ w).alloc (Nat.le_refl _) _).alloc (by simp) _
  have z1 : W1.heap.size = w.heap.size + 2 := by rw [← hW1]; simp
  have l1 : W1.heap[L]? = some (.loop (R .ready none)) := by
    have := World.alloc_heap_new (w.alloc (.deferred (some []))) (.loop (R .ready none))
    rw [World.size_alloc] at this
    rw [← hW1, hL]; exact this
  have k1 : W1.heap[w.heap.size]? = some (.deferred (some [])) := by rw [← hW1]; exact (Below.heap_alloc _ _ _ (by simp)).trans (World.alloc_heap_new w _)
  have i1 : I [] W1 := by rw [← hW1]; exact hI.alloc _ (hI.alloc _ h0)
  refine ⟨L, [{ target := .collected w.heap.size, args := #[] }], W1, { target := .fn (.func gf) lb, args := #[.func (.yield L) #[] #[]] }, W1, gf, #[.func (.yield L) #[] #[]] ++ lb, W1, ?_, ?_, fun _ _ => trivial, ?_, fun _ => h1, ?_⟩
  · rw [hL, ← hW1, hR]; exact run_enterLoop_outer _ _ _ _ _
  · simp only [resolve, hg]; simp [go_sem]
  · simp [invoke, go_sem, eg]
  -- what is carried beside the caller's invariant
  have far : ∀ {A B : World} {row : Option Nat}, (∀ r, row = some r → W1.heap.size ≤ r ∧ ∃ o : Obj, A.heap[r]? = some o ∧ o.isWalk = true) → (∀ r, row = some r → w.heap.size ≤ r ∧ ∃ o : Obj, A.heap[r]? = some o ∧ o.isCells = false) :=
    fun h r e => by obtain ⟨h2, o, h3, h4⟩ := h r e; exact ⟨by omega, o, h3, Obj.not_cells_of_walk h4⟩
  have stay : ∀ {A B : World} {row : Option Nat} (k : Nat) (o : Obj), k < W1.heap.size → A.heap[k]? = some o → A.grownBy B row → (∀ r, row = some r → W1.heap.size ≤ r ∧ ∃ o : Obj, A.heap[r]? = some o ∧ o.isWalk = true) → B.heap[k]? = some o :=
    fun k o hk ho hgr h => (hgr.block k (Array.getElem?_eq_some_iff.1 ho).1 (fun e => by have := (h k e.symm).1; omega)).trans ho
  refine (hseq L (fun pre W => I pre W ∧ W.heap[L]? = some (.loop (R .ready none)) ∧ W.heap[w.heap.size]? = some (.deferred (some []))) (fun pre W => Ix pre W ∧ W.heap[L]? = some (.loop (R .done (some .ret))) ∧ W.heap[w.heap.size]? = some (.deferred (some []))) W1 b1
    (fun s A B row hs hgr h => ⟨hI s A B row hs.1 hgr (far (B := B) h), stay _ _ (by omega) hs.2.1 hgr h, stay _ _ (by omega) hs.2.2 hgr h⟩)
    (fun s A B row hs hgr h => ⟨hIx s A B row hs.1 hgr (far (B := B) h), stay _ _ (by omega) hs.2.1 hgr h, stay _ _ (by omega) hs.2.2 hgr h⟩)
    (fun s W v hs => ⟨hIb s W v hs.1, (other W L v (by omega)).trans hs.2.1, (other W _ v (by omega)).trans hs.2.2⟩)
    (fun s W v hs => ⟨hIxb s W v hs.1, (other W L v (by omega)).trans hs.2.1, (other W _ v (by omega)).trans hs.2.2⟩) ?_ ⟨i1, l1, k1⟩).mono ?_
  · rintro pre x W ⟨hi, hl, hk⟩ hlen
    have hlt : L < W.heap.size := (Array.getElem?_eq_some_iff.1 hl).1
    have hy := run_yield (P := P) (args := #[enc x]) hl (by rw [hR]; rfl)
    rw [hR] at hy
    obtain ⟨W2, hW2⟩ : ∃ W2, W.putObj L (.loop { R .ready none with state := .busy }) = W2 := ⟨_, rfl⟩
    have l2 : W2.heap[L]? = some (.loop { R .ready none with state := .busy }) := by rw [← hW2]; exact World.putObj_heap_same hlt
    have k2 : W2.heap[w.heap.size]? = some (.deferred (some [])) := by rw [← hW2]; exact (World.putObj_heap_other (by omega)).trans hk
    have p2 : Kp W W2 := by rw [← hW2]; exact hKb _ _ _ (by omega) hlt
    have i2 : I pre W2 := by rw [← hW2]; exact hI.putObj _ hi (by omega) hl rfl
    refine ⟨fn, _, assign, body, hy, roundIn_of_wpIn hfn (hassign _ x W _ ⟨W2, ?_, ?_⟩)⟩
    · rw [← hW2]; exact run_beginRound hl (by rw [hR])
    refine wpIn_mono (hbody L pre x W2 i2 hlen) ?_
    have last : ∀ (j : Option Code) (W3 : World), KeepsFrom w.heap.size W2 W3 → ∃ W4, W4 = W3.putObj L (.loop (R (if j.isNone then .ready else .done) j)) ∧ (Instr.endRound L j).run P W3 = .ok (.bool j.isNone) W4 ∧ W3.heap[L]? = some (.loop { R .ready none with state := .busy }) ∧
        W4.heap[L]? = some (.loop (R (if j.isNone then .ready else .done) j)) ∧ W4.heap[w.heap.size]? = some (.deferred (some [])) := fun j W3 h3 => by
      have l3 := h3.same _ _ (by omega) l2 rfl
      have hrun := run_endRound (P := P) j l3
      rw [hR] at hrun l3 ⊢
      exact ⟨_, rfl, hrun, l3, World.putObj_heap_same (Array.getElem?_eq_some_iff.1 l3).1, (World.putObj_heap_other (by omega)).trans (h3.same _ _ (Nat.le_refl _) k2 rfl)⟩
    rintro e a3 W3 hp
    cases e with
    | normal =>
      obtain ⟨h3, hk3, i3⟩ := hp
      obtain ⟨W4, e4, hrun, l3, l4, k4⟩ := last none W3 h3
      refine ⟨_, _, hrun, .inl ⟨rfl, ⟨?_, l4, k4⟩, hKt (hKt p2 hk3) ?_⟩⟩
      · rw [e4]; exact hI.putObj _ i3 (by omega) l3 rfl
      · rw [e4]; exact hKb _ _ _ (by omega) (Array.getElem?_eq_some_iff.1 l3).1
    | ret =>
      obtain ⟨h3, i3⟩ := hp
      obtain ⟨W4, e4, hrun, l3, l4, k4⟩ := last (some .ret) W3 h3
      refine ⟨_, _, hrun, .inr ⟨rfl, ?_, l4, k4⟩⟩
      rw [e4]; exact hIx.putObj _ i3 (by omega) l3 rfl
    | exit id => exact hp.elim
    | goto t => exact hp.elim
    | panic ch => exact hp.elim
    | outgrown => exact hp.elim
  · rintro e W2 ⟨⟨v, rfl⟩, (⟨xs, hS, hi, hl, hk⟩ | ⟨pre, hSp, hi, hl, hk⟩)⟩
    · have hrun := run_endLoop (P := P) hl (by rw [hR]; simp)
      rw [hR] at hrun
      exact ⟨none, _, hrun, hdone _ xs _ (Nat.le_refl _) hS (hI.putObj _ hi (by omega) hl rfl) ((World.putObj_heap_other (by omega)).trans hk)⟩
    · have hrun := run_endLoop (P := P) hl (by rw [hR]; simp)
      rw [hR] at hrun
      exact ⟨some .ret, _, hrun, hstop _ pre _ (Nat.le_refl _) hSp (hIx.putObj _ hi (by omega) hl rfl) ((World.putObj_heap_other (by omega)).trans hk)⟩

end Go.Proofs.YthgnhaimdkcmeaaGreatDoor
