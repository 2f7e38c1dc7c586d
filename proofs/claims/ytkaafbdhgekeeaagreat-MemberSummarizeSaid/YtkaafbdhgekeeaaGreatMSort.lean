/-
  slices.Sort at integers and slices.SortFunc at entries of weights, in place, on the call's own list: sorted; every other block stays. Conditions: the list is the call's own and has elements (at most 12 for entries).
-/
import Derived.Test.YtkaafbdhgekeeaaGreatMCopy
import Derived.Test.YtkaafbdhgekeeaaGreatMSrtC
import Derived.Test.YtkaafbdhgekeeaaGreatMShelf
namespace Go.Proofs.YtkaafbdhgekeeaaGreat
open Go.RowKit Go.Joins
open MM (Mem Ent Sm Tri)

/-- What a call leaves that writes into the list v alone. -/
structure InPl {α : Type} (enc : α → List Value) (e : TypeId) (size base : Nat) (w w' : World) (v : Value) (ys : List α) : Prop where
  own : OwnG enc e size base w' v ys
  below : Below base w w'
  oth : ∀ k, k < w.heap.size → v.ownBlock ≠ some k → w'.heap[k]? = w.heap[k]?
theorem row_after {α β : Type} [Inhabited β] {enc : α → List Value} {enc' : β → Value} {e : TypeId} {size base : Nat} {w : World} {blk N cap : Nat} {xs ys : List α} (h : OwnG enc e size base w (.slice (some ⟨blk, 0, none⟩) N cap) xs) (h0 : 0 < xs.length) (hlen : ys.length = xs.length)
    (d : Array β) (hd : d.size = xs.length * size) (hc : ∀ j, j < d.size → (cellsOf enc ys)[j]? = some (enc' d[j]!)) (n : Nat) (os : Array Obj) :
    InPl enc e size base w (Go.Sort.grow (Go.Sort.putRow enc' (Go.Sort.ahead w n) blk 0 d) os) (.slice (some ⟨blk, 0, none⟩) N cap) ys := by
  obtain ⟨g, cap', cur, hv, hg, hh, hn, hm, hs, ht⟩ := h.form h0
  cases hv
  have hlt : blk < w.heap.size := (Array.getElem?_eq_some_iff.1 hh).1
  have hsz : (Go.Sort.putRow enc' (Go.Sort.ahead w n) blk 0 d).heap.size = w.heap.size := by simp [Go.Sort.putRow, Go.Sort.mapBlock, Go.Sort.ahead]
  have hpc : (Go.Sort.putCells enc' 0 d cur).size = cur.size := by simp [Go.Sort.putCells]
  have hb : (Go.Sort.grow (Go.Sort.putRow enc' (Go.Sort.ahead w n) blk 0 d) os).heap[blk]? = some (.cells (Go.Sort.putCells enc' 0 d cur) e (0, 0)) := by
    rw [Go.Sort.heap_grow_old _ _ (by rw [hsz]; exact hlt)]
    show (w.heap.modify blk _)[blk]? = _
    rw [Array.getElem?_modify, if_pos rfl, hh]
    rfl
  have ho : ∀ k, k < w.heap.size → k ≠ blk → (Go.Sort.grow (Go.Sort.putRow enc' (Go.Sort.ahead w n) blk 0 d) os).heap[k]? = w.heap[k]? := by
    intro k hk hne
    rw [Go.Sort.heap_grow_old _ _ (by rw [hsz]; exact hk)]
    show (w.heap.modify blk _)[k]? = _
    rw [Array.getElem?_modify, if_neg (by omega)]
  have hl := h.2
  refine ⟨⟨⟨(by rw [cellsOf_length hl.2, hlen]), .inr ⟨blk, cap, _, by rw [hlen], hg, hb, by rw [hlen]; exact hn, hm, by rw [hpc]; exact hs, ?_⟩⟩, hl⟩, ⟨rfl, rfl, rfl, by simp [Go.Sort.grow, hsz], fun k hk => ho k (by omega) (by omega)⟩, fun k hk hne => ho k hk (fun he => hne (by rw [he]; rfl))⟩
  apply List.ext_getElem?
  intro j
  have hcl : (cellsOf enc ys).length = xs.length * size := by rw [cellsOf_length hl.2, hlen]
  rw [hlen, List.getElem?_take]
  by_cases hj : j < xs.length * size
  · rw [if_pos hj, hc j (by omega), Array.getElem?_toList]
    have hjc : j < cur.size := by
      rw [hs]
      exact Nat.lt_of_lt_of_le hj (Nat.mul_le_mul_right _ hn)
    unfold Go.Sort.putCells
    rw [Array.getElem?_mapIdx, Array.getElem?_eq_getElem hjc]
    simp [hd, hj]
  · rw [if_neg hj, List.getElem?_eq_none (by omega)]

set_option maxRecDepth 100000 in
theorem cSortI (w : World) (base : Nat) (v : Value) (xs : List Int) (h : OwnI base w v xs) (h0 : 0 < xs.length) (hl : xs.length ≤ 1000000) :
    Calls Tryz.prog 45 #[v] w fun e w' => e = .returned (.tuple #[]) ∧ InPl encI 3 1 base w w' v (xs.mergeSort fun x y => decide (x ≤ y)) := by
  obtain ⟨blk, cap, cur, rfl, hg, hh, hn, hm, hs, ht⟩ := h.form h0
  have hblk : blk < w.heap.size := (Array.getElem?_eq_some_iff.1 hh).1
  have hce : ∀ (zs : List Int) (j : Nat) (hj : j < zs.length), (cellsOf encI zs)[j]? = some (.int .i64 zs[j]) := by
    intro zs j hj
    have := cellsOf_get hlI.2 zs j 0 zs[j] (.int .i64 zs[j]) (List.getElem?_eq_getElem hj) rfl
    simpa using this
  have hH : Go.Sort.Holds (Value.int .i64) w blk 0 xs.toArray := by
    intro j hj
    have hj' : j < xs.length := by simpa using hj
    have e1 : xs.toArray[j]! = xs[j] := by rw [getElem!_pos _ j hj]; simp
    obtain ⟨a', c', hv', _, _, _, _, hc⟩ := h.rd
    cases hv'
    have := hc _ rfl j _ (hce xs j hj')
    rw [addr_plain] at this
    rw [e1]
    exact ⟨this, by simp [World.frozen?, hh]⟩
  have hS := Any.slices_Sort_int Tryz.sortI blk 0 cap xs w hH hblk (by omega)
  change Calls Tryz.prog 45 _ _ _ at hS
  refine hS.mono ?_
  rintro e w' ⟨rfl, n, os, rfl⟩
  have hml : (xs.mergeSort fun x y => decide (x ≤ y)).length = xs.length := List.length_mergeSort _
  refine ⟨rfl, row_after h h0 hml _ (by simp) (fun j hj => ?_) n os⟩
  have hj' : j < (xs.mergeSort fun x y => decide (x ≤ y)).length := by simpa using hj
  rw [hce _ j hj', getElem!_pos _ j hj]
  simp

set_option maxRecDepth 100000 in
theorem cSortW (w : World) (base : Nat) (v : Value) (xs : List Ent) (h : OwnW base w v xs) (h0 : 0 < xs.length) (hl : xs.length ≤ 12) :
    Calls Tryz.prog 46 #[v, .func (.func 47) #[] #[]] w fun e w' => e = .returned (.tuple #[]) ∧
      ∃ ys : List Ent, InPl encW 62 5 base w w' v ys ∧ ys.Perm xs ∧ ∀ (i j : Nat) (a b : Ent), i < j → ys[i]? = some a → ys[j]? = some b → ¬ cfW b a < 0 := by
  obtain ⟨blk, cap, cur, rfl, hg, hh, hn, hm, hs, ht⟩ := h.form h0
  have hblk : blk < w.heap.size := (Array.getElem?_eq_some_iff.1 hh).1
  have hce : ∀ (zs : List Ent) (j : Nat) (hj : j < zs.length * 5), (cellsOf encW zs)[j]? = some (Go.Sort.flatK encW 5 zs.toArray)[j]! := by
    intro zs j hj
    have h1 : j / 5 < zs.length := by omega
    have h2 : j % 5 < 5 := Nat.mod_lt _ (by decide)
    rw [Go.Sort.get_flatK encW 5 zs.toArray j (by simpa using hj)]
    have e1 : zs.toArray[j / 5]! = zs[j / 5] := by rw [getElem!_pos _ (j / 5) (by simpa using h1)]; simp
    rw [e1]
    have h3 : (encW zs[j / 5]).length = 5 := rfl
    have e2 : (encW zs[j / 5])[j % 5]? = some (encW zs[j / 5])[j % 5]! := by rw [getElem!_pos _ (j % 5) (by omega), List.getElem?_eq_getElem (by omega)]
    have := cellsOf_get hlW.2 zs (j / 5) (j % 5) zs[j / 5] _ (List.getElem?_eq_getElem h1) e2
    rwa [show j / 5 * 5 + j % 5 = j by omega] at this
  have hH : Go.Sort.HoldsK encW 5 w blk 0 xs.toArray := by
    intro j hj
    have hj' : j < xs.length * 5 := by simpa using hj
    obtain ⟨a', c', hv', _, _, _, _, hc⟩ := h.rd
    cases hv'
    have := hc _ rfl j _ (hce xs j hj')
    rw [addr_plain] at this
    exact ⟨this, by simp [World.frozen?, hh]⟩
  have hcmp : CmpLays Tryz.prog 47 #[] encW 5 cfW blk 0 xs.toArray.size w := by
    intro m os dk hdk x y
    obtain ⟨s, t, v, a, n⟩ := x
    obtain ⟨s', t', v', a', n'⟩ := y
    refine (cSortCmp s t v a n s' t' v' a' n' (sortWorldK encW 5 w blk 0 m dk os)).mono ?_
    rintro e w' ⟨rfl, q, os', rfl⟩
    exact ⟨rfl, q, os', rfl⟩
  have hO : Go.Sort.SWO (ltOf cfW) := by
    have e : ∀ x y : Ent, ltOf cfW x y = decide (x.1 < y.1 ∨ (x.1 = y.1 ∧ y.2.2.1 < x.2.2.1)) := by
      intro x y
      show decide (cfW x y < 0) = _
      rw [decide_eq_decide]
      unfold cfW orL orL orL cmpI
      (repeat' split) <;> omega
    refine ⟨fun x => ?_, fun x y z h1 h2 => ?_, fun x y z h1 h2 => ?_⟩
    · rw [e]; exact decide_eq_false (by omega)
    · rw [e] at h1 h2 ⊢; have h1 := of_decide_eq_true h1; have h2 := of_decide_eq_true h2; exact decide_eq_true (by omega)
    · rw [e] at h1 h2 ⊢; have h1 := of_decide_eq_false h1; have h2 := of_decide_eq_false h2; exact decide_eq_false (by omega)
  have hS := AnyQ.slices_SortFunc_small_sorted Tryz.sortW 5 Tryz.isAgg62 Tryz.sizeOf62 encW (fun _ => rfl) wgtE.one cfW 47 #[] hO blk 0 cap xs.toArray w
    (enters_of Tryz.func47 (by kernel_rfl) rfl) hcmp hH hblk (by simpa using hl) (fun n W hn => cBitsLen n W hn)
  change Calls Tryz.prog 46 _ _ _ at hS
  have e0 : xs.toArray.size = xs.length := by simp
  rw [e0] at hS
  refine hS.mono ?_
  rintro e w' ⟨rfl, d', n, os, hp, hso, rfl⟩
  have hd' : d'.size = xs.length := by rw [hp.1, e0]
  have hperm : d'.toList.Perm xs := by
    have h1 := hp.2.2
    rw [show d'.extract 0 xs.length = d' by rw [← hd']; simp, show xs.toArray.extract 0 xs.length = xs.toArray by rw [← e0]; simp] at h1
    exact h1
  refine ⟨rfl, d'.toList, row_after h h0 (by simp [hd']) (Go.Sort.flatK encW 5 d') (by simp [hd']) (fun j hj => ?_) n os, hperm, ?_⟩
  · have hj' : j < d'.toList.length * 5 := by simpa using hj
    have := hce d'.toList j hj'
    simpa using this
  · intro i j a b hij ha hb
    have hj : j < d'.size := by have := (List.getElem?_eq_some_iff.1 hb).1; simpa using this
    have hi : i < d'.size := by omega
    have h1 := hso i j (Nat.zero_le _) hij (by omega)
    rw [getElem!_pos _ j hj, getElem!_pos _ i hi] at h1
    rw [Array.getElem?_toList, Array.getElem?_eq_getElem hi] at ha
    rw [Array.getElem?_toList, Array.getElem?_eq_getElem hj] at hb
    rw [Option.some.inj ha, Option.some.inj hb] at h1
    exact of_decide_eq_false h1

end Go.Proofs.YtkaafbdhgekeeaaGreat
