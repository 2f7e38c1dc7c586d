/-
  The calls of slices.Values, its closure, slices.AppendSeq, slices.Collect and slices.Sorted over it: the elements, sorted, in a list of the call's own. Conditions: the list reads.
-/
import Derived.RangeFuncBox
import Derived.RangeFuncLeaves
import Derived.RangeFuncWrites
import Derived.Shelf.Abstract
import Derived.WalkKit
import Derived.OwnWalkIn
import Derived.TacticsInMore
import Derived.LoopNIn
import Derived.LoopIn
import Derived.Maps.AppendAt
import Derived.Shelf.Slices.In.SortNone
import Derived.Test.YthfpafnljnnndaaGreatSMSort
import Derived.Test.YthfpafnljnnndaaGreatSIShelf
namespace Go.Proofs.YthfpafnljnnndaaGreat
open Go.RowKit Go.Joins Go.Shelf
attribute [local go_sem] Oper.semAt_some

theorem OwnG.stay {α : Type} {enc : α → List Value} {e : TypeId} {size base : Nat} {w w' : World} {v : Value} {ys : List α} (h : OwnG enc e size base w v ys) (hs : ∀ g cur fr, base ≤ g → w.heap[g]? = some (.cells cur e fr) → w'.heap[g]? = some (.cells cur e fr)) : OwnG enc e size base w' v ys := by
  refine ⟨⟨h.1.1, ?_⟩, h.2⟩
  rcases h.1.2 with h6 | ⟨gg, cap, cur, hv, hgg, hh, r⟩
  · exact .inl h6
  · exact .inr ⟨gg, cap, cur, hv, hgg, hs _ _ _ hgg hh, r⟩

/-- 'out = append(out, x)' in a fence, out the call's own list. -/
theorem wpIn_appG1 {F : Fence} {n : Nat} {α : Type} {P : Program} {t e : TypeId} {size bytes : Nat} {enc : α → List Value} {w : World} {ops : Array Oper} {rest : List Oper} {o : Oper} {a : Act} {Q : Exit → Act → World → Prop} {base : Nat} {v : Value} {ys : List α}
    (E : IsElem P t e size bytes enc) (x : α) (hgd : o.guard = none) (s r : Operand) (ho : o.op = .call { callee := .builtin .append, args := #[s, r], argTypes := #[t, t] })
    (hs : a.eval s = v) (hown : OwnG enc e size base w v ys) (hx : a.eval r = .slice (some ⟨w.heap.size, 0, none⟩) 1 1) (hlen : ys.length ≤ 1073741824) (hb : base ≤ w.heap.size)
    (h : ∀ v' w', OwnG enc e size base w' v' (ys ++ [x]) → Below base w w' → KeepsOthers w w' → wpListIn F n P ops Q rest (a.put o.dst v') w') :
    wpListIn F n P ops Q (o :: rest) a (w.alloc (.cells (enc x).toArray e)) := by
  obtain ⟨i0, z, hi, hz0, hz1, hz2, hz3⟩ := E.info
  have ho1 := World.ownsRow.alloc hown.1 (.cells (enc x).toArray e)
  refine wpListIn_append_own _ hgd s r t ho base e i0 z size bytes E.ht hi hz0 hz1 hz2 hz3 E.pos _ _ _ hs ho1 ⟨w.heap.size, 0, none⟩ 1 1 (enc x) hx (by rw [E.len, Nat.one_mul]) ?_ (E.one x) ?_ ?_ ?_ ?_
  · intro j u hu
    rw [addr_plain, Nat.zero_add, World.cell?_alloc_new]
    simpa using hu
  · unfold maxLen; omega
  · have := E.fits
    calc (ys.length + 1) * bytes ≤ (1073741824 + 1) * 4096 := Nat.mul_le_mul (by omega) this
      _ ≤ 140737488355328 := by decide
  · simp; omega
  · intro v' w1 ho2 hg1 _
    refine h v' w1 ⟨?_, hown.2⟩ (((Below.refl _ _).alloc hb _).grown hg1 (by simp; omega) (fun k hk => (World.ownsRow.lt hown.1 k hk).1)) ⟨Nat.le_trans (by simp) hg1.size, fun _ ob hk hob => ?_⟩
    · rw [cellsOf_append, List.length_append]
      simpa [cellsOf] using ho2
    · have h0 := below_block hk (below_fresh w (.cells (enc x).toArray e))
      refine (hg1.block _ (Array.getElem?_eq_some_iff.1 h0).1 (fun he => ?_)).trans h0
      rcases ho1.2 with ⟨rfl, _⟩ | ⟨g, cap, cur, rfl, _, hh, _⟩
      · cases he
      · simp only [Value.ownBlock] at he
        cases he
        rw [h0] at hh
        cases hh
        cases hob

set_option maxRecDepth 100000 in
set_option maxHeartbeats 2000000 in
/-- The closure of slices.Values, for every body that keeps what lay below n0. -/
theorem vals1_in (F : Fence) (n : Nat) (h7 : F.fn 118) (hro : F.round = none) (hn : 1 ≤ n) (l Bs n0 : Nat) (v : Value) (zs : List Int) (hz : zs.length ≤ 1000000) (J Jx : List Int → World → Prop)
    (hY : ∀ pre x W, J pre W → pre.length < zs.length → YieldAt F (n - 1) Tryz.prog l #[.int .i64 x] W fun e W' =>
      (e = .returned (.bool true) ∧ J (pre ++ [x]) W' ∧ Below n0 W W') ∨ (e = .returned (.bool false) ∧ Jx (pre ++ [x]) W'))
    (W : World) (hBs : W.cell? ⟨Bs, 0, none⟩ = some v) (hrd : ∀ W', Below n0 W W' → RdI W' v zs) (h0 : J [] W) :
    CallsIn F n Tryz.prog 118 #[.func (.yield l) #[] #[], .pointer (some ⟨Bs, 0, none⟩)] W fun e W' => (∃ v, e = .returned v) ∧
      ((∃ ys, ys = zs ∧ J ys W') ∨ (∃ pre, pre <+: zs ∧ Jx pre W')) := by
  obtain ⟨a, c, rfl, _, _⟩ := (hrd W (Below.refl _ _)).shape
  refine callsIn_of_wp Tryz.func118 rfl h7 ?_ hro
  simp only [Tryz.ntmps118, List.size_toArray, List.length_cons, List.length_nil, Nat.reduceAdd, Nat.reduceSub, Array.replicate_succ, Array.replicate_zero, List.push_toArray, List.append_toArray, List.nil_append, List.cons_append]
  gi_wp2
  gi_loopw [7] (fun i wr => ∃ k : Nat, k ≤ zs.length ∧ i = .int .i64 k ∧ J (zs.take k) wr ∧ Below n0 W wr)
    (fun i _ => zs.length - (intOf i).toNat)
  case atStart => exact ⟨0, Nat.zero_le _, rfl, h0, Below.refl _ _⟩
  case round =>
    obtain ⟨k, hk, rfl, hJs, hnx⟩ := hrel
    by_cases hlt : k < zs.length
    · obtain ⟨b, o, hi, hb, c0⟩ := atI (hrd wr hnx) k zs[k] (List.getElem?_eq_getElem hlt)
      have htk : zs.take (k + 1) = zs.take k ++ [zs[k]] := List.take_succ_eq_append_getElem hlt
      have HTK := Lib.hid htk
      have hq : (k : Int) < (zs.length : Int) := by omega
      obtain ⟨fn, tmps, assign, body, hy, hR⟩ := hY _ zs[k] wr hJs (by rw [List.length_take]; omega)
      clear htk
      gi_wp2
      refine hR.mono ?_
      rintro e W3 (⟨rfl, hJ3, hk3⟩ | ⟨rfl, hJx3⟩)
      · gi_wp2
        go_roundw
        case rel => exact ⟨k + 1, by omega, by go_num, by rw [HTK.out]; exact hJ3, hnx.trans hk3⟩
        case measure => simp [intOf]; omega
      · gi_wp2
        refine bodyPost_ret (results_none rfl _ _ _) rfl ?_
        exact ⟨⟨_, rfl⟩, .inr ⟨_, by rw [← HTK.out]; exact List.take_prefix _ _, hJx3⟩⟩
    · obtain rfl : k = zs.length := by omega
      have hq : ¬ ((zs.length : Int) < (zs.length : Int)) := by omega
      gi_wp2
      go_end0
      rw [List.take_length] at hJs
      exact ⟨⟨_, rfl⟩, .inl (by first | exact hJs | exact ⟨_, rfl, hJs⟩)⟩

theorem box_cell {w : World} {g : Nat} {t : TypeId} {v : Value} (h : w.heap[g]? = some (.cells #[v] t (0, 0))) : w.cell? ⟨g, 0, none⟩ = some v ∧ w.frozen? ⟨g, 0, none⟩ = false := ⟨cell_of_one h, free_of_one h⟩

/-- Between two rounds of AppendSeq: its box, in block B, holds the call's own list of what has come. -/
def Iap (B : Nat) (w0 : World) (pre : List Int) (W : World) : Prop := ∃ (a : Option Addr) (l c : Nat), W.heap[B]? = some (.cells #[.slice a l c] 44 (0, 0)) ∧ OwnI (B + 1) W (.slice a l c) pre ∧ Below B w0 W ∧ B + 1 ≤ W.heap.size
theorem iap_from (B : Nat) (w0 : World) : OwnFrom (B + 1) (Iap B w0) := by
  rintro pre W W' row ⟨a, l, c, h1, h2, h3, h4⟩ hg hr
  have hsame : ∀ i, i < W.heap.size → (∀ r, row = some r → i ≠ r) → W'.heap[i]? = W.heap[i]? := fun i hi hne => hg.block i hi (fun e => hne i e.symm rfl)
  refine ⟨a, l, c, (hsame B (by omega) (fun r e => by have := (hr r e).1; omega)).trans h1, h2.stay fun g cur fr h5 h6 => (hsame g (Array.getElem?_eq_some_iff.1 h6).1 (fun r e he => ?_)).trans h6, h3.grown hg (by omega) (fun k e => by have := (hr k e).1; omega), Nat.le_trans h4 hg.size⟩
  subst he
  obtain ⟨_, o, ho, hc⟩ := hr g e
  rw [h6] at ho
  cases ho
  cases hc

set_option maxRecDepth 100000 in
set_option maxHeartbeats 2000000 in
theorem appSeq_in (F : Fence) (n : Nat) (h6 : F.fn 143) (h7 : F.fn 118) (hro : F.round = none) (hn : 3 ≤ n) (Bs : Nat) (v : Value) (zs : List Int) (hz : zs.length ≤ 1000000) (w : World) (hBs : w.cell? ⟨Bs, 0, none⟩ = some v) (hrd : RdI w v zs) :
    CallsIn F n Tryz.prog 143 #[.slice none 0 0, .func (.func 118) #[] #[.pointer (some ⟨Bs, 0, none⟩)]] w fun e W' => ∃ u, e = .returned u ∧ OwnI w.heap.size W' u zs ∧ Below w.heap.size w W' := by
  have h1 : 1 ≤ n := by omega
  have hb0 := below_fresh w (.cells #[.slice none 0 0] 44)
  have hx0 := heap_alloc_new w (.cells #[.slice none 0 0] 44)
  have hz0 := World.size_alloc w (.cells #[.slice none 0 0] 44)
  refine callsIn_of_wp_marks Tryz.func143 rfl h6 ?_ hro
  simp only [Tryz.ntmps143, List.size_toArray, List.length_cons, List.length_nil, Nat.reduceAdd, Nat.reduceSub, Array.replicate_succ, Array.replicate_zero, List.push_toArray, List.append_toArray, List.nil_append, List.cons_append]
  gi_wp2
  obtain ⟨w1, hw1⟩ : ∃ w1, w.alloc (.cells #[.slice none 0 0] 44) = w1 := ⟨_, rfl⟩
  rw [hw1] at hb0 hx0 hz0 ⊢
  have hseq : SeqStopsK F (n - 1) Tryz.prog 118 #[.pointer (some ⟨Bs, 0, none⟩)] (fun x : Int => #[Value.int .i64 x]) (Below w.heap.size) (fun ys => ys = zs) (fun pre => pre <+: zs) zs.length w1 := fun l J Jx W hW _ _ hY h0 =>
    vals1_in F (n - 1) h7 hro (by omega) l Bs w.heap.size v zs hz J Jx hY W (below_cell (bnext hb0 hW) hBs) (fun W' hb => hrd.below (((bnext hb0 hW)).trans hb)) h0
  refine wpIn_rangeFunc_ownG hro h1 (gf := 118) (lb := #[.pointer (some ⟨Bs, 0, none⟩)]) rfl h7 (enters_of Tryz.func118 (by kernel_rfl) rfl)
    hseq belowK_t (belowK_b (by omega)) (Below.refl _ _) (fun _ => rfl)
    (Iap w.heap.size w) (fun _ _ _ => False) (by rw [hz0]; exact iap_from _ _) (fun _ _ _ _ _ hs _ _ => hs)
    ⟨none, 0, 0, hx0, OwnG.nil hlI _ _ _, hb0, by omega⟩
    (fun x => { tmps := #[.slice none 0 0, .func (.func 118) #[] #[.pointer (some ⟨Bs, 0, none⟩)], .pointer (some ⟨w.heap.size, 0, none⟩), undef, .slice none 0 0, .int .i64 x, .func (.func 118) #[] #[.pointer (some ⟨Bs, 0, none⟩)], .int .i64 x, undef, undef, undef, undef, undef], defers := [] }) ?assign ?body ?done ?stop
  case assign =>
    intro l x W K hK
    gi_wp2
    exact hK
  case body =>
    rintro l pre x W ⟨a, ll, c, hbx, ho, hB, hS⟩ hlen
    obtain ⟨p1, q1⟩ := box_cell hbx
    have hl6 : pre.length ≤ 1073741824 := by omega
    gi_wp2_with (refine wpIn_appG1 intE x rfl _ _ rfl rfl ho rfl hl6 hS ?_; intro v6 W6 ho6 hb6 hk6; obtain ⟨av6, cv6, rfl, _, _⟩ := ho6.rd.shape; have hx6 := (hb6.block w.heap.size (by omega)).trans hbx; obtain ⟨x6, y6⟩ := box_cell hx6)
    have hlen6 : (pre ++ [x]).length = pre.length + 1 := by simp
    rw [hlen6] at ho6
    have hs7 : ∀ i, i ≠ w.heap.size → (W6.setCell ⟨w.heap.size, 0, none⟩ (.slice av6 (pre.length + 1) cv6)).heap[i]? = W6.heap[i]? := fun i hi => heap_setCell_other _ _ _ _ hi
    exact ⟨(hk6.trans (KeepsOthers.setCell _ _ _)).from _, (hb6.mono (Nat.le_succ _)).setCell (p := ⟨w.heap.size, 0, none⟩) (Nat.le_refl _) _,
      av6, pre.length + 1, cv6, heap_setCell_same _ _ _ _ _ _ hx6, ho6.stay fun g cur fr h1 h2 => (hs7 g (by omega)).trans h2, (hB.trans (hb6.mono (Nat.le_succ _))).setCell (p := ⟨w.heap.size, 0, none⟩) (Nat.le_refl _) _, by have := hb6.size; simp; omega⟩
  case done =>
    rintro D ys W hD rfl ⟨a, ll, c, hbx, ho, hB, hS⟩ hK
    obtain ⟨p1, q1⟩ := box_cell hbx
    gi_wp2
    refine ⟨by simp, .inl ⟨_, _, rfl, run_takeDeferred hK, ?_⟩⟩
    refine ⟨_, results_tmp rfl _ _ _, _, rfl, ?_, hB.trans (belowK_b (w := w) (Nat.le_refl _) W D _ _ (by omega) hK rfl rfl)⟩
    show OwnI w.heap.size (W.putObj D (Obj.deferred none)) (.slice a ll c) ys
    exact (ho.stay fun g cur fr h1 h2 => (World.putObj_heap_other (fun e => by rw [e, hK] at h2; cases h2)).trans h2).mono (Nat.le_succ _)
  case stop =>
    rintro D c pre W _ _ h _
    exact h.elim

set_option maxHeartbeats 1000000 in
theorem vals_in (F : Fence) (n : Nat) (h5 : F.fn 82) (hro : F.round = none) (a : Option Addr) (len cap : Nat) (w : World) :
    CallsIn F n Tryz.prog 82 #[.slice a len cap] w fun e w' => e = .returned (.func (.func 118) #[] #[.pointer (some ⟨w.heap.size, 0, none⟩)]) ∧ w' = w.alloc (.cells #[.slice a len cap] 44) := by
  refine callsIn_of_wp Tryz.func82 rfl h5 ?_ hro
  simp only [Tryz.ntmps82, List.size_toArray, List.length_cons, List.length_nil, Nat.reduceAdd, Nat.reduceSub, Array.replicate_succ, Array.replicate_zero, List.push_toArray, List.append_toArray, List.nil_append, List.cons_append]
  gi_wp2
  go_ret
  exact ⟨rfl, rfl⟩
set_option maxHeartbeats 1000000 in
theorem coll_in (F : Fence) (n : Nat) (h5 : F.fn 116) (h6 : F.fn 143) (h7 : F.fn 118) (hro : F.round = none) (hn : 4 ≤ n) (Bs : Nat) (v : Value) (zs : List Int) (hz : zs.length ≤ 1000000) (w : World) (hBs : w.cell? ⟨Bs, 0, none⟩ = some v) (hrd : RdI w v zs) :
    CallsIn F n Tryz.prog 116 #[.func (.func 118) #[] #[.pointer (some ⟨Bs, 0, none⟩)]] w fun e W' => ∃ u, e = .returned u ∧ OwnI w.heap.size W' u zs ∧ Below w.heap.size w W' := by
  have h1 : 1 ≤ n := by omega
  refine callsIn_of_wp Tryz.func116 rfl h5 ?_ hro
  simp only [Tryz.ntmps116, List.size_toArray, List.length_cons, List.length_nil, Nat.reduceAdd, Nat.reduceSub, Array.replicate_succ, Array.replicate_zero, List.push_toArray, List.append_toArray, List.nil_append, List.cons_append]
  gi_wp2_with (gi_at_call 143; refine (appSeq_in F (n - 1) h6 h7 hro (by omega) Bs v zs hz _ hBs hrd).mono ?_; rintro e w' ⟨u, rfl, ho, hb⟩)
  go_ret
  exact ⟨_, rfl, ho, hb⟩

/-- A list's elements, sorted. -/
abbrev srtI (zs : List Int) : List Int := zs.mergeSort fun x y => decide (x ≤ y)
set_option maxHeartbeats 1000000 in
theorem cSorted (Bs : Nat) (v : Value) (zs : List Int) (hz : zs.length ≤ 1000000) (w : World) (hBs : w.cell? ⟨Bs, 0, none⟩ = some v) (hrd : RdI w v zs) :
    Calls Tryz.prog 81 #[.func (.func 118) #[] #[.pointer (some ⟨Bs, 0, none⟩)]] w fun e W' => ∃ u, e = .returned u ∧ OwnI w.heap.size W' u (srtI zs) ∧ Below w.heap.size w W' := by
  have HC := Lib.hid ((callsIn_wide (n := 4)).1 (coll_in Fence.wide 4 trivial trivial trivial rfl (by omega) Bs v zs hz w hBs hrd))
  clear hBs hrd
  go_enter Tryz.func81, Tryz.ntmps81
  go_wp2_with fail
  refine HC.out.mono ?_
  rintro e w2 ⟨u, rfl, ho, hb⟩
  by_cases h0 : 0 < zs.length
  · have HS := Lib.hid (cSortI w2 w.heap.size u zs ho h0 hz)
    obtain ⟨a, c, rfl, _, _⟩ := ho.rd.shape
    have HB := Lib.hid hb
    clear ho hb HC
    go_wp2_with fail
    refine HS.out.mono ?_
    rintro e w3 ⟨rfl, hi⟩
    have HI := Lib.hid hi
    clear hi HS
    go_wp2
    go_ret
    exact ⟨_, rfl, HI.out.own, HB.out.trans HI.out.below⟩
  · obtain rfl : zs = [] := List.eq_nil_of_length_eq_zero (by omega)
    obtain ⟨a, c, rfl, _, _⟩ := ho.rd.shape
    have hS := Any.slices_Sort_int_none Tryz.sortI a c w2
    change Calls Tryz.prog 117 _ _ _ at hS
    have HS := Lib.hid hS
    have HB := Lib.hid hb
    have HO := Lib.hid ho
    clear ho hb hS HC
    go_wp2_with fail
    refine HS.out.mono ?_
    rintro e w3 ⟨rfl, rfl⟩
    go_wp2
    go_ret
    exact ⟨_, rfl, by show OwnI _ _ _ (([] : List Int).mergeSort _); rw [List.mergeSort_nil]; exact HO.out, HB.out⟩

theorem compact_le (zs : List Int) : (Lib.compact zs).length ≤ zs.length := by
  unfold Lib.compact Lib.compactUpTo
  rw [List.length_map]
  exact Nat.le_trans (List.length_filter_le _ _) (by simp)
theorem cCompactI (w : World) (base : Nat) (v : Value) (xs : List Int) (h : OwnI base w v xs) (hl : xs.length ≤ 1000000) :
    Calls Tryz.prog 80 #[v] w fun e w' => ∃ u, e = .returned u ∧ RdI w' u (Lib.compact xs) ∧ Below base w w' := by
  by_cases h0 : 0 < xs.length
  case neg =>
    obtain rfl : xs = [] := List.eq_nil_of_length_eq_zero (by omega)
    obtain ⟨a, c, rfl, _, _⟩ := h.rd.shape
    have hS := Any.slices_Compact_int_empty Tryz.compI a c w
    change Calls Tryz.prog 80 _ _ _ at hS
    refine hS.mono ?_
    rintro e w' ⟨rfl, rfl⟩
    exact ⟨_, rfl, h.rd, Below.refl _ _⟩
  obtain ⟨blk, cap, cur, rfl, hg, hh, hn, hm, hs, ht⟩ := h.form h0
  have hblk : blk < w.heap.size := (Array.getElem?_eq_some_iff.1 hh).1
  have hce : ∀ (zs : List Int) (j : Nat) (hj : j < zs.length), (cellsOf encI zs)[j]? = some (.int .i64 zs[j]) := by
    intro zs j hj
    have := cellsOf_get hlI.2 zs j 0 zs[j] (.int .i64 zs[j]) (List.getElem?_eq_getElem hj) rfl
    simpa using this
  have hH : Go.Sort.Holds (Value.int .i64) w blk 0 xs.toArray := by
    intro j hj
    have hj' : j < xs.length := by simpa using hj
    have e1 : xs.toArray[j]! = xs[j] := by rw [getElem!_pos _ j hj]; simp
    obtain ⟨a', c', hv', _, _, _, _, hc⟩ := h.rd
    cases hv'
    have := hc _ rfl j _ (hce xs j hj')
    rw [addr_plain] at this
    rw [e1]
    exact ⟨this, by simp [World.frozen?, hh]⟩
  have hS := Any.slices_Compact_int Tryz.compI blk 0 cap xs w hH (by omega) hn
  change Calls Tryz.prog 80 _ _ _ at hS
  refine hS.mono ?_
  rintro e w' ⟨rfl, q, rfl⟩
  have hle := compact_le xs
  obtain ⟨ys, hys⟩ : ∃ ys, ys = Lib.compact xs ++ List.replicate (xs.length - (Lib.compact xs).length) (0 : Int) := ⟨_, rfl⟩
  rw [← hys]
  have hyl : ys.length = xs.length := by rw [hys, List.length_append, List.length_replicate]; omega
  have hr := row_after (enc' := fun x : Int => Value.int .i64 x) h h0 hyl ys.toArray (by rw [List.size_toArray, hyl]; simp) (fun j hj => by
    have hj' : j < ys.length := by simpa using hj
    rw [hce _ j hj', getElem!_pos _ j hj]; simp) q #[]
  have hg0 : ∀ W : World, Go.Sort.grow W #[] = W := fun W => by simp [Go.Sort.grow]
  rw [hg0] at hr
  refine ⟨_, rfl, ?_, hr.below⟩
  obtain ⟨a', c', hv', h1, h2, h3, h4, h5⟩ := hr.own.rd
  simp only [Value.slice.injEq] at hv'
  obtain ⟨rfl, _, rfl⟩ := hv'
  refine ⟨some ⟨blk, 0, none⟩, cap, rfl, by omega, h2, (fun e => by cases e), h4, fun x hx j u hu => h5 x hx j u ?_⟩
  rw [hys, cellsOf_append, List.getElem?_append_left (List.getElem?_eq_some_iff.1 hu).1]
  exact hu

set_option maxHeartbeats 1000000 in
theorem cDistinct (v : Value) (zs : List Int) (w : World) (h : RdI w v zs) (hz : zs.length ≤ 1000000) :
    Calls Tryz.prog 50 #[v] w fun e w' => ∃ u, e = .returned u ∧ RdI w' u (Lib.compact (srtI zs)) ∧ Below w.heap.size w w' := by
  obtain ⟨a, c, rfl, _, _⟩ := h.shape
  have hb1 := below_fresh w (.cells #[.slice a zs.length c] 44)
  have hx1 := heap_alloc_new w (.cells #[.slice a zs.length c] 44)
  obtain ⟨w1, hw1⟩ : ∃ w1, w.alloc (.cells #[.slice a zs.length c] 44) = w1 := ⟨_, rfl⟩
  rw [hw1] at hb1 hx1
  have HV := Lib.hid ((callsIn_wide (n := 1)).1 (vals_in Fence.wide 1 trivial rfl a zs.length c w))
  rw [hw1] at HV
  have HS := Lib.hid (cSorted w.heap.size _ zs hz w1 (box_cell hx1).1 (h.below hb1))
  have HC := Lib.hid (fun u w' (ho : OwnI w1.heap.size w' u (srtI zs)) => cCompactI w' w1.heap.size u (srtI zs) ho (by show (zs.mergeSort _).length ≤ _; rw [List.length_mergeSort]; exact hz))
  have HB := Lib.hid hb1
  clear hb1 hx1 hw1 h
  go_enter Tryz.func50, Tryz.ntmps50
  go_wp2_with fail
  refine HV.out.mono ?_
  rintro e w' ⟨rfl, rfl⟩
  go_wp2_with fail
  refine HS.out.mono ?_
  rintro e w2 ⟨u, rfl, ho, hb⟩
  obtain ⟨a2, c2, hu, _, _⟩ := ho.rd.shape
  have HC2 := Lib.hid (HC.out u w2 ho)
  clear ho
  subst hu
  generalize (srtI zs).length = sl at *
  go_wp2_with fail
  refine HC2.out.mono ?_
  rintro e w3 ⟨u, rfl, hr, hb3⟩
  go_wp2
  go_ret
  exact ⟨_, rfl, hr, HB.out.trans ((hb.mono HB.out.size).trans (hb3.mono HB.out.size))⟩

end Go.Proofs.YthfpafnljnnndaaGreat
