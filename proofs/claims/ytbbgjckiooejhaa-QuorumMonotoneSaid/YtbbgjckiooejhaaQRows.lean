/-
  The calls of slices.Chunk and holdsRows: the rows come one after the other; holdsRows says what the plain grid rule says. Conditions: the members read and are valid, the mask is below 65536, a row has 1 to 12 members.
-/
import Derived.RangeFuncNested
import Derived.RangeFuncBound
import Derived.RangeFuncCalls
import Derived.RangeFuncLeaves
import Derived.RangeFuncBox
import Derived.Shelf.Abstract
import Derived.Shelf.RegionOpen
import Derived.OwnWalkIn
import Derived.TacticsInMore
import Derived.LoopNIn
import Derived.LoopIn
import Derived.Sort.BigQuietIn
import Derived.Test.YtbbgjckiooejhaaQSet
namespace Go.Proofs.Ytbbgjckiooejhaa
open Go.RowKit Go.Shelf
open QM (Mem)
attribute [local go_sem] Oper.semAt_some

theorem val_drop {p : Int} {ms : List Mem} (h : QM.Val p ms) (hp : 0 ≤ p) (k : Nat) : QM.Val 0 (ms.drop k) := by
  induction k generalizing p ms with
  | zero => exact h.mono hp
  | succ k ih =>
    cases ms with
    | nil => trivial
    | cons m v => obtain ⟨h1, h2, h3, h4, h5, h6⟩ := h; exact ih h6 (by omega)
theorem val_take {p : Int} {ms : List Mem} (h : QM.Val p ms) (k : Nat) : QM.Val p (ms.take k) := by
  induction k generalizing p ms with
  | zero => trivial
  | succ k ih =>
    cases ms with
    | nil => trivial
    | cons m v => obtain ⟨h1, h2, h3, h4, h5, h6⟩ := h; exact ⟨h1, h2, h3, h4, h5, ih h6⟩
/-- 'row.within(s)': all of the row are in s. -/
theorem row_within {r : List Mem} (hv : QM.Val 0 r) {s : Nat} (hs : s < 65536) : decide (QM.dif (QM.memL r) s = 0) = r.all fun m => QM.tb s m.1 := by
  have hlt := Nat.lt_trans (QM.memL_lt hv) (show 8192 < 65536 by decide)
  rw [Bool.eq_iff_iff, decide_eq_true_iff, List.all_eq_true]
  constructor
  · intro h m hm
    have h1 := QM.tb_dif hlt hs m.1.toNat
    rw [h, (QM.memL_bit m.1.toNat).2 ⟨m, hm, rfl⟩] at h1
    simp at h1
    exact h1
  · intro h
    apply Nat.eq_of_testBit_eq
    intro i
    rw [QM.tb_dif hlt hs, Nat.zero_testBit]
    cases hb : (QM.memL r).testBit i with
    | false => rfl
    | true =>
      obtain ⟨m, hm, rfl⟩ := (QM.memL_bit i).1 hb
      have := h m hm
      unfold QM.tb at this
      rw [this]; rfl
/-- 'row & s != 0': one of the row is in s. -/
theorem row_meets {r : List Mem} (hv : QM.Val 0 r) {s : Nat} (hs : s < 65536) : (bits .and .u16 (QM.memL r : Int) (s : Int) != 0) = r.any fun m => QM.tb s m.1 := by
  have hlt := Nat.lt_trans (QM.memL_lt hv) (show 8192 < 65536 by decide)
  rw [u16_and_nat _ _ hlt hs, Bool.eq_iff_iff, bne_iff_ne, List.any_eq_true]
  constructor
  · intro h
    obtain ⟨i, hi⟩ := Nat.exists_testBit_of_ne_zero (show QM.memL r &&& s ≠ 0 by intro h0; rw [h0] at h; exact h rfl)
    rw [Nat.testBit_and, Bool.and_eq_true] at hi
    obtain ⟨m, hm, rfl⟩ := (QM.memL_bit i).1 hi.1
    exact ⟨m, hm, hi.2⟩
  · rintro ⟨m, hm, h⟩ h0
    have h1 : QM.memL r &&& s = 0 := by omega
    have h2 := congrArg (fun n => n.testBit m.1.toNat) h1
    simp only [Nat.testBit_and, Nat.zero_testBit, (QM.memL_bit m.1.toNat).2 ⟨m, hm, rfl⟩] at h2
    unfold QM.tb at h
    rw [h] at h2
    cases h2
/-- A row as it is handed on: a slice value that reads as it in w. -/
abbrev Row (w : World) := { x : Value × List Mem // RdM w x.1 x.2 ∧ QM.Val 0 x.2 }
/-- What a round keeps: all below n₀, and the two boxes of the iterator. -/
def KpC (n₀ s n : Nat) (W W' : World) : Prop := Below n₀ W W' ∧ W'.heap[s]? = W.heap[s]? ∧ W'.heap[n]? = W.heap[n]?
theorem KpC.trans {n₀ s n : Nat} {A B C : World} (h : KpC n₀ s n A B) (k : KpC n₀ s n B C) : KpC n₀ s n A C := ⟨h.1.trans k.1, k.2.1.trans h.2.1, k.2.2.trans h.2.2⟩
theorem KpC.putObj {n₀ s n : Nat} {w : World} (hn : n₀ ≤ w.heap.size) (hs : s < w.heap.size) (hm : n < w.heap.size) (W : World) (l : Nat) (o o' : Obj) (hl : w.heap.size ≤ l) (h : W.heap[l]? = some o) (hc : o.isCells = false) (hw : o.isWalk = false) : KpC n₀ s n W (W.putObj l o') :=
  ⟨belowK_b hn W l o o' hl h hc hw, World.putObj_heap_other (by omega), World.putObj_heap_other (by omega)⟩

theorem rows_drop {c : Nat} (hc : 1 ≤ c) {ms : List Mem} {i : Nat} (h : i < ms.length) : QM.rows c (ms.drop i) = (ms.drop i).take (min c (ms.length - i)) :: QM.rows c (ms.drop (i + c)) := by
  rw [QM.rows_cons c hc (by intro h0; have := congrArg List.length h0; rw [List.length_drop] at this; simp at this; omega), List.drop_drop]
  congr 1
  rcases Nat.le_total c (ms.length - i) with h1 | h1
  · rw [Nat.min_eq_left h1]
  · rw [Nat.min_eq_right h1, List.take_of_length_le (by rw [List.length_drop]; omega), List.take_of_length_le (by rw [List.length_drop]; omega)]

set_option maxHeartbeats 1000000 in
theorem cChunk (F : Fence) (n : Nat) (hf : F.fn 56) (hro : F.round = none) (a : Option Addr) (len cap : Nat) (c : Int) (hc : 1 ≤ c) (w : World) :
    CallsIn F n Try.prog 56 #[.slice a len cap, .int .i64 c] w fun e w' =>
      e = .returned (.func (.func 68) #[] #[.pointer (some ⟨w.heap.size, 0, none⟩), .pointer (some ⟨w.heap.size + 1, 0, none⟩)]) ∧
        w' = (w.alloc (.cells #[.slice a len cap] 24)).alloc (.cells #[.int .i64 c] 3) := by
  have h1 : ¬ c < 1 := by omega
  refine callsIn_of_wp Try.func56 rfl hf ?_ hro
  simp only [Try.ntmps56, List.size_toArray, List.length_cons, List.length_nil, Nat.reduceAdd, Nat.reduceSub, Array.replicate_succ, Array.replicate_zero, List.push_toArray, List.append_toArray, List.nil_append, List.cons_append]
  gi_wp2
  go_ret
  exact ⟨rfl, rfl⟩

set_option maxRecDepth 100000 in
set_option maxHeartbeats 2000000 in
theorem cChunk1 (n : Nat) (hn : 1 ≤ n) (l Bs Bn n₀ c : Nat) (sv : Value) (ms : List Mem) (w0 : World) (hc : 1 ≤ c) (hc12 : c ≤ 12) (hl12 : ms.length ≤ 100)
    (hr : RdM w0 sv ms) (hval : QM.Val 0 ms) (hn₀ : w0.heap.size = n₀) (J Jx : List (Row w0) → World → Prop)
    (hdr : ∀ pre W m, J pre W → J pre (W.drewN m))
    (hY : ∀ pre x W, J pre W → pre.length < ms.length → YieldAt Fence.wide (n - 1) Try.prog l #[x.1.1] W fun e W' =>
      (e = .returned (.bool true) ∧ J (pre ++ [x]) W' ∧ KpC n₀ Bs Bn W W') ∨ (e = .returned (.bool false) ∧ Jx (pre ++ [x]) W'))
    (W : World) (hBs : W.cell? ⟨Bs, 0, none⟩ = some sv) (hBn : W.cell? ⟨Bn, 0, none⟩ = some (.int .i64 (c : Int))) (h0 : J [] W) :
    CallsIn Fence.wide n Try.prog 68 #[.func (.yield l) #[] #[], .pointer (some ⟨Bs, 0, none⟩), .pointer (some ⟨Bn, 0, none⟩)] W fun e W' => (∃ v, e = .returned v) ∧
      ((∃ ys : List (Row w0), ys.map (·.1.2) = QM.rows c ms ∧ J ys W') ∨ (∃ pre, Jx pre W')) := by
  obtain ⟨ad, cp, rfl, hcp, hlc⟩ := hr.shape
  have HR := Lib.hid hr
  have HD := Lib.hid hdr
  have HY := Lib.hid hY
  have HN := Lib.hid hn₀
  have HVL := Lib.hid (fun k c => val_take (val_drop hval (Int.le_refl 0) k) c)
  clear hval
  clear hr hdr hY hn₀
  refine callsIn_of_wp Try.func68 rfl trivial ?_ rfl
  simp only [Try.ntmps68, List.size_toArray, List.length_cons, List.length_nil, Nat.reduceAdd, Nat.reduceSub, Array.replicate_succ, Array.replicate_zero, List.push_toArray, List.append_toArray, List.nil_append, List.cons_append]
  gi_wp2
  gi_loopw [4] (fun i wr => ∃ (k : Nat) (pre : List (Row w0)), i = .int .i64 k ∧ k ≤ 112 ∧ pre.length ≤ k ∧ Hid (pre.map (·.1.2) ++ QM.rows c (ms.drop k) = QM.rows c ms) ∧ J pre wr ∧ wr.cell? ⟨Bs, 0, none⟩ = some (.slice ad ms.length cp) ∧ wr.cell? ⟨Bn, 0, none⟩ = some (.int .i64 (c : Int)))
    (fun i _ => ms.length - (intOf i).toNat)
  case atStart => exact ⟨0, [], rfl, by omega, Nat.le_refl _, (by show _ = _; simp), h0, hBs, hBn⟩
  case round =>
    obtain ⟨k, pre, rfl, hk112, hpk, hpre, hJ, hcs, hcn⟩ := hrel
    clear hBs hBn
    by_cases hlt : k < ms.length
    · have hq : (k : Int) < (ms.length : Int) := by omega
      obtain ⟨v1, hv1, hrd1⟩ := HR.out.cutL memE k (by omega)
      obtain ⟨a1, c1, rfl, hc1, hl1⟩ := hrd1.shape
      have hlen1 : (ms.drop k).length = ms.length - k := List.length_drop
      rw [hlen1] at hv1 hl1
      have hm1 : ((ms.length - k : Nat) : Int) = (ms.length : Int) - (k : Int) := by omega
      have hrows := Lib.hid (rows_drop hc hlt)
      have HJ := Lib.hid hJ
      clear hJ
      by_cases hcase : c ≤ ms.length - k
      · rw [Nat.min_eq_left hcase] at hrows
        obtain ⟨v2, hve, _, hrd2⟩ := HR.out.cut3 memE k (k + c) (by omega) (by omega)
        rw [Nat.add_sub_cancel_left] at hrd2 hve
        rw [if_neg (by omega)] at hve
        subst hve
        have hnlt : ¬ ((ms.length : Int) - (k : Int) < (c : Int)) := by omega
        have hpre2 := Lib.hid (show (pre ++ [(⟨(.slice (ad.map (·.add (k * 2))) c c, (ms.drop k).take c), hrd2, HVL.out k c⟩ : Row w0)]).map (·.1.2) ++ QM.rows c (ms.drop (k + c)) = QM.rows c ms by
          rw [← hpre.out, hrows.out, List.map_append, List.append_assoc]; rfl)
        clear hpre hrows
        gi_wp2
        gi_big_quiet_th (fail)
        have hJq := HD.out pre wr nq HJ.out
        have hcs2 : (wr.drewN nq).cell? ⟨Bs, 0, none⟩ = some (.slice ad ms.length cp) := hcs
        have hcn2 : (wr.drewN nq).cell? ⟨Bn, 0, none⟩ = some (.int .i64 (c : Int)) := hcn
        clear hcs hcn HJ
        generalize wr.drewN nq = wq at hJq hcs2 hcn2 ⊢
        obtain ⟨fn, tmps, assign, body, hy, hR⟩ := HY.out pre ⟨(.slice (ad.map (·.add (k * 2))) c c, (ms.drop k).take c), hrd2, HVL.out k c⟩ wq hJq (by omega)
        dsimp only at hy
        gi_wp2
        refine hR.mono ?_
        rintro e W3 (⟨rfl, hJ3, hk3⟩ | ⟨rfl, hJx3⟩)
        · have hcs4 : W3.cell? ⟨Bs, 0, none⟩ = some (.slice ad ms.length cp) := by rw [← hcs2]; exact World.cell?_of_block hk3.2.1
          have hcn4 : W3.cell? ⟨Bn, 0, none⟩ = some (.int .i64 (c : Int)) := by rw [← hcn2]; exact World.cell?_of_block hk3.2.2
          gi_wp2
          go_roundw
          case rel => exact ⟨k + c, _, by go_num, by omega, by simp; omega, hpre2, hJ3, hcs4, hcn4⟩
          case measure => simp [intOf]; omega
        · gi_wp2
          refine bodyPost_ret (results_none rfl _ _ _) rfl ?_
          exact ⟨⟨_, rfl⟩, .inr ⟨_, hJx3⟩⟩
      · rw [Nat.min_eq_right (by omega)] at hrows
        obtain ⟨v2, hve, _, hrd2⟩ := HR.out.cut3 memE k (k + (ms.length - k)) (by omega) (by omega)
        rw [Nat.add_sub_cancel_left] at hrd2 hve
        rw [if_neg (by omega)] at hve
        subst hve
        have hnlt : (ms.length : Int) - (k : Int) < (c : Int) := by omega
        have hpre2 := Lib.hid (show (pre ++ [(⟨(.slice (ad.map (·.add (k * 2))) (ms.length - k) (ms.length - k), (ms.drop k).take (ms.length - k)), hrd2, HVL.out k (ms.length - k)⟩ : Row w0)]).map (·.1.2) ++ QM.rows c (ms.drop (k + c)) = QM.rows c ms by
          rw [← hpre.out, hrows.out, List.map_append, List.append_assoc]; rfl)
        clear hpre hrows
        gi_wp2
        gi_big_quiet_th (fail)
        have hJq := HD.out pre wr nq HJ.out
        have hcs2 : (wr.drewN nq).cell? ⟨Bs, 0, none⟩ = some (.slice ad ms.length cp) := hcs
        have hcn2 : (wr.drewN nq).cell? ⟨Bn, 0, none⟩ = some (.int .i64 (c : Int)) := hcn
        clear hcs hcn HJ
        generalize wr.drewN nq = wq at hJq hcs2 hcn2 ⊢
        obtain ⟨fn, tmps, assign, body, hy, hR⟩ := HY.out pre ⟨(.slice (ad.map (·.add (k * 2))) (ms.length - k) (ms.length - k), (ms.drop k).take (ms.length - k)), hrd2, HVL.out k (ms.length - k)⟩ wq hJq (by omega)
        dsimp only at hy
        gi_wp2
        refine hR.mono ?_
        rintro e W3 (⟨rfl, hJ3, hk3⟩ | ⟨rfl, hJx3⟩)
        · have hcs4 : W3.cell? ⟨Bs, 0, none⟩ = some (.slice ad ms.length cp) := by rw [← hcs2]; exact World.cell?_of_block hk3.2.1
          have hcn4 : W3.cell? ⟨Bn, 0, none⟩ = some (.int .i64 (c : Int)) := by rw [← hcn2]; exact World.cell?_of_block hk3.2.2
          gi_wp2
          go_roundw
          case rel => exact ⟨k + c, _, by go_num, by omega, by simp; omega, hpre2, hJ3, hcs4, hcn4⟩
          case measure => simp [intOf]; omega
        · gi_wp2
          refine bodyPost_ret (results_none rfl _ _ _) rfl ?_
          exact ⟨⟨_, rfl⟩, .inr ⟨_, hJx3⟩⟩
    · have hq : ¬ ((k : Int) < (ms.length : Int)) := by omega
      have he := Lib.hid (show pre.map (·.1.2) = QM.rows c ms by rw [← hpre.out, List.drop_of_length_le (by omega)]; simp [QM.rows_nil])
      clear hpre
      gi_wp2
      go_end0
      exact ⟨⟨_, rfl⟩, .inl ⟨pre, he.out, hJ⟩⟩


theorem keepsO {W W' : World} (h : Below W.heap.size W W') : KeepsOthers W W' := ⟨h.size, fun k _ hk _ => by rw [h.block k (Array.getElem?_eq_some_iff.1 hk).1]; exact hk⟩
/-- What a round of holdsRows leaves. -/
theorem rows_out {w W W1 : World} {s : Int} {x y : Bool} (hB : Below w.heap.size w W) (h6 : w.heap.size + 6 ≤ W.heap.size) (d1 : W.cell? ⟨w.heap.size + 1, 0, none⟩ = some (.int .u16 s)) (d2 : W.cell? ⟨w.heap.size + 1 + 1, 0, none⟩ = some (.bool x)) (d2f : W.frozen? ⟨w.heap.size + 1 + 1, 0, none⟩ = false)
    (d3 : W.cell? ⟨w.heap.size + 1 + 1 + 1, 0, none⟩ = some (.bool y)) (d3f : W.frozen? ⟨w.heap.size + 1 + 1 + 1, 0, none⟩ = false) (hb : Below W.heap.size W W1) (x2 x3 : Bool) :
    KeepsOthers W ((W1.setCell ⟨w.heap.size + 1 + 1, 0, none⟩ (.bool x2)).setCell ⟨w.heap.size + 1 + 1 + 1, 0, none⟩ (.bool x3)) ∧
    KpC w.heap.size (w.heap.size + 1 + 1 + 1 + 1) (w.heap.size + 1 + 1 + 1 + 1 + 1) W ((W1.setCell ⟨w.heap.size + 1 + 1, 0, none⟩ (.bool x2)).setCell ⟨w.heap.size + 1 + 1 + 1, 0, none⟩ (.bool x3)) ∧
    ((W1.setCell ⟨w.heap.size + 1 + 1, 0, none⟩ (.bool x2)).setCell ⟨w.heap.size + 1 + 1 + 1, 0, none⟩ (.bool x3)).cell? ⟨w.heap.size + 1, 0, none⟩ = some (.int .u16 s) ∧
    ((W1.setCell ⟨w.heap.size + 1 + 1, 0, none⟩ (.bool x2)).setCell ⟨w.heap.size + 1 + 1 + 1, 0, none⟩ (.bool x3)).cell? ⟨w.heap.size + 1 + 1, 0, none⟩ = some (.bool x2) ∧
    ((W1.setCell ⟨w.heap.size + 1 + 1, 0, none⟩ (.bool x2)).setCell ⟨w.heap.size + 1 + 1 + 1, 0, none⟩ (.bool x3)).frozen? ⟨w.heap.size + 1 + 1, 0, none⟩ = false ∧
    ((W1.setCell ⟨w.heap.size + 1 + 1, 0, none⟩ (.bool x2)).setCell ⟨w.heap.size + 1 + 1 + 1, 0, none⟩ (.bool x3)).cell? ⟨w.heap.size + 1 + 1 + 1, 0, none⟩ = some (.bool x3) ∧
    ((W1.setCell ⟨w.heap.size + 1 + 1, 0, none⟩ (.bool x2)).setCell ⟨w.heap.size + 1 + 1 + 1, 0, none⟩ (.bool x3)).frozen? ⟨w.heap.size + 1 + 1 + 1, 0, none⟩ = false ∧
    w.heap.size + 6 ≤ ((W1.setCell ⟨w.heap.size + 1 + 1, 0, none⟩ (.bool x2)).setCell ⟨w.heap.size + 1 + 1 + 1, 0, none⟩ (.bool x3)).heap.size ∧
    Below w.heap.size w ((W1.setCell ⟨w.heap.size + 1 + 1, 0, none⟩ (.bool x2)).setCell ⟨w.heap.size + 1 + 1 + 1, 0, none⟩ (.bool x3)) := by
  have e1 := below_cell hb d1
  have e2 := below_cell hb d2
  have e3 := below_cell hb d3
  have n1 : ∀ (u : Value) (V : World), (V.setCell ⟨w.heap.size + 1 + 1 + 1, 0, none⟩ u).cell? ⟨w.heap.size + 1, 0, none⟩ = V.cell? ⟨w.heap.size + 1, 0, none⟩ := fun u V => World.cell?_setCell_other _ _ _ _ (by intro e; simp only [Addr.mk.injEq] at e; omega)
  have n2 : ∀ (u : Value) (V : World), (V.setCell ⟨w.heap.size + 1 + 1, 0, none⟩ u).cell? ⟨w.heap.size + 1, 0, none⟩ = V.cell? ⟨w.heap.size + 1, 0, none⟩ := fun u V => World.cell?_setCell_other _ _ _ _ (by intro e; simp only [Addr.mk.injEq] at e; omega)
  have n3 : ∀ (u : Value) (V : World), (V.setCell ⟨w.heap.size + 1 + 1 + 1, 0, none⟩ u).cell? ⟨w.heap.size + 1 + 1, 0, none⟩ = V.cell? ⟨w.heap.size + 1 + 1, 0, none⟩ := fun u V => World.cell?_setCell_other _ _ _ _ (by intro e; simp only [Addr.mk.injEq] at e; omega)
  have n4 : ∀ (u : Value) (V : World), (V.setCell ⟨w.heap.size + 1 + 1, 0, none⟩ u).cell? ⟨w.heap.size + 1 + 1 + 1, 0, none⟩ = V.cell? ⟨w.heap.size + 1 + 1 + 1, 0, none⟩ := fun u V => World.cell?_setCell_other _ _ _ _ (by intro e; simp only [Addr.mk.injEq] at e; omega)
  have hs := hb.size
  have f2 : W1.frozen? ⟨w.heap.size + 1 + 1, 0, none⟩ = false := by rw [hb.frozen (p := ⟨w.heap.size + 1 + 1, 0, none⟩) (by show w.heap.size + 1 + 1 < W.heap.size; omega)]; exact d2f
  have f3 : W1.frozen? ⟨w.heap.size + 1 + 1 + 1, 0, none⟩ = false := by rw [hb.frozen (p := ⟨w.heap.size + 1 + 1 + 1, 0, none⟩) (by show w.heap.size + 1 + 1 + 1 < W.heap.size; omega)]; exact d3f
  have hw : Below w.heap.size W W1 := hb.mono (by omega)
  have hw2 := (hw.setCell (p := ⟨w.heap.size + 1 + 1, 0, none⟩) (by show w.heap.size ≤ w.heap.size + 1 + 1; omega) (.bool x2)).setCell (p := ⟨w.heap.size + 1 + 1 + 1, 0, none⟩) (by show w.heap.size ≤ w.heap.size + 1 + 1 + 1; omega) (.bool x3)
  refine ⟨((keepsO hb).trans (KeepsOthers.setCell _ _ _)).trans (KeepsOthers.setCell _ _ _), ⟨hw2, ?_, ?_⟩, ?_, ?_, ?_, ?_, ?_, ?_, hB.trans hw2⟩
  · rw [Below.heap_setCell _ _ _ _ (by show w.heap.size + 1 + 1 + 1 + 1 ≠ w.heap.size + 1 + 1 + 1; omega), Below.heap_setCell _ _ _ _ (by show w.heap.size + 1 + 1 + 1 + 1 ≠ w.heap.size + 1 + 1; omega)]
    exact hb.block _ (by omega)
  · rw [Below.heap_setCell _ _ _ _ (by show w.heap.size + 1 + 1 + 1 + 1 + 1 ≠ w.heap.size + 1 + 1 + 1; omega), Below.heap_setCell _ _ _ _ (by show w.heap.size + 1 + 1 + 1 + 1 + 1 ≠ w.heap.size + 1 + 1; omega)]
    exact hb.block _ (by omega)
  · rw [n1, n2]; exact e1
  · rw [n3]; exact World.cell?_setCell_same' _ _ _ (by rw [e2]; rfl)
  · rw [World.frozen?_setCell, World.frozen?_setCell]; exact f2
  · exact World.cell?_setCell_same' _ _ _ (by rw [n4, e3]; rfl)
  · rw [World.frozen?_setCell, World.frozen?_setCell]; exact f3
  · have : ((W1.setCell ⟨w.heap.size + 1 + 1, 0, none⟩ (.bool x2)).setCell ⟨w.heap.size + 1 + 1 + 1, 0, none⟩ (.bool x3)).heap.size = W1.heap.size := by simp [World.setCell]
    omega

theorem cChunk_stops (n : Nat) (hn : 1 ≤ n) (Bs Bn c : Nat) (sv : Value) (ms : List Mem) (w0 w6 : World) (hc : 1 ≤ c) (hc12 : c ≤ 12) (hl12 : ms.length ≤ 100) (hr : RdM w0 sv ms) (hval : QM.Val 0 ms) (hBs : Bs < w6.heap.size) (hBn : Bn < w6.heap.size)
    (hcs : w6.cell? ⟨Bs, 0, none⟩ = some sv) (hcn : w6.cell? ⟨Bn, 0, none⟩ = some (.int .i64 (c : Int))) :
    SeqStopsK Fence.wide n Try.prog 68 #[.pointer (some ⟨Bs, 0, none⟩), .pointer (some ⟨Bn, 0, none⟩)] (fun x : Row w0 => #[x.1.1]) (KpC w0.heap.size Bs Bn) (fun ys => ys.map (·.1.2) = QM.rows c ms) (fun _ => True) ms.length w6 := fun l J Jx W hW hJ _ hY h0 => by
  refine (cChunk1 n hn l Bs Bn w0.heap.size c sv ms w0 hc hc12 hl12 hr hval rfl J Jx (fun pre W m h => hJ pre W _ none h ⟨rfl, rfl, rfl, Nat.le_refl _, fun _ _ _ => rfl⟩ (fun _ e => by cases e)) hY W ((hW.cell (p := ⟨Bs, 0, none⟩) hBs).trans hcs) ((hW.cell (p := ⟨Bn, 0, none⟩) hBn).trans hcn) h0).mono ?_
  rintro e W' ⟨he, h | ⟨pre, h⟩⟩
  · exact ⟨he, .inl h⟩
  · exact ⟨he, .inr ⟨pre, trivial, h⟩⟩

set_option maxRecDepth 100000 in
set_option maxHeartbeats 4000000 in
theorem cHoldsRows_in (n : Nat) (hn : 3 ≤ n) (sv : Value) (k f : Int) (c s : Nat) (ms : List Mem) (w : World) (hc : 1 ≤ c) (hc12 : c ≤ 12) (hs : s < 65536) (hr : RdM w sv ms) (hval : QM.Val 0 ms) :
    CallsIn Fence.wide n Try.prog 49 #[vw sv k (c : Int) f, .int .u16 (s : Int)] w fun e w' => e = .returned (.bool (QM.grid c (QM.tb s) ms)) ∧ Below w.heap.size w w' := by
  have hlen := hval.length (Int.le_refl 0) (by decide)
  obtain ⟨ad, cp, rfl, hcp, hlc⟩ := hr.shape
  have HR := Lib.hid hr
  have HV := Lib.hid hval
  clear hr hval
  refine callsIn_of_wp_marks Try.func49 rfl trivial ?_ rfl
  simp only [Try.ntmps49, List.size_toArray, List.length_cons, List.length_nil, Nat.reduceAdd, Nat.reduceSub, Array.replicate_succ, Array.replicate_zero, List.push_toArray, List.append_toArray, List.nil_append, List.cons_append]
  gi_wp2
  refine ⟨trivial, fun _ => by omega, ?_⟩
  refine (cChunk Fence.wide (n - 1) trivial rfl _ _ _ _ (by omega) _).mono ?_
  rintro e w' ⟨rfl, rfl⟩
  gi_wp2
  have b1 := Boxed.new (w.alloc (.cells #[.slice ad ms.length cp, .int .i64 k, .int .i64 (c : Int), .int .i64 f] 26)) 54 (.int .u16 (s : Int))
  have b2 := Boxed.new ((w.alloc (.cells #[.slice ad ms.length cp, .int .i64 k, .int .i64 (c : Int), .int .i64 f] 26)).alloc (.cells #[.int .u16 (s : Int)] 54)) 4 (.bool false)
  have b3 := Boxed.new (((w.alloc (.cells #[.slice ad ms.length cp, .int .i64 k, .int .i64 (c : Int), .int .i64 f] 26)).alloc (.cells #[.int .u16 (s : Int)] 54)).alloc (.cells #[.bool false] 4)) 4 (.bool true)
  have b4 := Boxed.new ((((w.alloc (.cells #[.slice ad ms.length cp, .int .i64 k, .int .i64 (c : Int), .int .i64 f] 26)).alloc (.cells #[.int .u16 (s : Int)] 54)).alloc (.cells #[.bool false] 4)).alloc (.cells #[.bool true] 4)) 24 (.slice ad ms.length cp)
  have b5 := Boxed.new (((((w.alloc (.cells #[.slice ad ms.length cp, .int .i64 k, .int .i64 (c : Int), .int .i64 f] 26)).alloc (.cells #[.int .u16 (s : Int)] 54)).alloc (.cells #[.bool false] 4)).alloc (.cells #[.bool true] 4)).alloc (.cells #[.slice ad ms.length cp] 24)) 3 (.int .i64 (c : Int))
  have c1 := ((((b1.alloc (.cells #[.bool false] 4)).alloc (.cells #[.bool true] 4)).alloc (.cells #[.slice ad ms.length cp] 24)).alloc (.cells #[.int .i64 (c : Int)] 3)).cell
  have c2 := (((b2.alloc (.cells #[.bool true] 4)).alloc (.cells #[.slice ad ms.length cp] 24)).alloc (.cells #[.int .i64 (c : Int)] 3))
  have c3 := ((b3.alloc (.cells #[.slice ad ms.length cp] 24)).alloc (.cells #[.int .i64 (c : Int)] 3))
  have c4 := (b4.alloc (.cells #[.int .i64 (c : Int)] 3)).cell
  have c5 := b5.cell
  clear b1 b2 b3 b4 b5
  simp only [World.size_alloc] at c1 c2 c3 c4 c5
  have c2f := c2.frozen
  have c3f := c3.frozen
  replace c2 := c2.cell
  replace c3 := c3.cell
  have hB := bnext (bnext (bnext (bnext (bnext (below_fresh w (.cells #[.slice ad ms.length cp, .int .i64 k, .int .i64 (c : Int), .int .i64 f] 26)) (below_fresh _ (.cells #[.int .u16 (s : Int)] 54))) (below_fresh _ (.cells #[.bool false] 4))) (below_fresh _ (.cells #[.bool true] 4))) (below_fresh _ (.cells #[.slice ad ms.length cp] 24))) (below_fresh _ (.cells #[.int .i64 (c : Int)] 3))
  have hsz : ((((((w.alloc (.cells #[.slice ad ms.length cp, .int .i64 k, .int .i64 (c : Int), .int .i64 f] 26)).alloc (.cells #[.int .u16 (s : Int)] 54)).alloc (.cells #[.bool false] 4)).alloc (.cells #[.bool true] 4)).alloc (.cells #[.slice ad ms.length cp] 24)).alloc (.cells #[.int .i64 (c : Int)] 3)).heap.size = w.heap.size + 1 + 1 + 1 + 1 + 1 + 1 := by simp only [World.size_alloc]
  generalize ((((((w.alloc (.cells #[.slice ad ms.length cp, .int .i64 k, .int .i64 (c : Int), .int .i64 f] 26)).alloc (.cells #[.int .u16 (s : Int)] 54)).alloc (.cells #[.bool false] 4)).alloc (.cells #[.bool true] 4)).alloc (.cells #[.slice ad ms.length cp] 24)).alloc (.cells #[.int .i64 (c : Int)] 3)) = w6 at c1 c2 c3 c4 c5 c2f c3f hB hsz ⊢
  refine wpIn_rangeFunc_ownF (F := Fence.wide) rfl (by omega) (gf := 68) (lb := #[.pointer (some ⟨w.heap.size + 1 + 1 + 1 + 1, 0, none⟩), .pointer (some ⟨w.heap.size + 1 + 1 + 1 + 1 + 1, 0, none⟩)]) rfl trivial (enters_of Try.func68 (by kernel_rfl) rfl)
    (cChunk_stops (n - 1) (by omega) (w.heap.size + 1 + 1 + 1 + 1) (w.heap.size + 1 + 1 + 1 + 1 + 1) c (.slice ad ms.length cp) ms w w6 hc hc12 (by omega) HR.out HV.out (by omega) (by omega) c4 c5)
    KpC.trans (KpC.putObj (by omega) (by omega) (by omega)) (Below.refl _ _) (fun _ => rfl)
    (fun pre W => (W.cell? ⟨w.heap.size + 1, 0, none⟩ = some (.int .u16 (s : Int)) ∧ W.cell? ⟨w.heap.size + 1 + 1, 0, none⟩ = some (.bool (pre.any fun x => x.1.2.all fun m => QM.tb s m.1)) ∧ W.frozen? ⟨w.heap.size + 1 + 1, 0, none⟩ = false ∧
      W.cell? ⟨w.heap.size + 1 + 1 + 1, 0, none⟩ = some (.bool (pre.all fun x => x.1.2.any fun m => QM.tb s m.1)) ∧ W.frozen? ⟨w.heap.size + 1 + 1 + 1, 0, none⟩ = false) ∧ w.heap.size + 6 ≤ W.heap.size ∧ Below w.heap.size w W)
    (fun _ _ _ => False)
    (OwnFrom.and (Own.from (fun s A B row hs hg hr => ⟨cell_kept hs.1 hg hr, cell_kept hs.2.1 hg hr, (frozen_kept hs.2.1 hg hr).trans hs.2.2.1, cell_kept hs.2.2.2.1 hg hr, (frozen_kept hs.2.2.2.1 hg hr).trans hs.2.2.2.2⟩) _) (OwnFrom.and (fun _ _ _ _ hs hg _ => Nat.le_trans hs hg.size) (ownFrom_below (Nat.le_refl _) (by omega))))
    (fun _ _ _ _ _ hs _ _ => hs)
    ⟨⟨c1, c2, c2f, c3, c3f⟩, by omega, hB⟩
    (fun x => { tmps := #[vw (.slice ad ms.length cp) k (c : Int) f, .int .u16 (s : Int), .pointer (some ⟨w.heap.size, 0, none⟩), .pointer (some ⟨w.heap.size + 1, 0, none⟩), .bool false, .pointer (some ⟨w.heap.size + 1 + 1, 0, none⟩), .pointer (some ⟨w.heap.size + 1 + 1 + 1, 0, none⟩), x.1.1, undef,
      .pointer (some ⟨w.heap.size, 0, none⟩), .slice ad ms.length cp, .pointer (some ⟨w.heap.size, 1, none⟩), .pointer (some ⟨w.heap.size, 2, none⟩), .int .i64 (c : Int), .func (.func 68) #[] #[.pointer (some ⟨w.heap.size + 1 + 1 + 1 + 1, 0, none⟩), .pointer (some ⟨w.heap.size + 1 + 1 + 1 + 1 + 1, 0, none⟩)],
      x.1.1, undef, undef, undef, undef, undef, undef, undef, undef, undef, undef, undef, undef, undef, undef, undef, undef, undef, undef, undef], defers := [] }) ?assign ?body ?done ?stop
  case assign =>
    intro l x W K hK
    gi_wp2
    exact hK
  case body =>
    rintro l pre ⟨⟨v, r⟩, hrd, hrv⟩ W ⟨⟨d1, d2, d2f, d3, d3f⟩, h6, hBW⟩ _
    simp only at hrd hrv
    have hmem := Lib.hid (callsIn_wide (n := n - 1 - 1 - 1) |>.2 (cMembersOf v r 0 W (hrd.below hBW) hrv))
    have hrw := Lib.hid (row_within hrv hs)
    have hrm := Lib.hid (row_meets hrv hs)
    have hlt := Nat.lt_trans (QM.memL_lt hrv) (show 8192 < 65536 by decide)
    have hany := Lib.hid (show ((pre ++ [(⟨(v, r), hrd, hrv⟩ : Row w)]).any fun x => x.1.2.all fun m => QM.tb s m.1) = ((pre.any fun x => x.1.2.all fun m => QM.tb s m.1) || r.all fun m => QM.tb s m.1) by rw [List.any_append]; simp)
    have hall := Lib.hid (show ((pre ++ [(⟨(v, r), hrd, hrv⟩ : Row w)]).all fun x => x.1.2.any fun m => QM.tb s m.1) = ((pre.all fun x => x.1.2.any fun m => QM.tb s m.1) && r.any fun m => QM.tb s m.1) by rw [List.all_append]; simp)
    generalize (pre.any fun x => x.1.2.all fun m => QM.tb s m.1) = sw at d2 hany
    generalize (pre.all fun x => x.1.2.any fun m => QM.tb s m.1) = am at d3 hall
    generalize QM.memL r = mk at hmem hrw hrm hlt
    have hwi := Lib.hid (fun W => callsIn_wide (n := n - 1 - 1 - 1) |>.2 (cWithin mk s W hlt hs))
    clear HR HV
    have HW := Lib.hid (fun W1 hb1 x2 x3 => rows_out (W1 := W1) hBW h6 d1 d2 d2f d3 d3f hb1 x2 x3)
    cases sw <;> cases am
    all_goals
      gi_wp2
      refine ⟨trivial, fun _ => by omega, ?_⟩
      refine (CallsIn.inRound l hmem.out).mono ?_
      rintro e W1 ⟨rfl, hb1⟩
      have e1 := below_cell hb1 d1
      have e2 := below_cell hb1 d2
      have e3 := below_cell hb1 d3
      have f2 : W1.frozen? ⟨w.heap.size + 1 + 1, 0, none⟩ = false := by rw [hb1.frozen (p := ⟨w.heap.size + 1 + 1, 0, none⟩) (by show w.heap.size + 1 + 1 < W.heap.size; omega)]; exact d2f
      have f3 : W1.frozen? ⟨w.heap.size + 1 + 1 + 1, 0, none⟩ = false := by rw [hb1.frozen (p := ⟨w.heap.size + 1 + 1 + 1, 0, none⟩) (by show w.heap.size + 1 + 1 + 1 < W.heap.size; omega)]; exact d3f
      have HW1 := Lib.hid (HW.out W1 hb1)
      clear hmem HW d1 d2 d3 d2f d3f
      first
        | (gi_wp2; refine ⟨trivial, fun _ => by omega, ?_⟩; refine (CallsIn.inRound l (hwi.out _)).mono ?_; rintro e W2 ⟨rfl, rfl⟩; gi_wp2)
        | (gi_wp2; refine ⟨trivial, ?_⟩; gi_wp2)
      obtain ⟨g1, g2, g3, g4, g5, g6, g7, g8, g9⟩ := HW1.out _ _
      refine ⟨g1, g2, ⟨g3, ?_, g5, ?_, g7⟩, g8, g9⟩
      · rw [hany.out, ← hrw.out, g4]
        try rfl
      · rw [hall.out, ← hrm.out, g6]
        try rfl
  case done =>
    rintro D ys W hD hys ⟨⟨d1, d2, d2f, d3, d3f⟩, h6, hBW⟩ hK
    have e := Lib.hid (show QM.grid c (QM.tb s) ms = ((ys.any fun x => x.1.2.all fun m => QM.tb s m.1) && ys.all fun x => x.1.2.any fun m => QM.tb s m.1) by
      unfold QM.grid
      rw [← hys, List.any_map, List.all_map]; rfl)
    generalize (ys.any fun x => x.1.2.all fun m => QM.tb s m.1) = sw at d2 e
    generalize (ys.all fun x => x.1.2.any fun m => QM.tb s m.1) = am at d3 e
    cases sw <;> cases am
    all_goals
      gi_wp2
      refine ⟨by simp, .inl ⟨_, _, rfl, run_takeDeferred hK, ?_⟩⟩
      exact ⟨_, results_tmp rfl _ _ _, by rw [e.out]; rfl, hBW.trans (belowK_b (w := w) (Nat.le_refl _) W D _ _ (by omega) hK rfl rfl)⟩
  case stop =>
    rintro D c pre W _ _ h _
    exact h.elim

theorem cHoldsRows (sv : Value) (k f : Int) (c s : Nat) (ms : List Mem) (w : World) (hc : 1 ≤ c) (hc12 : c ≤ 12) (hs : s < 65536) (hr : RdM w sv ms) (hval : QM.Val 0 ms) :
    Calls Try.prog 49 #[vw sv k (c : Int) f, .int .u16 (s : Int)] w fun e w' => e = .returned (.bool (QM.grid c (QM.tb s) ms)) ∧ Below w.heap.size w w' :=
  (callsIn_wide (n := 3)).1 (cHoldsRows_in 3 (by decide) sv k f c s ms w hc hc12 hs hr hval)

end Go.Proofs.Ytbbgjckiooejhaa
