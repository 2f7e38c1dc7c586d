/-
  The call of slices.Insert of one update into a list of the call's own. Conditions: the list is the call's own; the update lies in a block of its own; the place is within the list.
  The call of state.Merge: what the plain mathematics says. Conditions: what comes in reads; the state is valid; the tables of unicode/utf8 are laid; the effects fit.
-/
import Derived.Lib.AppendZerosOnto
import Derived.Lib.Overlaps
import Derived.Lib.LazyBuf
import Derived.Deep.RegionHeld3
import Derived.Test.YtdfablboenfblaaDoorQYA
import Derived.Test.YtdfablboenfblaaDoorQYLaw
import Derived.Deep.LoopGhost
import Derived.Test.YtdfablboenfblaaDoorQYD
import Derived.Test.YtdfablboenfblaaDoorQYE
import Derived.Test.YtdfablboenfblaaDoorQSM1
namespace Go.Proofs.YtdfablboenfblaaDoor.ST
open Go.RowKit
open UM (Ef)
open SM (Fp)

/-- What append does hangs on its first type alone, where the second is a slice's. -/
theorem append_types {P : Program} {t u e e2 : TypeId} (ht : P.underlying t = some (.slice e)) (hu : P.underlying u = some (.slice e2)) (ty : TypeId) (a : Option Addr) (n c : Nat) (x : Value) (w : World) :
    (Builtin.append_ #[t, u] ty #[.slice a n c, x]).run P w = (Builtin.append_ #[t, t] ty #[.slice a n c, x]).run P w := by
  simp [Builtin.append_, run_underlying ht, run_underlying hu]
theorem newsU {w : World} {vb : Nat} {q : Up} (hv : w.heap[vb]? = some (.cells (encUp q).toArray 43 (0, 0))) : ∀ j u, (encUp q)[j]? = some u → w.cell? ((⟨vb, 0, none⟩ : Addr).add j) = some u := by
  intro j u hj
  rw [addr_plain, Nat.zero_add]
  simp only [World.cell?, hv]
  simpa using hj

set_option maxRecDepth 100000 in
set_option maxHeartbeats 4000000 in
theorem gInsEnd (sv : Value) (qs : List Up) (q : Up) (vb base : Nat) (w : World) (ho : OwnUp base w sv qs) (hl : qs.length ≤ 1000) (hv : w.heap[vb]? = some (.cells (encUp q).toArray 43 (0, 0))) (hb : base ≤ w.heap.size) :
    Calls Tryd.prog 64 #[sv, .int .i64 (qs.length : Int), .slice (some ⟨vb, 0, none⟩) 1 1] w fun e w' => ∃ v', e = .returned v' ∧ OwnUp base w' v' (qs ++ [q]) ∧ Below base w w' ∧ KeepsX 43 w w' := by
  obtain ⟨a, c, rfl, hc, hlc⟩ := ho.rd.shape
  obtain ⟨i0, z, hi0, hz0, hz1, hz2, hz3⟩ := upE.info
  obtain ⟨v', w', hr, ho1, hg1, _⟩ := run_append_own (P := Tryd.prog) w base 23 23 43 i0 z 4 48 upE.ht hi0 hz0 hz1 hz2 hz3 upE.pos _ _ _ ho.1 ⟨vb, 0, none⟩ 1 1 (encUp q) (by rw [upE.len]) (newsU hv) (upE.one q) (by unfold maxLen; omega) (by omega) hb
  have hr2 : (Builtin.append_ #[23, 22] 23 #[.slice a qs.length c, .slice (some ⟨vb, 0, none⟩) 1 1]).run Tryd.prog w = .ok v' w' := (append_types upE.ht setE.ht _ _ _ _ _ _).trans hr
  have HO := Lib.hid (show OwnUp base w' v' (qs ++ [q]) from ⟨by rw [cellsOf_append, List.length_append]; simpa [cellsOf] using ho1, ho.2⟩)
  have HB := Lib.hid (show Below base w w' from (Below.refl _ _).grown hg1 hb (fun k hk => (World.ownsRow.lt ho.1 k hk).1))
  have HK := Lib.hid (show KeepsX 43 w w' from keepsX_grown ho.1 hg1)
  have hcut := run_cutLow (P := Tryd.prog) upE a qs.length c qs.length (Nat.le_refl _)
  generalize (Value.slice (if c = qs.length then a else a.map (·.add (qs.length * 4))) (qs.length - qs.length) (c - qs.length)) = VC at hcut
  clear hr ho1 hg1 ho hv hi0 hz0 hz1 hz2 hz3
  go_enter Tryd.func64, Tryd.ntmps64
  go_wp2_with (at_builtin; refine Lib.wpList_append_run _ rfl _ _ _ _ rfl _ _ rfl rfl _ _ hr2 ?_)
  go_ret
  exact ⟨_, rfl, HO.out, HB.out, HK.out⟩

set_option maxRecDepth 100000 in
set_option maxHeartbeats 8000000 in
theorem gInsGrow (g cap : Nat) (cur : Array Value) (qs : List Up) (i : Nat) (q : Up) (vb base : Nat) (w : World) (hi : i < qs.length) (hl : qs.length ≤ 1000)
    (hcap : cap = qs.length) (hg : w.heap[g]? = some (.cells cur 43 (0, 0))) (ht : cur.toList.take (qs.length * 4) = cellsOf encUp qs) (hv : w.heap[vb]? = some (.cells (encUp q).toArray 43 (0, 0))) (hb : base ≤ w.heap.size) :
    Calls Tryd.prog 64 #[.slice (some ⟨g, 0, none⟩) qs.length cap, .int .i64 (i : Int), .slice (some ⟨vb, 0, none⟩) 1 1] w fun e w' => ∃ v', e = .returned v' ∧ OwnUp base w' v' (qs.take i ++ ([q] ++ qs.drop i)) ∧ Below base w w' ∧ KeepsX 43 w w' := by
  obtain ⟨i0, z, hi0, hz0, hz1, hz2, hz3⟩ := upE.info
  have hgw : g < w.heap.size := (Array.getElem?_eq_some_iff.1 hg).1
  have hvw : vb < w.heap.size := (Array.getElem?_eq_some_iff.1 hv).1
  have hcl := cellsOf_length upE.len qs
  have hcs : ∀ j u, (cellsOf encUp qs)[j]? = some u → w.cell? ⟨g, j, none⟩ = some u := fun j u hj => by
    rw [← ht, List.getElem?_take] at hj
    split at hj
    · simp only [World.cell?, hg]; simpa using hj
    · cases hj
  obtain ⟨G, hG⟩ : ∃ G, G = grownCap w (qs.length + 1) cap 43 := ⟨_, rfl⟩
  have hGn : qs.length + 1 ≤ G := by rw [hG]; exact grownCap_ge w _ _ _
  have hGm : G ≤ maxLen := by rw [hG]; exact grownCap_le_maxLen w _ _ _ (by unfold maxLen; omega)
  obtain ⟨Z, hZ⟩ : ∃ Z : List Value, Z = (Builtin.zeroCells z.cells (qs.length + 1 - i) ++ Builtin.zeroCells z.cells (G - (qs.length + 1))).toList := ⟨_, rfl⟩
  have hZl : Z.length = (G - i) * 4 := by
    rw [hZ]
    simp only [Array.toList_append, List.length_append, Array.length_toList, size_zeroCells, hz3]
    rw [← Nat.add_mul]
    congr 1; omega
  obtain ⟨X, hX⟩ : ∃ X : List Value, X = cellsOf encUp (qs.take i) := ⟨_, rfl⟩
  have hXl : X.length = i * 4 := by rw [hX, cellsOf_length upE.len, List.length_take, Nat.min_eq_left (by omega)]
  have hXc : X = (cellsOf encUp qs).take (i * 4) := by rw [hX, cellsOf_take upE.len qs i (by omega)]
  obtain ⟨D, hD⟩ : ∃ D : List Value, D = cellsOf encUp (qs.drop i) := ⟨_, rfl⟩
  have hDl : D.length = (qs.length - i) * 4 := by rw [hD, cellsOf_length upE.len, List.length_drop]
  have hDc : D = (cellsOf encUp qs).drop (i * 4) := by rw [hD, cellsOf_drop upE.len qs i (by omega)]
  obtain ⟨V, hV⟩ : ∃ V : List Value, V = encUp q := ⟨_, rfl⟩
  have hVl : V.length = 4 := by rw [hV, upE.len]
  have hold : (Builtin.firstCells i0.size i (.slice (some ⟨g, 0, none⟩) i cap)).run Tryd.prog w.drew = .ok X.toArray w.drew := by
    rw [hz1]
    exact run_firstCells_some (w := w.drew) 4 i ⟨g, 0, none⟩ i cap X hXl (fun j u hj => by
      rw [addr_plain, Nat.zero_add]
      rw [hXc, List.getElem?_take] at hj
      split at hj
      · exact hcs j u hj
      · cases hj)
  have hrz : ∀ ty, (Builtin.append_ #[23, 3] ty #[.slice (some ⟨g, 0, none⟩) i cap, .int .i64 ((qs.length : Int) + 1 - (i : Int))]).run Tryd.prog w =
      .ok (.slice (some ⟨w.heap.size, 0, none⟩) (qs.length + 1) G) (w.drew.alloc (.cells (X ++ Z).toArray 43)) := fun ty => by
    have h := Lib.run_append_grow_zeros (P := Tryd.prog) w 23 3 ty 43 i0 z .i64 .i64 upE.ht Tryd.underlying3 hi0 hz0 (some ⟨g, 0, none⟩) i cap X hold (qs.length + 1 - i) (by omega) (by omega) (by omega) (by omega) (by rw [hz2]; omega) (by rw [hz2]; exact growslice_fits (by omega) (by omega))
    rw [show i + (qs.length + 1 - i) = qs.length + 1 by omega, ← hG] at h
    rw [show (qs.length : Int) + 1 - (i : Int) = ((qs.length + 1 - i : Nat) : Int) by omega, h, hZ]
    have harr : ∀ (A B : Array Value), X.toArray ++ A ++ B = (X ++ (A ++ B).toList).toArray := fun A B => by apply Array.ext'; simp
    rw [harr]
  obtain ⟨W1, hW1⟩ : ∃ W1, w.drew.alloc (.cells (X ++ Z).toArray 43) = W1 := ⟨_, rfl⟩
  rw [hW1] at hrz
  have hN1 : W1.heap[w.heap.size]? = some (.cells (X ++ Z).toArray 43 (0, 0)) := by rw [← hW1]; exact heap_alloc_new w.drew _
  have hb1 : Below w.heap.size w W1 := by rw [← hW1]; exact ((Below.refl _ w).drew).alloc (Nat.le_refl _) _
  obtain ⟨N, hN⟩ : ∃ N, w.heap.size = N := ⟨_, rfl⟩
  rw [hN] at hrz hN1
  have hs1 : ∀ ty dc, (Builtin.copy_ #[23, 22] ty #[.slice (some ⟨N, i * 4, none⟩) (qs.length + 1 - i) dc, .slice (some ⟨vb, 0, none⟩) 1 1]).run Tryd.prog W1 = .ok (goInt 1) (W1.setRow N ((X ++ Z).toArray.toList.take (i * 4) ++ V ++ (X ++ Z).toArray.toList.drop (i * 4 + V.length)).toArray) := fun ty dc => by
    have hm : Nat.min 1 (qs.length + 1 - i) = 1 := by simp only [Nat.min_def]; split <;> omega
    have := run_copy_rowS (P := Tryd.prog) W1 23 22 ty 43 4 N (i * 4) (qs.length + 1 - i) dc ⟨vb, 0, none⟩ 1 1 (X ++ Z).toArray 43 V upE.ht upE.run_size hN1 (by rw [hm, hVl]) (fun j u hj => below_cell hb1 (newsU hv j u (by rw [← hV]; exact hj))) (by simp only [List.size_toArray, List.length_append]; omega) (by rw [hV]; exact upE.one q)
    rw [hm] at this
    exact this
  obtain ⟨R2, hR2⟩ : ∃ R2 : List Value, R2 = (X ++ Z).take (i * 4) ++ V ++ (X ++ Z).drop (i * 4 + V.length) := ⟨_, rfl⟩
  have hR2l : R2.length = G * 4 := by rw [hR2]; simp only [List.length_append, List.length_take, List.length_drop]; omega
  obtain ⟨W2, hW2⟩ : ∃ W2, W1.setRow N ((X ++ Z).toArray.toList.take (i * 4) ++ V ++ (X ++ Z).toArray.toList.drop (i * 4 + V.length)).toArray = W2 := ⟨_, rfl⟩
  rw [hW2] at hs1
  have hN2 : W2.heap[N]? = some (.cells R2.toArray 43 (0, 0)) := by
    rw [← hW2, hR2]; exact setRow_heap W1 N _ _ _ _ hN1
  have hb2 : Below w.heap.size w W2 := by
    rw [← hW2]; exact seen hb1 (by omega) (setRow_only W1 N _)
  obtain ⟨R3, hR3⟩ : ∃ R3 : List Value, R3 = R2.take ((i + 1) * 4) ++ D ++ R2.drop ((i + 1) * 4 + D.length) := ⟨_, rfl⟩
  have hR3l : R3.length = G * 4 := by rw [hR3]; simp only [List.length_append, List.length_take, List.length_drop]; omega
  have hs2 : ∀ W : World, W.heap = W2.heap → ∀ ty dc sc, (Builtin.copy_ #[23, 23] ty #[.slice (some ⟨N, (i + 1) * 4, none⟩) (qs.length + 1 - (i + 1)) dc, .slice (some ⟨g, i * 4, none⟩) (qs.length - i) sc]).run Tryd.prog W = .ok (goInt (qs.length - i : Nat)) (W.setRow N R3.toArray) := fun W hW ty dc sc => by
    have hm : Nat.min (qs.length - i) (qs.length + 1 - (i + 1)) = qs.length - i := by simp only [Nat.min_def]; split <;> omega
    have hWc : ∀ x, W.cell? x = W2.cell? x := fun x => by unfold World.cell?; rw [hW]
    have := run_copy_rowS (P := Tryd.prog) W 23 23 ty 43 4 N ((i + 1) * 4) (qs.length + 1 - (i + 1)) dc ⟨g, i * 4, none⟩ (qs.length - i) sc R2.toArray 43 D upE.ht upE.run_size (by rw [hW]; exact hN2) (by rw [hm, hDl]) (fun j u hj => by
      rw [addr_plain, hWc]
      refine below_cell hb2 (hcs _ u ?_)
      rw [hDc, List.getElem?_drop] at hj
      exact hj) (by simp only [List.size_toArray]; omega) (by rw [hD]; exact cellsOf_one upE.one _)
    rw [hm] at this
    rw [this, hR3]
  have HFIN : Hid (∀ W : World, W.heap = W2.heap → Below w.heap.size w W → OwnUp base (W.setRow N R3.toArray) (.slice (some ⟨N, 0, none⟩) (qs.length + 1) G) (qs.take i ++ ([q] ++ qs.drop i)) ∧ Below base w (W.setRow N R3.toArray) ∧ KeepsX 43 w (W.setRow N R3.toArray)) := by
    intro W hW hbW
    have hon := setRow_only W N R3.toArray
    have hbb : Below w.heap.size w (W.setRow N R3.toArray) := seen hbW (by omega) hon
    refine ⟨?_, hbb.mono hb, Below.keepsX hbb _⟩
    have hln : (qs.take i ++ ([q] ++ qs.drop i)).length = qs.length + 1 := by simp only [List.length_append, List.length_take, List.length_drop, List.length_singleton]; omega
    have := ownG_row (e := 43) hlUp (base := base) (g := N) (cap := G) (w := W.setRow N R3.toArray) (cur := R3) (xs := qs.take i ++ ([q] ++ qs.drop i)) (by omega) (setRow_heap W N R2.toArray R3.toArray 43 _ (by rw [hW]; exact hN2)) (by omega) hGm hR3l (by
      rw [hln, cellsOf_append, cellsOf_append, ← hX, ← hD, show cellsOf encUp [q] = V by rw [hV]; simp [cellsOf], hR3, hR2]
      have h4 : (i + 1) * 4 = X.length + V.length := by omega
      rw [h4, ← hXl]
      exact ins_new X Z V D ((qs.length + 1) * 4) (by omega))
    rw [hln] at this
    exact this
  have HS2 := Lib.hid hs2
  have HB2 := Lib.hid hb2
  have hc1 : ∀ w0, (Instr.slice 23 (.slice (some ⟨g, 0, none⟩) qs.length cap) (some (.int .i64 (i : Int))) none none).run Tryd.prog w0 = .ok (.slice (some ⟨g, i * 4, none⟩) (qs.length - i) (cap - i)) w0 := fun w0 => by
    rw [run_cutLow upE _ _ _ _ (by omega), if_neg (by omega)]; simp [addr_plain]
  have hc2 := run_cutHigh (P := Tryd.prog) upE (some ⟨g, 0, none⟩) qs.length cap i (by omega)
  have hc3 : ∀ w0, (Instr.slice 23 (.slice (some ⟨N, 0, none⟩) (qs.length + 1) G) (some (.int .i64 (i : Int))) none none).run Tryd.prog w0 = .ok (.slice (some ⟨N, i * 4, none⟩) (qs.length + 1 - i) (G - i)) w0 := fun w0 => by
    rw [run_cutLow upE _ _ _ _ (by omega), if_neg (by omega)]; simp [addr_plain]
  have hc4 : ∀ w0, (Instr.slice 23 (.slice (some ⟨N, 0, none⟩) (qs.length + 1) G) (some (.int .i64 ((i : Int) + 1))) none none).run Tryd.prog w0 = .ok (.slice (some ⟨N, (i + 1) * 4, none⟩) (qs.length + 1 - (i + 1)) (G - (i + 1))) w0 := fun w0 => by
    have := run_cutLow (P := Tryd.prog) upE (some ⟨N, 0, none⟩) (qs.length + 1) G (i + 1) (by omega) w0
    rw [if_neg (by omega)] at this
    rw [show ((i : Int) + 1) = ((i + 1 : Nat) : Int) by omega, this]; simp [addr_plain]
  have hin : ((i : Int) == (qs.length : Int)) = false := beq_f (by omega)
  have hroom : (cap : Int) < (qs.length : Int) + 1 := by omega
  have hw1 : IntKind.i64.wrap ((i : Int) + 1) = (i : Int) + 1 := IntWalk.i64_in _ (by omega)
  have hnb : (qs.length : Int) ≤ 1000 := by omega
  have hib : (i : Int) ≤ 1000 := by omega
  have hic : (i : Int) ≤ (cap : Int) := by omega
  have hil : (i : Int) ≤ (qs.length : Int) := by omega
  generalize qs.length + 1 - i = A1 at hs1 hc3
  generalize qs.length + 1 - (i + 1) = A2 at HS2 hc4
  generalize qs.length - i = A3 at HS2 hc1
  have HN1 := Lib.hid hN
  clear hs2 hb2 hN2 hR2 hR2l hR3 hR3l hN1 hb1 hW1 hW2 hold hX hXl hXc hD hDl hDc hV hVl hZ hZl hcs hcl ht hg hv hgw hvw hi0 hz0 hz1 hz2 hz3 hGn hGm hG hcap hb hN hi hl
  go_enter Tryd.func64, Tryd.ntmps64
  go_wp2_with (first | (at_builtin; refine Lib.wpList_append_run _ rfl _ _ _ _ rfl _ _ rfl rfl _ _ (hrz _) ?_) | (refine wpList_copy_run _ rfl _ _ _ _ rfl _ _ rfl rfl (hs1 _ _) ?_))
  refine wp_region_held_drew (S := fun _ => True) (by kernel_rfl) trivial (fun ha => ?_)
  replace ha : True := trivial
  have HWH := Lib.hid (show W2.drew.heap = W2.heap from rfl)
  have HBW := Lib.hid (HB2.out.drew)
  generalize W2.drew = wa at HWH HBW ⊢
  refine takeH (i := 0) (v := ?_) rfl (by kernel_rfl) (by kernel_rfl) (by kernel_rfl) (fun _ _ _ h => h) (Or.inl ⟨by rfl, ?_⟩) (by assumption) ?_
  rotate_left
  · (intro w hSw; (try dsimp only at hSw); go_simp; first | done | with_reducible rfl)
  (try simp only [Act.put, List.setIfInBounds_toArray, List.set_cons_zero, List.set_cons_succ])
  refine takeH (i := 1) (v := ?_) rfl (by kernel_rfl) (by kernel_rfl) (by kernel_rfl) (fun _ _ _ h => h) (Or.inl ⟨by rfl, ?_⟩) (by assumption) ?_
  rotate_left
  · (intro w hSw; (try dsimp only at hSw); go_simp; first | done | with_reducible rfl)
  (try simp only [Act.put, List.setIfInBounds_toArray, List.set_cons_zero, List.set_cons_succ])
  refine takeH (i := 2) (v := ?_) rfl (by kernel_rfl) (by kernel_rfl) (by kernel_rfl) (fun _ _ _ h => h) (Or.inl ⟨by rfl, ?_⟩) (by assumption) ?_
  rotate_left
  · (intro w hSw; (try dsimp only at hSw); go_simp; first | done | with_reducible rfl)
  (try simp only [Act.put, List.setIfInBounds_toArray, List.set_cons_zero, List.set_cons_succ])
  refine takeH (i := 3) (v := ?_) rfl (by kernel_rfl) (by kernel_rfl) (by kernel_rfl) (fun _ _ _ h => h) (Or.inl ⟨by rfl, ?_⟩) (by assumption) ?_
  rotate_left
  · (intro w hSw; (try dsimp only at hSw); go_simp; first | done | with_reducible rfl)
  (try simp only [Act.put, List.setIfInBounds_toArray, List.set_cons_zero, List.set_cons_succ])
  refine takeH (i := 4) (v := ?_) rfl (by kernel_rfl) (by kernel_rfl) (by kernel_rfl) (fun _ _ _ h => h) (Or.inl ⟨by rfl, ?_⟩) (by assumption) ?_
  rotate_left
  · (intro w hSw; (try dsimp only at hSw); go_simp; first | done | with_reducible rfl)
  (try simp only [Act.put, List.setIfInBounds_toArray, List.set_cons_zero, List.set_cons_succ])
  refine takeH (i := 5) (v := ?_) rfl (by kernel_rfl) (by kernel_rfl) (by kernel_rfl) (fun _ _ _ h => h) (Or.inl ⟨by rfl, ?_⟩) (by assumption) ?_
  rotate_left
  · (intro w hSw; (try dsimp only at hSw); go_simp; first | done | with_reducible rfl)
  (try simp only [Act.put, List.setIfInBounds_toArray, List.set_cons_zero, List.set_cons_succ])
  refine takeH (i := 6) (v := ?_) rfl (by kernel_rfl) (by kernel_rfl) (by kernel_rfl) (fun _ _ _ h => h) (Or.inl ⟨by rfl, ?_⟩) (by assumption) ?_
  rotate_left
  · (intro w hSw; (try dsimp only at hSw); go_simp; first | done | with_reducible rfl)
  (try simp only [Act.put, List.setIfInBounds_toArray, List.set_cons_zero, List.set_cons_succ])
  refine takeH (i := 7) (v := ?_) rfl (by kernel_rfl) (by kernel_rfl) (by kernel_rfl) (fun _ _ _ h => h) (Or.inl ⟨by rfl, ?_⟩) (by assumption) ?_
  rotate_left
  · (intro w hSw; (try dsimp only at hSw); go_simp; first | done | with_reducible rfl)
  (try simp only [Act.put, List.setIfInBounds_toArray, List.set_cons_zero, List.set_cons_succ])
  refine wpAnyH_ready (rs := [8]) (by kernel_rfl) (by simp) ?_
  refine stepH rfl (fun K hK => ?_) AllReadyH.nil
  refine step_copy_run (by rfl) _ _ _ _ rfl _ _ rfl (by rfl) (HS2.out wa HWH.out _ _ _) ?_
  refine hK.out _ _ trivial (fun _ => ?_)
  clear hK K
  (try simp only [Act.put, List.setIfInBounds_toArray, List.set_cons_zero, List.set_cons_succ])
  refine wpAnyH_done (by kernel_rfl) ?_ _
  obtain ⟨f1, f2, f3⟩ := HFIN.out wa HWH.out HBW.out
  have F1 := Lib.hid f1
  have F2 := Lib.hid f2
  have F3 := Lib.hid f3
  clear f1 f2 f3
  go_wp2
  go_ret
  exact ⟨_, rfl, F1.out, F2.out, F3.out⟩

set_option maxRecDepth 100000 in
set_option maxHeartbeats 8000000 in
theorem gInsRoom (g cap : Nat) (cur : Array Value) (qs : List Up) (i : Nat) (q : Up) (vb base : Nat) (w : World) (hi : i < qs.length) (hl : qs.length ≤ 1000)
    (hcap : qs.length + 1 ≤ cap) (hm : cap ≤ maxLen) (hs : cur.size = cap * 4) (hg : w.heap[g]? = some (.cells cur 43 (0, 0))) (ht : cur.toList.take (qs.length * 4) = cellsOf encUp qs) (hv : w.heap[vb]? = some (.cells (encUp q).toArray 43 (0, 0))) (hne : vb ≠ g) (hbg : base ≤ g) (hb : base ≤ w.heap.size) :
    Calls Tryd.prog 64 #[.slice (some ⟨g, 0, none⟩) qs.length cap, .int .i64 (i : Int), .slice (some ⟨vb, 0, none⟩) 1 1] w fun e w' => ∃ v', e = .returned v' ∧ OwnUp base w' v' (qs.take i ++ ([q] ++ qs.drop i)) ∧ Below base w w' ∧ KeepsX 43 w w' := by
  have hcl := cellsOf_length upE.len qs
  have hcs : ∀ j u, (cellsOf encUp qs)[j]? = some u → w.cell? ⟨g, j, none⟩ = some u := fun j u hj => by
    rw [← ht, List.getElem?_take] at hj
    split at hj
    · simp only [World.cell?, hg]; simpa using hj
    · cases hj
  obtain ⟨D, hD⟩ : ∃ D : List Value, D = cellsOf encUp (qs.drop i) := ⟨_, rfl⟩
  have hDl : D.length = (qs.length - i) * 4 := by rw [hD, cellsOf_length upE.len, List.length_drop]
  have hDc : D = (cellsOf encUp qs).drop (i * 4) := by rw [hD, cellsOf_drop upE.len qs i (by omega)]
  obtain ⟨V, hV⟩ : ∃ V : List Value, V = encUp q := ⟨_, rfl⟩
  have hVl : V.length = 4 := by rw [hV, upE.len]
  have hcz : cur.toList.length = cap * 4 := by rw [Array.length_toList, hs]
  obtain ⟨R1, hR1⟩ : ∃ R1 : List Value, R1 = cur.toList.take ((i + 1) * 4) ++ D ++ cur.toList.drop ((i + 1) * 4 + D.length) := ⟨_, rfl⟩
  have hR1l : R1.length = cap * 4 := by rw [hR1]; simp only [List.length_append, List.length_take, List.length_drop]; omega
  have hs1 : ∀ W : World, W.heap = w.heap → ∀ ty dc sc, (Builtin.copy_ #[23, 23] ty #[.slice (some ⟨g, (i + 1) * 4, none⟩) (qs.length + 1 - (i + 1)) dc, .slice (some ⟨g, i * 4, none⟩) (qs.length + 1 - i) sc]).run Tryd.prog W = .ok (goInt (qs.length - i : Nat)) (W.setRow g R1.toArray) := fun W hW ty dc sc => by
    have hmn : Nat.min (qs.length + 1 - i) (qs.length + 1 - (i + 1)) = qs.length - i := by simp only [Nat.min_def]; split <;> omega
    have hWc : ∀ x, W.cell? x = w.cell? x := fun x => by unfold World.cell?; rw [hW]
    have := run_copy_rowS (P := Tryd.prog) W 23 23 ty 43 4 g ((i + 1) * 4) (qs.length + 1 - (i + 1)) dc ⟨g, i * 4, none⟩ (qs.length + 1 - i) sc cur 43 D upE.ht upE.run_size (by rw [hW]; exact hg) (by rw [hmn, hDl]) (fun j u hj => by
      rw [addr_plain, hWc]
      refine hcs _ u ?_
      rw [hDc, List.getElem?_drop] at hj
      exact hj) (by omega) (by rw [hD]; exact cellsOf_one upE.one _)
    rw [hmn] at this
    rw [this, hR1]
  obtain ⟨R2, hR2⟩ : ∃ R2 : List Value, R2 = R1.take (i * 4) ++ V ++ R1.drop (i * 4 + V.length) := ⟨_, rfl⟩
  have hR2l : R2.length = cap * 4 := by rw [hR2]; simp only [List.length_append, List.length_take, List.length_drop]; omega
  have hs2 : ∀ W : World, W.heap = w.heap → ∀ ty dc, (Builtin.copy_ #[23, 22] ty #[.slice (some ⟨g, i * 4, none⟩) (qs.length + 1 - i) dc, .slice (some ⟨vb, 0, none⟩) 1 1]).run Tryd.prog (W.setRow g R1.toArray) = .ok (goInt 1) ((W.setRow g R1.toArray).setRow g R2.toArray) := fun W hW ty dc => by
    have hmn : Nat.min 1 (qs.length + 1 - i) = 1 := by simp only [Nat.min_def]; split <;> omega
    have hvb : (W.setRow g R1.toArray).heap[vb]? = some (.cells (encUp q).toArray 43 (0, 0)) := by rw [setRow_other W g vb _ hne, hW]; exact hv
    have := run_copy_rowS (P := Tryd.prog) (W.setRow g R1.toArray) 23 22 ty 43 4 g (i * 4) (qs.length + 1 - i) dc ⟨vb, 0, none⟩ 1 1 R1.toArray 43 V upE.ht upE.run_size (setRow_heap W g cur _ _ _ (by rw [hW]; exact hg)) (by rw [hmn, hVl]) (fun j u hj => newsU hvb j u (by rw [← hV]; exact hj)) (by simp only [List.size_toArray]; omega) (by rw [hV]; exact upE.one q)
    rw [hmn] at this
    rw [this, hR2]
    rfl
  have HFIN : Hid (∀ W : World, W.heap = w.heap → Below w.heap.size w W → OwnUp base ((W.setRow g R1.toArray).setRow g R2.toArray) (.slice (some ⟨g, 0, none⟩) (qs.length + 1) cap) (qs.take i ++ ([q] ++ qs.drop i)) ∧ Below base w ((W.setRow g R1.toArray).setRow g R2.toArray) ∧ KeepsX 43 w ((W.setRow g R1.toArray).setRow g R2.toArray)) := by
    intro W hW hbW
    have hon := (setRow_only W g R1.toArray).trans (setRow_only _ g R2.toArray)
    have hWs : W.heap.size = w.heap.size := by rw [hW]
    refine ⟨?_, (hbW.mono hb).trans (hon.below hbg (by rw [hWs]; exact hb)), fun k hk hkn => ?_⟩
    · have hln : (qs.take i ++ ([q] ++ qs.drop i)).length = qs.length + 1 := by simp only [List.length_append, List.length_take, List.length_drop, List.length_singleton]; omega
      have := ownG_row (e := 43) hlUp (base := base) (g := g) (cap := cap) (w := (W.setRow g R1.toArray).setRow g R2.toArray) (cur := R2) (xs := qs.take i ++ ([q] ++ qs.drop i)) hbg (setRow_heap _ g R1.toArray R2.toArray 43 _ (setRow_heap W g cur _ _ _ (by rw [hW]; exact hg))) (by omega) hm hR2l (by
        rw [hln, cellsOf_append, cellsOf_append, ← hD, show cellsOf encUp [q] = V by rw [hV]; simp [cellsOf], cellsOf_take upE.len qs i (by omega), hR2, hR1, hDc, ← ht]
        have h4 : (i + 1) * 4 = i * 4 + V.length := by omega
        have h5 : (qs.length + 1) * 4 = qs.length * 4 + V.length := by omega
        rw [h4, h5]
        exact ins_row cur.toList V (i * 4) (qs.length * 4) (by omega) (by omega))
      rw [hln] at this
      exact this
    · have hkg : k ≠ g := fun h => hkn cur (0, 0) (by rw [h]; exact hg)
      rw [hon.block k (by rw [hWs]; exact hk) hkg, hW]
  have hov : ∀ lb cb, (callFunc 89 #[.slice (some ⟨vb, 0, none⟩) 1 1, .slice (some ⟨g, (i + 1) * 4, none⟩) lb cb]).run Tryd.prog w = .ok (.value (.bool false)) w := fun lb cb => by
    have hsz1 : cur.size ≠ 0 := by omega
    rw [run_callFunc_extern Tryd.func89 (by kernel_rfl) (by kernel_rfl) (by kernel_rfl) (e := Extern.SlicesOverlaps.overlaps #[22, 22] #[4]) (by kernel_rfl),
      Lib.run_overlaps_apart w 22 4 43 setE.ht 4 upE.run_size ⟨vb, 0, none⟩ ⟨g, (i + 1) * 4, none⟩ 1 1 lb cb hne 43 43 (encUp q).toArray.size cur.size (by simp [World.shape?, hv]) (by simp [World.shape?, hg]) hsz1 (by simp [World.frozen?, hv]) (by simp [World.frozen?, hv])]
    rfl
  have HS1 := Lib.hid hs1
  have HS2 := Lib.hid hs2
  have hc1 : ∀ w0, (Instr.slice 23 (.slice (some ⟨g, 0, none⟩) qs.length cap) (some (.int .i64 (i : Int))) none none).run Tryd.prog w0 = .ok (.slice (some ⟨g, i * 4, none⟩) (qs.length - i) (cap - i)) w0 := fun w0 => by
    rw [run_cutLow upE _ _ _ _ (by omega), if_neg (by omega)]; simp [addr_plain]
  have hc2 : ∀ w0, (Instr.slice 23 (.slice (some ⟨g, 0, none⟩) qs.length cap) none (some (.int .i64 ((qs.length : Int) + 1))) none).run Tryd.prog w0 = .ok (.slice (some ⟨g, 0, none⟩) (qs.length + 1) cap) w0 := fun w0 => by
    have := run_cutHigh (P := Tryd.prog) upE (some ⟨g, 0, none⟩) qs.length cap (qs.length + 1) hcap w0
    rw [show ((qs.length : Int) + 1) = ((qs.length + 1 : Nat) : Int) by omega, this]
  have hc3 : ∀ w0, (Instr.slice 23 (.slice (some ⟨g, 0, none⟩) (qs.length + 1) cap) (some (.int .i64 (i : Int))) none none).run Tryd.prog w0 = .ok (.slice (some ⟨g, i * 4, none⟩) (qs.length + 1 - i) (cap - i)) w0 := fun w0 => by
    rw [run_cutLow upE _ _ _ _ (by omega), if_neg (by omega)]; simp [addr_plain]
  have hc4 : ∀ w0, (Instr.slice 23 (.slice (some ⟨g, 0, none⟩) (qs.length + 1) cap) (some (.int .i64 ((i : Int) + 1))) none none).run Tryd.prog w0 = .ok (.slice (some ⟨g, (i + 1) * 4, none⟩) (qs.length + 1 - (i + 1)) (cap - (i + 1))) w0 := fun w0 => by
    have := run_cutLow (P := Tryd.prog) upE (some ⟨g, 0, none⟩) (qs.length + 1) cap (i + 1) (by omega) w0
    rw [if_neg (by omega)] at this
    rw [show ((i : Int) + 1) = ((i + 1 : Nat) : Int) by omega, this]; simp [addr_plain]
  have hin : ((i : Int) == (qs.length : Int)) = false := beq_f (by omega)
  have hroom : ¬ (cap : Int) < (qs.length : Int) + 1 := by omega
  have hw1 : IntKind.i64.wrap ((i : Int) + 1) = (i : Int) + 1 := IntWalk.i64_in _ (by omega)
  have hnb : (qs.length : Int) ≤ 1000 := by omega
  have hib : (i : Int) ≤ 1000 := by omega
  have hic : (i : Int) ≤ (cap : Int) := by omega
  have hil : (i : Int) ≤ (qs.length : Int) := by omega
  obtain ⟨B1, hB1⟩ : ∃ B1, B1 = qs.length + 1 := ⟨_, rfl⟩
  rw [← hB1] at hc2
  have HFIN2 : Hid (∀ W : World, W.heap = w.heap → Below w.heap.size w W → OwnUp base ((W.setRow g R1.toArray).setRow g R2.toArray) (.slice (some ⟨g, 0, none⟩) B1 cap) (qs.take i ++ ([q] ++ qs.drop i)) ∧ Below base w ((W.setRow g R1.toArray).setRow g R2.toArray) ∧ KeepsX 43 w ((W.setRow g R1.toArray).setRow g R2.toArray)) := by rw [hB1]; exact HFIN
  rw [← hB1] at hc3 hc4 HS1 HS2
  clear hB1
  generalize B1 - i = A1 at HS1 HS2 hc3
  generalize B1 - (i + 1) = A2 at HS1 hc4
  generalize qs.length - i = A3 at HS1 hc1
  clear hs1 hs2 hcl hcs hD hDl hDc hV hVl hcz hR1 hR1l hR2 hR2l hi hl hcap hm hs hg ht hv hne hbg hb HFIN
  go_enter Tryd.func64, Tryd.ntmps64
  go_wp2_with (simp only [hov])
  refine wp_region_held_drew (S := fun _ => True) (by kernel_rfl) trivial (fun ha => ?_)
  replace ha : True := trivial
  have HWH := Lib.hid (show w.drew.heap = w.heap from rfl)
  have HBW := Lib.hid (show Below w.heap.size w w.drew from (Below.refl _ _).drew)
  generalize w.drew = wa at HWH HBW ⊢
  refine takeH (i := 0) (v := ?_) rfl (by kernel_rfl) (by kernel_rfl) (by kernel_rfl) (fun _ _ _ h => h) (Or.inl ⟨by rfl, ?_⟩) (by assumption) ?_
  rotate_left
  · (intro w hSw; (try dsimp only at hSw); go_simp; first | done | with_reducible rfl)
  (try simp only [Act.put, List.setIfInBounds_toArray, List.set_cons_zero, List.set_cons_succ])
  refine takeH (i := 1) (v := ?_) rfl (by kernel_rfl) (by kernel_rfl) (by kernel_rfl) (fun _ _ _ h => h) (Or.inl ⟨by rfl, ?_⟩) (by assumption) ?_
  rotate_left
  · (intro w hSw; (try dsimp only at hSw); go_simp; first | done | with_reducible rfl)
  (try simp only [Act.put, List.setIfInBounds_toArray, List.set_cons_zero, List.set_cons_succ])
  refine takeH (i := 2) (v := ?_) rfl (by kernel_rfl) (by kernel_rfl) (by kernel_rfl) (fun _ _ _ h => h) (Or.inl ⟨by rfl, ?_⟩) (by assumption) ?_
  rotate_left
  · (intro w hSw; (try dsimp only at hSw); go_simp; first | done | with_reducible rfl)
  (try simp only [Act.put, List.setIfInBounds_toArray, List.set_cons_zero, List.set_cons_succ])
  refine takeH (i := 3) (v := ?_) rfl (by kernel_rfl) (by kernel_rfl) (by kernel_rfl) (fun _ _ _ h => h) (Or.inl ⟨by rfl, ?_⟩) (by assumption) ?_
  rotate_left
  · (intro w hSw; (try dsimp only at hSw); go_simp; first | done | with_reducible rfl)
  (try simp only [Act.put, List.setIfInBounds_toArray, List.set_cons_zero, List.set_cons_succ])
  refine takeH (i := 4) (v := ?_) rfl (by kernel_rfl) (by kernel_rfl) (by kernel_rfl) (fun _ _ _ h => h) (Or.inl ⟨by rfl, ?_⟩) (by assumption) ?_
  rotate_left
  · (intro w hSw; (try dsimp only at hSw); go_simp; first | done | with_reducible rfl)
  (try simp only [Act.put, List.setIfInBounds_toArray, List.set_cons_zero, List.set_cons_succ])
  refine takeH (i := 5) (v := ?_) rfl (by kernel_rfl) (by kernel_rfl) (by kernel_rfl) (fun _ _ _ h => h) (Or.inl ⟨by rfl, ?_⟩) (by assumption) ?_
  rotate_left
  · (intro w hSw; (try dsimp only at hSw); go_simp; first | done | with_reducible rfl)
  (try simp only [Act.put, List.setIfInBounds_toArray, List.set_cons_zero, List.set_cons_succ])
  refine takeH (i := 6) (v := ?_) rfl (by kernel_rfl) (by kernel_rfl) (by kernel_rfl) (fun _ _ _ h => h) (Or.inl ⟨by rfl, ?_⟩) (by assumption) ?_
  rotate_left
  · (intro w hSw; (try dsimp only at hSw); go_simp; first | done | with_reducible rfl)
  (try simp only [Act.put, List.setIfInBounds_toArray, List.set_cons_zero, List.set_cons_succ])
  refine takeH (i := 7) (v := ?_) rfl (by kernel_rfl) (by kernel_rfl) (by kernel_rfl) (fun _ _ _ h => h) (Or.inl ⟨by rfl, ?_⟩) (by assumption) ?_
  rotate_left
  · (intro w hSw; (try dsimp only at hSw); go_simp; first | done | with_reducible rfl)
  (try simp only [Act.put, List.setIfInBounds_toArray, List.set_cons_zero, List.set_cons_succ])
  refine wpAnyH_ready (rs := [8]) (by kernel_rfl) (by simp) ?_
  refine stepH rfl (fun K hK => ?_) AllReadyH.nil
  refine step_copy_run (by rfl) _ _ _ _ rfl _ _ rfl (by rfl) (HS1.out wa HWH.out _ _ _) ?_
  refine hK.out _ _ trivial (fun _ => ?_)
  clear hK K
  (try simp only [Act.put, List.setIfInBounds_toArray, List.set_cons_zero, List.set_cons_succ])
  refine wpAnyH_done (by kernel_rfl) ?_ _
  obtain ⟨f1, f2, f3⟩ := HFIN2.out wa HWH.out HBW.out
  have F1 := Lib.hid f1
  have F2 := Lib.hid f2
  have F3 := Lib.hid f3
  clear f1 f2 f3
  go_wp2_with (refine wpList_copy_run _ rfl _ _ _ _ rfl _ _ rfl rfl (HS2.out wa HWH.out _ _) ?_)
  go_ret
  exact ⟨_, rfl, F1.out, F2.out, F3.out⟩

set_option maxRecDepth 100000 in
set_option maxHeartbeats 1000000 in
/-- slices.Insert of one update into a list of the call's own. -/
theorem gInsert (sv : Value) (qs : List Up) (i : Nat) (q : Up) (vb base : Nat) (w : World) (ho : OwnUp base w sv qs) (hi : i ≤ qs.length) (hl : qs.length ≤ 1000) (hv : w.heap[vb]? = some (.cells (encUp q).toArray 43 (0, 0))) (hne : sv.ownBlock ≠ some vb) (hb : base ≤ w.heap.size) :
    Calls Tryd.prog 64 #[sv, .int .i64 (i : Int), .slice (some ⟨vb, 0, none⟩) 1 1] w fun e w' => ∃ v', e = .returned v' ∧ OwnUp base w' v' (qs.take i ++ ([q] ++ qs.drop i)) ∧ Below base w w' ∧ KeepsX 43 w w' := by
  rcases Nat.lt_or_ge i qs.length with h | h
  · obtain ⟨g, cap, cur, rfl, h1, h2, h3, h4, h5, h6⟩ := ho.form (by omega)
    by_cases hc : cap = qs.length
    · exact gInsGrow g cap cur qs i q vb base w h hl hc h2 h6 hv hb
    · exact gInsRoom g cap cur qs i q vb base w h hl (by omega) h4 h5 h2 h6 hv (fun he => hne (by rw [he]; rfl)) h1 hb
  · obtain rfl : i = qs.length := by omega
    have := gInsEnd sv qs q vb base w ho hl hv hb
    rw [List.take_length, List.drop_length, List.append_nil]
    exact this

end Go.Proofs.YtdfablboenfblaaDoor.ST

namespace Go.Proofs.YtdfablboenfblaaDoor.ST
open Go.RowKit
open UM (Ef)
open SM (Fp)

/-- What Follows answers at the place of an identifier of a sorted list. -/
theorem fol_has {fs : List Fp} {x m : Int} {i : Nat} (hs : SM.Srt fs) (ha : AtF fs x m i) (hx : x ≠ 0) : folS (fs.take i) x m = decide (m ≤ 1 ∨ SM.hasK fs x (m - 1) = true) := by
  unfold folS
  rw [pre_take ha.1]
  apply decide_eq_decide.2
  have hp : i ≠ 0 → ∃ g, fs[i - 1]? = some g ∧ pre fs i = (g.1, g.2.1) := fun hi => by
    have hlt : i - 1 < fs.length := by have := ha.1; omega
    have hg := List.getElem?_eq_getElem hlt
    exact ⟨_, hg, by simp [pre, hi, List.getD, hg]⟩
  constructor
  · rintro (h1 | ⟨h1, h2⟩)
    · exact .inl h1
    · by_cases hi : i = 0
      · rw [hi] at h1
        exact absurd (show (0 : Int) = x from h1).symm hx
      · obtain ⟨g, hg, hpg⟩ := hp hi
        rw [hpg] at h1 h2
        exact .inr (SM.hasK_iff.2 ⟨g, List.mem_of_getElem? hg, h1, h2⟩)
  · rintro (h1 | h1)
    · exact .inl h1
    · right
      obtain ⟨g, hg, hg1, hg2⟩ := SM.hasK_iff.1 h1
      obtain ⟨j, hj⟩ := List.getElem?_of_mem hg
      have hji : j < i := by
        rcases Nat.lt_or_ge j i with h2 | h2
        · exact h2
        · have h3 := ha.2.2 j g hj h2
          have h4 : UM.cmpU g.1 g.2.1 x m < 0 := SM.cmpP_lt.2 (.inr ⟨hg1, by omega⟩)
          omega
      obtain ⟨q, hq, hpq⟩ := hp (by omega)
      have hl := ha.2.1 (i - 1) q hq (by omega)
      rw [SM.cmpP_lt] at hl
      rcases Nat.lt_or_ge j (i - 1) with h2 | h2
      · have h3 := hs.get hj hq h2
        unfold SM.lt at h3
        omega
      · obtain rfl : j = i - 1 := by omega
        rw [hj] at hq
        cases hq
        rw [hpq]
        exact ⟨hg1, hg2⟩

theorem idx0 (a b : Value) (w : World) : (Instr.index 87 (.agg #[a, b]) (.int .i64 0)).run Tryd.prog w = .ok a w := by
  simp [Instr.index, run_underlying Tryd.underlying87, asIntOf, go_sem]
theorem idx1 (a b : Value) (w : World) : (Instr.index 87 (.agg #[a, b]) (.int .i64 1)).run Tryd.prog w = .ok b w := by
  simp [Instr.index, run_underlying Tryd.underlying87, asIntOf, go_sem]

set_option maxRecDepth 100000 in
set_option maxHeartbeats 8000000 in
theorem gMerge (va vb : Value) (s l : List Fp) (w : World) (hT : Tb w) (ha : RdF w va s) (hb : RdF w vb l) (ho : SM.Ok s) (hl : l.length ≤ 1000) (hfit : FitN l) :
    Calls Tryd.prog 35 #[va, vb] w fun e w' => ∃ v', e = .returned (.tuple #[v', .int .i64 (SM.mrg s l).2.1, .int .i64 (SM.mrg s l).2.2]) ∧ RdF w' v' (SM.mrg s l).1 ∧ Below w.heap.size w w' := by
  obtain ⟨s1, s2, rfl, _, _⟩ := ha.shape
  obtain ⟨l1, l2, rfl, hlc, _⟩ := hb.shape
  have h48 := ho.all48
  have HA := Lib.hid ha
  have HB := Lib.hid hb
  have HO := Lib.hid ho
  have HL := Lib.hid hl
  have HTB := Lib.hid hT
  have HFT := Lib.hid hfit
  have H48 := Lib.hid h48
  clear ha hb ho hl hT hfit h48
  go_enter Tryd.func35, Tryd.ntmps35
  go_wp2_with fail
  go_step3
  go_wp2_with fail
  refine (cElements w).mono ?_
  rintro e w1 ⟨rfl, hb1⟩
  obtain ⟨w0, HX⟩ := kone w1
  have HW := Lib.hid HX.eq
  have HB0 := Lib.hid (bnext hb1 HX.below)
  have HK0 := Lib.hid HX.k
  obtain ⟨Kb, hK⟩ : ∃ Kb, w1.heap.size = Kb := ⟨_, rfl⟩
  rw [hK] at HK0
  have HKE := Lib.hid hK
  clear HX hK hb1
  go_upto_region 2 with fail
  rw [HW.out, HKE.out]
  clear HW HKE
  go_wp2
  go_step3
  go_wp2
  go_loopg [8, 9, 22] l.length (fun g u d i wr => ∃ (k : Nat) (A T : List Fp) (D : Nat), k + g = l.length ∧ i = .int .i64 k ∧ d = .int .i64 D ∧ D ≤ k ∧ Hid (A.length ≤ k) ∧ Hid (OwnF w w.heap.size wr u A) ∧ Hid (SM.Spl s A T) ∧ Hid (SM.mrg s (l.take k) = (T, (A.length : Int), (D : Int))) ∧ Hid (Below w.heap.size w wr) ∧ Hid (KB wr Kb))
  case atStart => exact ⟨0, [], s, 0, by omega, rfl, rfl, Nat.le_refl _, Nat.le_refl _, OwnF.nil _ _ _, SM.Spl.nil HO.out, rfl, HB0.out, HK0.out⟩
  case round =>
    obtain ⟨k, A, T, D, hk, rfl, rfl, hD, hAk, hU, hS, he, hbl, hkb⟩ := hrel
    clear HB0 HK0
    obtain ⟨u1, u2, rfl, _, _⟩ := hU.out.shape
    cases gk with
    | zero =>
      have hk' : k = l.length := by omega
      have hq : ¬ ((k : Int) < (l.length : Int)) := by omega
      have hm := he.out
      rw [hk', List.take_length] at hm
      have HMM := Lib.hid hm
      have HUE := Lib.hid hS.out.un_eq
      have hlS : s.length ≤ 1000 := by have := H48.out; omega
      have hlA : A.length ≤ 1000 := by have := HL.out; have := hAk.out; omega
      have HU := Lib.hid (gUnion (.slice s1 s.length s2) (.slice u1 A.length u2) s A wr (HA.out.below hbl.out) (hU.out.rd hbl.out) hlS hlA (all_len HO.out.all) (fun f hf => all_len hS.out.ok.all f (hS.out.ma f hf)))
      have HBL := Lib.hid hbl.out
      clear hm he hk' hU hbl hkb
      go_wp2_with fail
      refine HU.out.mono ?_
      rintro e w9 ⟨v9, rfl, hr9, hb9⟩
      have HR9 := Lib.hid (show RdF w9 v9 T by rw [← HUE.out]; exact hr9)
      have HB9 := Lib.hid (bnext HBL.out hb9)
      clear HU HUE hr9 hb9 HBL
      go_wp2
      (try rw [Exit.noGoto_ret])
      go_ret3
      rw [HMM.out]
      exact ⟨_, rfl, HR9.out, HB9.out⟩
    | succ g =>
      have hlt : k < l.length := by omega
      have hq : (k : Int) < (l.length : Int) := by omega
      have hk2 := List.getElem?_eq_getElem hlt
      generalize l[k] = f at hk2
      have hM := SM.mrg_snoc s (l.take k) f
      rw [← take_snocF hk2, he.out] at hM
      obtain ⟨x, m, t, cs⟩ := f
      obtain ⟨b, o, da, dl, dc, hi, hbw, c0, c1, c2, c3, hrd⟩ := HB.out.atS k x m t cs hk2
      have c0 := below_cell hbl.out c0
      have c1 := below_cell hbl.out c1
      have c2 := below_cell hbl.out c2
      have c3 := below_cell hbl.out c3
      have HT1 := Lib.hid (show Tell1 w (x, m, t, da, dl, dc) (x, m, t, cs) from ⟨rfl, rfl, rfl, hrd⟩)
      obtain ⟨wx, HX⟩ := eone wr x m t (.slice da dl dc)
      have HWX := Lib.hid HX.eq
      have HBX := Lib.hid (bnext hbl.out HX.below)
      have HKX := Lib.hid (hkb.out.below HX.below)
      have HPX := Lib.hid HX.e
      have HUX := Lib.hid (hU.out.below HX.below)
      have HV := Lib.hid (cVal x m t (.slice da dl dc) cs wx (HTB.out.below HBX.out) (hrd.below HBX.out) (HFT.out _ (List.mem_of_getElem? hk2)))
      have HN := Lib.hid (fun h => SM.errF_num (f := (x, m, t, cs)) h)
      obtain ⟨B, hB⟩ : ∃ B, wr.heap.size = B := ⟨_, rfl⟩
      rw [hB] at HPX
      have HBE := Lib.hid hB
      have HM := Lib.hid hM
      clear HX hB hM hk2 hrd hU hbl hkb he
      go_upto_region 7 with fail
      rw [HWX.out, HBE.out]
      clear c0 c1 c2 c3 hi hbw HWX HBE
      obtain ⟨p0, p1, p2, p3, _⟩ := HPX.out.cells
      by_cases hE : UM.errU x m t cs = 0
      · rw [hE] at HV
        obtain ⟨n1, n2, n3, n4⟩ := HN.out hE
        simp only at n1 n2 n3 n4
        have HER := Lib.hid hE
        clear hE HN
        go_wp2_with fail
        refine HV.out.mono ?_
        rintro e w1 ⟨rfl, hb1⟩
        have HP1 := Lib.hid (HPX.out.below hb1)
        have HK1 := Lib.hid (HKX.out.below hb1)
        have HU1 := Lib.hid (HUX.out.below hb1)
        have HB1 := Lib.hid (bnext HBX.out hb1)
        have hlS : s.length ≤ 1000 := by have := H48.out; omega
        have HF := Lib.hid (sFind (.slice s1 s.length s2) s x m t da dl dc w1 (HA.out.below HB1.out) HO.out.srt hlS)
        clear p0 p1 p2 p3 HV HPX HKX HUX HBX hb1
        obtain ⟨p0, p1, p2, p3, _⟩ := HP1.out.cells
        obtain ⟨k0, k1, k2, k3, k4, k5, k6, k7, k8⟩ := HK1.out.cells
        go_wp2
        refine wp_loop_rounds 3 ?_
        have hx0 := fun w0 => idx0 (.slice s1 s.length s2) (.slice u1 A.length u2) w0
        rw [rounds_succ]
        go_wp2_with fail
        refine HF.out.mono ?_
        rintro e w2 ⟨i, rfl, hat, hb2⟩
        have HP2 := Lib.hid (HP1.out.below hb2)
        have HK2 := Lib.hid (HK1.out.below hb2)
        have HU2 := Lib.hid (HU1.out.below hb2)
        have HB2 := Lib.hid (bnext HB1.out hb2)
        have hfh := fnd_has HO.out.srt hat
        have HAT := Lib.hid hat
        clear p0 p1 p2 p3 k0 k1 k2 k3 k4 k5 k6 k7 k8 HF HP1 HK1 HU1 HB1 hb2 hat
        obtain ⟨F, hF⟩ : ∃ F, F = fndF s x m i := ⟨_, rfl⟩
        rw [← hF] at hfh ⊢
        clear hF
        cases F
        · obtain ⟨vp, hcut0, hrp⟩ := (HA.out.below HB2.out).cut0 i HAT.out.1
          have hfo := fol_has (m := m) HO.out.srt HAT.out (by omega)
          obtain ⟨G, hG⟩ : ∃ G, G = folS (s.take i) x m := ⟨_, rfl⟩
          have HFO := Lib.hid (fun q : Later w2 => Calls.later (sFollows vp (s.take i) x m t da dl dc q.val (hrp.below q.h) ⟨n3, by omega⟩ (by omega)))
          rw [← hG] at hfo HFO
          clear hG
          have HGE := Lib.hid hfo
          have HF1 := Lib.hid hfh
          clear hfo hrp hfh
          obtain ⟨z0, z1, z2, z3⟩ := lat_e HP2.out
          obtain ⟨y0, y1, y2, y3, y4, y5, y6, y7, y8⟩ := HK2.out.later
          go_wp2
          refine wp_region_later (by kernel_rfl) (by kernel_rfl) ?_
          repeat (go_big_quiet_step (first | (go_at_call 63; with_reducible exact HFO.out _)))
          refine wpQuiet_nil ?_
          rintro _ ⟨p', rfl⟩
          have HP3 := Lib.hid (HP2.out.below p'.h)
          have HK3 := Lib.hid (HK2.out.below p'.h)
          have HU3 := Lib.hid (HU2.out.below p'.h)
          have HB3 := Lib.hid (bnext HB2.out p'.h)
          clear z0 z1 z2 z3 y0 y1 y2 y3 y4 y5 y6 y7 y8 HFO HP2 HK2 HU2 HB2 hcut0
          obtain ⟨w3, hw3⟩ : ∃ w3, w3 = p'.val := ⟨_, rfl⟩
          rw [← hw3] at HP3 HK3 HU3 HB3 ⊢
          clear hw3
          have hlA : A.length ≤ 1000 := by have := HL.out; have := hAk.out; omega
          have HF := Lib.hid (sFind (.slice u1 A.length u2) A x m t da dl dc w3 (HU3.out.rd HB3.out) hS.out.sa hlA)
          obtain ⟨p0, p1, p2, p3, _⟩ := HP3.out.cells
          obtain ⟨k0, k1, k2, k3, k4, k5, k6, k7, k8⟩ := HK3.out.cells
          have hx1 := fun w0 => idx1 (.slice s1 s.length s2) (.slice u1 A.length u2) w0
          go_wp2
          rw [rounds_succ]
          go_wp2_with fail
          refine HF.out.mono ?_
          rintro e w4 ⟨j, rfl, hat, hb4⟩
          have HP4 := Lib.hid (HP3.out.below hb4)
          have HK4 := Lib.hid (HK3.out.below hb4)
          have HU4 := Lib.hid (HU3.out.below hb4)
          have HB4 := Lib.hid (bnext HB3.out hb4)
          have hfh := fnd_has hS.out.sa hat
          have HAJ := Lib.hid hat
          clear p0 p1 p2 p3 k0 k1 k2 k3 k4 k5 k6 k7 k8 HF HP3 HK3 HU3 HB3 hb4 hat hx0 hx1
          obtain ⟨F, hF⟩ : ∃ F, F = fndF A x m j := ⟨_, rfl⟩
          rw [← hF] at hfh ⊢
          clear hF
          cases F
          · obtain ⟨vp, hcut0, hrp⟩ := (HU4.out.rd HB4.out).cut0 j HAJ.out.1
            have hfo := fol_has (m := m) hS.out.sa HAJ.out (by omega)
            obtain ⟨G2, hG⟩ : ∃ G2, G2 = folS (A.take j) x m := ⟨_, rfl⟩
            have HFO := Lib.hid (fun q : Later w4 => Calls.later (sFollows vp (A.take j) x m t da dl dc q.val (hrp.below q.h) ⟨n3, by omega⟩ (by omega)))
            rw [← hG] at hfo HFO
            clear hG
            have HGE2 := Lib.hid hfo
            have HF2 := Lib.hid hfh
            clear hfo hrp hfh
            have HNS := Lib.hid (show SM.hasK T x m = false by rw [hS.out.has, ← HF1.out, ← HF2.out]; rfl)
            obtain ⟨z0, z1, z2, z3⟩ := lat_e HP4.out
            obtain ⟨y0, y1, y2, y3, y4, y5, y6, y7, y8⟩ := HK4.out.later
            go_wp2
            cases G
            · refine wp_region_later (by kernel_rfl) (by kernel_rfl) ?_
              repeat (go_big_quiet_step (first | (go_at_call 63; with_reducible exact HFO.out _)))
              refine wpQuiet_nil ?_
              rintro _ ⟨p', rfl⟩
              have HP5 := Lib.hid (HP4.out.below p'.h)
              have HK5 := Lib.hid (HK4.out.below p'.h)
              have HU5 := Lib.hid (HU4.out.below p'.h)
              have HB5 := Lib.hid (bnext HB4.out p'.h)
              clear z0 z1 z2 z3 y0 y1 y2 y3 y4 y5 y6 y7 y8 HFO HP4 HK4 HU4 HB4 hcut0
              obtain ⟨w5, hw5⟩ : ∃ w5, w5 = p'.val := ⟨_, rfl⟩
              rw [← hw5] at HP5 HK5 HU5 HB5 ⊢
              clear hw5
              cases G2
              · have h1 := of_decide_eq_false HGE.out.symm
                have h2 := of_decide_eq_false HGE2.out.symm
                have h3 : SM.hasK T x (m - 1) = false := by
                  rw [hS.out.has]
                  exact Bool.or_eq_false_iff.2 ⟨by simpa using fun h => h1 (.inr h), by simpa using fun h => h2 (.inr h)⟩
                have HMF := Lib.hid (show SM.mrg s (l.take (k + 1)) = (T, (A.length : Int), ((D + 1 : Nat) : Int)) from HM.out.trans (SM.mrg1_gap hS.out.ok (f := (x, m, t, cs)) (fun h => h1 (.inl h)) h3))
                clear h1 h2 h3 HGE HGE2 HM HNS HF1 HF2
                go_wp2
                rw [rounds_succ]
                go_wp2
                go_roundg g
                case measure => omega
                case rel => exact ⟨k + 1, A, T, D + 1, by omega, by go_num, by go_num, by omega, Lib.hid (Nat.le_succ_of_le hAk.out), HU5, hS, HMF, HB5, HK5⟩
              · have hor : m ≤ 1 ∨ SM.hasK T x (m - 1) = true := (of_decide_eq_true HGE2.out.symm).imp id (fun h => by rw [hS.out.has, h, Bool.or_true])
                have HAD := Lib.hid (SM.mrg1_add hS.out.ok (A := (A.length : Int)) (D := (D : Int)) (f := (x, m, t, cs)) HER.out HNS.out hor)
                have HMF := Lib.hid (show SM.mrg s (l.take (k + 1)) = (SM.un T [(x, m, t, cs)], (((SM.un A [(x, m, t, cs)]).length : Nat) : Int), (D : Int)) by rw [HM.out, HAD.out.1, SM.un_len1 (f := (x, m, t, cs)) HF2.out.symm]; rfl)
                have HSS := Lib.hid (hS.out.step (f := (x, m, t, cs)) HER.out HNS.out HAD.out.2)
                have HLN := Lib.hid (show (SM.un A [(x, m, t, cs)]).length ≤ k + 1 by rw [SM.un_len1 (f := (x, m, t, cs)) HF2.out.symm]; have := hAk.out; omega)
                clear hor HAD HM HNS HGE HGE2
                have HF := Lib.hid (sFind (.slice u1 A.length u2) A x m t da dl dc w5 (HU5.out.rd HB5.out) hS.out.sa hlA)
                obtain ⟨p0, p1, p2, p3, _⟩ := HP5.out.cells
                obtain ⟨k0, k1, k2, k3, k4, k5, k6, k7, k8⟩ := HK5.out.cells
                go_wp2
                rw [rounds_succ]
                go_wp2_with fail
                refine HF.out.mono ?_
                rintro e w6 ⟨j2, rfl, hat, hb6⟩
                have HP6 := Lib.hid (HP5.out.below hb6)
                have HK6 := Lib.hid (HK5.out.below hb6)
                have HU6 := Lib.hid (HU5.out.below hb6)
                have HB6 := Lib.hid (bnext HB5.out hb6)
                have hfn : fndF A x m j2 = false := (fnd_has hS.out.sa hat).trans HF2.out.symm
                have HUA := Lib.hid (un_at (t := t) (cs := cs) hat hfn)
                have HJ := Lib.hid hat.1
                rw [hfn]
                clear p0 p1 p2 p3 k0 k1 k2 k3 k4 k5 k6 k7 k8 HF HP5 HK5 HU5 HB5 hb6 hat hfn
                obtain ⟨p0, p1, p2, p3, _⟩ := HP6.out.cells
                obtain ⟨uq, hu1, hu2⟩ := HU6.out
                have hql := hu2.len
                have HT7 := Lib.hid hu2
                have hne : (Value.slice u1 A.length u2).ownBlock ≠ some w6.heap.size := fun h => Nat.lt_irrefl _ (World.ownsRow.lt hu1.1 _ h).2
                have hbf := below_fresh w6 (.cells #[.int .i64 x, .int .i64 m, .int .i64 t, .slice da dl dc] 43)
                have hnew : (w6.alloc (.cells #[.int .i64 x, .int .i64 m, .int .i64 t, .slice da dl dc] 43)).heap[w6.heap.size]? = some (.cells (encUp (x, m, t, da, dl, dc)).toArray 43 (0, 0)) := heap_alloc_new w6 _
                have HB7 := Lib.hid (bnext HB6.out hbf)
                have HK7 := Lib.hid (HK6.out.below hbf)
                have HI := Lib.hid (gInsert (.slice u1 A.length u2) uq j2 (x, m, t, da, dl, dc) w6.heap.size w.heap.size (w6.alloc (.cells #[.int .i64 x, .int .i64 m, .int .i64 t, .slice da dl dc] 43)) (OwnG.below hu1 hbf) (by rw [hql]; exact HJ.out) (by rw [hql]; omega) hnew hne HB7.out.size)
                clear hu1 hu2 hql hne hnew hbf HU6 HP6
                go_wp2_with fail
                refine HI.out.mono ?_
                rintro e w8 ⟨v8, rfl, ho8, hb8, hk8⟩
                have HU8 := Lib.hid (show OwnF w w.heap.size w8 v8 (SM.un A [(x, m, t, cs)]) by rw [HUA.out]; exact ⟨_, ho8, Tel.app (HT7.out.take j2) (Tel.app (Tel.one HT1.out) (HT7.out.drop j2))⟩)
                have HB8 := Lib.hid (HB7.out.trans hb8)
                have HK8 := Lib.hid (HK7.out.keep hk8)
                clear p0 p1 p2 p3 HI ho8 hb8 hk8 HB7 HK7 HT7 HB6 HK6
                go_wp2
                go_roundg g
                case measure => omega
                case rel => exact ⟨k + 1, _, _, D, by omega, by go_num, rfl, by omega, HLN, HU8, HSS, HMF, HB8, HK8⟩
            · refine wp_region_later (by kernel_rfl) (by kernel_rfl) ?_
              repeat (go_big_quiet_step (fail))
              refine wpQuiet_nil ?_
              rintro _ ⟨p', rfl⟩
              have HP5 := Lib.hid (HP4.out.below p'.h)
              have HK5 := Lib.hid (HK4.out.below p'.h)
              have HU5 := Lib.hid (HU4.out.below p'.h)
              have HB5 := Lib.hid (bnext HB4.out p'.h)
              clear z0 z1 z2 z3 y0 y1 y2 y3 y4 y5 y6 y7 y8 HFO HP4 HK4 HU4 HB4 hcut0
              obtain ⟨w5, hw5⟩ : ∃ w5, w5 = p'.val := ⟨_, rfl⟩
              rw [← hw5] at HP5 HK5 HU5 HB5 ⊢
              clear hw5
              have hor : m ≤ 1 ∨ SM.hasK T x (m - 1) = true := (of_decide_eq_true HGE.out.symm).imp id (fun h => by rw [hS.out.has, h]; rfl)
              have HAD := Lib.hid (SM.mrg1_add hS.out.ok (A := (A.length : Int)) (D := (D : Int)) (f := (x, m, t, cs)) HER.out HNS.out hor)
              have HMF := Lib.hid (show SM.mrg s (l.take (k + 1)) = (SM.un T [(x, m, t, cs)], (((SM.un A [(x, m, t, cs)]).length : Nat) : Int), (D : Int)) by rw [HM.out, HAD.out.1, SM.un_len1 (f := (x, m, t, cs)) HF2.out.symm]; rfl)
              have HSS := Lib.hid (hS.out.step (f := (x, m, t, cs)) HER.out HNS.out HAD.out.2)
              have HLN := Lib.hid (show (SM.un A [(x, m, t, cs)]).length ≤ k + 1 by rw [SM.un_len1 (f := (x, m, t, cs)) HF2.out.symm]; have := hAk.out; omega)
              clear hor HAD HM HNS HGE HGE2
              have HF := Lib.hid (sFind (.slice u1 A.length u2) A x m t da dl dc w5 (HU5.out.rd HB5.out) hS.out.sa hlA)
              obtain ⟨p0, p1, p2, p3, _⟩ := HP5.out.cells
              obtain ⟨k0, k1, k2, k3, k4, k5, k6, k7, k8⟩ := HK5.out.cells
              go_wp2
              rw [rounds_succ]
              go_wp2_with fail
              refine HF.out.mono ?_
              rintro e w6 ⟨j2, rfl, hat, hb6⟩
              have HP6 := Lib.hid (HP5.out.below hb6)
              have HK6 := Lib.hid (HK5.out.below hb6)
              have HU6 := Lib.hid (HU5.out.below hb6)
              have HB6 := Lib.hid (bnext HB5.out hb6)
              have hfn : fndF A x m j2 = false := (fnd_has hS.out.sa hat).trans HF2.out.symm
              have HUA := Lib.hid (un_at (t := t) (cs := cs) hat hfn)
              have HJ := Lib.hid hat.1
              rw [hfn]
              clear p0 p1 p2 p3 k0 k1 k2 k3 k4 k5 k6 k7 k8 HF HP5 HK5 HU5 HB5 hb6 hat hfn
              obtain ⟨p0, p1, p2, p3, _⟩ := HP6.out.cells
              obtain ⟨uq, hu1, hu2⟩ := HU6.out
              have hql := hu2.len
              have HT7 := Lib.hid hu2
              have hne : (Value.slice u1 A.length u2).ownBlock ≠ some w6.heap.size := fun h => Nat.lt_irrefl _ (World.ownsRow.lt hu1.1 _ h).2
              have hbf := below_fresh w6 (.cells #[.int .i64 x, .int .i64 m, .int .i64 t, .slice da dl dc] 43)
              have hnew : (w6.alloc (.cells #[.int .i64 x, .int .i64 m, .int .i64 t, .slice da dl dc] 43)).heap[w6.heap.size]? = some (.cells (encUp (x, m, t, da, dl, dc)).toArray 43 (0, 0)) := heap_alloc_new w6 _
              have HB7 := Lib.hid (bnext HB6.out hbf)
              have HK7 := Lib.hid (HK6.out.below hbf)
              have HI := Lib.hid (gInsert (.slice u1 A.length u2) uq j2 (x, m, t, da, dl, dc) w6.heap.size w.heap.size (w6.alloc (.cells #[.int .i64 x, .int .i64 m, .int .i64 t, .slice da dl dc] 43)) (OwnG.below hu1 hbf) (by rw [hql]; exact HJ.out) (by rw [hql]; omega) hnew hne HB7.out.size)
              clear hu1 hu2 hql hne hnew hbf HU6 HP6
              go_wp2_with fail
              refine HI.out.mono ?_
              rintro e w8 ⟨v8, rfl, ho8, hb8, hk8⟩
              have HU8 := Lib.hid (show OwnF w w.heap.size w8 v8 (SM.un A [(x, m, t, cs)]) by rw [HUA.out]; exact ⟨_, ho8, Tel.app (HT7.out.take j2) (Tel.app (Tel.one HT1.out) (HT7.out.drop j2))⟩)
              have HB8 := Lib.hid (HB7.out.trans hb8)
              have HK8 := Lib.hid (HK7.out.keep hk8)
              clear p0 p1 p2 p3 HI ho8 hb8 hk8 HB7 HK7 HT7 HB6 HK6
              go_wp2
              go_roundg g
              case measure => omega
              case rel => exact ⟨k + 1, _, _, D, by omega, by go_num, rfl, by omega, HLN, HU8, HSS, HMF, HB8, HK8⟩
          · have HMF := Lib.hid (HM.out.trans (SM.mrg1_has hS.out.ok HER.out (by rw [hS.out.has, ← hfh, Bool.or_true])))
            clear hfh HM
            go_wp2
            go_roundg g
            case measure => omega
            case rel => exact ⟨k + 1, A, T, D, by omega, by go_num, rfl, by omega, Lib.hid (Nat.le_succ_of_le hAk.out), HU4, hS, HMF, HB4, HK4⟩
        · have HMF := Lib.hid (HM.out.trans (SM.mrg1_has hS.out.ok HER.out (by rw [hS.out.has, ← hfh]; rfl)))
          clear hfh HM
          go_wp2
          go_roundg g
          case measure => omega
          case rel => exact ⟨k + 1, A, T, D, by omega, by go_num, rfl, by omega, Lib.hid (Nat.le_succ_of_le hAk.out), HU2, hS, HMF, HB2, HK2⟩
      · have hne : (UM.errU x m t cs != 0) = true := bne_t hE
        have HMF := Lib.hid (show SM.mrg s (l.take (k + 1)) = (T, (A.length : Int), ((D + 1 : Nat) : Int)) from HM.out.trans (SM.mrg1_err (f := (x, m, t, cs)) hE))
        clear HM hE HN
        go_wp2_with fail
        refine HV.out.mono ?_
        rintro e w1 ⟨rfl, hb1⟩
        have HK1 := Lib.hid (HKX.out.below hb1)
        have HU1 := Lib.hid (HUX.out.below hb1)
        have HB1 := Lib.hid (bnext HBX.out hb1)
        clear p0 p1 p2 p3 HV HPX HKX HUX HBX hb1
        go_wp2
        go_roundg g
        case measure => omega
        case rel => exact ⟨k + 1, A, T, D + 1, by omega, by go_num, by go_num, by omega, Lib.hid (Nat.le_succ_of_le hAk.out), HU1, hS, HMF, HB1, HK1⟩
end Go.Proofs.YtdfablboenfblaaDoor.ST
