/-
  The calls of maps.Keys and slices.Sorted over it at the map of groups; groups that stay while another list grows; what the groups of a graph's levels hold, and their sorted keys. Conditions: those that each lemma names.
-/
import Derived.Maps.GroupsBeside
import Derived.Maps.OwnRows
import Derived.Maps.Range
import Derived.Shelf.SlIterI.Sorted
import Derived.Shelf.SlIterI.Keys
import Derived.Shelf.Sort.Plain
import Derived.Shelf.Slices.In.SortNone
import Derived.Test.YtkgkhofkhjgnbaaGreatGCn
import Derived.Test.YtkgkhofkhjgnbaaGreatGShelf
namespace Go.Proofs.YtkgkhofkhjgnbaaGreat
open Go.RowKit Go.Joins Go.Shelf Go.Maps Go.ChangeShapes
open JM (Chg)
open CM (Fp)
open VM (Ent)

/-! ### maps.Keys, slices.Sorted -/
theorem cKeysI (mb : Option Nat) (w : World) : Calls Tryz.prog 51 #[.map mb] w fun e w' => e = .returned (.func (.func 68) #[] #[.pointer (some ⟨w.heap.size, 0, none⟩)]) ∧ w' = w.alloc (.cells #[.map mb] 79) :=
  (callsIn_wide (n := 5)).1 (AnyZI.keys_in Tryz.keysA Fence.wide 5 trivial rfl mb w)
theorem sortsA (m : Nat) : AnyZI.SortsIn Tryz.prog Tryz.sortedA_ren Fence.wide m :=
  ⟨fun blk off cap ss W hH hblk hsz => callsIn_wide.2 (Any.slices_Sort_int Tryz.sortI blk off cap ss W hH hblk hsz),
   fun p cap W => callsIn_wide.2 (Any.slices_Sort_int_none Tryz.sortI p cap W)⟩
theorem cSortedI {H : Type} (Bm b nn : Nat) (D0 : DataW H) (R : Value → Option (DataW H × List MemPlace)) (w : World) (hm : w.cell? ⟨Bm, 0, none⟩ = some (.map (some b))) (hBm : Bm < w.heap.size) (hown : w.ownsMap Tryz.prog 3 R b nn D0) (hmax : Maps.size D0 ≤ maxLen) (hbytes : Maps.size D0 * 8 ≤ 140737488355328) :
    Calls Tryz.prog 50 #[.func (.func 68) #[] #[.pointer (some ⟨Bm, 0, none⟩)]] w fun e w' => ∃ (v : Value) (ss : List Int), e = .returned v ∧ ss.Perm (intKeys D0) ∧
      w'.ownsRow w.heap.size 3 1 v ss.length ((ss.mergeSort leI).map encZ) ∧ Below w.heap.size w w' := by
  have hseq : SeqGives Fence.wide 2 Tryz.prog 68 #[.pointer (some ⟨Bm, 0, none⟩)] encZ (fun ss => ss.Perm (intKeys D0)) (Maps.size D0) w :=
    AnyZI.keys_gives (ρ := Tryz.keysA_ren) { Tryz.keysA with } Fence.wide _ trivial rfl (by omega) Bm b nn D0 w hBm hm hown
  have cS := AnyZI.sorted_in Tryz.sortedA Fence.wide 5 trivial trivial trivial trivial rfl (by omega) (sortsA _) (enters_of Tryz.func67 (by kernel_rfl) rfl) 68 #[.pointer (some ⟨Bm, 0, none⟩)] trivial (enters_of Tryz.func68 (by kernel_rfl) rfl) _ _ hmax hbytes _ hseq
  refine ((callsIn_wide (n := 5)).1 cS).mono ?_
  rintro e w' ⟨v, ss, rfl, h1, h2, _, h4⟩
  exact ⟨v, ss, rfl, h1, h2, h4⟩

/-! ### Groups beside another list -/
theorem ownsRow_keepX {e e' : TypeId} {size base n : Nat} {w w' : World} {v : Value} {us : List Value} (h : w.ownsRow base e' size v n us) (he : e ≠ e') (hk : KeepsX e w w') : w'.ownsRow base e' size v n us := by
  refine ⟨h.1, ?_⟩
  rcases h.2 with h6 | ⟨gg, cap, cur, hv, hgg, hh, r⟩
  · exact .inl h6
  · refine .inr ⟨gg, cap, cur, hv, hgg, ?_, r⟩
    rw [hk gg (Array.getElem?_eq_some_iff.1 hh).1 (by intro cur' fr' e'; rw [hh] at e'; injection e' with e'; injection e' with _ ht; exact he ht.symm)]
    exact hh
theorem ownsInts_keepX {e e' : TypeId} {base : Nat} {q : IntKind} {w w' : World} {v : Value} {zs : List Int} (h : w.ownsInts base e' q v zs) (he : e ≠ e') (hk : KeepsX e w w') : w'.ownsInts base e' q v zs := ⟨ownsRow_keepX h.1 he hk, h.2⟩
theorem groups_keepX {H : Type} {P : Program} {k : TypeId} {w w' : World} {base : Nat} {e e' : TypeId} {q : IntKind} {b n : Nat} {D : DataW H} (h : w.ownsGroups P k base e' q b n D) (he : e ≠ e') (hk : KeepsX e w w') : w'.ownsGroups P k base e' q b n D := by
  obtain ⟨es, clock, hb, F, hs, rfl, hbb, hlen, hap⟩ := h
  have hblt : b < w.heap.size := (Array.getElem?_eq_some_iff.1 hb).1
  have hst : ∀ x ∈ es.toList, ∀ z, rowElem (H := H) w base e' q x.val = some z → rowElem w' base e' q x.val = some z := fun x hx z hz => by
    obtain ⟨zs, ho, rfl⟩ := rowElem_inv hz
    exact rowElem_mk (ownsInts_keepX ho he hk)
  obtain ⟨F1, hmap, _⟩ := F.stay hst
  refine ⟨es, clock, (hk b hblt (by intro cur fr hh; rw [hb] at hh; cases hh)).trans hb, F1, hs, by rw [hmap], hbb, fun x hx zs ho => ?_, hap⟩
  obtain ⟨y, hy⟩ := F.reads x hx
  obtain ⟨z, hz, _⟩ := Go.WideElems.rd_val hy
  obtain ⟨zs0, ho0, _⟩ := rowElem_inv hz
  rw [ho.unique (ownsInts_keepX ho0 he hk)]
  exact hlen x hx zs0 ho0
theorem groups_map {H : Type} {P : Program} {k : TypeId} {w : World} {base : Nat} {e : TypeId} {q : IntKind} {b n : Nat} {D : DataW H} (h : w.ownsGroups P k base e q b n D) : w.ownsMap P k (rowElem (H := H) w base e q) b n D := by
  obtain ⟨es, clock, hb, F, hs, hD, _⟩ := h
  exact ⟨es, clock, hb, F, hs, hD⟩
theorem cells_ints (zs : List Int) : cellsOf encI zs = zs.map (Value.int .i64) := by
  unfold cellsOf encI
  induction zs with
  | nil => rfl
  | cons z zs ih => rw [List.flatMap_cons, List.map_cons, ih]; rfl
theorem owns_own {base : Nat} {w : World} {v : Value} {zs : List Int} (h : w.ownsInts base 3 .i64 v zs) : OwnI base w v zs := by
  refine ⟨?_, hlI⟩
  rw [cells_ints]
  exact h.1

/-! ### What the groups hold -/
/-- A group as the map has it. -/
def rowD (zs : List Int) : DataW Unit := if zs = [] then .nil else .slice (lits .i64 zs) []
/-- Behind k nodes, the map D has their indexes by their number of proposals. -/
structure Lvl (L : List (List Fp)) (k : Nat) (D : DataW Unit) : Prop where
  map : Maps.IsMap D
  row : ∀ n : Nat, D.atKey (.int .i64 (n : Int)) .nil = rowD (IM.lvRow L n k)
  has : ∀ x : Int, Maps.has D (.int .i64 x) = true ↔ ∃ n : Nat, x = (n : Int) ∧ IM.lvRow L n k ≠ []
theorem Lvl.start (L : List (List Fp)) : Lvl L 0 (.map []) := by
  refine ⟨⟨[], rfl⟩, fun n => rfl, fun x => ⟨fun h => (by cases h), fun h => ?_⟩⟩
  obtain ⟨n, _, h⟩ := h
  exact absurd rfl h
theorem lits_inj {xs ys : List Int} (h : (lits .i64 xs : List (DataW Unit)) = lits .i64 ys) : xs = ys := by
  unfold lits at h
  refine (List.map_inj_right (fun a b hab => ?_)).1 h
  injection hab with hab
  injection hab
/-- The group that a look-up finds. -/
theorem rowD_of {w : World} {base : Nat} {e : TypeId} {v : Value} {zs xs : List Int} (hat : rowD xs = rowDatum .i64 v zs) (ho : w.ownsInts base e .i64 v zs) : zs = xs := by
  unfold rowD at hat
  rcases ho.datum (H := Unit) with ⟨h1, h2⟩ | h1
  · rw [h1] at hat
    split at hat
    · rename_i hx; rw [hx, h2]
    · cases hat
  · rw [h1] at hat
    split at hat
    · cases hat
    · injection hat with hat _
      exact (lits_inj hat).symm
theorem Lvl.step {L : List (List Fp)} {k : Nat} {D : DataW Unit} (h : Lvl L k D) {m : Nat} (hm : IM.lnL L k = m) {zs : List Int} (hz : zs = IM.lvRow L m k) : Lvl L (k + 1) (D.put (.int .i64 (m : Int)) (.slice (lits .i64 (zs ++ [(k : Int)])) [])) := by
  have hit := IM.lvRow_hit (i := k) hm
  refine ⟨h.map.put _ _, fun n => ?_, fun x => ?_⟩
  · by_cases hn : n = m
    · subst hn
      rw [Maps.atKey_put_same h.map (show WideAt.IsKeyLit (.int _ _) from trivial), hit, hz]
      unfold rowD
      rw [if_neg (by simp)]
    · rw [Maps.atKey_put_other (by intro e; injection e with _ e; omega), h.row, IM.lvRow_miss (by omega)]
  · by_cases hx : x = (m : Int)
    · subst hx
      rw [Maps.has_put_same h.map (show WideAt.IsKeyLit (.int _ _) from trivial)]
      refine ⟨fun _ => ⟨m, rfl, by rw [hit]; simp⟩, fun _ => rfl⟩
    · rw [Maps.has_put_other (by intro e; injection e with _ e; exact hx e), h.has]
      constructor
      · rintro ⟨n, rfl, h1⟩
        refine ⟨n, rfl, ?_⟩
        rw [IM.lvRow_miss (by omega)]
        exact h1
      · rintro ⟨n, rfl, h1⟩
        refine ⟨n, rfl, ?_⟩
        rwa [IM.lvRow_miss (by omega)] at h1
/-- The numbers of proposals that occur. -/
def lvT (L : List (List Fp)) : List Int := ((List.range 10).filter fun n => !(IM.lvRow L n L.length).isEmpty).map fun n : Nat => (n : Int)
theorem lvT_rows (L : List (List Fp)) : (lvT L).map (fun x => IM.lvRow L x.toNat L.length) = IM.lvs L 10 := by
  unfold lvT IM.lvs
  rw [List.map_map, List.filter_map]
  rfl
theorem lvT_lt (L : List (List Fp)) : (lvT L).Pairwise (· < ·) := by
  unfold lvT
  rw [List.pairwise_map]
  refine List.Pairwise.imp (fun h => by omega) (List.Pairwise.filter _ (List.pairwise_lt_range (n := 10)))
theorem lvT_len (L : List (List Fp)) : (lvT L).length ≤ 10 := by
  unfold lvT
  rw [List.length_map]
  exact Nat.le_trans (List.length_filter_le _ _) (by simp)
theorem lvRow_nine {L : List (List Fp)} (h9 : ∀ f ∈ L, f.length ≤ 9) {n : Nat} (h : IM.lvRow L n L.length ≠ []) : n < 10 := by
  unfold IM.lvRow at h
  cases hf : (List.range L.length).filter fun k => IM.lnL L k == n with
  | nil => rw [hf] at h; exact absurd rfl h
  | cons i r =>
    have hi : i ∈ (List.range L.length).filter fun k => IM.lnL L k == n := by rw [hf]; simp
    obtain ⟨h1, h2⟩ := List.mem_filter.1 hi
    have h1 := List.mem_range.1 h1
    have e := List.getElem?_eq_getElem h1
    rw [IM.lnL_of e, beq_iff_eq] at h2
    have := h9 _ (List.getElem_mem h1)
    omega
theorem lvT_mem {L : List (List Fp)} (h9 : ∀ f ∈ L, f.length ≤ 9) {D : DataW Unit} (h : Lvl L L.length D) (x : Int) : x ∈ lvT L ↔ Maps.has D (.int .i64 x) = true := by
  rw [h.has]
  unfold lvT
  rw [List.mem_map]
  constructor
  · rintro ⟨n, hn, rfl⟩
    refine ⟨n, rfl, fun e => ?_⟩
    have := (List.mem_filter.1 hn).2
    rw [e] at this
    cases this
  · rintro ⟨n, rfl, h1⟩
    refine ⟨n, List.mem_filter.2 ⟨List.mem_range.2 (lvRow_nine h9 h1), ?_⟩, rfl⟩
    cases hr : IM.lvRow L n L.length with
    | nil => exact absurd hr h1
    | cons _ _ => rfl
/-- The keys, sorted. -/
theorem lvl_keys {L : List (List Fp)} (h9 : ∀ f ∈ L, f.length ≤ 9) {D : DataW Unit} (h : Lvl L L.length D) {w : World} {P : Program} {k : TypeId} (hk : P.underlying k = some (.int .i64)) {R : Value → Option (DataW Unit × List MemPlace)} {b n : Nat} (hown : w.ownsMap P k R b n D) {ss : List Int} (hp : ss.Perm (intKeys D)) :
    ss.mergeSort leI = lvT L ∧ Maps.size D ≤ 10 := by
  have hnd : (lvT L).Nodup := (lvT_lt L).imp (fun h => by omega)
  have hc : CollectedI D (fun _ => false) (lvT L) := ⟨hnd, fun x => by rw [lvT_mem h9 h]; simp⟩
  have hq : (lvT L).Perm (intKeys D) := hc.perm hown (int_keyed hk) hk (fun _ => rfl)
  constructor
  · rw [mergeSort_of_perm_i (hp.trans hq.symm)]
    refine List.mergeSort_of_pairwise ((lvT_lt L).imp fun h => ?_)
    simp only [leI, decide_eq_true_eq]; omega
  · have := hq.length_eq
    have h10 := lvT_len L
    obtain ⟨es, rfl⟩ := h.map
    show es.length ≤ 10
    have e : (intKeys (DataW.map es)).length = es.length := List.length_map _
    omega

end Go.Proofs.YtkgkhofkhjgnbaaGreat
