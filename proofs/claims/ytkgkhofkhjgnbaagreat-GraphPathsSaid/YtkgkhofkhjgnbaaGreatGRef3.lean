/-
  The call of the reference's Levels: the indexes of the nodes by the number of their proposals. Conditions: the nodes read.
-/
import Derived.Test.YtkgkhofkhjgnbaaGreatGRef2
namespace Go.Proofs.YtkgkhofkhjgnbaaGreat
open Go.RowKit Go.Joins Go.Shelf
open JM (Chg)
open CM (Fp)
open VM (Ent)

theorem intsE {β : Type} : IsElem Tryz.prog 41 22 1 24 (encL (β := β)) where
  ht := Tryz.underlying41
  info := by
    obtain ⟨i0, hi, hz0, hz1, hz2⟩ := info_parts (show (Tryz.prog.info? 22).map (fun i => (i.zero, i.size, i.bytes)) = some (some (.slice none 0 0), 1, 24) by kernel_rfl)
    exact ⟨i0, _, hi, hz0, hz1, hz2, rfl⟩
  len := fun _ => rfl
  one := by intro x u hu; simp [encL] at hu; subst hu; rfl
  pos := by decide
  fits := by decide
/-- Blocks of integers stay when a row of slices grows. -/
theorem ownI_keep {e : TypeId} {base : Nat} {w w' : World} {v : Value} {xs : List Int} (h : OwnI base w v xs) (he : e ≠ 3) (hk : KeepsX e w w') : OwnI base w' v xs := by
  refine ⟨⟨h.1.1, ?_⟩, h.2⟩
  rcases h.1.2 with h6 | ⟨gg, cap, cur, hv, hgg, hh, r⟩
  · exact .inl h6
  · refine .inr ⟨gg, cap, cur, hv, hgg, ?_, r⟩
    rw [hk gg (Array.getElem?_eq_some_iff.1 hh).1 (by intro cur' fr' e'; rw [hh] at e'; injection e' with e'; injection e' with _ ht; exact he ht.symm)]
    exact hh
namespace IM
/-- Of the first i nodes those with n proposals. -/
def lvRow (L : List (List Fp)) (n i : Nat) : List Int := ((List.range i).filter fun k => lnL L k == n).map fun k : Nat => (k : Int)
/-- The rows of less than n proposals that are not empty. -/
def lvs (L : List (List Fp)) (n : Nat) : List (List Int) := ((List.range n).map fun m => lvRow L m L.length).filter fun l => !l.isEmpty
theorem lvRow_hit {L : List (List Fp)} {n i : Nat} (h : lnL L i = n) : lvRow L n (i + 1) = lvRow L n i ++ [(i : Int)] := by
  unfold lvRow; rw [List.range_succ, List.filter_append, List.map_append]; simp [h]
theorem lvRow_miss {L : List (List Fp)} {n i : Nat} (h : lnL L i ≠ n) : lvRow L n (i + 1) = lvRow L n i := by
  unfold lvRow; rw [List.range_succ, List.filter_append, List.map_append]; simp [h]
theorem lvRow_len (L : List (List Fp)) (n i : Nat) : (lvRow L n i).length ≤ i := by
  unfold lvRow; rw [List.length_map]; exact Nat.le_trans (List.length_filter_le _ _) (by simp)
theorem lvs_hit {L : List (List Fp)} {n : Nat} (h : 0 < (lvRow L n L.length).length) : lvs L (n + 1) = lvs L n ++ [lvRow L n L.length] := by
  unfold lvs; rw [List.range_succ, List.map_append, List.filter_append, List.map_singleton]
  cases hr : lvRow L n L.length with
  | nil => rw [hr] at h; simp at h
  | cons a t => simp
theorem lvs_miss {L : List (List Fp)} {n : Nat} (h : (lvRow L n L.length).length = 0) : lvs L (n + 1) = lvs L n := by
  unfold lvs; rw [List.range_succ, List.map_append, List.filter_append, List.map_singleton]
  rw [List.length_eq_zero_iff.1 h]; simp
theorem lvs_len (L : List (List Fp)) (n : Nat) : (lvs L n).length ≤ n := by
  unfold lvs; exact Nat.le_trans (List.length_filter_le _ _) (by simp)
end IM

set_option maxRecDepth 100000 in
set_option maxHeartbeats 8000000 in
theorem rLevels (nv : Value) (L : List (List Fp)) (w : World) (h : RdLs RdF w nv L) (hl : L.length ≤ 1000) (hls : ∀ f ∈ L, f.length ≤ 1000) :
    Calls Tryz.prog 23 #[nv] w fun e w' => ∃ v, e = .returned v ∧ OwnLs (fun w2 u x => OwnI w.heap.size w2 u x) 22 w.heap.size w' v (IM.lvs L 10) ∧ Below w.heap.size w w' := by
  obtain ⟨na, nc, rfl, _, _⟩ := h.shape
  have HN := Lib.hid h
  have HLS := Lib.hid hls
  clear h hls
  go_enter Tryz.func23, Tryz.ntmps23
  go_wp2
  go_loopw [3, 4] (fun v nx wr => ∃ n : Nat, n ≤ 10 ∧ nx = .int .i64 n ∧ Hid (OwnLs (fun w2 u x => OwnI w.heap.size w2 u x) 22 w.heap.size wr v (IM.lvs L n)) ∧ Hid (Below w.heap.size w wr)) (fun _ nx _ => 10 - (intOf nx).toNat)
  case atStart => exact ⟨0, by omega, rfl, Lib.hid (OwnLs.nil _ _ _), Lib.hid (Below.refl _ _)⟩
  case round =>
    obtain ⟨n, hnn, rfl, hoe, hbw⟩ := hrel
    obtain ⟨ea, ec, hev, _, _⟩ := hoe.out.rd.shape
    obtain ⟨en, hen⟩ : ∃ en, en = (IM.lvs L n).length := ⟨_, rfl⟩
    rw [← hen] at hev
    subst hev
    have hen9 : en ≤ 10 := by rw [hen]; exact Nat.le_trans (IM.lvs_len L n) hnn
    have HEN := Lib.hid hen
    clear hen
    by_cases hlt : n ≤ 9
    case neg =>
      have hq2 : ¬ ((n : Int) ≤ 9) := by omega
      obtain rfl : n = 10 := by omega
      clear hlt hnn
      go_wp2
      go_ret
      exact ⟨_, rfl, hoe.out, hbw.out⟩
    have hq2 : (n : Int) ≤ 9 := by omega
    obtain ⟨wo, hwo⟩ : ∃ wo, wo = wr := ⟨_, rfl⟩
    rw [← hwo] at hoe hbw ⊢
    clear hwo
    have hso := hbw.out.size
    have HSO := Lib.hid hso
    go_wp2
    clear hso
    go_loopw [5, 6] (fun v ix wr => ∃ i : Nat, i ≤ L.length ∧ ix = .int .i64 i ∧ Hid (OwnI wo.heap.size wr v (IM.lvRow L n i)) ∧ Hid (Below wo.heap.size wo wr)) (fun _ ix _ => L.length - (intOf ix).toNat)
    case atStart => exact ⟨0, Nat.zero_le _, rfl, Lib.hid (OwnG.nil hlI _ _ _), Lib.hid (Below.refl _ _)⟩
    case round =>
      obtain ⟨i, hii, rfl, hoi, hbi⟩ := hrel
      obtain ⟨ga, gc, hgv, _, _⟩ := hoi.out.rd.shape
      obtain ⟨gn, hgn⟩ : ∃ gn, gn = (IM.lvRow L n i).length := ⟨_, rfl⟩
      rw [← hgn] at hgv
      subst hgv
      have hgl : gn ≤ 1000 := by have := IM.lvRow_len L n i; omega
      have HGN := Lib.hid hgn
      clear hgn
      by_cases hli : i < L.length
      case neg =>
        have hq3 : ¬ ((i : Int) < (L.length : Int)) := by omega
        obtain rfl : i = L.length := by omega
        by_cases hg0 : 0 < gn
        case neg =>
          have hq4 : ¬ ((0 : Int) < (gn : Int)) := by omega
          have HO4 := Lib.hid (show OwnLs (fun w2 u x => OwnI w.heap.size w2 u x) 22 w.heap.size wr (.slice ea en ec) (IM.lvs L (n + 1)) by
            rw [IM.lvs_miss (by rw [← HGN.out]; omega)]
            exact hoe.out.below hbi.out (fun u x h => h.below hbi.out))
          have HB4 := Lib.hid (bnext hbw.out hbi.out)
          clear hoe hbw hoi hbi hg0
          go_wp2
          go_roundw
          case rel => exact ⟨n + 1, by omega, by go_num, HO4, HB4⟩
          case measure => simp [intOf]; omega
        have hq4 : (0 : Int) < (gn : Int) := by omega
        have HNX := Lib.hid (IM.lvs_hit (L := L) (n := n) (by rw [← HGN.out]; exact hg0))
        obtain ⟨ps, hp1, hp2, hp3⟩ := hoe.out.below hbi.out (fun u x h => h.below hbi.out)
        have hpl : ps.length ≤ 1073741824 := by
          have e1 := congrArg List.length hp3
          rw [List.length_map, ← HEN.out] at e1
          omega
        have hs2 : w.heap.size ≤ wr.heap.size := Nat.le_trans HSO.out hbi.out.size
        have HP2 := Lib.hid hp2
        have HP3 := Lib.hid hp3
        have HB4 := Lib.hid (bnext hbw.out hbi.out)
        have HIN := Lib.hid (hoi.out.mono HSO.out)
        clear hp2 hp3 hoe hbw hoi hbi hg0 HSO
        go_wp2_with (at_builtin; refine wp_appG1 intsE ((ga, gn, gc), IM.lvRow L n L.length) rfl _ _ rfl rfl hp1 rfl hpl hs2 ?_)
        intro v8 w8 ho8 hb8 hk8 _
        obtain ⟨a8, l8, c8, hv8⟩ : ∃ a l c, v8 = .slice a l c := by obtain ⟨a, c, h, _⟩ := ho8.rd.shape; exact ⟨a, _, c, h⟩
        subst hv8
        have HFO := Lib.hid (show OwnLs (fun w2 u x => OwnI w.heap.size w2 u x) 22 w.heap.size w8 (.slice a8 l8 c8) (IM.lvs L (n + 1)) by
          rw [HNX.out]
          exact OwnLs.snoc HP2.out HP3.out ho8 (fun _ _ h => ownI_keep h (by decide) hk8) (ownI_keep HIN.out (by decide) hk8))
        have HB8 := Lib.hid (HB4.out.trans hb8)
        clear ho8 hb8 hp1 HP2 HP3 HB4 hs2 hpl hk8 HIN
        go_wp2
        go_roundw
        case rel => exact ⟨n + 1, by omega, by go_num, HFO, HB8⟩
        case measure => simp [intOf]; omega
      have hq3 : (i : Int) < (L.length : Int) := by omega
      have hat := List.getElem?_eq_getElem hli
      have hf0 := HLS.out _ (List.getElem_mem hli)
      generalize L[i] = f at hat hf0
      have HLN := Lib.hid (IM.lnL_of hat)
      obtain ⟨xb, xo, xad, xl, xcp, hix, hxb, hxc, hxo⟩ := HN.out.at_ cfgE i f hat
      obtain ⟨_, _, hxs, _, _⟩ := hxo.shape
      obtain rfl : xl = f.length := by cases hxs; rfl
      have hxc := below_cell (bnext hbw.out hbi.out) hxc
      clear hat hxs hxo hxb
      generalize f.length = fl at *
      by_cases hp : fl = n
      · have hq4 : ((fl : Int) == (n : Int)) = true := by rw [hp]; exact beq_t rfl
        have HNX := Lib.hid (IM.lvRow_hit (HLN.out.trans hp))
        have hs2 : wo.heap.size ≤ wr.heap.size := hbi.out.size
        have hgl2 : (IM.lvRow L n i).length ≤ 1073741824 := by rw [← HGN.out]; omega
        have HGO := Lib.hid hoi.out
        have HB4 := hbi
        clear hoi hbi hp
        go_wp2_with (at_builtin; refine wp_appG1 intE (i : Int) rfl _ _ rfl rfl HGO.out rfl hgl2 hs2 ?_)
        intro v8 w8 ho8 hb8 _ _
        obtain ⟨a8, l8, c8, hv8⟩ : ∃ a l c, v8 = .slice a l c := by obtain ⟨a, c, h, _⟩ := ho8.rd.shape; exact ⟨a, _, c, h⟩
        subst hv8
        have HFO := Lib.hid (show OwnI wo.heap.size w8 (.slice a8 l8 c8) (IM.lvRow L n (i + 1)) by rw [HNX.out]; exact ho8)
        have HB8 := Lib.hid (HB4.out.trans hb8)
        clear ho8 hb8 HB4 hs2 hgl2 HGO hxc
        go_wp2
        go_roundw
        case rel => exact ⟨i + 1, by omega, by go_num, HFO, HB8⟩
        case measure => simp [intOf]; omega
      · have hq4 : ((fl : Int) == (n : Int)) = false := beq_eq_false_iff_ne.2 (by omega)
        have HO4 := Lib.hid (show OwnI wo.heap.size wr (.slice ga gn gc) (IM.lvRow L n (i + 1)) by rw [IM.lvRow_miss (by rw [HLN.out]; exact hp)]; exact hoi.out)
        clear hoi hp
        go_wp2
        go_roundw
        case rel => exact ⟨i + 1, by omega, by go_num, HO4, hbi⟩
        case measure => simp [intOf]; omega

end Go.Proofs.YtkgkhofkhjgnbaaGreat
