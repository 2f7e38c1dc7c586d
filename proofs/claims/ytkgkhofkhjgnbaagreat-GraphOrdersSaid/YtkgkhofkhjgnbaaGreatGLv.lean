/-
  The program's call graph.Levels: the groups of nodes by their number of proposals, in ascending order. Conditions: the graph reads, and its nodes are parts of one configuration.
-/
import Derived.Test.YtkgkhofkhjgnbaaGreatGSrt
namespace Go.Proofs.YtkgkhofkhjgnbaaGreat
open Go.RowKit Go.Joins Go.Shelf Go.Maps Go.ChangeShapes
open JM (Chg)
open CM (Fp)
open VM (Ent)

theorem lawI : Keyed Tryz.prog 3 := int_keyed Tryz.underlying3
theorem zeroIs (w : World) : (zeroValue 22).run Tryz.prog w = .ok (.slice none 0 0) w := by kernel_rfl
theorem infoI : (Tryz.prog.info? 3).map (fun i => (i.zero, i.size, i.bytes)) = some (some (.int .i64 0), 1, 8) := by kernel_rfl

set_option maxRecDepth 100000 in
set_option maxHeartbeats 8000000 in
theorem pLevels (gv : Value) (L : List (List Fp)) (w : World) (h : RdGr w gv L) (hl : L.length ≤ 1000) (h9 : ∀ f ∈ L, f.length ≤ 9) :
    Calls Tryz.prog 22 #[gv] w fun e w' => ∃ v, e = .returned v ∧ RdLs RdI w' v (IM.lvs L 10) ∧ Below w.heap.size w w' := by
  obtain ⟨mv, ev, rfl, hm, he⟩ := h
  obtain ⟨na, nc, rfl, _, _⟩ := hm.shape
  obtain ⟨xa, xc, rfl, _, _⟩ := he.shape
  generalize (IM.edgK L).length = xn at *
  have HN := Lib.hid hm
  have H9 := Lib.hid h9
  have hy := heap_alloc_new w (.cells #[.slice na L.length nc, .slice xa xn xc] 31)
  have b1 := below_fresh w (.cells #[.slice na L.length nc, .slice xa xn xc] 31)
  obtain ⟨w0, hw0⟩ : ∃ z, w.alloc (.cells #[.slice na L.length nc, .slice xa xn xc] 31) = z := ⟨_, rfl⟩
  rw [hw0] at hy b1
  have hmade := World.ownsGroups_made (H := Unit) w0 Tryz.prog 3 3 .i64
  have b2 := below_fresh w0 (.map #[] 0)
  have hs2 := World.size_alloc w0 (.map #[] 0)
  obtain ⟨w1, hw1⟩ : ∃ z, w0.alloc (.map #[] 0) = z := ⟨_, rfl⟩
  rw [hw1] at hmade b2 hs2
  have HB0 := Lib.hid b1
  have HB1 := Lib.hid b2
  have HW := Lib.hid hw0
  have HW1 := Lib.hid hw1
  have HS1 := Lib.hid hs2
  have HMD := Lib.hid hmade
  obtain ⟨⟨q0, q1⟩, _⟩ := row2F hy
  have HKA := Lib.hid (fun (wx : World) (hb : Below w0.heap.size w0 wx) => below_cell hb q0)
  obtain ⟨B, hB⟩ : ∃ B, B = w0.heap.size := ⟨_, rfl⟩
  have HBB := Lib.hid hB
  rw [← hB] at HB1 HS1 HMD HKA
  clear hm he h9 hy b1 b2 hw0 hw1 hmade hs2 q0 q1 hB
  have hmm := @run_makeMap Tryz.prog
  go_enter Tryz.func22, Tryz.ntmps22
  go_upto_region 1 with fail
  rw [HW.out]
  go_upto_region 2 with fail
  rw [HW1.out, ← HBB.out]
  clear HW HW1 hmm
  have c0 := HKA.out w1 HB1.out
  go_wp2
  clear c0
  obtain ⟨i0, hi0, hz0, hz1, hz2⟩ := info_parts infoI
  go_loopw [13] (fun ix wr => ∃ (k : Nat) (D : DataW Unit), k ≤ L.length ∧ ix = .int .i64 k ∧ Hid (Lvl L k D) ∧ Hid (wr.ownsGroups Tryz.prog 3 (B + 1) 3 .i64 B k D) ∧ Hid (Below B w1 wr) ∧ B + 1 ≤ wr.heap.size) (fun ix _ => L.length - (intOf ix).toNat)
  case atStart => exact ⟨0, _, Nat.zero_le _, rfl, Lib.hid (Lvl.start L), HMD, Lib.hid (Below.refl _ _), by rw [HS1.out]; exact Nat.le_refl _⟩
  case round =>
    obtain ⟨k, D, hkk, rfl, hlv, hgr, hbw, hws⟩ := hrel
    have hb0 : Below B w0 wr := HB1.out.trans hbw.out
    have hbx : Below w.heap.size w wr := bnext HB0.out (by rw [← HBB.out]; exact hb0)
    have c0 := HKA.out wr hb0
    by_cases hlt : k < L.length
    case pos =>
      have hq2 : (k : Int) < (L.length : Int) := by omega
      have hat := List.getElem?_eq_getElem hlt
      have hmem := List.getElem_mem hlt
      generalize L[k] = f at hat hmem
      obtain ⟨xb, xo, xad, xl, xcp, hix, hxb, hxc, hxo⟩ := HN.out.at_ cfgE k f hat
      obtain ⟨fa', fc', hfs, _, _⟩ := hxo.shape
      obtain rfl : xl = f.length := by cases hfs; rfl
      have hxc := below_cell hbx hxc
      have hfl := H9.out f hmem
      have hlf := IM.lnL_of hat
      clear hat hmem hxo hfs hxb hb0 hbx c0
      obtain ⟨m, hm⟩ : ∃ m, m = f.length := ⟨_, rfl⟩
      rw [← hm] at hxc hfl hlf
      clear hm
      have HLF := Lib.hid hlf
      have HK1 := Lib.hid hlv.out
      have hkey : keyOf Tryz.prog 3 (.int .i64 (m : Int)) = some (.int .i64 (m : Int)) := keyOf_int_mk Tryz.underlying3 (WalkArith.wf_i64 (by omega))
      have hkn : k < maxLen := by unfold maxLen; omega
      have hbs := hbw.out.size
      clear hlf hlv
      go_wp2_with (first
        | (at_lookup; refine wpList_lookup_groups _ rfl _ _ 79 rfl 3 22 3 .i64 lawI Tryz.underlying79 (zeroIs _) (B + 1) B k D rfl hgr.out hkn _ _ rfl hkey ?_; intro v zs hat2 hoi hzl hback)
        | (at_builtin; refine wpList_append_own_at _ rfl _ _ 22 rfl (B + 1) 3 i0 (.int .i64 0) 1 8 Tryz.underlying22 hi0 hz0 hz1 hz2 rfl (by decide) _ _ _ rfl (hoi.1.alloc _) ⟨wr.heap.size, 0, none⟩ 1 1 [.int .i64 k] rfl rfl (cell_one_new _ _ _) (ints_oneCell .i64 [(k : Int)]) (by unfold maxLen; omega) (by omega) (by simp; omega) ?_; intro v' w2 hown' hgrow hnil hloc)
        | (at_mapUpdate; refine wpList_mapUpdate_back _ rfl _ _ _ 79 rfl hback rfl rfl rfl ((World.grownBy_alloc _ _ _).trans hgrow) (hoi.appended hown' (WalkArith.wf_i64 (by omega))) (by simp; omega) (hloc.imp id (fun h => ⟨_, h, by simp⟩)) ?_; intro w3 hown3 hgrow3)
        | go_in)
      have hall := (World.grownBy_alloc wr _ _).trans hgrow
      go_roundw
      case rel =>
        refine ⟨k + 1, _, by omega, by go_num, Lib.hid (HK1.out.step HLF.out (rowD_of ((HK1.out.row m).symm.trans hat2) hoi)), ?_, Lib.hid (hbw.out.groups hoi hall hgrow3 (by omega) (Nat.le_succ _) (Nat.le_refl _)), Nat.le_trans hws (Nat.le_trans hall.size hgrow3.size)⟩
        rw [← (hoi.appended hown' (WalkArith.wf_i64 (by omega))).datum_pos (by simp)]
        exact Lib.hid hown3
      case measure => simp [intOf]; omega
    have hq2 : ¬ ((k : Int) < (L.length : Int)) := by omega
    obtain rfl : k = L.length := by omega
    have HGR := hgr
    have HBX := Lib.hid hbx
    have HLV := hlv
    have hBw : B < wr.heap.size := by omega
    clear hlv hgr hbw hb0 hbx hkk hlt c0 HMD HKA HN
    go_wp2_with fail
    refine (cKeysI (some B) wr).mono ?_
    rintro e w4 ⟨rfl, hw4⟩
    have hb4 : Below wr.heap.size wr w4 := by rw [hw4]; exact below_fresh _ _
    have hm4 : w4.cell? ⟨wr.heap.size, 0, none⟩ = some (.map (some B)) := by rw [hw4]; exact World.cell?_alloc_new _ _ _ 0
    have hs4 : wr.heap.size < w4.heap.size := by rw [hw4, World.size_alloc]; omega
    have hg4 := groups_keepX (e := 22) HGR.out (by decide) (Below.keepsX hb4 _)
    have HG4 := Lib.hid hg4
    have hms := (lvl_keys (L := L) H9.out HLV.out Tryz.underlying3 (groups_map hg4) (List.Perm.refl _)).2
    have HSI := Lib.hid (cSortedI wr.heap.size B L.length D _ w4 hm4 hs4 (groups_map hg4) (by unfold maxLen; omega) (by omega))
    have HB4 := Lib.hid (bnext HBX.out hb4)
    clear hw4 hb4 hm4 hs4 hg4 hms
    go_wp2_with fail
    refine HSI.out.mono ?_
    rintro e w5 ⟨v5, ss, rfl, hp, hrow, hb5⟩
    have hkeys := (lvl_keys (L := L) H9.out HLV.out Tryz.underlying3 (groups_map HG4.out) hp).1
    have hsl : ss.length = (lvT L).length := by rw [← hkeys, List.length_mergeSort]
    rw [hkeys, hsl] at hrow
    have hown5 : OwnI w4.heap.size w5 v5 (lvT L) := ⟨by rw [cells_ints]; exact hrow, hlI⟩
    have HG5 := Lib.hid (groups_keepX (e := 22) HG4.out (by decide) (Below.keepsX hb5 _))
    have HB5 := Lib.hid (bnext HB4.out hb5)
    obtain ⟨ka, kc, rfl, _, _⟩ := hown5.rd.shape
    have HK5 := Lib.hid hown5.rd
    have htl := lvT_len L
    have hrows := lvT_rows L
    have HRW := Lib.hid hrows
    have HTM := Lib.hid (fun x (hx : x ∈ lvT L) => (show ∃ n : Nat, n < 10 ∧ x = (n : Int) by
      unfold lvT at hx
      obtain ⟨n, hn, rfl⟩ := List.mem_map.1 hx
      exact ⟨n, List.mem_range.1 (List.mem_filter.1 hn).1, rfl⟩))
    clear hp hrow hb5 hkeys hsl hown5 HSI HG4 hrows HB4 HBX HGR
    generalize lvT L = T at *
    generalize htn : T.length = tn at *
    have HTN := Lib.hid htn
    clear htn
    have hbB : B + 1 ≤ B + 1 := Nat.le_refl _
    go_wp2
    go_loopw [6, 33] (fun v jx wq => ∃ j : Nat, j ≤ tn ∧ jx = .int .i64 j ∧ Hid (OwnLs (OwnI (B + 1)) 22 w5.heap.size wq v ((T.take j).map fun x => IM.lvRow L x.toNat L.length)) ∧ Hid (Below w5.heap.size w5 wq)) (fun _ jx _ => tn - (intOf jx).toNat)
    case atStart => exact ⟨0, Nat.zero_le _, rfl, Lib.hid (by rw [List.take_zero]; exact OwnLs.nil _ _ _), Lib.hid (Below.refl _ _)⟩
    case round =>
      obtain ⟨j, hjj, rfl, hoe, hbv⟩ := hrel
      obtain ⟨ea, ec, hev, _, _⟩ := hoe.out.rd.shape
      obtain ⟨en, hen⟩ : ∃ en, en = ((T.take j).map fun x => IM.lvRow L x.toNat L.length).length := ⟨_, rfl⟩
      rw [← hen] at hev
      subst hev
      have HEN := Lib.hid hen
      clear hen
      by_cases hlj : j < tn
      case neg =>
        have hq3 : ¬ ((j : Int) < (tn : Int)) := by omega
        have HO := Lib.hid (show RdLs RdI wr (.slice ea en ec) (IM.lvs L 10) by
          have h1 := hoe.out.rd
          rw [List.take_of_length_le (by rw [HTN.out]; omega), HRW.out] at h1
          exact h1.imp (S := RdI) (fun u x h => OwnG.rd h))
        have HB6 := Lib.hid (bnext HB5.out hbv.out)
        clear hoe hbv HG5 HK5
        go_wp2
        go_ret
        exact ⟨_, rfl, HO.out, HB6.out⟩
      have hq3 : (j : Int) < (tn : Int) := by omega
      have hatj := List.getElem?_eq_getElem (show j < T.length by rw [HTN.out]; exact hlj)
      have hmj := List.getElem_mem (show j < T.length by rw [HTN.out]; exact hlj)
      generalize T[j]'(by rw [HTN.out]; exact hlj) = x at hatj hmj
      obtain ⟨n, hn10, rfl⟩ := HTM.out x hmj
      obtain ⟨kb, ko, hik, hkb, kc0⟩ := atI HK5.out j (n : Int) hatj
      have kc0 := below_cell hbv.out kc0
      have hkey : keyOf Tryz.prog 3 (.int .i64 (n : Int)) = some (.int .i64 (n : Int)) := keyOf_int_mk Tryz.underlying3 (WalkArith.wf_i64 (by omega))
      have hgv := Lib.hid (groups_keepX (e := 22) HG5.out (by decide) (Below.keepsX hbv.out _))
      have hln : L.length < maxLen := by unfold maxLen; omega
      have HNX := Lib.hid (show (T.take (j + 1)).map (fun x => IM.lvRow L x.toNat L.length) = (T.take j).map (fun x => IM.lvRow L x.toNat L.length) ++ [IM.lvRow L n L.length] by
        rw [List.take_add_one, hatj, List.map_append]; rfl)
      obtain ⟨ps, hp1, hp2, hp3⟩ := hoe.out
      have hpl : ps.length ≤ 1073741824 := by
        have e1 := congrArg List.length hp3
        rw [List.length_map, List.length_map, List.length_take] at e1
        omega
      have HP2 := Lib.hid hp2
      have HP3 := Lib.hid hp3
      have hs2 := hbv.out.size
      clear hatj hmj hoe hp2 hp3 hkb
      go_wp2_with (first
        | (at_lookup; refine wpList_lookup_groups _ rfl _ _ 79 rfl 3 22 3 .i64 lawI Tryz.underlying79 (zeroIs _) (B + 1) B L.length D rfl hgv.out hln _ _ rfl hkey ?_; intro v zs hat2 hoi hzl hback; have hz := rowD_of ((HLV.out.row n).symm.trans hat2) hoi; have hoi2 := owns_own hoi; obtain ⟨ua, uc, hvv, _, _⟩ := hoi2.rd.shape; obtain ⟨ul, hul⟩ : ∃ ul, ul = zs.length := ⟨_, rfl⟩; rw [← hul] at hvv; subst hvv; rw [hz] at hoi2; have HOI := Lib.hid hoi2; clear hback hoi hat2 hzl hz hul hoi2)
        | (at_builtin; refine wp_appG1 intsE ((ua, ul, uc), IM.lvRow L n L.length) rfl _ _ rfl rfl hp1 rfl hpl hs2 ?_; intro v8 w8 ho8 hb8 hk8 _; obtain ⟨a8, l8, c8, hv8⟩ : ∃ a l c, v8 = .slice a l c := (by obtain ⟨a, c, h, _⟩ := ho8.rd.shape; exact ⟨a, _, c, h⟩); subst hv8)
        | go_in)
      have HO8 := Lib.hid (show OwnLs (OwnI (B + 1)) 22 w5.heap.size w8 (.slice a8 l8 c8) ((T.take (j + 1)).map fun x => IM.lvRow L x.toNat L.length) by
        rw [HNX.out]
        exact OwnLs.snoc (R := OwnI (B + 1)) HP2.out HP3.out ho8 (fun u x h => ownG_keepX h (by decide) hk8) (ownG_keepX HOI.out (by decide) hk8))
      have HB8 := Lib.hid (hbv.out.trans hb8)
      go_roundw
      case rel => exact ⟨j + 1, by omega, by go_num, HO8, HB8⟩
      case measure => simp [intOf]; omega

end Go.Proofs.YtkgkhofkhjgnbaaGreat
