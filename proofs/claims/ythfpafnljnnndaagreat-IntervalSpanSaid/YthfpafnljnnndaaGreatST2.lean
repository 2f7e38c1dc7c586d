/-
  The calls of slices.Clone of a set's list, of sets.Copy, of config.copied: copies in memory of the call's own. Conditions: what comes in reads. (Written by mk_sets.py.)
  The call of sets.Union: the merged list, in memory of the call's own. Conditions: both sets read and are of bounded length. (Written by mk_sets.py.)
  The call of sets.Vector: the number of elements of each author. Conditions: the set reads and is of bounded length. (Written by mk_sets.py.)
  The calls of package config: package sets' at its own kind. Conditions: what comes in reads; further ones at each. (Written by mk_sets.py.)
-/
import Derived.Test.YthfpafnljnnndaaGreatST1
import Derived.Deep.LoopGhost
import Derived.Deep.RegionHeld3
import Derived.Test.YthfpafnljnnndaaGreatSKB
import Derived.Test.YthfpafnljnnndaaGreatSKH
namespace Go.Proofs.YthfpafnljnnndaaGreat
open Go.RowKit
open JM (Chg)
open CM (Fp)

theorem cop_ret {R : Ending → World → Prop} {a : Act} {w : World} {g : Nat} {x m : Int} {s : Value} (hp : a.tmps.getD 2 undef = .pointer (some ⟨g, 0, none⟩)) (hg : OP w g x m s)
    (hd : a.defers = []) (hR : R (.returned (pv x m s)) w) : bodyPost Tryz.prog Tryz.f96 R .ret a w :=
  bodyPost_ret (results_cell_row (P := Tryz.prog) rfl a.tmps w g 70 _ _ _ hp hg Tryz.underlying70 rfl (by kernel_rfl)) hd hR

set_option maxRecDepth 100000 in
set_option maxHeartbeats 4000000 in
theorem cCopied (x m : Int) (v : Value) (cs : List Chg) (w : World) (h : RdC w v cs) (hl : cs.length ≤ 1073741824) :
    Calls Tryz.prog 96 #[pv x m v] w fun e w' => ∃ v', e = .returned (pv x m v') ∧ OwnC w.heap.size w' v' cs ∧ Below w.heap.size w w' := by
  obtain ⟨da, dc, rfl, hdc, _⟩ := h.shape
  obtain ⟨w1, HX⟩ := eone w x m (.slice da cs.length dc)
  obtain ⟨w2, HY⟩ := eone w1 0 0 (.slice none 0 0)
  have HW1 := Lib.hid HX.eq
  have HW2 := Lib.hid HY.eq
  have HB2 := Lib.hid (bnext HX.below HY.below)
  have HP2 := Lib.hid (HX.e.below HY.below)
  have HQ2 := Lib.hid HY.e
  rw [HX.size] at HQ2
  have hs2 : w2.heap.size = w.heap.size + 2 := by rw [HY.size, HX.size]
  have HC := Lib.hid (gCloneC (.slice da cs.length dc) cs w2 (h.below HB2.out) hl)
  clear HX HY h
  obtain ⟨p0, p1, p2, _⟩ := HP2.out.cells
  go_enter Tryz.func96, Tryz.ntmps96
  go_upto_region 1 with fail
  rw [HW1.out, HW2.out]
  go_wp2_with fail
  refine HC.out.mono ?_
  rintro e w3 ⟨v3, rfl, ho3, hb3⟩
  obtain ⟨a3, c3, rfl, hc3, _⟩ := ho3.rd.shape
  obtain ⟨g0, g1, g2, f0, f1, f2⟩ := (HP2.out.below hb3).cells
  have HQ3 := Lib.hid (HQ2.out.below hb3)
  have HP3 := Lib.hid (HP2.out.below hb3)
  have HO3 := Lib.hid (ho3.mono HB2.out.size)
  have HB3 := Lib.hid (bnext HB2.out hb3)
  have hon : Only w.heap.size w3 (w3.setCell ⟨w.heap.size, 2, none⟩ (.slice a3 cs.length c3)) := Only.set 2 _
  have HP4 := Lib.hid (HP3.out.put (.slice a3 cs.length c3))
  have HQ4 := Lib.hid (HQ3.out.only hon (by omega))
  have HO4 := Lib.hid (ownC_only HO3.out HP3.out (by decide) hon)
  have HB4 := Lib.hid (seen HB3.out (Nat.le_refl _) hon)
  obtain ⟨h0, h1, h2, e0, e1, e2⟩ := HQ3.out.cells
  have HQ5 := Lib.hid (HQ4.out.put3 x m (.slice a3 cs.length c3))
  have hon5 : Only (w.heap.size + 1) (w3.setCell ⟨w.heap.size, 2, none⟩ (.slice a3 cs.length c3)) _ := only3 (.int .i64 x) (.int .i64 m) (.slice a3 cs.length c3)
  have HO5 := Lib.hid (ownC_only HO4.out HQ4.out (by decide) hon5)
  have HB5 := Lib.hid (seen HB4.out (Nat.le_succ _) hon5)
  clear p0 p1 p2 hon hon5 ho3 hb3 HP2 HQ2 HB2 HC HP3 HP4 HQ3 HQ4 HO3 HO4 HB3 HB4
  go_wp2
  refine cop_ret rfl HQ5.out rfl ?_
  exact ⟨_, rfl, HO5.out, HB5.out⟩

set_option maxRecDepth 100000 in
set_option maxHeartbeats 1000000 in
theorem gCloneQ (v : Value) (xs : List Pro) (w : World) (h : RdQ w v xs) (hl : xs.length ≤ 1073741824) :
    Calls Tryz.prog 90 #[v] w fun e w' => ∃ v', e = .returned v' ∧ OwnQ w.heap.size w' v' xs ∧ Below w.heap.size w w' := by
  have hr := h.below (below_fresh w (.cells #[] 70))
  have ho := ownG_empty hlQ 70 w
  have hb0 := below_fresh w (.cells #[] 70)
  obtain ⟨a, c, rfl, _, hcm, hcn, _⟩ := h
  have heq := fun w n c => run_eql_slice_nil (P := Tryz.prog) w 22 70 a n c Tryz.underlying22
  cases a with
  | none =>
    obtain ⟨rfl, rfl⟩ := hcn rfl
    clear hr ho hb0 hcn
    go_enter Tryz.func90, Tryz.ntmps90
    go_wp2
    go_ret
    exact ⟨_, rfl, OwnG.nil hlQ _ _ _, Below.refl _ _⟩
  | some x =>
    have hs0 := hb0.size
    clear hcn
    go_enter Tryz.func90, Tryz.ntmps90
    go_wp2_with (at_builtin; refine wp_appGS setE rfl _ _ rfl rfl ho rfl hr (by simp) hl hs0 ?_)
    intro v1 w1 ho1 hb1 _
    go_wp2
    go_ret
    exact ⟨_, rfl, by simpa using ho1, hb0.trans hb1⟩

set_option maxRecDepth 100000 in
set_option maxHeartbeats 4000000 in
theorem sCopy (v : Value) (fs : List Fp) (w : World) (h : RdF w v fs) (hl : fs.length ≤ 1073741824) (hcl : ∀ f ∈ fs, f.2.2.length ≤ 1073741824) :
    Calls Tryz.prog 63 #[(.agg #[.func (.func 91) #[] #[], .func (.func 92) #[] #[], .func (.func 93) #[] #[], .func (.func 94) #[] #[], .func (.func 95) #[] #[], .func (.func 96) #[] #[], .func (.func 97) #[] #[], .func (.func 98) #[] #[], .int .i64 9]), v] w fun e w' => ∃ v', e = .returned v' ∧ OwnD w.heap.size w' v' fs ∧ Below w.heap.size w w' := by
  obtain ⟨w0, HX⟩ := kone w
  have HW := Lib.hid HX.eq
  have HB0 := Lib.hid HX.below
  have HK0 := Lib.hid HX.k
  obtain ⟨qs, hq, ht⟩ := h
  have hlen := ht.len
  have HC := Lib.hid (gCloneQ v qs w0 (hq.below HX.below) (by rw [hlen]; exact hl))
  have HT := Lib.hid ht
  have HCL := Lib.hid hcl
  obtain ⟨a, c, rfl, _, _⟩ := hq.shape
  rw [hlen] at HC ⊢
  have HLEN := Lib.hid hlen
  obtain ⟨K, hK⟩ : ∃ K, w.heap.size = K := ⟨_, rfl⟩
  rw [hK] at HK0
  have HKE := Lib.hid hK
  clear hq ht hcl hlen HX hK
  go_enter Tryz.func63, Tryz.ntmps63
  go_upto_region 1 with fail
  rw [HW.out, HKE.out]
  clear HW
  go_wp2_with fail
  refine HC.out.mono ?_
  rintro e w1 ⟨v1, rfl, ho1, hb1⟩
  obtain ⟨a1, c1, rfl, hc1, _⟩ := ho1.rd.shape
  rw [HLEN.out] at ho1 ⊢
  have HO1 := Lib.hid (ho1.mono HB0.out.size)
  have HB1 := Lib.hid (bnext HB0.out hb1)
  have HK1 := Lib.hid (HK0.out.below hb1)
  clear ho1 hb1 HC HB0 HK0
  go_wp2
  go_loopw [12] (fun i wr => ∃ (k : Nat) (ns : List Pro), k ≤ fs.length ∧ i = .int .i64 k ∧ Hid (ns.length = k) ∧ Hid (OwnQ w.heap.size wr (.slice a1 fs.length c1) (ns ++ qs.drop k)) ∧ Hid (TelO w.heap.size wr ns (fs.take k)) ∧ Hid (KB wr K) ∧ Hid (Below w.heap.size w wr)) (fun i _ => fs.length - (intOf i).toNat)
  case atStart => exact ⟨0, [], Nat.zero_le _, rfl, rfl, HO1.out, trivial, HK1.out, HB1.out⟩
  case round =>
    obtain ⟨k, ns, hk, rfl, hns, ho, hn, hkb, hb⟩ := hrel
    clear HO1 HB1 HK1
    by_cases hlt : k < fs.length
    · have hq : (k : Int) < (fs.length : Int) := by omega
      have hk2 := List.getElem?_eq_getElem hlt
      generalize fs[k] = f at hk2
      obtain ⟨x, m, cs⟩ := f
      obtain ⟨q, hq2, t1, t2, t3⟩ := HT.out.get hk2
      obtain ⟨x', m', da, dl, dc⟩ := q
      simp only at t1 t2
      subst t1 t2
      have t3 : RdC w (.slice da dl dc) cs := t3
      have hqd := Lib.hid (drop_get (List.getElem?_eq_some_iff.1 hq2).1)
      rw [(List.getElem?_eq_some_iff.1 hq2).2] at hqd
      have hkk : (ns ++ qs.drop k)[k]? = some (x', m', da, dl, dc) := by
        rw [hqd.out, List.getElem?_append_right (by rw [hns.out]; exact Nat.le_refl _), hns.out, Nat.sub_self]; rfl
      obtain ⟨g, o, hi, hg1, hg2, hcell, _⟩ := own_put ho.out hkk
      have c0 : wr.cell? ⟨g, o, none⟩ = some (.int .i64 x') := (hcell 0 _ rfl).1
      have c1' := (hcell 1 _ rfl).1
      have c2 := (hcell 2 _ rfl).1
      obtain ⟨wx, HX⟩ := eone wr x' m' (.slice da dl dc)
      have HCC := Lib.hid (cCopied x' m' (.slice da dl dc) cs wx ((t3.below hb.out).below HX.below) (HCL.out _ (List.mem_of_getElem? hk2)))
      have HWX := Lib.hid HX.eq
      have HBX := Lib.hid (bnext hb.out HX.below)
      have HOX := Lib.hid (ho.out.below HX.below)
      have HNX := Lib.hid (hn.out.below HX.below)
      have HKX := Lib.hid (hkb.out.below HX.below)
      have HPX := Lib.hid HX.e
      obtain ⟨B, hB⟩ : ∃ B, wr.heap.size = B := ⟨_, rfl⟩
      rw [hB] at HPX
      have HBE := Lib.hid hB
      have HTK := Lib.hid (take_snocF hk2)
      obtain ⟨p0, p1, p2, _⟩ := HPX.out.cells
      obtain ⟨_, _, _, _, _, j5, _⟩ := HKX.out.cells
      have HKK := Lib.hid hkk
      have HI := Lib.hid hi
      clear HX ho hn hb hkb hk2 hq2 t3 hkk hcell hB
      go_upto_region 5 with fail
      rw [HWX.out, HBE.out]
      go_wp2_with fail
      refine HCC.out.mono ?_
      rintro e w2 ⟨v2, rfl, ho2, hb2⟩
      obtain ⟨a2, c2', rfl, _, _⟩ := ho2.rd.shape
      obtain ⟨g', o', hi2, hg1', hg2', hcell, hput⟩ := own_put (HOX.out.below hb2) HKK.out
      cases idx_same w2 HI.out hi2
      obtain ⟨d0, f0⟩ : w2.cell? ⟨g, o, none⟩ = some (.int .i64 x') ∧ w2.frozen? ⟨g, o, none⟩ = false := hcell 0 _ rfl
      obtain ⟨d1, f1⟩ := hcell 1 _ rfl
      obtain ⟨d2, f2⟩ := hcell 2 _ rfl
      obtain ⟨ho3, hb3, hk3⟩ := hput x' m' a2 cs.length c2'
      rw [hqd.out, set_mid hns.out] at ho3
      have hkb2 := HKX.out.below hb2
      have hn2 := TelO.snoc (q := (x', m', a2, cs.length, c2')) (f := (x', m', cs)) ⟨rfl, rfl, ownG_keep (ho2.mono HBX.out.size) hk3 (by decide)⟩ ((HNX.out.below hb2).keep hk3)
      have HNS := Lib.hid (show (ns ++ [(x', m', a2, cs.length, c2')]).length = k + 1 by rw [List.length_append, hns.out]; rfl)
      have hkb3 := hkb2.keep hk3
      have hbb := (HBX.out.trans (hb2.mono HBX.out.size)).trans hb3
      rw [← HTK.out] at hn2
      have HO3 := Lib.hid ho3
      have HN3 := Lib.hid hn2
      have HK3 := Lib.hid hkb3
      have HB3 := Lib.hid hbb
      clear hi2 hcell hput ho3 hb3 hk3 hn2 hkb3 hbb HOX HNX HBX HKX HPX HWX HCC p0 p1 p2 j5 c0 c1' c2 ho2 hb2 HI HTK HKK hns hqd hkb2
      go_wp2
      go_roundw
      case rel => exact ⟨k + 1, _, by omega, by go_num, HNS, HO3, HN3, HK3, HB3⟩
      case measure => simp [intOf]; omega
    · have hq : ¬ ((k : Int) < (fs.length : Int)) := by omega
      obtain rfl : k = fs.length := by omega
      have hfin : OwnD w.heap.size wr (.slice a1 fs.length c1) fs := by
        have h1 := ho.out
        have h2 := hn.out
        rw [List.drop_of_length_le (by rw [HLEN.out]; exact Nat.le_refl _), List.append_nil] at h1
        rw [List.take_length] at h2
        exact ⟨ns, h1, h2⟩
      have HF := Lib.hid hfin
      clear ho hn hfin
      go_wp2
      go_ret
      exact ⟨_, rfl, HF.out, hb.out⟩

end Go.Proofs.YthfpafnljnnndaaGreat

namespace Go.Proofs.YthfpafnljnnndaaGreat
open Go.RowKit
open JM (Chg)
open CM (Fp)

end Go.Proofs.YthfpafnljnnndaaGreat

namespace Go.Proofs.YthfpafnljnnndaaGreat
open Go.RowKit
open JM (Chg)
open CM (Fp)
open VM (Ent)

theorem KB.keepE {w w' : World} {K : Nat} (h : KB w K) (hk : KeepsX 89 w w') : KB w' K := hk.at h (by decide)

set_option maxRecDepth 100000 in
set_option maxHeartbeats 4000000 in
theorem sVector (v : Value) (fs : List Fp) (w : World) (h : RdF w v fs) (hl : fs.length ≤ 1000) :
    Calls Tryz.prog 85 #[(.agg #[.func (.func 91) #[] #[], .func (.func 92) #[] #[], .func (.func 93) #[] #[], .func (.func 94) #[] #[], .func (.func 95) #[] #[], .func (.func 96) #[] #[], .func (.func 97) #[] #[], .func (.func 98) #[] #[], .int .i64 9]), v] w fun e w' => ∃ v', e = .returned v' ∧ OwnE w.heap.size w' v' (CM.vo fs) ∧ Below w.heap.size w w' := by
  obtain ⟨ad, cp, rfl, hc, _⟩ := h.shape
  have H := Lib.hid h
  have HL := Lib.hid hl
  clear h hl
  obtain ⟨w0, HX⟩ := kone w
  have HW := Lib.hid HX.eq
  have HB0 := Lib.hid HX.below
  have HK0 := Lib.hid HX.k
  obtain ⟨K, hK⟩ : ∃ K, w.heap.size = K := ⟨_, rfl⟩
  rw [hK] at HK0
  have HKE := Lib.hid hK
  clear HX hK
  go_enter Tryz.func85, Tryz.ntmps85
  go_upto_region 1 with fail
  rw [HW.out, HKE.out]
  clear HW
  go_wp2
  go_loopw [5, 11] (fun u i wr => ∃ k : Nat, k ≤ fs.length ∧ i = .int .i64 k ∧ Hid (OwnE w.heap.size wr u (CM.vo (fs.take k))) ∧ Hid (KB wr K) ∧ Hid (Below w.heap.size w wr)) (fun _ i _ => fs.length - (intOf i).toNat)
  case atStart => exact ⟨0, Nat.zero_le _, rfl, OwnG.nil hlE _ _ _, HK0.out, HB0.out⟩
  case round =>
    obtain ⟨k, hk, rfl, ho, hkb, hbl⟩ := hrel
    clear HB0 HK0
    by_cases hlt : k < fs.length
    · have hq : (k : Int) < (fs.length : Int) := by omega
      have hk2 := List.getElem?_eq_getElem hlt
      generalize fs[k] = f at hk2
      have hsm := CM.vo_small (fs.take k)
      have hvl := CM.vo_len (fs.take k)
      rw [List.length_take] at hsm hvl
      have hnext := CM.vo_snoc (fs.take k) f
      rw [← take_snocF hk2] at hnext
      obtain ⟨x, m, cs⟩ := f
      obtain ⟨b, o, da, dl, dc, hi, hbw, c0, c1, c2, _⟩ := (H.out.below hbl.out).atS k x m cs hk2
      obtain ⟨wx, HX⟩ := eone wr x m (.slice da dl dc)
      have HWX := Lib.hid HX.eq
      have HBX := Lib.hid (bnext hbl.out HX.below)
      have HKX := Lib.hid (hkb.out.below HX.below)
      have HPX := Lib.hid HX.e
      have hox := ho.out.below HX.below
      have HAU := Lib.hid (cAuth x m da dl dc wx)
      obtain ⟨B, hB⟩ : ∃ B, wr.heap.size = B := ⟨_, rfl⟩
      rw [hB] at HPX
      have HBE := Lib.hid hB
      generalize CM.vo (fs.take k) = V at hsm hvl hnext hox
      have HOX := Lib.hid hox
      have HSM := Lib.hid hsm
      have HNX := Lib.hid hnext
      clear HX hB hk2 hbl hkb ho hsm hnext hox
      obtain ⟨p0, p1, p2, _⟩ := HPX.out.cells
      obtain ⟨j0, _⟩ := HKX.out.cells
      obtain ⟨u1, u2, rfl, hu2, hu3⟩ := HOX.out.rd.shape
      go_upto_region 5 with fail
      rw [HWX.out, HBE.out]
      clear c0 c1 c2 hi hbw HWX
      go_wp2_with fail
      refine HAU.out.mono ?_
      rintro e wy ⟨rfl, hby⟩
      have hox := HOX.out.below hby
      have HBY := Lib.hid (bnext HBX.out hby)
      have HKY := Lib.hid (HKX.out.below hby)
      clear HOX HBX HKX HPX HAU hby p0 p1 p2 j0
      have hvl : V.length ≤ 1000 := by have := HL.out; omega
      by_cases h0 : V.length = 0
      · have hNX2 : Hid (CM.vo (fs.take (k + 1)) = V ++ [(x, 1)]) := by
          show _ = _
          rw [HNX.out]; unfold CM.vput; rw [if_neg (fun h => h.1 h0)]
        have hz : ((V.length : Int) == 0) = true := beq_t (by omega)
        clear HNX HSM h0
        have ho5 := hox
        have HB5 := HBY
        have HK5 := HKY
        clear HBY HKY hox
        have hs5 := HB5.out.size
        have hvq : V.length ≤ 1073741824 := by omega
        go_wp2_with (at_builtin; refine wp_appG1' entE (x, 0) _ rfl rfl _ _ rfl rfl ho5 rfl hvq hs5 ?_)
        intro v6 w6 ho6 hb6 hk6
        have HK6 := Lib.hid (HK5.out.keepE hk6)
        have HB6 := Lib.hid (HB5.out.trans hb6)
        clear ho5 HB5 HK5 hb6 hk6 hs5
        obtain ⟨a6, c6, rfl, hc6, _⟩ := ho6.rd.shape
        have hlast : (V ++ [(x, (0 : Int))])[V.length]? = some (x, 0) := by simp
        obtain ⟨g, oe, aa, cc, hv, hi3, _, hg3, hcell, hput⟩ := ho6.at_put entE hlast
        cases hv
        obtain ⟨LN, hLN⟩ : ∃ LN, LN = (V ++ [(x, (0 : Int))]).length := ⟨_, rfl⟩
        have hLN2 : LN = V.length + 1 := by rw [hLN, List.length_append]; rfl
        rw [← hLN] at hi3 hput ⊢
        rw [show ((V.length : Nat) : Int) = (LN : Int) - 1 by omega] at hi3
        obtain ⟨d1, f1⟩ := hcell 1 _ rfl
        obtain ⟨hp1, hp2, hp3⟩ := hput 1 (x, 0 + 1) (.int .i64 1) (by decide) rfl
        have hset : (V ++ [(x, (0 : Int))]).set V.length (x, 0 + 1) = V ++ [(x, 1)] := by rw [List.set_append_right _ _ (Nat.le_refl _), Nat.sub_self]; rfl
        rw [hset] at hp1
        have HP1 := Lib.hid hp1
        have HP2 := Lib.hid (HB6.out.trans hp2)
        have HP3 := Lib.hid (HK6.out.keepE hp3)
        have hLN3 : 0 < (LN : Int) := by omega
        have hLN4 : (LN : Int) ≤ 2000 := by omega
        clear hcell hput hp1 hp2 hp3 hset hlast hLN hLN2 ho6 hvl hu2 hu3
        go_wp2
        go_roundw
        case rel => exact ⟨k + 1, by omega, by go_num, by rw [hNX2.out]; exact HP1, HP3, HP2⟩
        case measure => simp [intOf]; omega
      · by_cases hA : (V.getD (V.length - 1) (0, 0)).1 = x
        · have hlast : V[V.length - 1]? = some (V.getD (V.length - 1) (0, 0)) := by rw [List.getD, List.getElem?_eq_getElem (show V.length - 1 < V.length by omega)]; rfl
          have hmem := List.mem_of_getElem? hlast
          have hNX2 : Hid (CM.vo (fs.take (k + 1)) = V.set (V.length - 1) (x, (V.getD (V.length - 1) (0, 0)).2 + 1)) := by
            show _ = _
            rw [HNX.out]; unfold CM.vput; rw [if_pos ⟨h0, hA⟩]
          obtain ⟨s1, s2⟩ := HSM.out _ hmem
          generalize V.getD (V.length - 1) (0, 0) = e at hlast hA hNX2 s1 s2
          obtain ⟨y, n⟩ := e
          simp only at hA hNX2 s1 s2
          subst hA
          have hn : n ≤ 1000 := by have := HL.out; omega
          obtain ⟨g, oe, aa, cc, hv, hi2, hg1, hg2, hcell, hput⟩ := hox.at_put entE hlast
          cases hv
          rw [show ((V.length - 1 : Nat) : Int) = (V.length : Int) - 1 by omega] at hi2
          have d0 : wy.cell? ⟨g, oe, none⟩ = some (.int .i64 y) := (hcell 0 _ rfl).1
          have hz : ((V.length : Int) == 0) = false := beq_f (by omega)
          have hyy : (y != y) = false := bne_f rfl
          have hw1 : 0 < (V.length : Int) := by omega
          clear HNX HSM s2 hput hcell
          have ho5 := hox
          have HB5 := HBY
          have HK5 := HKY
          clear HBY HKY hox
          obtain ⟨g', oe', aa, cc, hv, hi3, _, hg3, hcell, hput⟩ := ho5.at_put entE hlast
          cases hv
          rw [show ((V.length - 1 : Nat) : Int) = (V.length : Int) - 1 by omega] at hi3
          cases idx_same wy hi2 hi3
          obtain ⟨d1, f1⟩ := hcell 1 _ rfl
          obtain ⟨hp1, hp2, hp3⟩ := hput 1 (y, n + 1) (.int .i64 (n + 1)) (by decide) rfl
          have HP1 := Lib.hid hp1
          have HP2 := Lib.hid (HB5.out.trans hp2)
          have HP3 := Lib.hid (HK5.out.keepE hp3)
          have HLS := Lib.hid (show (V.set (V.length - 1) (y, n + 1)).length = V.length from List.length_set)
          clear hcell hput hi3 hp1 hp2 hp3
          go_wp2
          go_roundw
          case rel => exact ⟨k + 1, by omega, by go_num, by rw [hNX2.out]; exact HP1, HP3, HP2⟩
          case measure => simp [intOf]; omega
        · have hNX2 : Hid (CM.vo (fs.take (k + 1)) = V ++ [(x, 1)]) := by
            show _ = _
            rw [HNX.out]; unfold CM.vput; rw [if_neg (fun h => hA h.2)]
          have hlast : V[V.length - 1]? = some (V.getD (V.length - 1) (0, 0)) := by rw [List.getD, List.getElem?_eq_getElem (show V.length - 1 < V.length by omega)]; rfl
          generalize V.getD (V.length - 1) (0, 0) = e at hlast hA
          obtain ⟨y, n⟩ := e
          simp only at hA
          obtain ⟨g, oe, aa, cc, hv, hi2, hg1, hg2, hcell, hput⟩ := hox.at_put entE hlast
          cases hv
          rw [show ((V.length - 1 : Nat) : Int) = (V.length : Int) - 1 by omega] at hi2
          have d0 : wy.cell? ⟨g, oe, none⟩ = some (.int .i64 y) := (hcell 0 _ rfl).1
          have hz : ((V.length : Int) == 0) = false := beq_f (by omega)
          have hyy : (y != x) = true := bne_t hA
          have hw1 : 0 < (V.length : Int) := by omega
          clear HNX HSM hput hcell
          have ho5 := hox
          have HB5 := HBY
          have HK5 := HKY
          clear HBY HKY hox
          have hs5 := HB5.out.size
          have hvq : V.length ≤ 1073741824 := by omega
          go_wp2_with (at_builtin; refine wp_appG1' entE (x, 0) _ rfl rfl _ _ rfl rfl ho5 rfl hvq hs5 ?_)
          intro v6 w6 ho6 hb6 hk6
          have HK6 := Lib.hid (HK5.out.keepE hk6)
          have HB6 := Lib.hid (HB5.out.trans hb6)
          clear ho5 HB5 HK5 hb6 hk6 hs5
          obtain ⟨a6, c6, rfl, hc6, _⟩ := ho6.rd.shape
          have hlast : (V ++ [(x, (0 : Int))])[V.length]? = some (x, 0) := by simp
          obtain ⟨g', oe', aa, cc, hv, hi3, _, hg3, hcell, hput⟩ := ho6.at_put entE hlast
          cases hv
          obtain ⟨LN, hLN⟩ : ∃ LN, LN = (V ++ [(x, (0 : Int))]).length := ⟨_, rfl⟩
          have hLN2 : LN = V.length + 1 := by rw [hLN, List.length_append]; rfl
          rw [← hLN] at hi3 hput ⊢
          rw [show ((V.length : Nat) : Int) = (LN : Int) - 1 by omega] at hi3
          obtain ⟨d1, f1⟩ := hcell 1 _ rfl
          obtain ⟨hp1, hp2, hp3⟩ := hput 1 (x, 0 + 1) (.int .i64 1) (by decide) rfl
          have hset : (V ++ [(x, (0 : Int))]).set V.length (x, 0 + 1) = V ++ [(x, 1)] := by rw [List.set_append_right _ _ (Nat.le_refl _), Nat.sub_self]; rfl
          rw [hset] at hp1
          have HP1 := Lib.hid hp1
          have HP2 := Lib.hid (HB6.out.trans hp2)
          have HP3 := Lib.hid (HK6.out.keepE hp3)
          have hLN3 : 0 < (LN : Int) := by omega
          have hLN4 : (LN : Int) ≤ 2000 := by omega
          clear hcell hput hp1 hp2 hp3 hset hlast hLN hLN2 ho6 hvl hu2 hu3
          go_wp2
          go_roundw
          case rel => exact ⟨k + 1, by omega, by go_num, by rw [hNX2.out]; exact HP1, HP3, HP2⟩
          case measure => simp [intOf]; omega
    · have hq : ¬ ((k : Int) < (fs.length : Int)) := by omega
      obtain rfl : k = fs.length := by omega
      rw [List.take_length] at ho
      go_wp2
      go_ret
      exact ⟨_, rfl, ho.out, hbl.out⟩

end Go.Proofs.YthfpafnljnnndaaGreat

namespace Go.Proofs.YthfpafnljnnndaaGreat
open Go.RowKit
open JM (Chg)
open CM (Fp)
open VM (Ent)

set_option maxRecDepth 100000 in
set_option maxHeartbeats 1000000 in
theorem gValidate (v : Value) (fs : List Fp) (w : World) (h : RdF w v fs) :
    Calls Tryz.prog 67 #[v] w fun e w' => e = .returned (.int .i64 (CM.errL (0, 0) fs)) ∧ Below w.heap.size w w' := by
  have HE := Lib.hid (cElements w)
  have HS := Lib.hid (fun w' (hb : Below w.heap.size w w') => sValidate v fs w' (h.below hb))
  obtain ⟨va, vc, rfl, _, _⟩ := h.shape
  clear h
  go_enter Tryz.func67, Tryz.ntmps67
  go_wp2_with fail
  refine HE.out.mono ?_
  rintro e w1 ⟨rfl, hb1⟩
  have HS1 := Lib.hid (HS.out w1 hb1)
  have HB1 := Lib.hid hb1
  clear HS HE hb1
  go_wp2_with fail
  refine HS1.out.mono ?_
  rintro e w2 ⟨rfl, hb2⟩
  have HB2 := Lib.hid (bnext HB1.out hb2)
  go_wp2
  go_ret
  exact ⟨rfl, HB2.out⟩

set_option maxRecDepth 100000 in
set_option maxHeartbeats 1000000 in
theorem gVector (v : Value) (fs : List Fp) (w : World) (h : RdF w v fs) (hl : fs.length ≤ 1000) :
    Calls Tryz.prog 60 #[v] w fun e w' => ∃ v', e = .returned v' ∧ OwnE w.heap.size w' v' (CM.vo fs) ∧ Below w.heap.size w w' := by
  have HE := Lib.hid (cElements w)
  have HS := Lib.hid (fun w' (hb : Below w.heap.size w w') => sVector v fs w' (h.below hb) hl)
  obtain ⟨va, vc, rfl, _, _⟩ := h.shape
  clear h
  go_enter Tryz.func60, Tryz.ntmps60
  go_wp2_with fail
  refine HE.out.mono ?_
  rintro e w1 ⟨rfl, hb1⟩
  have HS1 := Lib.hid (HS.out w1 hb1)
  have HB1 := Lib.hid hb1
  clear HS HE hb1
  go_wp2_with fail
  refine HS1.out.mono ?_
  rintro e w2 ⟨v', rfl, ho2, hb2⟩
  have HO2 := Lib.hid (ho2.mono HB1.out.size)
  have HB2 := Lib.hid (bnext HB1.out hb2)
  clear ho2
  go_wp2
  go_ret
  exact ⟨_, rfl, HO2.out, HB2.out⟩

set_option maxRecDepth 100000 in
set_option maxHeartbeats 1000000 in
theorem gContains (va vb : Value) (xs ys : List Fp) (w : World) (ha : RdF w va xs) (hb : RdF w vb ys) (hs : CM.Srt xs) (hl : xs.length ≤ 1000) :
    Calls Tryz.prog 44 #[va, vb] w fun e w' => e = .returned (.bool (CM.cons xs ys)) ∧ Below w.heap.size w w' := by
  have HE := Lib.hid (cElements w)
  have HS := Lib.hid (fun w' (hb' : Below w.heap.size w w') => sContains va vb xs ys w' (ha.below hb') (hb.below hb') hs hl)
  obtain ⟨vaa, vac, rfl, _, _⟩ := ha.shape
  obtain ⟨vba, vbc, rfl, _, _⟩ := hb.shape
  clear ha hb hs hl
  go_enter Tryz.func44, Tryz.ntmps44
  go_wp2_with fail
  refine HE.out.mono ?_
  rintro e w1 ⟨rfl, hb1⟩
  have HS1 := Lib.hid (HS.out w1 hb1)
  have HB1 := Lib.hid hb1
  clear HS HE hb1
  go_wp2_with fail
  refine HS1.out.mono ?_
  rintro e w2 ⟨rfl, hb2⟩
  have HB2 := Lib.hid (bnext HB1.out hb2)
  go_wp2
  go_ret
  exact ⟨rfl, HB2.out⟩

set_option maxRecDepth 100000 in
set_option maxHeartbeats 4000000 in
theorem gRestrictO (va vb : Value) (fs : List Fp) (vs : List Ent) (w : World) (h : RdF w va fs) (hb : VX.RdV w vb vs) (hval : VM.Val 0 vs) (hlv : vs.length ≤ 1000) (hl : fs.length ≤ 1000) (hcl : ∀ f ∈ fs, f.2.2.length ≤ 1073741824) :
    Calls Tryz.prog 42 #[va, vb] w fun e w' => ∃ v', e = .returned v' ∧ OwnD w.heap.size w' v' (CM.rs fs (VM.cnt vs)) ∧ Below w.heap.size w w' := by
  obtain ⟨ad, cp, rfl, hc, _⟩ := h.shape
  have H := Lib.hid h
  have HL := Lib.hid hl
  have HCL := Lib.hid hcl
  have HG := Lib.hid (fun x w' (hh : Below w.heap.size w w') => VX.wGet vb vs x w' (hb.below hh) hval hlv)
  clear h hl hcl hb hval hlv
  go_enter Tryz.func42, Tryz.ntmps42
  go_wp2
  go_loopw [5, 10] (fun u i wr => ∃ k : Nat, k ≤ fs.length ∧ i = .int .i64 k ∧ Hid (OwnF w w.heap.size wr u (CM.rs (fs.take k) (VM.cnt vs))) ∧ Hid (Below w.heap.size w wr)) (fun _ i _ => fs.length - (intOf i).toNat)
  case atStart => exact ⟨0, Nat.zero_le _, rfl, OwnF.nil _ _ _, Below.refl _ _⟩
  case round =>
    obtain ⟨k, hk, rfl, ho, hbl⟩ := hrel
    by_cases hlt : k < fs.length
    · have hq : (k : Int) < (fs.length : Int) := by omega
      have hk2 := List.getElem?_eq_getElem hlt
      generalize fs[k] = f at hk2
      have hnext := rs_snoc (fs.take k) f (VM.cnt vs)
      rw [← take_snocF hk2] at hnext
      obtain ⟨x, m, cs⟩ := f
      simp only at hnext
      obtain ⟨b, o, da, dl, dc, hi, hbw, c0, c1, c2, hrd⟩ := H.out.at_ k x m cs hk2
      have HT1 := Lib.hid (show Tell1 w (x, m, da, dl, dc) (x, m, cs) from ⟨rfl, rfl, hrd⟩)
      have c0 := below_cell hbl.out c0
      have c1 := below_cell hbl.out c1
      have c2 := below_cell hbl.out c2
      have hbw : b < wr.heap.size := Nat.lt_of_lt_of_le hbw hbl.out.size
      have hbx := below_fresh wr (.cells #[.int .i64 x, .int .i64 m, .slice da dl dc] 70)
      have hpx := PBox.fresh wr x m (.slice da dl dc)
      have hlx : wr.heap.size < (wr.alloc (.cells #[.int .i64 x, .int .i64 m, .slice da dl dc] 70)).heap.size := by rw [World.size_alloc]; exact Nat.lt_succ_self _
      obtain ⟨wx, hwx⟩ : ∃ wx, wr.alloc (.cells #[.int .i64 x, .int .i64 m, .slice da dl dc] 70) = wx := ⟨_, rfl⟩
      rw [hwx] at hbx hpx hlx
      obtain ⟨uq, hu1, hu2, hu3⟩ := (ho.out.below hbx).out
      have hlu : uq.length ≤ 1073741824 := by
        have h1 := CM.rs_len (fs.take k) (VM.cnt vs)
        rw [List.length_take] at h1
        have := HL.out
        omega
      have HTU := Lib.hid hu2
      have HWX := Lib.hid hwx
      have HBX := Lib.hid (bnext hbl.out hbx)
      have hG := fun p : Later wx => Calls.later (HG.out x p.val (bnext HBX.out p.h))
      generalize VM.cnt vs x = N at hnext hG
      have HGC := Lib.hid hG
      have z0 : ∀ p : Later wx, p.val.cell? ⟨wr.heap.size, 0, none⟩ = some (.int .i64 x) := fun p => below_cell p.h hpx.1
      have z1 : ∀ p : Later wx, p.val.cell? ⟨wr.heap.size, 1, none⟩ = some (.int .i64 m) := fun p => below_cell p.h hpx.2.1
      have HPX := Lib.hid hpx
      have HNX := Lib.hid hnext
      clear hbx hpx hwx hu2 hu3 hnext hG hk2 hrd ho hbl
      by_cases hm : m ≤ N
      · have HNX2 := Lib.hid (HNX.out.trans (by rw [if_pos hm]))
        clear HNX
        go_wp2
        rw [HWX.out]
        clear c0 c1 c2 hi hbw HWX
        refine wp_region_later (by kernel_rfl) (by kernel_rfl) ?_
        repeat (go_big_quiet_step (first | (go_at_call 61; with_reducible exact HGC.out _)))
        refine wpQuiet_nil ?_
        rintro _ ⟨p', rfl⟩
        have hh := p'.h
        obtain ⟨w2, hw2⟩ : ∃ w2, w2 = p'.val := ⟨_, rfl⟩
        rw [← hw2] at hh ⊢
        clear hw2 z0 z1 HGC
        have hu2 := hu1.below hh
        have HB2 := Lib.hid (bnext HBX.out hh)
        obtain ⟨p0, p1, p2⟩ := HPX.out.below hh
        have hs2 : wr.heap.size < w2.heap.size := Nat.lt_of_lt_of_le hlx hh.size
        have hsz := HB2.out.size
        clear hu1 hh HPX HBX hlx
        go_wp2_with (at_builtin; refine wp_appG1' proE (x, m, da, dl, dc) _ rfl rfl _ _ rfl rfl hu2 rfl hlu hsz ?_)
        intro v3 w3 ho3 hb3 _
        have HO3 := Lib.hid (show OwnF w w.heap.size w3 v3 (CM.rs (fs.take (k + 1)) (VM.cnt vs)) by rw [HNX2.out]; exact OwnF.snoc ho3 HTU.out HT1.out)
        have HB3 := Lib.hid (HB2.out.trans hb3)
        clear ho3 hb3 hu2 HTU HT1 p0 p1 p2 HB2 hs2 hsz HNX2
        go_wp2
        go_roundw
        case rel => exact ⟨k + 1, by omega, by go_num, HO3, HB3⟩
        case measure => simp [intOf]; omega
      · have HNX2 := Lib.hid (HNX.out.trans (by rw [if_neg hm, List.append_nil]))
        have hm' : decide (m ≤ N) = false := decide_eq_false hm
        clear HNX
        go_wp2
        rw [HWX.out]
        clear c0 c1 c2 hi hbw HWX
        refine wp_region_later (by kernel_rfl) (by kernel_rfl) ?_
        repeat (go_big_quiet_step (first | (go_at_call 61; with_reducible exact HGC.out _)))
        refine wpQuiet_nil ?_
        rintro _ ⟨p', rfl⟩
        have HO3 := Lib.hid (show OwnF w w.heap.size p'.val _ (CM.rs (fs.take (k + 1)) (VM.cnt vs)) by rw [HNX2.out]; exact ⟨uq, hu1.below p'.h, HTU.out⟩)
        have HB3 := Lib.hid (bnext HBX.out p'.h)
        generalize p'.val = w3 at HO3 HB3 ⊢
        clear z0 z1 HGC HNX2 hu1 HTU HPX HBX hlx
        go_wp2
        go_roundw
        case rel => exact ⟨k + 1, by omega, by go_num, HO3, HB3⟩
        case measure => simp [intOf]; omega
    · have hq : ¬ ((k : Int) < (fs.length : Int)) := by omega
      obtain rfl : k = fs.length := by omega
      rw [List.take_length] at ho
      have HEL := Lib.hid (cElements wr)
      have HRF := Lib.hid (ho.out.rd hbl.out)
      have HBL := Lib.hid hbl.out
      obtain ⟨ua, uc, rfl, _, _⟩ := HRF.out.shape
      clear ho hbl
      go_wp2_with fail
      refine HEL.out.mono ?_
      rintro e w2 ⟨rfl, hb2⟩
      have HCO := Lib.hid (sCopy _ _ w2 (HRF.out.below hb2) (by have := CM.rs_len fs (VM.cnt vs); have := HL.out; omega) (fun f hf => HCL.out f (CM.rs_mem.1 hf).1))
      have HB2 := Lib.hid (bnext HBL.out hb2)
      clear HEL hb2 HRF HBL
      go_wp2_with fail
      refine HCO.out.mono ?_
      rintro e w3 ⟨v3, rfl, hr3, hb3⟩
      have HR3 := Lib.hid (OwnD.mono hr3 HB2.out.size)
      have HB3 := Lib.hid (bnext HB2.out hb3)
      clear hr3 HCO hb3
      go_wp2
      go_ret
      exact ⟨_, rfl, HR3.out, HB3.out⟩

end Go.Proofs.YthfpafnljnnndaaGreat
