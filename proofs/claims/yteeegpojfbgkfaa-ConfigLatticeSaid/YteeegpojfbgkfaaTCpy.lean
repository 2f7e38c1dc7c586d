/-
  The calls of slices.Clone of a set's list, of sets.Copy, of config.copied: copies in memory of the call's own. Conditions: what comes in reads. (Written by mk_sets.py.)
-/
import Derived.Test.YteeegpojfbgkfaaTBas
namespace Go.Proofs.Yteeegpojfbgkfaa
open Go.RowKit
open JM (Chg)
open CM (Fp)

theorem cop_ret {R : Ending → World → Prop} {a : Act} {w : World} {g : Nat} {x m : Int} {s : Value} (hp : a.tmps.getD 2 undef = .pointer (some ⟨g, 0, none⟩)) (hg : OP w g x m s)
    (hd : a.defers = []) (hR : R (.returned (pv x m s)) w) : bodyPost Try.prog Try.f74 R .ret a w :=
  bodyPost_ret (results_cell_row (P := Try.prog) rfl a.tmps w g 45 _ _ _ hp hg Try.underlying45 rfl (by kernel_rfl)) hd hR

set_option maxRecDepth 100000 in
set_option maxHeartbeats 4000000 in
theorem cCopied (x m : Int) (v : Value) (cs : List Chg) (w : World) (h : RdC w v cs) (hl : cs.length ≤ 1073741824) :
    Calls Try.prog 74 #[pv x m v] w fun e w' => ∃ v', e = .returned (pv x m v') ∧ OwnC w.heap.size w' v' cs ∧ Below w.heap.size w w' := by
  obtain ⟨da, dc, rfl, hdc, _⟩ := h.shape
  obtain ⟨w1, HX⟩ := eone w x m (.slice da cs.length dc)
  obtain ⟨w2, HY⟩ := eone w1 0 0 (.slice none 0 0)
  have HW1 := Lib.hid HX.eq
  have HW2 := Lib.hid HY.eq
  have HB2 := Lib.hid (bnext HX.below HY.below)
  have HP2 := Lib.hid (HX.e.below HY.below)
  have HQ2 := Lib.hid HY.e
  rw [HX.size] at HQ2
  have hs2 : w2.heap.size = w.heap.size + 2 := by rw [HY.size, HX.size]
  have HC := Lib.hid (gCloneC (.slice da cs.length dc) cs w2 (h.below HB2.out) hl)
  clear HX HY h
  obtain ⟨p0, p1, p2, _⟩ := HP2.out.cells
  go_enter Try.func74, Try.ntmps74
  go_upto_region 1 with fail
  rw [HW1.out, HW2.out]
  go_wp2_with fail
  refine HC.out.mono ?_
  rintro e w3 ⟨v3, rfl, ho3, hb3⟩
  obtain ⟨a3, c3, rfl, hc3, _⟩ := ho3.rd.shape
  obtain ⟨g0, g1, g2, f0, f1, f2⟩ := (HP2.out.below hb3).cells
  have HQ3 := Lib.hid (HQ2.out.below hb3)
  have HP3 := Lib.hid (HP2.out.below hb3)
  have HO3 := Lib.hid (ho3.mono HB2.out.size)
  have HB3 := Lib.hid (bnext HB2.out hb3)
  have hon : Only w.heap.size w3 (w3.setCell ⟨w.heap.size, 2, none⟩ (.slice a3 cs.length c3)) := Only.set 2 _
  have HP4 := Lib.hid (HP3.out.put (.slice a3 cs.length c3))
  have HQ4 := Lib.hid (HQ3.out.only hon (by omega))
  have HO4 := Lib.hid (ownC_only HO3.out HP3.out (by decide) hon)
  have HB4 := Lib.hid (seen HB3.out (Nat.le_refl _) hon)
  obtain ⟨h0, h1, h2, e0, e1, e2⟩ := HQ3.out.cells
  have HQ5 := Lib.hid (HQ4.out.put3 x m (.slice a3 cs.length c3))
  have hon5 : Only (w.heap.size + 1) (w3.setCell ⟨w.heap.size, 2, none⟩ (.slice a3 cs.length c3)) _ := only3 (.int .i64 x) (.int .i64 m) (.slice a3 cs.length c3)
  have HO5 := Lib.hid (ownC_only HO4.out HQ4.out (by decide) hon5)
  have HB5 := Lib.hid (seen HB4.out (Nat.le_succ _) hon5)
  clear p0 p1 p2 hon hon5 ho3 hb3 HP2 HQ2 HB2 HC HP3 HP4 HQ3 HQ4 HO3 HO4 HB3 HB4
  go_wp2
  refine cop_ret rfl HQ5.out rfl ?_
  exact ⟨_, rfl, HO5.out, HB5.out⟩

set_option maxRecDepth 100000 in
set_option maxHeartbeats 1000000 in
theorem gCloneQ (v : Value) (xs : List Pro) (w : World) (h : RdQ w v xs) (hl : xs.length ≤ 1073741824) :
    Calls Try.prog 83 #[v] w fun e w' => ∃ v', e = .returned v' ∧ OwnQ w.heap.size w' v' xs ∧ Below w.heap.size w w' := by
  have hr := h.below (below_fresh w (.cells #[] 45))
  have ho := ownG_empty hlQ 45 w
  have hb0 := below_fresh w (.cells #[] 45)
  obtain ⟨a, c, rfl, _, hcm, hcn, _⟩ := h
  have heq := fun w n c => run_eql_slice_nil (P := Try.prog) w 22 45 a n c Try.underlying22
  cases a with
  | none =>
    obtain ⟨rfl, rfl⟩ := hcn rfl
    clear hr ho hb0 hcn
    go_enter Try.func83, Try.ntmps83
    go_wp2
    go_ret
    exact ⟨_, rfl, OwnG.nil hlQ _ _ _, Below.refl _ _⟩
  | some x =>
    have hs0 := hb0.size
    clear hcn
    go_enter Try.func83, Try.ntmps83
    go_wp2_with (at_builtin; refine wp_appGS setE rfl _ _ rfl rfl ho rfl hr (by simp) hl hs0 ?_)
    intro v1 w1 ho1 hb1 _
    go_wp2
    go_ret
    exact ⟨_, rfl, by simpa using ho1, hb0.trans hb1⟩

set_option maxRecDepth 100000 in
set_option maxHeartbeats 4000000 in
theorem sCopy (v : Value) (fs : List Fp) (w : World) (h : RdF w v fs) (hl : fs.length ≤ 1073741824) (hcl : ∀ f ∈ fs, f.2.2.length ≤ 1073741824) :
    Calls Try.prog 61 #[(.agg #[.func (.func 70) #[] #[], .func (.func 71) #[] #[], .func (.func 72) #[] #[], .func (.func 73) #[] #[], .func (.func 55) #[] #[], .func (.func 74) #[] #[], .func (.func 75) #[] #[], .func (.func 76) #[] #[], .int .i64 9]), v] w fun e w' => ∃ v', e = .returned v' ∧ OwnD w.heap.size w' v' fs ∧ Below w.heap.size w w' := by
  obtain ⟨w0, HX⟩ := kone w
  have HW := Lib.hid HX.eq
  have HB0 := Lib.hid HX.below
  have HK0 := Lib.hid HX.k
  obtain ⟨qs, hq, ht⟩ := h
  have hlen := ht.len
  have HC := Lib.hid (gCloneQ v qs w0 (hq.below HX.below) (by rw [hlen]; exact hl))
  have HT := Lib.hid ht
  have HCL := Lib.hid hcl
  obtain ⟨a, c, rfl, _, _⟩ := hq.shape
  rw [hlen] at HC ⊢
  have HLEN := Lib.hid hlen
  obtain ⟨K, hK⟩ : ∃ K, w.heap.size = K := ⟨_, rfl⟩
  rw [hK] at HK0
  have HKE := Lib.hid hK
  clear hq ht hcl hlen HX hK
  go_enter Try.func61, Try.ntmps61
  go_upto_region 1 with fail
  rw [HW.out, HKE.out]
  clear HW
  go_wp2_with fail
  refine HC.out.mono ?_
  rintro e w1 ⟨v1, rfl, ho1, hb1⟩
  obtain ⟨a1, c1, rfl, hc1, _⟩ := ho1.rd.shape
  rw [HLEN.out] at ho1 ⊢
  have HO1 := Lib.hid (ho1.mono HB0.out.size)
  have HB1 := Lib.hid (bnext HB0.out hb1)
  have HK1 := Lib.hid (HK0.out.below hb1)
  clear ho1 hb1 HC HB0 HK0
  go_wp2
  go_loopw [12] (fun i wr => ∃ (k : Nat) (ns : List Pro), k ≤ fs.length ∧ i = .int .i64 k ∧ Hid (ns.length = k) ∧ Hid (OwnQ w.heap.size wr (.slice a1 fs.length c1) (ns ++ qs.drop k)) ∧ Hid (TelO w.heap.size wr ns (fs.take k)) ∧ Hid (KB wr K) ∧ Hid (Below w.heap.size w wr)) (fun i _ => fs.length - (intOf i).toNat)
  case atStart => exact ⟨0, [], Nat.zero_le _, rfl, rfl, HO1.out, trivial, HK1.out, HB1.out⟩
  case round =>
    obtain ⟨k, ns, hk, rfl, hns, ho, hn, hkb, hb⟩ := hrel
    clear HO1 HB1 HK1
    by_cases hlt : k < fs.length
    · have hq : (k : Int) < (fs.length : Int) := by omega
      have hk2 := List.getElem?_eq_getElem hlt
      generalize fs[k] = f at hk2
      obtain ⟨x, m, cs⟩ := f
      obtain ⟨q, hq2, t1, t2, t3⟩ := HT.out.get hk2
      obtain ⟨x', m', da, dl, dc⟩ := q
      simp only at t1 t2
      subst t1 t2
      have t3 : RdC w (.slice da dl dc) cs := t3
      have hqd := Lib.hid (drop_get (List.getElem?_eq_some_iff.1 hq2).1)
      rw [(List.getElem?_eq_some_iff.1 hq2).2] at hqd
      have hkk : (ns ++ qs.drop k)[k]? = some (x', m', da, dl, dc) := by
        rw [hqd.out, List.getElem?_append_right (by rw [hns.out]; exact Nat.le_refl _), hns.out, Nat.sub_self]; rfl
      obtain ⟨g, o, hi, hg1, hg2, hcell, _⟩ := own_put ho.out hkk
      have c0 : wr.cell? ⟨g, o, none⟩ = some (.int .i64 x') := (hcell 0 _ rfl).1
      have c1' := (hcell 1 _ rfl).1
      have c2 := (hcell 2 _ rfl).1
      obtain ⟨wx, HX⟩ := eone wr x' m' (.slice da dl dc)
      have HCC := Lib.hid (cCopied x' m' (.slice da dl dc) cs wx ((t3.below hb.out).below HX.below) (HCL.out _ (List.mem_of_getElem? hk2)))
      have HWX := Lib.hid HX.eq
      have HBX := Lib.hid (bnext hb.out HX.below)
      have HOX := Lib.hid (ho.out.below HX.below)
      have HNX := Lib.hid (hn.out.below HX.below)
      have HKX := Lib.hid (hkb.out.below HX.below)
      have HPX := Lib.hid HX.e
      obtain ⟨B, hB⟩ : ∃ B, wr.heap.size = B := ⟨_, rfl⟩
      rw [hB] at HPX
      have HBE := Lib.hid hB
      have HTK := Lib.hid (take_snocF hk2)
      obtain ⟨p0, p1, p2, _⟩ := HPX.out.cells
      obtain ⟨_, _, _, _, _, j5, _⟩ := HKX.out.cells
      have HKK := Lib.hid hkk
      have HI := Lib.hid hi
      clear HX ho hn hb hkb hk2 hq2 t3 hkk hcell hB
      go_upto_region 5 with fail
      rw [HWX.out, HBE.out]
      go_wp2_with fail
      refine HCC.out.mono ?_
      rintro e w2 ⟨v2, rfl, ho2, hb2⟩
      obtain ⟨a2, c2', rfl, _, _⟩ := ho2.rd.shape
      obtain ⟨g', o', hi2, hg1', hg2', hcell, hput⟩ := own_put (HOX.out.below hb2) HKK.out
      cases idx_same w2 HI.out hi2
      obtain ⟨d0, f0⟩ : w2.cell? ⟨g, o, none⟩ = some (.int .i64 x') ∧ w2.frozen? ⟨g, o, none⟩ = false := hcell 0 _ rfl
      obtain ⟨d1, f1⟩ := hcell 1 _ rfl
      obtain ⟨d2, f2⟩ := hcell 2 _ rfl
      obtain ⟨ho3, hb3, hk3⟩ := hput x' m' a2 cs.length c2'
      rw [hqd.out, set_mid hns.out] at ho3
      have hkb2 := HKX.out.below hb2
      have hn2 := TelO.snoc (q := (x', m', a2, cs.length, c2')) (f := (x', m', cs)) ⟨rfl, rfl, ownG_keep (ho2.mono HBX.out.size) hk3 (by decide)⟩ ((HNX.out.below hb2).keep hk3)
      have HNS := Lib.hid (show (ns ++ [(x', m', a2, cs.length, c2')]).length = k + 1 by rw [List.length_append, hns.out]; rfl)
      have hkb3 := hkb2.keep hk3
      have hbb := (HBX.out.trans (hb2.mono HBX.out.size)).trans hb3
      rw [← HTK.out] at hn2
      have HO3 := Lib.hid ho3
      have HN3 := Lib.hid hn2
      have HK3 := Lib.hid hkb3
      have HB3 := Lib.hid hbb
      clear hi2 hcell hput ho3 hb3 hk3 hn2 hkb3 hbb HOX HNX HBX HKX HPX HWX HCC p0 p1 p2 j5 c0 c1' c2 ho2 hb2 HI HTK HKK hns hqd hkb2
      go_wp2
      go_roundw
      case rel => exact ⟨k + 1, _, by omega, by go_num, HNS, HO3, HN3, HK3, HB3⟩
      case measure => simp [intOf]; omega
    · have hq : ¬ ((k : Int) < (fs.length : Int)) := by omega
      obtain rfl : k = fs.length := by omega
      have hfin : OwnD w.heap.size wr (.slice a1 fs.length c1) fs := by
        have h1 := ho.out
        have h2 := hn.out
        rw [List.drop_of_length_le (by rw [HLEN.out]; exact Nat.le_refl _), List.append_nil] at h1
        rw [List.take_length] at h2
        exact ⟨ns, h1, h2⟩
      have HF := Lib.hid hfin
      clear ho hn hfin
      go_wp2
      go_ret
      exact ⟨_, rfl, HF.out, hb.out⟩

end Go.Proofs.Yteeegpojfbgkfaa
