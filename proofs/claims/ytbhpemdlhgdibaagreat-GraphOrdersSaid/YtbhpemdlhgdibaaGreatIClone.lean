/-
  config.copied, config.Restrict and the reference's Restrict: results that are the call's own. Conditions: what comes in reads.
-/
import Derived.Test.YtbhpemdlhgdibaaGreatKH
import Derived.Test.YtbhpemdlhgdibaaGreatKG
namespace Go.Proofs.YtbhpemdlhgdibaaGreat
open Go.RowKit
open JM (Chg)
open CM (Fp)
open VM (Ent)

/-- A configuration of the call's own: its proposals and their changes. -/
def OwnD (base : Nat) (w : World) (v : Value) (fs : List Fp) : Prop := ∃ qs, OwnQ base w v qs ∧ TelO base w qs fs
theorem OwnD.rd {base : Nat} {w : World} {v : Value} {fs : List Fp} (h : OwnD base w v fs) : RdF w v fs := by
  obtain ⟨qs, h1, h2⟩ := h; exact ⟨qs, h1.rd, h2.rd⟩
theorem OwnD.mono {base b2 : Nat} {w : World} {v : Value} {fs : List Fp} (h : OwnD base w v fs) (hle : b2 ≤ base) : OwnD b2 w v fs := by
  obtain ⟨qs, h1, h2⟩ := h; exact ⟨qs, h1.mono hle, h2.mono hle⟩
theorem OwnD.below {base : Nat} {w w' : World} {v : Value} {fs : List Fp} (h : OwnD base w v fs) (hb : Below w.heap.size w w') : OwnD base w' v fs := by
  obtain ⟨qs, h1, h2⟩ := h; exact ⟨qs, h1.below hb, h2.below hb⟩
theorem TelO.keepX {base : Nat} {e : TypeId} {w w' : World} (hk : KeepsX e w w') (he : 62 ≠ e) : ∀ {qs : List Pro} {fs : List Fp}, TelO base w qs fs → TelO base w' qs fs
  | [], [], _ => trivial
  | _ :: _, _ :: _, h => ⟨⟨h.1.1, h.1.2.1, ownG_keep h.1.2.2 hk he⟩, TelO.keepX hk he h.2⟩
  | [], _ :: _, h => h.elim
  | _ :: _, [], h => h.elim
theorem OwnD.keep {base : Nat} {e : TypeId} {w w' : World} {v : Value} {fs : List Fp} (h : OwnD base w v fs) (hk : KeepsX e w w') (h1 : 55 ≠ e) (h2 : 62 ≠ e) : OwnD base w' v fs := by
  obtain ⟨qs, g1, g2⟩ := h; exact ⟨qs, ownG_keep g1 hk h1, g2.keepX hk h2⟩
theorem OwnF.keep {w0 : World} {base : Nat} {e : TypeId} {w w' : World} {v : Value} {fs : List Fp} (h : OwnF w0 base w v fs) (hk : KeepsX e w w') (h1 : 55 ≠ e) : OwnF w0 base w' v fs := by
  obtain ⟨qs, g1, g2⟩ := h; exact ⟨qs, ownG_keep g1 hk h1, g2⟩

set_option maxRecDepth 100000 in
set_option maxHeartbeats 2000000 in
theorem gCopiedO (v : Value) (fs : List Fp) (w : World) (h : RdF w v fs) (hl : fs.length ≤ 1073741824) (hcl : ∀ f ∈ fs, f.2.2.length ≤ 1073741824) :
    Calls Tryz.prog 77 #[v] w fun e w' => ∃ v', e = .returned v' ∧ OwnD w.heap.size w' v' fs ∧ Below w.heap.size w w' := by
  obtain ⟨qs, hq, ht⟩ := h
  have hlen := ht.len
  have HC := Lib.hid (gCloneQ v qs w hq (by rw [hlen]; exact hl))
  have HT := Lib.hid ht
  have HCL := Lib.hid hcl
  obtain ⟨a, c, rfl, _, _⟩ := hq.shape
  rw [hlen] at HC ⊢
  have HLEN := Lib.hid hlen
  clear hq ht hcl hlen
  go_enter Tryz.func77, Tryz.ntmps77
  go_wp2_with fail
  refine HC.out.mono ?_
  rintro e w1 ⟨v1, rfl, ho1, hb1⟩
  obtain ⟨a1, c1, rfl, hc1, _⟩ := ho1.rd.shape
  rw [HLEN.out] at ho1 ⊢
  have HO1 := Lib.hid ho1
  have HB1 := Lib.hid hb1
  clear ho1 hb1 HC
  go_wp2
  go_loopw [10] (fun i wr => ∃ (k : Nat) (ns : List Pro), k ≤ fs.length ∧ i = .int .i64 k ∧ Hid (ns.length = k) ∧ Hid (OwnQ w.heap.size wr (.slice a1 fs.length c1) (ns ++ qs.drop k)) ∧ Hid (TelO w.heap.size wr ns (fs.take k)) ∧ Hid (Below w.heap.size w wr)) (fun i _ => fs.length - (intOf i).toNat)
  case atStart => exact ⟨0, [], Nat.zero_le _, rfl, rfl, HO1.out, trivial, HB1.out⟩
  case round =>
    obtain ⟨k, ns, hk, rfl, hns, ho, hn, hb⟩ := hrel
    clear HO1 HB1
    by_cases hlt : k < fs.length
    · have hq : (k : Int) < (fs.length : Int) := by omega
      have hk2 := List.getElem?_eq_getElem hlt
      generalize fs[k] = f at hk2
      obtain ⟨x, m, cs⟩ := f
      obtain ⟨q, hq2, t1, t2, t3⟩ := HT.out.get hk2
      obtain ⟨x', m', da, dl, dc⟩ := q
      simp only at t1 t2
      subst t1 t2
      have t3 : RdC w (.slice da dl dc) cs := t3
      have hqd := Lib.hid (drop_get (List.getElem?_eq_some_iff.1 hq2).1)
      rw [(List.getElem?_eq_some_iff.1 hq2).2] at hqd
      have hkk : (ns ++ qs.drop k)[k]? = some (x', m', da, dl, dc) := by
        rw [hqd.out, List.getElem?_append_right (by rw [hns.out]; exact Nat.le_refl _), hns.out, Nat.sub_self]; rfl
      have hll : (ns ++ qs.drop k).length = fs.length := by rw [List.length_append, List.length_drop, hns.out, HLEN.out]; omega
      have hap := ho.out.at_put proE hkk
      obtain ⟨g, o, aa, cc, hv, hi, hg1, hg2, hcell, _⟩ := hap
      rw [hll] at hv hi
      cases hv
      have c0 : wr.cell? ⟨g, o, none⟩ = some (.int .i64 x') := (hcell 0 _ rfl).1
      have c1' := (hcell 1 _ rfl).1
      have c2 := (hcell 2 _ rfl).1
      have hbx := below_fresh wr (.cells #[.int .i64 x', .int .i64 m', .slice da dl dc] 55)
      have hpx := PBox.fresh wr x' m' (.slice da dl dc)
      obtain ⟨wx, hwx⟩ : ∃ wx, wr.alloc (.cells #[.int .i64 x', .int .i64 m', .slice da dl dc] 55) = wx := ⟨_, rfl⟩
      rw [hwx] at hbx hpx
      have HCC := Lib.hid (gCloneC (.slice da dl dc) cs wx ((t3.below hb.out).below hbx) (HCL.out _ (List.mem_of_getElem? hk2)))
      have HWX := Lib.hid hwx
      have HBX := Lib.hid (bnext hb.out hbx)
      have HOX := Lib.hid (ho.out.below hbx)
      have HNX := Lib.hid (hn.out.below hbx)
      have HI := Lib.hid hi
      have HTK := Lib.hid (take_snocF hk2)
      obtain ⟨p0, p1, p2⟩ := hpx
      have HKK := Lib.hid hkk
      have HLL := Lib.hid hll
      clear hbx hwx ho hn hb hk2 hq2 t3 hkk hll hcell
      go_wp2_with fail
      rw [HWX.out]
      refine HCC.out.mono ?_
      rintro e w2 ⟨v2, rfl, ho2, hb2⟩
      obtain ⟨a2, c2', rfl, _, _⟩ := ho2.rd.shape
      have hap := (HOX.out.below hb2).at_put proE HKK.out
      obtain ⟨g', o', aa, cc, hv, hi2, hg1', hg2', hcell, hput⟩ := hap
      rw [HLL.out] at hv hi2 hput
      cases hv
      have he := (hi w2).symm.trans (hi2 w2)
      have hgg : g = g' ∧ o = o' := by
        injection he with h1 h2
        injection h1 with h1
        injection h1 with h1
        injection h1 with h1 h3
        exact ⟨h1, h3⟩
      obtain ⟨rfl, rfl⟩ := hgg
      have d2 := hcell 2 _ rfl
      obtain ⟨d2, f2⟩ := d2
      obtain ⟨ho3, hb3, hk3⟩ := hput 2 (x', m', a2, cs.length, c2') (.slice a2 cs.length c2') (by decide) rfl
      have HO3 := Lib.hid (show OwnQ w.heap.size (w2.setCell ⟨g, o + 2, none⟩ (.slice a2 cs.length c2')) (.slice a1 fs.length c1) ((ns ++ [(x', m', a2, cs.length, c2')]) ++ qs.drop (k + 1)) by
        rw [hqd.out, set_mid hns.out] at ho3; exact ho3)
      have HN3 := Lib.hid (show TelO w.heap.size (w2.setCell ⟨g, o + 2, none⟩ (.slice a2 cs.length c2')) (ns ++ [(x', m', a2, cs.length, c2')]) (fs.take (k + 1)) by
        rw [HTK.out]
        exact TelO.snoc ⟨rfl, rfl, ownG_keep (ho2.mono HBX.out.size) hk3 (by decide)⟩ ((HNX.out.below hb2).keep hk3))
      have HB3 := Lib.hid ((HBX.out.trans (hb2.mono HBX.out.size)).trans hb3)
      have HNS := Lib.hid (show (ns ++ [(x', m', a2, cs.length, c2')]).length = k + 1 by rw [List.length_append, hns.out]; rfl)
      clear hi2 hcell hput ho3 hb3 hk3 HOX HNX HBX HWX HCC p0 p1 p2 c0 c1' c2 he ho2 hb2 HI HTK HKK HLL hns hqd
      go_wp2
      go_roundw
      case rel => exact ⟨k + 1, _, by omega, by go_num, HNS, HO3, HN3, HB3⟩
      case measure => simp [intOf]; omega
    · have hq : ¬ ((k : Int) < (fs.length : Int)) := by omega
      obtain rfl : k = fs.length := by omega
      have hfin : OwnD w.heap.size wr (.slice a1 fs.length c1) fs := by
        have h1 := ho.out
        have h2 := hn.out
        rw [List.drop_of_length_le (by rw [HLEN.out]; exact Nat.le_refl _), List.append_nil] at h1
        rw [List.take_length] at h2
        exact ⟨ns, h1, h2⟩
      have HF := Lib.hid hfin
      clear ho hn hfin
      go_wp2
      go_ret
      exact ⟨_, rfl, HF.out, hb.out⟩

set_option maxRecDepth 100000 in
set_option maxHeartbeats 4000000 in
theorem gRestrictO (va vb : Value) (fs : List Fp) (vs : List Ent) (w : World) (h : RdF w va fs) (hb : VX.RdV w vb vs) (hval : VM.Val 0 vs) (hlv : vs.length ≤ 1000) (hl : fs.length ≤ 1000) (hcl : ∀ f ∈ fs, f.2.2.length ≤ 1073741824) :
    Calls Tryz.prog 60 #[va, vb] w fun e w' => ∃ v', e = .returned v' ∧ OwnD w.heap.size w' v' (CM.rs fs (VM.cnt vs)) ∧ Below w.heap.size w w' := by
  obtain ⟨ad, cp, rfl, hc, _⟩ := h.shape
  have H := Lib.hid h
  have HL := Lib.hid hl
  have HCL := Lib.hid hcl
  have HG := Lib.hid (fun x w' (hh : Below w.heap.size w w') => VX.wGet vb vs x w' (hb.below hh) hval hlv)
  clear h hl hcl hb hval hlv
  go_enter Tryz.func60, Tryz.ntmps60
  go_wp2
  go_loopw [5, 10] (fun u i wr => ∃ k : Nat, k ≤ fs.length ∧ i = .int .i64 k ∧ Hid (OwnF w w.heap.size wr u (CM.rs (fs.take k) (VM.cnt vs))) ∧ Hid (Below w.heap.size w wr)) (fun _ i _ => fs.length - (intOf i).toNat)
  case atStart => exact ⟨0, Nat.zero_le _, rfl, OwnF.nil _ _ _, Below.refl _ _⟩
  case round =>
    obtain ⟨k, hk, rfl, ho, hbl⟩ := hrel
    by_cases hlt : k < fs.length
    · have hq : (k : Int) < (fs.length : Int) := by omega
      have hk2 := List.getElem?_eq_getElem hlt
      generalize fs[k] = f at hk2
      have hnext := rs_snoc (fs.take k) f (VM.cnt vs)
      rw [← take_snocF hk2] at hnext
      obtain ⟨x, m, cs⟩ := f
      simp only at hnext
      obtain ⟨b, o, da, dl, dc, hi, hbw, c0, c1, c2, hrd⟩ := H.out.at_ k x m cs hk2
      have HT1 := Lib.hid (show Tell1 w (x, m, da, dl, dc) (x, m, cs) from ⟨rfl, rfl, hrd⟩)
      have c0 := below_cell hbl.out c0
      have c1 := below_cell hbl.out c1
      have c2 := below_cell hbl.out c2
      have hbw : b < wr.heap.size := Nat.lt_of_lt_of_le hbw hbl.out.size
      have hbx := below_fresh wr (.cells #[.int .i64 x, .int .i64 m, .slice da dl dc] 55)
      have hpx := PBox.fresh wr x m (.slice da dl dc)
      have hlx : wr.heap.size < (wr.alloc (.cells #[.int .i64 x, .int .i64 m, .slice da dl dc] 55)).heap.size := by rw [World.size_alloc]; exact Nat.lt_succ_self _
      obtain ⟨wx, hwx⟩ : ∃ wx, wr.alloc (.cells #[.int .i64 x, .int .i64 m, .slice da dl dc] 55) = wx := ⟨_, rfl⟩
      rw [hwx] at hbx hpx hlx
      obtain ⟨uq, hu1, hu2, hu3⟩ := (ho.out.below hbx).out
      have hlu : uq.length ≤ 1073741824 := by
        have h1 := CM.rs_len (fs.take k) (VM.cnt vs)
        rw [List.length_take] at h1
        have := HL.out
        omega
      have HTU := Lib.hid hu2
      have HWX := Lib.hid hwx
      have HBX := Lib.hid (bnext hbl.out hbx)
      have hG := fun p : Later wx => Calls.later (HG.out x p.val (bnext HBX.out p.h))
      generalize VM.cnt vs x = N at hnext hG
      have HGC := Lib.hid hG
      have z0 : ∀ p : Later wx, p.val.cell? ⟨wr.heap.size, 0, none⟩ = some (.int .i64 x) := fun p => below_cell p.h hpx.1
      have z1 : ∀ p : Later wx, p.val.cell? ⟨wr.heap.size, 1, none⟩ = some (.int .i64 m) := fun p => below_cell p.h hpx.2.1
      have HPX := Lib.hid hpx
      have HNX := Lib.hid hnext
      clear hbx hpx hwx hu2 hu3 hnext hG hk2 hrd ho hbl
      by_cases hm : m ≤ N
      · have HNX2 := Lib.hid (HNX.out.trans (by rw [if_pos hm]))
        clear HNX
        go_wp2
        rw [HWX.out]
        clear c0 c1 c2 hi hbw HWX
        refine wp_region_later (by kernel_rfl) (by kernel_rfl) ?_
        repeat (go_big_quiet_step (first | (go_at_call 75; with_reducible exact HGC.out _)))
        refine wpQuiet_nil ?_
        rintro _ ⟨p', rfl⟩
        have hh := p'.h
        obtain ⟨w2, hw2⟩ : ∃ w2, w2 = p'.val := ⟨_, rfl⟩
        rw [← hw2] at hh ⊢
        clear hw2 z0 z1 HGC
        have hu2 := hu1.below hh
        have HB2 := Lib.hid (bnext HBX.out hh)
        obtain ⟨p0, p1, p2⟩ := HPX.out.below hh
        have hs2 : wr.heap.size < w2.heap.size := Nat.lt_of_lt_of_le hlx hh.size
        have hsz := HB2.out.size
        clear hu1 hh HPX HBX hlx
        go_wp2_with (at_builtin; refine wp_appG1' proE (x, m, da, dl, dc) _ rfl rfl _ _ rfl rfl hu2 rfl hlu hsz ?_)
        intro v3 w3 ho3 hb3 _
        have HO3 := Lib.hid (show OwnF w w.heap.size w3 v3 (CM.rs (fs.take (k + 1)) (VM.cnt vs)) by rw [HNX2.out]; exact OwnF.snoc ho3 HTU.out HT1.out)
        have HB3 := Lib.hid (HB2.out.trans hb3)
        clear ho3 hb3 hu2 HTU HT1 p0 p1 p2 HB2 hs2 hsz HNX2
        go_wp2
        go_roundw
        case rel => exact ⟨k + 1, by omega, by go_num, HO3, HB3⟩
        case measure => simp [intOf]; omega
      · have HNX2 := Lib.hid (HNX.out.trans (by rw [if_neg hm, List.append_nil]))
        have hm' : decide (m ≤ N) = false := decide_eq_false hm
        clear HNX
        go_wp2
        rw [HWX.out]
        clear c0 c1 c2 hi hbw HWX
        refine wp_region_later (by kernel_rfl) (by kernel_rfl) ?_
        repeat (go_big_quiet_step (first | (go_at_call 75; with_reducible exact HGC.out _)))
        refine wpQuiet_nil ?_
        rintro _ ⟨p', rfl⟩
        have HO3 := Lib.hid (show OwnF w w.heap.size p'.val _ (CM.rs (fs.take (k + 1)) (VM.cnt vs)) by rw [HNX2.out]; exact ⟨uq, hu1.below p'.h, HTU.out⟩)
        have HB3 := Lib.hid (bnext HBX.out p'.h)
        generalize p'.val = w3 at HO3 HB3 ⊢
        clear z0 z1 HGC HNX2 hu1 HTU HPX HBX hlx
        go_wp2
        go_roundw
        case rel => exact ⟨k + 1, by omega, by go_num, HO3, HB3⟩
        case measure => simp [intOf]; omega
    · have hq : ¬ ((k : Int) < (fs.length : Int)) := by omega
      obtain rfl : k = fs.length := by omega
      rw [List.take_length] at ho
      have HCO := Lib.hid (gCopiedO _ _ wr (ho.out.rd hbl.out) (by have := CM.rs_len fs (VM.cnt vs); have := HL.out; omega) (fun f hf => HCL.out f (CM.rs_mem.1 hf).1))
      go_wp2_with fail
      refine HCO.out.mono ?_
      rintro e w3 ⟨v3, rfl, hr3, hb3⟩
      have HR3 := Lib.hid (hr3.mono hbl.out.size)
      have HB3 := Lib.hid (bnext hbl.out hb3)
      clear hr3 HCO ho hbl hb3
      go_wp2
      go_ret
      exact ⟨_, rfl, HR3.out, HB3.out⟩

set_option maxRecDepth 100000 in
set_option maxHeartbeats 4000000 in
theorem rRestrictO (va vb : Value) (fs : List Fp) (vs : List Ent) (w0 w : World) (h : RdF w0 va fs) (hb0 : Below w0.heap.size w0 w) (hb : VX.RdV w vb vs) (hl : fs.length ≤ 1000) :
    Calls Tryz.prog 35 #[va, vb] w fun e w' => ∃ v', e = .returned v' ∧ OwnF w0 w.heap.size w' v' (CM.rs fs (VM.cnt vs)) ∧ Below w.heap.size w w' := by
  obtain ⟨ad, cp, rfl, hc, _⟩ := h.shape
  have H := Lib.hid h
  have HB0 := Lib.hid hb0
  have HL := Lib.hid hl
  have HG := Lib.hid (fun x w' (hh : Below w.heap.size w w') => VX.rCount vb vs x w' (hb.below hh))
  clear h hl hb hb0
  go_enter Tryz.func35, Tryz.ntmps35
  go_wp2
  go_loopw [5, 6] (fun u i wr => ∃ k : Nat, k ≤ fs.length ∧ i = .int .i64 k ∧ Hid (OwnF w0 w.heap.size wr u (CM.rs (fs.take k) (VM.cnt vs))) ∧ Hid (Below w.heap.size w wr)) (fun _ i _ => fs.length - (intOf i).toNat)
  case atStart => exact ⟨0, Nat.zero_le _, rfl, OwnF.nil _ _ _, Below.refl _ _⟩
  case round =>
    obtain ⟨k, hk, rfl, ho, hbl⟩ := hrel
    by_cases hlt : k < fs.length
    · have hq : (k : Int) < (fs.length : Int) := by omega
      have hk2 := List.getElem?_eq_getElem hlt
      generalize fs[k] = f at hk2
      have hnext := rs_snoc (fs.take k) f (VM.cnt vs)
      rw [← take_snocF hk2] at hnext
      obtain ⟨x, m, cs⟩ := f
      simp only at hnext
      obtain ⟨b, o, da, dl, dc, hi, hbw, c0, c1, c2, hrd⟩ := H.out.at_ k x m cs hk2
      have HT1 := Lib.hid (show Tell1 w0 (x, m, da, dl, dc) (x, m, cs) from ⟨rfl, rfl, hrd⟩)
      have c0 := below_cell (bnext HB0.out hbl.out) c0
      have c1 := below_cell (bnext HB0.out hbl.out) c1
      have c2 := below_cell (bnext HB0.out hbl.out) c2
      have hbw : b < wr.heap.size := Nat.lt_of_lt_of_le hbw (bnext HB0.out hbl.out).size
      obtain ⟨uq, hu1, hu2, hu3⟩ := ho.out.out
      have hlu : uq.length ≤ 1073741824 := by
        have h1 := CM.rs_len (fs.take k) (VM.cnt vs)
        rw [List.length_take] at h1
        have := HL.out
        omega
      have HTU := Lib.hid hu2
      have HBX := Lib.hid hbl.out
      have hG := fun p : Later wr => Calls.later_same (HG.out x p.val (bnext HBX.out p.h))
      generalize VM.cnt vs x = N at hnext hG
      have HGC := Lib.hid hG
      have k0 : ∀ p : Later wr, p.val.cell? ⟨b, o, none⟩ = some (.int .i64 x) := fun p => below_cell p.h c0
      have k1 : ∀ p : Later wr, p.val.cell? ⟨b, o + 1, none⟩ = some (.int .i64 m) := fun p => below_cell p.h c1
      have HNX := Lib.hid hnext
      clear hu2 hu3 hnext hG hk2 hrd ho hbl
      by_cases hm : m ≤ N
      · have HNX2 := Lib.hid (HNX.out.trans (by rw [if_pos hm]))
        clear HNX
        go_wp2
        refine wp_region_later (by kernel_rfl) (by kernel_rfl) ?_
        repeat (go_big_quiet_step (first | (go_at_call 56; with_reducible exact HGC.out _)))
        refine wpQuiet_nil ?_
        rintro _ ⟨p', rfl⟩
        have hh := p'.h
        obtain ⟨w2, hw2⟩ : ∃ w2, w2 = p'.val := ⟨_, rfl⟩
        rw [← hw2] at hh ⊢
        clear hw2 k0 k1 HGC
        have hu2 := hu1.below hh
        have HB2 := Lib.hid (bnext HBX.out hh)
        have c0 := below_cell hh c0
        have c1 := below_cell hh c1
        have c2 := below_cell hh c2
        have hbw : b < w2.heap.size := Nat.lt_of_lt_of_le hbw hh.size
        have hsz := HB2.out.size
        clear hu1 hh HBX
        go_wp2_with (at_builtin; refine wp_appG1' proE (x, m, da, dl, dc) _ rfl rfl _ _ rfl rfl hu2 rfl hlu hsz ?_)
        intro v3 w3 ho3 hb3 _
        have HO3 := Lib.hid (show OwnF w0 w.heap.size w3 v3 (CM.rs (fs.take (k + 1)) (VM.cnt vs)) by rw [HNX2.out]; exact OwnF.snoc ho3 HTU.out HT1.out)
        have HB3 := Lib.hid (HB2.out.trans hb3)
        clear ho3 hb3 hu2 HTU HT1 c0 c1 c2 HB2 hsz HNX2
        go_wp2
        go_roundw
        case rel => exact ⟨k + 1, by omega, by go_num, HO3, HB3⟩
        case measure => simp [intOf]; omega
      · have HNX2 := Lib.hid (HNX.out.trans (by rw [if_neg hm, List.append_nil]))
        have hm' : decide (m ≤ N) = false := decide_eq_false hm
        clear HNX
        go_wp2
        refine wp_region_later (by kernel_rfl) (by kernel_rfl) ?_
        repeat (go_big_quiet_step (first | (go_at_call 56; with_reducible exact HGC.out _)))
        refine wpQuiet_nil ?_
        rintro _ ⟨p', rfl⟩
        have HO3 := Lib.hid (show OwnF w0 w.heap.size p'.val _ (CM.rs (fs.take (k + 1)) (VM.cnt vs)) by rw [HNX2.out]; exact ⟨uq, hu1.below p'.h, HTU.out⟩)
        have HB3 := Lib.hid (bnext HBX.out p'.h)
        generalize p'.val = w3 at HO3 HB3 ⊢
        clear k0 k1 HGC HNX2 hu1 HTU HBX c0 c1 c2
        go_wp2
        go_roundw
        case rel => exact ⟨k + 1, by omega, by go_num, HO3, HB3⟩
        case measure => simp [intOf]; omega
    · have hq : ¬ ((k : Int) < (fs.length : Int)) := by omega
      obtain rfl : k = fs.length := by omega
      rw [List.take_length] at ho
      have HR3 := Lib.hid ho.out
      clear ho
      go_wp2
      go_ret
      exact ⟨_, rfl, HR3.out, hbl.out⟩


end Go.Proofs.YtbhpemdlhgdibaaGreat
