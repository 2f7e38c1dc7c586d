/-
  The calls of the laws CertValidate, CertPair: each returns true. Conditions: what comes in reads; the contracts of package cert hold. (Written by mk_hlaws.py.)
-/
import Derived.Test.YtfdgoehfkfdgaaaHLawM
namespace Go.Proofs.Ytfdgoehfkfdgaaa
open Go.RowKit
open JM (Chg)
open CM (Fp)

set_option maxRecDepth 100000 in
set_option maxHeartbeats 8000000 in
theorem lCertValidate (ct : CT) (a b : Value) (f t : List Fp) (w : World) (ha : RdF w a f) (hb : RdF w b t) :
    Calls Try.prog 3 #[cev a b] w fun e w' => e = .returned (.bool true) ∧ Below w.heap.size w w' := by
  obtain ⟨aa, ac, rfl, hac, _⟩ := ha.shape
  obtain ⟨ba, bc, rfl, hbc, _⟩ := hb.shape
  have hb0 := below_fresh w (.cells #[.slice aa f.length ac, .slice ba t.length bc] 25)
  have hX := XB.fresh w (.slice aa f.length ac) (.slice ba t.length bc)
  obtain ⟨w0, hw0⟩ : ∃ w0, w.alloc (.cells #[.slice aa f.length ac, .slice ba t.length bc] 25) = w0 := ⟨_, rfl⟩
  rw [hw0] at hb0 hX
  have HF := Lib.hid (ha.below hb0)
  have HT := Lib.hid (hb.below hb0)
  have HX := Lib.hid hX
  have HB := Lib.hid hb0
  have HW := Lib.hid hw0
  have H1 := Lib.hid (fun w' (h1 : RdF w' (.slice aa f.length ac) f) (h2 : RdF w' (.slice ba t.length bc) t) => ct.validate _ _ f t w' h1 h2)
  have H2 := Lib.hid (fun w' (h1 : RdF w' (.slice aa f.length ac) f) (h2 : RdF w' (.slice ba t.length bc) t) => rValidateCert _ _ f t w' h1 h2)
  generalize CM.errC f t = E at H1 H2
  have he : (E == E) = true := beq_t rfl
  clear ha hb hb0 hX hw0
  by_cases h1 : 30 < f.length
  · have hq : (30 : Int) < (f.length : Int) := by omega
    obtain ⟨x0, x1, _⟩ := HX.out.cells
    go_enter Try.func3, Try.ntmps3
    go_upto_region 1 with fail
    rw [HW.out]
    clear HW
    have hC := cAwake13 ct w0
    have HQ := Lib.hid hC
    clear hC
    go_wp2_with fail
    refine HQ.out.mono ?_
    rintro e w101 ⟨rfl, hb⟩
    clear x0 x1
    replace HX := Lib.hid (HX.out.below hb)
    replace HF := Lib.hid (HF.out.below hb)
    replace HT := Lib.hid (HT.out.below hb)
    replace HB := Lib.hid (bnext HB.out hb)
    obtain ⟨x0, x1, _⟩ := HX.out.cells
    clear hb HQ
    go_wp2
    go_ret
    exact ⟨rfl, HB.out⟩
  have hq1 : ¬ (30 : Int) < (f.length : Int) := by omega
  by_cases h2 : 30 < t.length
  · have hq : (30 : Int) < (t.length : Int) := by omega
    obtain ⟨x0, x1, _⟩ := HX.out.cells
    go_enter Try.func3, Try.ntmps3
    go_upto_region 1 with fail
    rw [HW.out]
    clear HW
    have hC := cAwake13 ct w0
    have HQ := Lib.hid hC
    clear hC
    go_wp2_with fail
    refine HQ.out.mono ?_
    rintro e w101 ⟨rfl, hb⟩
    clear x0 x1
    replace HX := Lib.hid (HX.out.below hb)
    replace HF := Lib.hid (HF.out.below hb)
    replace HT := Lib.hid (HT.out.below hb)
    replace HB := Lib.hid (bnext HB.out hb)
    obtain ⟨x0, x1, _⟩ := HX.out.cells
    clear hb HQ
    go_wp2
    go_ret
    exact ⟨rfl, HB.out⟩
  · have hq2 : ¬ (30 : Int) < (t.length : Int) := by omega
    obtain ⟨x0, x1, _⟩ := HX.out.cells
    go_enter Try.func3, Try.ntmps3
    go_upto_region 1 with fail
    rw [HW.out]
    clear HW
    go_wp2
    clear x0 x1
    refine wp_region_held_drew (S := fun w' => Below w0.heap.size w0 w') (by kernel_rfl) ((Below.refl _ _).drew) (fun ha => ?_)
    replace ha : Below w0.heap.size w0 w0.drew := (Below.refl _ _).drew
    generalize w0.drew = wa at ha ⊢
    refine takeH (i := 0) (v := ?_) rfl (by kernel_rfl) (by kernel_rfl) (by kernel_rfl) (fun _ _ _ h => h) (Or.inl ⟨by rfl, ?_⟩) (by assumption) ?_
    rotate_left
    · (intro w hSw; (try dsimp only at hSw); obtain ⟨hc0, hc1, _⟩ := (HX.out.below hSw).cells; go_simp; first | done | with_reducible rfl)
    (try simp only [Act.put, List.setIfInBounds_toArray, List.set_cons_zero, List.set_cons_succ])
    refine takeH (i := 2) (v := ?_) rfl (by kernel_rfl) (by kernel_rfl) (by kernel_rfl) (fun _ _ _ h => h) (Or.inl ⟨by rfl, ?_⟩) (by assumption) ?_
    rotate_left
    · (intro w hSw; (try dsimp only at hSw); obtain ⟨hc0, hc1, _⟩ := (HX.out.below hSw).cells; go_simp; first | done | with_reducible rfl)
    (try simp only [Act.put, List.setIfInBounds_toArray, List.set_cons_zero, List.set_cons_succ])
    refine wpAnyH_ready (rs := [1]) (by kernel_rfl) (by simp) ?_
    refine stepH rfl (fun K hK => ?_) AllReadyH.nil
    go_simp
    refine (H1.out wa (HF.out.below ha) (HT.out.below ha)).mono ?_
    rintro e wr1 ⟨rfl, hq⟩
    have hr1 := bnext ha hq
    go_wp2_with fail
    refine hK.out _ _ (hr1) (fun _ => ?_)
    clear hK K
    (try simp only [Act.put, List.setIfInBounds_toArray, List.set_cons_zero, List.set_cons_succ])
    refine wpAnyH_ready (rs := [3]) (by kernel_rfl) (by simp) ?_
    refine stepH rfl (fun K hK => ?_) AllReadyH.nil
    go_simp
    refine (H2.out wr1 (HF.out.below hr1) (HT.out.below hr1)).mono ?_
    rintro e wr2 ⟨rfl, hq⟩
    have hr2 := bnext hr1 hq
    go_wp2_with fail
    refine hK.out _ _ (hr2) (fun _ => ?_)
    clear hK K
    (try simp only [Act.put, List.setIfInBounds_toArray, List.set_cons_zero, List.set_cons_succ])
    refine takeH (i := 4) (v := ?_) rfl (by kernel_rfl) (by kernel_rfl) (by kernel_rfl) (fun _ _ _ h => h) (Or.inl ⟨by rfl, ?_⟩) (by assumption) ?_
    rotate_left
    · (intro w hSw; (try dsimp only at hSw); go_simp; first | done | with_reducible rfl)
    (try simp only [Act.put, List.setIfInBounds_toArray, List.set_cons_zero, List.set_cons_succ])
    refine takeH (i := 5) (v := ?_) rfl (by kernel_rfl) (by kernel_rfl) (by kernel_rfl) (fun _ _ _ h => h) (Or.inl ⟨by rfl, ?_⟩) (by assumption) ?_
    rotate_left
    · (intro w hSw; (try dsimp only at hSw); go_simp; first | done | with_reducible rfl)
    (try simp only [Act.put, List.setIfInBounds_toArray, List.set_cons_zero, List.set_cons_succ])
    refine wpAnyH_ready (rs := [6]) (by kernel_rfl) (by simp) ?_
    refine stepH rfl (fun K hK => ?_) AllReadyH.nil
    go_simp
    refine (cAwake13 ct wr2).mono ?_
    rintro e wr3 ⟨rfl, hq⟩
    have hr3 := bnext hr2 hq
    go_wp2_with fail
    refine hK.out _ _ (hr3) (fun _ => ?_)
    clear hK K
    (try simp only [Act.put, List.setIfInBounds_toArray, List.set_cons_zero, List.set_cons_succ])
    refine takeH (i := 7) (v := ?_) rfl (by kernel_rfl) (by kernel_rfl) (by kernel_rfl) (fun _ _ _ h => h) (Or.inl ⟨by rfl, ?_⟩) (by assumption) ?_
    rotate_left
    · (intro w hSw; (try dsimp only at hSw); go_simp; first | done | with_reducible rfl)
    (try simp only [Act.put, List.setIfInBounds_toArray, List.set_cons_zero, List.set_cons_succ])
    refine takeH (i := 8) (v := ?_) rfl (by kernel_rfl) (by kernel_rfl) (by kernel_rfl) (fun _ _ _ h => h) (Or.inl ⟨by rfl, ?_⟩) (by assumption) ?_
    rotate_left
    · (intro w hSw; (try dsimp only at hSw); go_simp; first | done | with_reducible rfl)
    (try simp only [Act.put, List.setIfInBounds_toArray, List.set_cons_zero, List.set_cons_succ])
    refine wpAnyH_done (by kernel_rfl) ?_ _
    have HZ := Lib.hid (bnext HB.out hr3)
    go_wp2
    go_ret
    exact ⟨rfl, HZ.out⟩

set_option maxRecDepth 100000 in
set_option maxHeartbeats 8000000 in
theorem lCertPair (ct : CT) (a b c d : Value) (f t f' t' : List Fp) (w : World) (ha : RdF w a f) (hb : RdF w b t) (hc : RdF w c f') (hd : RdF w d t') :
    Calls Try.prog 4 #[cev a b, cev c d] w fun e w' => e = .returned (.bool true) ∧ Below w.heap.size w w' := by
  obtain ⟨aa, ac, rfl, hac, _⟩ := ha.shape
  obtain ⟨ba, bc, rfl, hbc, _⟩ := hb.shape
  obtain ⟨ca, cc, rfl, hcc, _⟩ := hc.shape
  obtain ⟨da, dc, rfl, hdc, _⟩ := hd.shape
  obtain ⟨w0, hw0, hX, hY, hb0⟩ := twoX w (.slice aa f.length ac) (.slice ba t.length bc) (.slice ca f'.length cc) (.slice da t'.length dc)
  have hfr := below_fresh w0 (.cells #[.slice aa f.length ac, .slice ba t.length bc, .slice ca f'.length cc, .slice da t'.length dc] 25)
  have hg := heap_alloc_new w0 (.cells #[.slice aa f.length ac, .slice ba t.length bc, .slice ca f'.length cc, .slice da t'.length dc] 25)
  obtain ⟨w1, hw1⟩ : ∃ w1, w0.alloc (.cells #[.slice aa f.length ac, .slice ba t.length bc, .slice ca f'.length cc, .slice da t'.length dc] 25) = w1 := ⟨_, rfl⟩
  rw [hw1] at hfr hg
  have hb1 := bnext hb0 hfr
  have HF := Lib.hid (ha.below hb1)
  have HT := Lib.hid (hb.below hb1)
  have HG := Lib.hid (hc.below hb1)
  have HU := Lib.hid (hd.below hb1)
  have HX := Lib.hid (hX.below hfr)
  have HY := Lib.hid (hY.below hfr)
  have HB := Lib.hid hb1
  have HV := Lib.hid (kValidC _ _ w1 (rdCt_two hg HF.out HT.out HG.out HU.out) (by simp))
  have HW := Lib.hid (And.intro hw0 hw1)
  obtain ⟨z0, z1, _⟩ := hX.cells
  obtain ⟨z2, z3, _⟩ := hY.cells
  clear ha hb hc hd hX hY hb0 hb1 hfr hg hw0 hw1
  go_enter Try.func4, Try.ntmps4
  go_upto_region 1 with fail
  rw [HW.out.1]
  go_wp2_with fail
  rw [HW.out.2]
  refine HV.out.mono ?_
  rintro e w2 ⟨⟨R, rfl, hR⟩, hb⟩
  clear z0 z1 z2 z3 HW HV
  replace HX := Lib.hid (HX.out.below hb)
  replace HY := Lib.hid (HY.out.below hb)
  replace HF := Lib.hid (HF.out.below hb)
  replace HT := Lib.hid (HT.out.below hb)
  replace HG := Lib.hid (HG.out.below hb)
  replace HU := Lib.hid (HU.out.below hb)
  replace HB := Lib.hid (bnext HB.out hb)
  clear hb
  cases R
  · clear hR
    obtain ⟨x0, x1, _⟩ := HX.out.cells
    obtain ⟨y0, y1, _⟩ := HY.out.cells
    have hC := cAwake13 ct w2
    have HQ := Lib.hid hC
    clear hC
    go_wp2_with fail
    refine HQ.out.mono ?_
    rintro e w101 ⟨rfl, hb⟩
    clear x0 x1
    clear y0 y1
    replace HX := Lib.hid (HX.out.below hb)
    replace HY := Lib.hid (HY.out.below hb)
    replace HF := Lib.hid (HF.out.below hb)
    replace HT := Lib.hid (HT.out.below hb)
    replace HG := Lib.hid (HG.out.below hb)
    replace HU := Lib.hid (HU.out.below hb)
    replace HB := Lib.hid (bnext HB.out hb)
    obtain ⟨x0, x1, _⟩ := HX.out.cells
    obtain ⟨y0, y1, _⟩ := HY.out.cells
    clear hb HQ
    go_wp2
    go_ret
    exact ⟨rfl, HB.out⟩
  have hgd := gd_of (hR rfl)
  have H1 := Lib.hid (fun w' (g1 : RdF w' (.slice aa f.length ac) f) (g2 : RdF w' (.slice ba t.length bc) t) (g3 : RdF w' (.slice ca f'.length cc) f') (g4 : RdF w' (.slice da t'.length dc) t') => ct.equal _ _ _ _ f t f' t' w' g1 g2 g3 g4)
  have H2 := Lib.hid (fun w' (g1 : RdF w' (.slice aa f.length ac) f) (g2 : RdF w' (.slice ba t.length bc) t) (g3 : RdF w' (.slice ca f'.length cc) f') (g4 : RdF w' (.slice da t'.length dc) t') => rEqualCert _ _ _ _ f t f' t' w' g1 g2 g3 g4)
  generalize (decide (f = f') && decide (t = t')) = P at H1 H2
  have H3 := Lib.hid (fun w' (g1 : RdF w' (.slice aa f.length ac) f) (g2 : RdF w' (.slice ba t.length bc) t) (g3 : RdF w' (.slice ca f'.length cc) f') (g4 : RdF w' (.slice da t'.length dc) t') => ct.newer _ _ _ _ f t f' t' w' g1 g2 g3 g4 hgd)
  have H4 := Lib.hid (fun w' (g1 : RdF w' (.slice aa f.length ac) f) (g2 : RdF w' (.slice ba t.length bc) t) (g3 : RdF w' (.slice ca f'.length cc) f') (g4 : RdF w' (.slice da t'.length dc) t') => rNewerC _ _ _ _ f t f' t' w' g1 g2 g3 g4)
  generalize CM.newr t t' = Q at H3 H4
  have H5 := Lib.hid (fun w' (g1 : RdF w' (.slice aa f.length ac) f) (g2 : RdF w' (.slice ba t.length bc) t) (g3 : RdF w' (.slice ca f'.length cc) f') (g4 : RdF w' (.slice da t'.length dc) t') => ct.latest _ _ _ _ f t f' t' w' g1 g2 g3 g4 hgd)
  have H6 := Lib.hid (fun w' (g1 : RdF w' (.slice aa f.length ac) f) (g2 : RdF w' (.slice ba t.length bc) t) (g3 : RdF w' (.slice ca f'.length cc) f') (g4 : RdF w' (.slice da t'.length dc) t') => rLatestE _ _ _ _ f t f' t' w' g1 g2 g3 g4)
  generalize CM.latF f t f' t' = f2 at H5 H6
  generalize CM.latT t t' = t2 at H5 H6
  have H7 := Lib.hid (fun w' (g1 : RdF w' (.slice aa f.length ac) f) (g2 : RdF w' (.slice ba t.length bc) t) (g3 : RdF w' (.slice ca f'.length cc) f') (g4 : RdF w' (.slice da t'.length dc) t') => ct.start _ _ _ _ f t f' t' w' g1 g2 g3 g4 hgd)
  have H8 := Lib.hid (fun w' (g1 : RdF w' (.slice aa f.length ac) f) (g2 : RdF w' (.slice ba t.length bc) t) (g3 : RdF w' (.slice ca f'.length cc) f') (g4 : RdF w' (.slice da t'.length dc) t') => rStartE _ _ _ _ f t f' t' w' g1 g2 g3 g4)
  generalize CM.strt f t t' = s2 at H7 H8
  have H9 := Lib.hid (fun a b c d w' (g1 : RdF w' a f2) (g2 : RdF w' b t2) (g3 : RdF w' c f2) (g4 : RdF w' d t2) => (show Calls Try.prog 14 #[cev a b, cev c d] w' fun e w'' => e = .returned (.bool true) ∧ Below w'.heap.size w' w'' from by
    have h := rEqualCert a b c d f2 t2 f2 t2 w' g1 g2 g3 g4
    rw [decide_eq_true rfl, decide_eq_true rfl] at h
    exact h))
  have H10 := Lib.hid (fun a b w' (g1 : RdF w' a s2) (g2 : RdF w' b s2) => (show Calls Try.prog 19 #[a, b] w' fun e w'' => e = .returned (.bool true) ∧ Below w'.heap.size w' w'' from by
    have h := rEqualConfig a b s2 s2 w' g1 g2
    rw [decide_eq_true rfl] at h
    exact h))
  have heP : (P == P) = true := by cases P <;> rfl
  have heQ : (Q == Q) = true := by cases Q <;> rfl
  clear hgd hR
  obtain ⟨x0, x1, _⟩ := HX.out.cells
  obtain ⟨y0, y1, _⟩ := HY.out.cells
  go_wp2
  clear x0 x1
  clear y0 y1
  refine wp_region_held_drew (S := fun w' => Below w2.heap.size w2 w') (by kernel_rfl) ((Below.refl _ _).drew) (fun ha => ?_)
  replace ha : Below w2.heap.size w2 w2.drew := (Below.refl _ _).drew
  generalize w2.drew = wa at ha ⊢
  refine takeH (i := 0) (v := ?_) rfl (by kernel_rfl) (by kernel_rfl) (by kernel_rfl) (fun _ _ _ h => h) (Or.inl ⟨by rfl, ?_⟩) (by assumption) ?_
  rotate_left
  · (intro w hSw; (try dsimp only at hSw); obtain ⟨hc0, hc1, _⟩ := (HX.out.below hSw).cells; go_simp; first | done | with_reducible rfl)
  (try simp only [Act.put, List.setIfInBounds_toArray, List.set_cons_zero, List.set_cons_succ])
  refine takeH (i := 1) (v := ?_) rfl (by kernel_rfl) (by kernel_rfl) (by kernel_rfl) (fun _ _ _ h => h) (Or.inl ⟨by rfl, ?_⟩) (by assumption) ?_
  rotate_left
  · (intro w hSw; (try dsimp only at hSw); obtain ⟨hc0, hc1, _⟩ := (HY.out.below hSw).cells; go_simp; first | done | with_reducible rfl)
  (try simp only [Act.put, List.setIfInBounds_toArray, List.set_cons_zero, List.set_cons_succ])
  refine takeH (i := 3) (v := ?_) rfl (by kernel_rfl) (by kernel_rfl) (by kernel_rfl) (fun _ _ _ h => h) (Or.inl ⟨by rfl, ?_⟩) (by assumption) ?_
  rotate_left
  · (intro w hSw; (try dsimp only at hSw); obtain ⟨hc0, hc1, _⟩ := (HX.out.below hSw).cells; go_simp; first | done | with_reducible rfl)
  (try simp only [Act.put, List.setIfInBounds_toArray, List.set_cons_zero, List.set_cons_succ])
  refine takeH (i := 4) (v := ?_) rfl (by kernel_rfl) (by kernel_rfl) (by kernel_rfl) (fun _ _ _ h => h) (Or.inl ⟨by rfl, ?_⟩) (by assumption) ?_
  rotate_left
  · (intro w hSw; (try dsimp only at hSw); obtain ⟨hc0, hc1, _⟩ := (HY.out.below hSw).cells; go_simp; first | done | with_reducible rfl)
  (try simp only [Act.put, List.setIfInBounds_toArray, List.set_cons_zero, List.set_cons_succ])
  refine wpAnyH_ready (rs := [2]) (by kernel_rfl) (by simp) ?_
  refine stepH rfl (fun K hK => ?_) AllReadyH.nil
  go_simp
  refine (H1.out wa (HF.out.below ha) (HT.out.below ha) (HG.out.below ha) (HU.out.below ha)).mono ?_
  rintro e wr1 ⟨rfl, hq⟩
  have hr1 := bnext ha hq
  go_wp2_with fail
  refine hK.out _ _ (hr1) (fun _ => ?_)
  clear hK K
  (try simp only [Act.put, List.setIfInBounds_toArray, List.set_cons_zero, List.set_cons_succ])
  refine wpAnyH_ready (rs := [5]) (by kernel_rfl) (by simp) ?_
  refine stepH rfl (fun K hK => ?_) AllReadyH.nil
  go_simp
  refine (H2.out wr1 (HF.out.below hr1) (HT.out.below hr1) (HG.out.below hr1) (HU.out.below hr1)).mono ?_
  rintro e wr2 ⟨rfl, hq⟩
  have hr2 := bnext hr1 hq
  go_wp2_with fail
  refine hK.out _ _ (hr2) (fun _ => ?_)
  clear hK K
  (try simp only [Act.put, List.setIfInBounds_toArray, List.set_cons_zero, List.set_cons_succ])
  refine takeH (i := 6) (v := ?_) rfl (by kernel_rfl) (by kernel_rfl) (by kernel_rfl) (fun _ _ _ h => h) (Or.inl ⟨by rfl, ?_⟩) (by assumption) ?_
  rotate_left
  · (intro w hSw; (try dsimp only at hSw); go_simp; first | done | with_reducible rfl)
  (try simp only [Act.put, List.setIfInBounds_toArray, List.set_cons_zero, List.set_cons_succ])
  refine takeH (i := 7) (v := ?_) rfl (by kernel_rfl) (by kernel_rfl) (by kernel_rfl) (fun _ _ _ h => h) (Or.inl ⟨by rfl, ?_⟩) (by assumption) ?_
  rotate_left
  · (intro w hSw; (try dsimp only at hSw); go_simp; first | done | with_reducible rfl)
  (try simp only [Act.put, List.setIfInBounds_toArray, List.set_cons_zero, List.set_cons_succ])
  refine takeH (i := 8) (v := ?_) rfl (by kernel_rfl) (by kernel_rfl) (by kernel_rfl) (fun _ _ _ h => h) (Or.inl ⟨by rfl, ?_⟩) (by assumption) ?_
  rotate_left
  · (intro w hSw; (try dsimp only at hSw); obtain ⟨hc0, hc1, _⟩ := (HX.out.below hSw).cells; go_simp; first | done | with_reducible rfl)
  (try simp only [Act.put, List.setIfInBounds_toArray, List.set_cons_zero, List.set_cons_succ])
  refine takeH (i := 9) (v := ?_) rfl (by kernel_rfl) (by kernel_rfl) (by kernel_rfl) (fun _ _ _ h => h) (Or.inl ⟨by rfl, ?_⟩) (by assumption) ?_
  rotate_left
  · (intro w hSw; (try dsimp only at hSw); obtain ⟨hc0, hc1, _⟩ := (HY.out.below hSw).cells; go_simp; first | done | with_reducible rfl)
  (try simp only [Act.put, List.setIfInBounds_toArray, List.set_cons_zero, List.set_cons_succ])
  refine takeH (i := 11) (v := ?_) rfl (by kernel_rfl) (by kernel_rfl) (by kernel_rfl) (fun _ _ _ h => h) (Or.inl ⟨by rfl, ?_⟩) (by assumption) ?_
  rotate_left
  · (intro w hSw; (try dsimp only at hSw); obtain ⟨hc0, hc1, _⟩ := (HX.out.below hSw).cells; go_simp; first | done | with_reducible rfl)
  (try simp only [Act.put, List.setIfInBounds_toArray, List.set_cons_zero, List.set_cons_succ])
  refine takeH (i := 12) (v := ?_) rfl (by kernel_rfl) (by kernel_rfl) (by kernel_rfl) (fun _ _ _ h => h) (Or.inl ⟨by rfl, ?_⟩) (by assumption) ?_
  rotate_left
  · (intro w hSw; (try dsimp only at hSw); obtain ⟨hc0, hc1, _⟩ := (HY.out.below hSw).cells; go_simp; first | done | with_reducible rfl)
  (try simp only [Act.put, List.setIfInBounds_toArray, List.set_cons_zero, List.set_cons_succ])
  refine wpAnyH_ready (rs := [10]) (by kernel_rfl) (by simp) ?_
  refine stepH rfl (fun K hK => ?_) AllReadyH.nil
  go_simp
  refine (H3.out wr2 (HF.out.below hr2) (HT.out.below hr2) (HG.out.below hr2) (HU.out.below hr2)).mono ?_
  rintro e wr3 ⟨rfl, hq⟩
  have hr3 := bnext hr2 hq
  go_wp2_with fail
  refine hK.out _ _ (hr3) (fun _ => ?_)
  clear hK K
  (try simp only [Act.put, List.setIfInBounds_toArray, List.set_cons_zero, List.set_cons_succ])
  refine wpAnyH_ready (rs := [13]) (by kernel_rfl) (by simp) ?_
  refine stepH rfl (fun K hK => ?_) AllReadyH.nil
  go_simp
  refine (H4.out wr3 (HF.out.below hr3) (HT.out.below hr3) (HG.out.below hr3) (HU.out.below hr3)).mono ?_
  rintro e wr4 ⟨rfl, hq⟩
  have hr4 := bnext hr3 hq
  go_wp2_with fail
  refine hK.out _ _ (hr4) (fun _ => ?_)
  clear hK K
  (try simp only [Act.put, List.setIfInBounds_toArray, List.set_cons_zero, List.set_cons_succ])
  refine takeH (i := 14) (v := ?_) rfl (by kernel_rfl) (by kernel_rfl) (by kernel_rfl) (fun _ _ _ h => h) (Or.inl ⟨by rfl, ?_⟩) (by assumption) ?_
  rotate_left
  · (intro w hSw; (try dsimp only at hSw); go_simp; first | done | with_reducible rfl)
  (try simp only [Act.put, List.setIfInBounds_toArray, List.set_cons_zero, List.set_cons_succ])
  refine takeH (i := 15) (v := ?_) rfl (by kernel_rfl) (by kernel_rfl) (by kernel_rfl) (fun _ _ _ h => h) (Or.inl ⟨by rfl, ?_⟩) (by assumption) ?_
  rotate_left
  · (intro w hSw; (try dsimp only at hSw); go_simp; first | done | with_reducible rfl)
  (try simp only [Act.put, List.setIfInBounds_toArray, List.set_cons_zero, List.set_cons_succ])
  refine takeH (i := 16) (v := ?_) rfl (by kernel_rfl) (by kernel_rfl) (by kernel_rfl) (fun _ _ _ h => h) (Or.inl ⟨by rfl, ?_⟩) (by assumption) ?_
  rotate_left
  · (intro w hSw; (try dsimp only at hSw); go_simp; first | done | with_reducible rfl)
  (try simp only [Act.put, List.setIfInBounds_toArray, List.set_cons_zero, List.set_cons_succ])
  refine takeH (i := 17) (v := ?_) rfl (by kernel_rfl) (by kernel_rfl) (by kernel_rfl) (fun _ _ _ h => h) (Or.inl ⟨by rfl, ?_⟩) (by assumption) ?_
  rotate_left
  · (intro w hSw; (try dsimp only at hSw); obtain ⟨hc0, hc1, _⟩ := (HX.out.below hSw).cells; go_simp; first | done | with_reducible rfl)
  (try simp only [Act.put, List.setIfInBounds_toArray, List.set_cons_zero, List.set_cons_succ])
  refine takeH (i := 18) (v := ?_) rfl (by kernel_rfl) (by kernel_rfl) (by kernel_rfl) (fun _ _ _ h => h) (Or.inl ⟨by rfl, ?_⟩) (by assumption) ?_
  rotate_left
  · (intro w hSw; (try dsimp only at hSw); obtain ⟨hc0, hc1, _⟩ := (HY.out.below hSw).cells; go_simp; first | done | with_reducible rfl)
  (try simp only [Act.put, List.setIfInBounds_toArray, List.set_cons_zero, List.set_cons_succ])
  refine takeH (i := 20) (v := ?_) rfl (by kernel_rfl) (by kernel_rfl) (by kernel_rfl) (fun _ _ _ h => h) (Or.inl ⟨by rfl, ?_⟩) (by assumption) ?_
  rotate_left
  · (intro w hSw; (try dsimp only at hSw); obtain ⟨hc0, hc1, _⟩ := (HX.out.below hSw).cells; go_simp; first | done | with_reducible rfl)
  (try simp only [Act.put, List.setIfInBounds_toArray, List.set_cons_zero, List.set_cons_succ])
  refine takeH (i := 21) (v := ?_) rfl (by kernel_rfl) (by kernel_rfl) (by kernel_rfl) (fun _ _ _ h => h) (Or.inl ⟨by rfl, ?_⟩) (by assumption) ?_
  rotate_left
  · (intro w hSw; (try dsimp only at hSw); obtain ⟨hc0, hc1, _⟩ := (HY.out.below hSw).cells; go_simp; first | done | with_reducible rfl)
  (try simp only [Act.put, List.setIfInBounds_toArray, List.set_cons_zero, List.set_cons_succ])
  refine wpAnyH_ready (rs := [19]) (by kernel_rfl) (by simp) ?_
  refine stepH rfl (fun K hK => ?_) AllReadyH.nil
  go_simp
  refine (H5.out wr4 (HF.out.below hr4) (HT.out.below hr4) (HG.out.below hr4) (HU.out.below hr4)).mono ?_
  rintro e wr5 ⟨v5, u5, rfl, k5, l5, hq⟩
  have K5 := Lib.hid k5
  have L5 := Lib.hid l5
  clear k5 l5
  have hr5 := bnext hr4 hq
  go_wp2_with fail
  refine hK.out _ _ (hr5) (fun _ => ?_)
  clear hK K
  (try simp only [Act.put, List.setIfInBounds_toArray, List.set_cons_zero, List.set_cons_succ])
  refine wpAnyH_ready (rs := [22]) (by kernel_rfl) (by simp) ?_
  refine stepH rfl (fun K hK => ?_) AllReadyH.nil
  go_simp
  refine (H6.out wr5 (HF.out.below hr5) (HT.out.below hr5) (HG.out.below hr5) (HU.out.below hr5)).mono ?_
  rintro e wr6 ⟨v6, u6, rfl, k6, l6, hq⟩
  replace K5 := Lib.hid (K5.out.below hq)
  replace L5 := Lib.hid (L5.out.below hq)
  have K6 := Lib.hid k6
  have L6 := Lib.hid l6
  clear k6 l6
  have hr6 := bnext hr5 hq
  go_wp2_with fail
  refine hK.out _ _ (hr6) (fun _ => ?_)
  clear hK K
  (try simp only [Act.put, List.setIfInBounds_toArray, List.set_cons_zero, List.set_cons_succ])
  refine wpAnyH_ready (rs := [23]) (by kernel_rfl) (by simp) ?_
  refine stepH rfl (fun K hK => ?_) AllReadyH.nil
  go_simp
  refine (H9.out _ _ _ _ wr6 K5.out L5.out K6.out L6.out).mono ?_
  rintro e wr7 ⟨rfl, hq⟩
  replace K5 := Lib.hid (K5.out.below hq)
  replace L5 := Lib.hid (L5.out.below hq)
  replace K6 := Lib.hid (K6.out.below hq)
  replace L6 := Lib.hid (L6.out.below hq)
  have hr7 := bnext hr6 hq
  go_wp2_with fail
  refine hK.out _ _ (hr7) (fun _ => ?_)
  clear hK K
  (try simp only [Act.put, List.setIfInBounds_toArray, List.set_cons_zero, List.set_cons_succ])
  refine takeH (i := 24) (v := ?_) rfl (by kernel_rfl) (by kernel_rfl) (by kernel_rfl) (fun _ _ _ h => h) (Or.inl ⟨by rfl, ?_⟩) (by assumption) ?_
  rotate_left
  · (intro w hSw; (try dsimp only at hSw); go_simp; first | done | with_reducible rfl)
  (try simp only [Act.put, List.setIfInBounds_toArray, List.set_cons_zero, List.set_cons_succ])
  refine takeH (i := 25) (v := ?_) rfl (by kernel_rfl) (by kernel_rfl) (by kernel_rfl) (fun _ _ _ h => h) (Or.inl ⟨by rfl, ?_⟩) (by assumption) ?_
  rotate_left
  · (intro w hSw; (try dsimp only at hSw); go_simp; first | done | with_reducible rfl)
  (try simp only [Act.put, List.setIfInBounds_toArray, List.set_cons_zero, List.set_cons_succ])
  refine takeH (i := 26) (v := ?_) rfl (by kernel_rfl) (by kernel_rfl) (by kernel_rfl) (fun _ _ _ h => h) (Or.inl ⟨by rfl, ?_⟩) (by assumption) ?_
  rotate_left
  · (intro w hSw; (try dsimp only at hSw); obtain ⟨hc0, hc1, _⟩ := (HX.out.below hSw).cells; go_simp; first | done | with_reducible rfl)
  (try simp only [Act.put, List.setIfInBounds_toArray, List.set_cons_zero, List.set_cons_succ])
  refine takeH (i := 27) (v := ?_) rfl (by kernel_rfl) (by kernel_rfl) (by kernel_rfl) (fun _ _ _ h => h) (Or.inl ⟨by rfl, ?_⟩) (by assumption) ?_
  rotate_left
  · (intro w hSw; (try dsimp only at hSw); obtain ⟨hc0, hc1, _⟩ := (HY.out.below hSw).cells; go_simp; first | done | with_reducible rfl)
  (try simp only [Act.put, List.setIfInBounds_toArray, List.set_cons_zero, List.set_cons_succ])
  refine takeH (i := 29) (v := ?_) rfl (by kernel_rfl) (by kernel_rfl) (by kernel_rfl) (fun _ _ _ h => h) (Or.inl ⟨by rfl, ?_⟩) (by assumption) ?_
  rotate_left
  · (intro w hSw; (try dsimp only at hSw); obtain ⟨hc0, hc1, _⟩ := (HX.out.below hSw).cells; go_simp; first | done | with_reducible rfl)
  (try simp only [Act.put, List.setIfInBounds_toArray, List.set_cons_zero, List.set_cons_succ])
  refine takeH (i := 30) (v := ?_) rfl (by kernel_rfl) (by kernel_rfl) (by kernel_rfl) (fun _ _ _ h => h) (Or.inl ⟨by rfl, ?_⟩) (by assumption) ?_
  rotate_left
  · (intro w hSw; (try dsimp only at hSw); obtain ⟨hc0, hc1, _⟩ := (HY.out.below hSw).cells; go_simp; first | done | with_reducible rfl)
  (try simp only [Act.put, List.setIfInBounds_toArray, List.set_cons_zero, List.set_cons_succ])
  refine wpAnyH_ready (rs := [28]) (by kernel_rfl) (by simp) ?_
  refine stepH rfl (fun K hK => ?_) AllReadyH.nil
  go_simp
  refine (H7.out wr7 (HF.out.below hr7) (HT.out.below hr7) (HG.out.below hr7) (HU.out.below hr7)).mono ?_
  rintro e wr8 ⟨v7, rfl, k7, hq⟩
  replace K5 := Lib.hid (K5.out.below hq)
  replace L5 := Lib.hid (L5.out.below hq)
  replace K6 := Lib.hid (K6.out.below hq)
  replace L6 := Lib.hid (L6.out.below hq)
  have K7 := Lib.hid k7
  clear k7
  have hr8 := bnext hr7 hq
  go_wp2_with fail
  refine hK.out _ _ (hr8) (fun _ => ?_)
  clear hK K
  (try simp only [Act.put, List.setIfInBounds_toArray, List.set_cons_zero, List.set_cons_succ])
  refine wpAnyH_ready (rs := [31]) (by kernel_rfl) (by simp) ?_
  refine stepH rfl (fun K hK => ?_) AllReadyH.nil
  go_simp
  refine (H8.out wr8 (HF.out.below hr8) (HT.out.below hr8) (HG.out.below hr8) (HU.out.below hr8)).mono ?_
  rintro e wr9 ⟨v8, rfl, k8, hq⟩
  replace K5 := Lib.hid (K5.out.below hq)
  replace L5 := Lib.hid (L5.out.below hq)
  replace K6 := Lib.hid (K6.out.below hq)
  replace L6 := Lib.hid (L6.out.below hq)
  replace K7 := Lib.hid (K7.out.below hq)
  have K8 := Lib.hid k8
  clear k8
  have hr9 := bnext hr8 hq
  go_wp2_with fail
  refine hK.out _ _ (hr9) (fun _ => ?_)
  clear hK K
  (try simp only [Act.put, List.setIfInBounds_toArray, List.set_cons_zero, List.set_cons_succ])
  refine wpAnyH_ready (rs := [32]) (by kernel_rfl) (by simp) ?_
  refine stepH rfl (fun K hK => ?_) AllReadyH.nil
  go_simp
  refine (H10.out _ _ wr9 K7.out K8.out).mono ?_
  rintro e wr10 ⟨rfl, hq⟩
  replace K5 := Lib.hid (K5.out.below hq)
  replace L5 := Lib.hid (L5.out.below hq)
  replace K6 := Lib.hid (K6.out.below hq)
  replace L6 := Lib.hid (L6.out.below hq)
  replace K7 := Lib.hid (K7.out.below hq)
  replace K8 := Lib.hid (K8.out.below hq)
  have hr10 := bnext hr9 hq
  go_wp2_with fail
  refine hK.out _ _ (hr10) (fun _ => ?_)
  clear hK K
  (try simp only [Act.put, List.setIfInBounds_toArray, List.set_cons_zero, List.set_cons_succ])
  refine takeH (i := 33) (v := ?_) rfl (by kernel_rfl) (by kernel_rfl) (by kernel_rfl) (fun _ _ _ h => h) (Or.inl ⟨by rfl, ?_⟩) (by assumption) ?_
  rotate_left
  · (intro w hSw; (try dsimp only at hSw); go_simp; first | done | with_reducible rfl)
  (try simp only [Act.put, List.setIfInBounds_toArray, List.set_cons_zero, List.set_cons_succ])
  refine takeH (i := 34) (v := ?_) rfl (by kernel_rfl) (by kernel_rfl) (by kernel_rfl) (fun _ _ _ h => h) (Or.inl ⟨by rfl, ?_⟩) (by assumption) ?_
  rotate_left
  · (intro w hSw; (try dsimp only at hSw); go_simp; first | done | with_reducible rfl)
  (try simp only [Act.put, List.setIfInBounds_toArray, List.set_cons_zero, List.set_cons_succ])
  refine wpAnyH_ready (rs := [35]) (by kernel_rfl) (by simp) ?_
  refine stepH rfl (fun K hK => ?_) AllReadyH.nil
  go_simp
  refine (cAwake13 ct wr10).mono ?_
  rintro e wr11 ⟨rfl, hq⟩
  replace K5 := Lib.hid (K5.out.below hq)
  replace L5 := Lib.hid (L5.out.below hq)
  replace K6 := Lib.hid (K6.out.below hq)
  replace L6 := Lib.hid (L6.out.below hq)
  replace K7 := Lib.hid (K7.out.below hq)
  replace K8 := Lib.hid (K8.out.below hq)
  have hr11 := bnext hr10 hq
  go_wp2_with fail
  refine hK.out _ _ (hr11) (fun _ => ?_)
  clear hK K
  (try simp only [Act.put, List.setIfInBounds_toArray, List.set_cons_zero, List.set_cons_succ])
  refine takeH (i := 36) (v := ?_) rfl (by kernel_rfl) (by kernel_rfl) (by kernel_rfl) (fun _ _ _ h => h) (Or.inl ⟨by rfl, ?_⟩) (by assumption) ?_
  rotate_left
  · (intro w hSw; (try dsimp only at hSw); go_simp; first | done | with_reducible rfl)
  (try simp only [Act.put, List.setIfInBounds_toArray, List.set_cons_zero, List.set_cons_succ])
  refine takeH (i := 37) (v := ?_) rfl (by kernel_rfl) (by kernel_rfl) (by kernel_rfl) (fun _ _ _ h => h) (Or.inl ⟨by rfl, ?_⟩) (by assumption) ?_
  rotate_left
  · (intro w hSw; (try dsimp only at hSw); go_simp; first | done | with_reducible rfl)
  (try simp only [Act.put, List.setIfInBounds_toArray, List.set_cons_zero, List.set_cons_succ])
  refine wpAnyH_done (by kernel_rfl) ?_ _
  have HZ := Lib.hid (bnext HB.out hr11)
  go_wp2
  go_ret
  exact ⟨rfl, HZ.out⟩

end Go.Proofs.Ytfdgoehfkfdgaaa
