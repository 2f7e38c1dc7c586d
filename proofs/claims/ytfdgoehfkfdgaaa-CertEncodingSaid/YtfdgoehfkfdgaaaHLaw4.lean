/-
  The calls of the laws CertEncoding: each returns true. Conditions: what comes in reads; the contracts of package cert hold. (Written by mk_hlaws.py.)
-/
import Derived.Test.YtfdgoehfkfdgaaaHLawM
import Derived.Deep.RegionHeld3
namespace Go.Proofs.Ytfdgoehfkfdgaaa
open Go.RowKit
open JM (Chg)
open CM (Fp)

set_option maxRecDepth 100000 in
set_option maxHeartbeats 8000000 in
theorem lCertEncoding (ct : CT) (a b u : Value) (f t : List Fp) (ts : List Int) (w : World) (ha : RdF w a f) (hb : RdF w b t) (hu : Rd w u ts) :
    Calls Try.prog 8 #[cev a b, u] w fun e w' => e = .returned (.bool true) ∧ Below w.heap.size w w' := by
  obtain ⟨aa, ac, rfl, hac, _⟩ := ha.shape
  obtain ⟨ba, bc, rfl, hbc, _⟩ := hb.shape
  obtain ⟨ua, uc, rfl, huc⟩ := hu.shape
  have hb0 := below_fresh w (.cells #[.slice aa f.length ac, .slice ba t.length bc] 25)
  have hX := XB.fresh w (.slice aa f.length ac) (.slice ba t.length bc)
  obtain ⟨w0, hw0⟩ : ∃ w0, w.alloc (.cells #[.slice aa f.length ac, .slice ba t.length bc] 25) = w0 := ⟨_, rfl⟩
  rw [hw0] at hb0 hX
  have HF := Lib.hid (ha.below hb0)
  have HT := Lib.hid (hb.below hb0)
  have HU := Lib.hid (hu.below hb0)
  have HX0 := Lib.hid hX
  have HB := Lib.hid hb0
  have HW := Lib.hid hw0
  clear ha hb hu hb0 hX hw0
  by_cases h1 : 400 < ts.length
  · have hq : (400 : Int) < (ts.length : Int) := by omega
    obtain ⟨x0, x1, _⟩ := HX0.out.cells
    go_enter Try.func8, Try.ntmps8
    go_upto_region 1 with fail
    rw [HW.out]
    clear HW
    have hC := cAwake13 ct w0
    have HQ := Lib.hid hC
    clear hC
    go_wp2_with fail
    refine HQ.out.mono ?_
    rintro e w101 ⟨rfl, hb⟩
    clear x0 x1
    replace HX0 := Lib.hid (HX0.out.below hb)
    replace HF := Lib.hid (HF.out.below hb)
    replace HT := Lib.hid (HT.out.below hb)
    replace HU := Lib.hid (HU.out.below hb)
    replace HB := Lib.hid (bnext HB.out hb)
    obtain ⟨x0, x1, _⟩ := HX0.out.cells
    clear hb HQ
    go_wp2
    go_ret
    exact ⟨rfl, HB.out⟩
  have hq1 : ¬ (400 : Int) < (ts.length : Int) := by omega
  by_cases h2 : 30 < f.length
  · have hq : (30 : Int) < (f.length : Int) := by omega
    obtain ⟨x0, x1, _⟩ := HX0.out.cells
    go_enter Try.func8, Try.ntmps8
    go_upto_region 1 with fail
    rw [HW.out]
    clear HW
    have hC := cAwake13 ct w0
    have HQ := Lib.hid hC
    clear hC
    go_wp2_with fail
    refine HQ.out.mono ?_
    rintro e w101 ⟨rfl, hb⟩
    clear x0 x1
    replace HX0 := Lib.hid (HX0.out.below hb)
    replace HF := Lib.hid (HF.out.below hb)
    replace HT := Lib.hid (HT.out.below hb)
    replace HU := Lib.hid (HU.out.below hb)
    replace HB := Lib.hid (bnext HB.out hb)
    obtain ⟨x0, x1, _⟩ := HX0.out.cells
    clear hb HQ
    go_wp2
    go_ret
    exact ⟨rfl, HB.out⟩
  have hq2 : ¬ (30 : Int) < (f.length : Int) := by omega
  by_cases h3 : 30 < t.length
  · have hq : (30 : Int) < (t.length : Int) := by omega
    obtain ⟨x0, x1, _⟩ := HX0.out.cells
    go_enter Try.func8, Try.ntmps8
    go_upto_region 1 with fail
    rw [HW.out]
    clear HW
    have hC := cAwake13 ct w0
    have HQ := Lib.hid hC
    clear hC
    go_wp2_with fail
    refine HQ.out.mono ?_
    rintro e w101 ⟨rfl, hb⟩
    clear x0 x1
    replace HX0 := Lib.hid (HX0.out.below hb)
    replace HF := Lib.hid (HF.out.below hb)
    replace HT := Lib.hid (HT.out.below hb)
    replace HU := Lib.hid (HU.out.below hb)
    replace HB := Lib.hid (bnext HB.out hb)
    obtain ⟨x0, x1, _⟩ := HX0.out.cells
    clear hb HQ
    go_wp2
    go_ret
    exact ⟨rfl, HB.out⟩
  have hq3 : ¬ (30 : Int) < (t.length : Int) := by omega
  have HTL := Lib.hid (show ts.length ≤ 400 by omega)
  have H1 := Lib.hid (fun w' (g : Rd w' (.slice ua ts.length uc) ts) => ct.decode _ ts w' g)
  have H2 := Lib.hid (fun w' (g : Rd w' (.slice ua ts.length uc) ts) => rDecodeCert _ ts w' g)
  generalize CM.decC ts = R at H1 H2
  obtain ⟨er, n, f2, t2⟩ := R
  have hnn : ((n : Int) != (n : Int)) = false := bne_f rfl
  have hee : (er != er) = false := bne_f rfl
  have HV1 := Lib.hid (fun w' (g1 : RdF w' (.slice aa f.length ac) f) (g2 : RdF w' (.slice ba t.length bc) t) => rValidateCert _ _ f t w' g1 g2)
  obtain ⟨E, hE⟩ : ∃ E, E = CM.errC f t := ⟨_, rfl⟩
  rw [← hE] at HV1
  clear h1 h2 h3
  obtain ⟨x0, x1, _⟩ := HX0.out.cells
  go_enter Try.func8, Try.ntmps8
  go_upto_region 1 with fail
  rw [HW.out]
  clear HW
  have hC := H1.out w0 HU.out
  have HQ := Lib.hid hC
  clear hC
  go_wp2_with fail
  refine HQ.out.mono ?_
  rintro e w101 ⟨p1, q1, rfl, hr, hs, hb⟩
  clear x0 x1
  replace HX0 := Lib.hid (HX0.out.below hb)
  replace HF := Lib.hid (HF.out.below hb)
  replace HT := Lib.hid (HT.out.below hb)
  replace HU := Lib.hid (HU.out.below hb)
  replace HB := Lib.hid (bnext HB.out hb)
  obtain ⟨pa1, pc1, rfl, _, _⟩ := hr.shape
  obtain ⟨qa1, qc1, rfl, _, _⟩ := hs.shape
  have HP1 := Lib.hid hr
  have HQ1 := Lib.hid hs
  obtain ⟨x0, x1, _⟩ := HX0.out.cells
  clear hb HQ hr hs
  clear x0 x1
  obtain ⟨w102, hqw, hX, hb⟩ := oneX w101 (.slice pa1 f2.length pc1) (.slice qa1 t2.length qc1)
  have HW := Lib.hid hqw
  have HX1 := Lib.hid hX
  replace HX0 := Lib.hid (HX0.out.below hb)
  replace HF := Lib.hid (HF.out.below hb)
  replace HT := Lib.hid (HT.out.below hb)
  replace HU := Lib.hid (HU.out.below hb)
  replace HP1 := Lib.hid (HP1.out.below hb)
  replace HQ1 := Lib.hid (HQ1.out.below hb)
  replace HB := Lib.hid (bnext HB.out hb)
  clear hb hqw hX
  go_upto_region 4 with fail
  rw [HW.out]
  clear HW
  obtain ⟨x0, x1, _⟩ := HX0.out.cells
  obtain ⟨y0, y1, _⟩ := HX1.out.cells
  have hC := H2.out w102 HU.out
  have HQ := Lib.hid hC
  clear hC
  go_wp2_with fail
  refine HQ.out.mono ?_
  rintro e w103 ⟨p2, q2, rfl, hr, hs, hb⟩
  clear x0 x1
  clear y0 y1
  replace HX0 := Lib.hid (HX0.out.below hb)
  replace HX1 := Lib.hid (HX1.out.below hb)
  replace HF := Lib.hid (HF.out.below hb)
  replace HT := Lib.hid (HT.out.below hb)
  replace HU := Lib.hid (HU.out.below hb)
  replace HP1 := Lib.hid (HP1.out.below hb)
  replace HQ1 := Lib.hid (HQ1.out.below hb)
  replace HB := Lib.hid (bnext HB.out hb)
  obtain ⟨pa2, pc2, rfl, _, _⟩ := hr.shape
  obtain ⟨qa2, qc2, rfl, _, _⟩ := hs.shape
  have HP2 := Lib.hid hr
  have HQ2 := Lib.hid hs
  obtain ⟨x0, x1, _⟩ := HX0.out.cells
  obtain ⟨y0, y1, _⟩ := HX1.out.cells
  clear hb HQ hr hs
  clear x0 x1
  clear y0 y1
  obtain ⟨w104, hqw, hX, hb⟩ := oneX w103 (.slice pa2 f2.length pc2) (.slice qa2 t2.length qc2)
  have HW := Lib.hid hqw
  have HX2 := Lib.hid hX
  replace HX0 := Lib.hid (HX0.out.below hb)
  replace HX1 := Lib.hid (HX1.out.below hb)
  replace HF := Lib.hid (HF.out.below hb)
  replace HT := Lib.hid (HT.out.below hb)
  replace HU := Lib.hid (HU.out.below hb)
  replace HP1 := Lib.hid (HP1.out.below hb)
  replace HQ1 := Lib.hid (HQ1.out.below hb)
  replace HP2 := Lib.hid (HP2.out.below hb)
  replace HQ2 := Lib.hid (HQ2.out.below hb)
  replace HB := Lib.hid (bnext HB.out hb)
  clear hb hqw hX
  go_upto_region 5 with fail
  rw [HW.out]
  clear HW
  obtain ⟨x0, x1, _⟩ := HX0.out.cells
  obtain ⟨y0, y1, _⟩ := HX1.out.cells
  obtain ⟨z0, z1, _⟩ := HX2.out.cells
  have hC := rEqualCert _ _ _ _ f2 t2 f2 t2 w104 HP1.out HQ1.out HP2.out HQ2.out
  rw [decide_eq_true rfl, decide_eq_true rfl] at hC
  have HQ := Lib.hid hC
  clear hC
  go_wp2_with fail
  refine HQ.out.mono ?_
  rintro e w105 ⟨rfl, hb⟩
  clear x0 x1
  clear y0 y1
  clear z0 z1
  replace HX0 := Lib.hid (HX0.out.below hb)
  replace HX1 := Lib.hid (HX1.out.below hb)
  replace HX2 := Lib.hid (HX2.out.below hb)
  replace HF := Lib.hid (HF.out.below hb)
  replace HT := Lib.hid (HT.out.below hb)
  replace HU := Lib.hid (HU.out.below hb)
  replace HP1 := Lib.hid (HP1.out.below hb)
  replace HQ1 := Lib.hid (HQ1.out.below hb)
  replace HP2 := Lib.hid (HP2.out.below hb)
  replace HQ2 := Lib.hid (HQ2.out.below hb)
  replace HB := Lib.hid (bnext HB.out hb)
  obtain ⟨x0, x1, _⟩ := HX0.out.cells
  obtain ⟨y0, y1, _⟩ := HX1.out.cells
  obtain ⟨z0, z1, _⟩ := HX2.out.cells
  clear hb HQ
  clear x0 x1
  clear y0 y1
  clear z0 z1
  clear HX1 HX2 HP1 HQ1 HP2 HQ2 H1 H2
  obtain ⟨x0, x1, _⟩ := HX0.out.cells
  have hC := HV1.out w105 HF.out HT.out
  have HQ := Lib.hid hC
  clear hC
  go_wp2_with fail
  refine HQ.out.mono ?_
  rintro e w106 ⟨rfl, hb⟩
  clear x0 x1
  replace HX0 := Lib.hid (HX0.out.below hb)
  replace HF := Lib.hid (HF.out.below hb)
  replace HT := Lib.hid (HT.out.below hb)
  replace HU := Lib.hid (HU.out.below hb)
  replace HB := Lib.hid (bnext HB.out hb)
  obtain ⟨x0, x1, _⟩ := HX0.out.cells
  clear hb HQ
  by_cases h1 : E = 0
  case neg =>
    have hne : (E != 0) = true := bne_t h1
    clear h1 hE HV1
    have hC := cAwake13 ct w106
    have HQ := Lib.hid hC
    clear hC
    go_wp2_with fail
    refine HQ.out.mono ?_
    rintro e w107 ⟨rfl, hb⟩
    clear x0 x1
    replace HX0 := Lib.hid (HX0.out.below hb)
    replace HF := Lib.hid (HF.out.below hb)
    replace HT := Lib.hid (HT.out.below hb)
    replace HU := Lib.hid (HU.out.below hb)
    replace HB := Lib.hid (bnext HB.out hb)
    obtain ⟨x0, x1, _⟩ := HX0.out.cells
    clear hb HQ
    go_wp2
    go_ret
    exact ⟨rfl, HB.out⟩
  subst h1
  have HE0 := Lib.hid hE.symm
  have HL := Lib.hid (encC2_le hE.symm)
  have HDC := Lib.hid (CM.decC_enc hE.symm ts)
  have HAP := Lib.hid (fun w' (g1 : RdF w' (.slice aa f.length ac) f) (g2 : RdF w' (.slice ba t.length bc) t) => ct.append (.slice none 0 0) [] _ _ f t w' (Rd.nil _) g1 g2 HE0.out (by simp))
  have HAR := Lib.hid (fun w' (g1 : RdF w' (.slice aa f.length ac) f) (g2 : RdF w' (.slice ba t.length bc) t) => rAppendCert (.slice none 0 0) [] _ _ f t w' (Rd.nil _) g1 g2 (CM.errC_ok HE0.out).1 (CM.errC_ok HE0.out).2.1 (by simp))
  rw [List.nil_append] at HAP HAR
  generalize CM.encC2 f t = X at HL HDC HAP HAR
  clear hE HV1
  have hC := HAP.out w106 HF.out HT.out
  have HQ := Lib.hid hC
  clear hC
  go_wp2_with fail
  refine HQ.out.mono ?_
  rintro e w107 ⟨v9, rfl, hr, hb⟩
  clear x0 x1
  replace HX0 := Lib.hid (HX0.out.below hb)
  replace HF := Lib.hid (HF.out.below hb)
  replace HT := Lib.hid (HT.out.below hb)
  replace HU := Lib.hid (HU.out.below hb)
  replace HB := Lib.hid (bnext HB.out hb)
  have HV := Lib.hid hr
  obtain ⟨a9, c9, rfl, hc9⟩ := hr.shape
  obtain ⟨x0, x1, _⟩ := HX0.out.cells
  clear hb HQ hr
  clear x0 x1
  have hbe := below_empty w107
  have hoe := own_empty w107
  have hre := HV.out.below hbe
  have hlE : X.length ≤ 35184372088832 := by have := HL.out; omega
  have hse := hbe.size
  have HBE := Lib.hid hbe
  clear hbe
  go_wp2_with (at_builtin; refine wp_appS rfl _ _ rfl rfl hoe rfl hre (by simp) hlE hse ?_)
  intro v3 w3 ho3 hb3
  have hb := HBE.out.trans hb3
  have htl := HU.out.below hb
  have hs3 := hb.size
  have hlT : ts.length ≤ 35184372088832 := by have := HTL.out; omega
  have HB3 := Lib.hid hb
  clear hb3 hoe hre hse hb HBE
  go_wp2_with (at_builtin; refine wp_appS rfl _ _ rfl rfl ho3 rfl htl hlE hlT hs3 ?_)
  intro v4 w4 ho4 hb4
  have hb := HB3.out.trans hb4
  replace HX0 := Lib.hid (HX0.out.below hb)
  replace HF := Lib.hid (HF.out.below hb)
  replace HT := Lib.hid (HT.out.below hb)
  replace HU := Lib.hid (HU.out.below hb)
  replace HV := Lib.hid (HV.out.below hb)
  replace HB := Lib.hid (bnext HB.out hb)
  have hr4 : Rd w4 v4 (X ++ ts) := ho4.rd
  clear hb hb4 ho3 ho4 htl hs3 hlE hlT HB3
  obtain ⟨x0, x1, _⟩ := HX0.out.cells
  have hC := ct.decode v4 _ w4 hr4
  rw [HDC.out] at hC
  have HQ := Lib.hid hC
  clear hC
  go_wp2_with fail
  refine HQ.out.mono ?_
  rintro e w108 ⟨p3, q3, rfl, hr, hs, hb⟩
  clear x0 x1
  replace HX0 := Lib.hid (HX0.out.below hb)
  replace HF := Lib.hid (HF.out.below hb)
  replace HT := Lib.hid (HT.out.below hb)
  replace HU := Lib.hid (HU.out.below hb)
  replace HV := Lib.hid (HV.out.below hb)
  replace HB := Lib.hid (bnext HB.out hb)
  obtain ⟨pa3, pc3, rfl, _, _⟩ := hr.shape
  obtain ⟨qa3, qc3, rfl, _, _⟩ := hs.shape
  have HP3 := Lib.hid hr
  have HQ3 := Lib.hid hs
  obtain ⟨x0, x1, _⟩ := HX0.out.cells
  clear hb HQ hr hs hr4 HDC
  clear x0 x1
  obtain ⟨w109, hqw, hX, hb⟩ := oneX w108 (.slice pa3 f.length pc3) (.slice qa3 t.length qc3)
  have HW := Lib.hid hqw
  have HX3 := Lib.hid hX
  replace HX0 := Lib.hid (HX0.out.below hb)
  replace HF := Lib.hid (HF.out.below hb)
  replace HT := Lib.hid (HT.out.below hb)
  replace HU := Lib.hid (HU.out.below hb)
  replace HV := Lib.hid (HV.out.below hb)
  replace HP3 := Lib.hid (HP3.out.below hb)
  replace HQ3 := Lib.hid (HQ3.out.below hb)
  replace HB := Lib.hid (bnext HB.out hb)
  clear hb hqw hX
  go_upto_region 11 with fail
  rw [HW.out]
  clear HW
  obtain ⟨x0, x1, _⟩ := HX0.out.cells
  obtain ⟨y0, y1, _⟩ := HX3.out.cells
  have hNN : ((X.length : Int) == (X.length : Int)) = true := beq_t rfl
  have HEQ := Lib.hid (fun w' (g1 : RdF w' (.slice aa f.length ac) f) (g2 : RdF w' (.slice ba t.length bc) t) (g3 : RdF w' (.slice pa3 f.length pc3) f) (g4 : RdF w' (.slice qa3 t.length qc3) t) => (show Calls Try.prog 14 #[cev (.slice aa f.length ac) (.slice ba t.length bc), cev (.slice pa3 f.length pc3) (.slice qa3 t.length qc3)] w' fun e w'' => e = .returned (.bool true) ∧ Below w'.heap.size w' w'' from by
    have h := rEqualCert _ _ _ _ f t f t w' g1 g2 g3 g4
    rw [decide_eq_true rfl, decide_eq_true rfl] at h
    exact h))
  clear x0 x1
  clear y0 y1
  refine wp_region_held_drew (S := fun w' => Below w109.heap.size w109 w') (by kernel_rfl) ((Below.refl _ _).drew) (fun ha => ?_)
  replace ha : Below w109.heap.size w109 w109.drew := (Below.refl _ _).drew
  generalize w109.drew = wa at ha ⊢
  refine takeH (i := 0) (v := ?_) rfl (by kernel_rfl) (by kernel_rfl) (by kernel_rfl) (fun _ _ _ h => h) (Or.inl ⟨by rfl, ?_⟩) (by assumption) ?_
  rotate_left
  · (intro w hSw; (try dsimp only at hSw); go_simp; first | done | with_reducible rfl)
  (try simp only [Act.put, List.setIfInBounds_toArray, List.set_cons_zero, List.set_cons_succ])
  refine takeH (i := 1) (v := ?_) rfl (by kernel_rfl) (by kernel_rfl) (by kernel_rfl) (fun _ _ _ h => h) (Or.inl ⟨by rfl, ?_⟩) (by assumption) ?_
  rotate_left
  · (intro w hSw; (try dsimp only at hSw); have hst := Rd.str (HV.out.below hSw); go_simp; first | done | with_reducible rfl)
  (try simp only [Act.put, List.setIfInBounds_toArray, List.set_cons_zero, List.set_cons_succ])
  refine takeH (i := 2) (v := ?_) rfl (by kernel_rfl) (by kernel_rfl) (by kernel_rfl) (fun _ _ _ h => h) (Or.inl ⟨by rfl, ?_⟩) (by assumption) ?_
  rotate_left
  · (intro w hSw; (try dsimp only at hSw); obtain ⟨hc0, hc1, _⟩ := (HX0.out.below hSw).cells; go_simp; first | done | with_reducible rfl)
  (try simp only [Act.put, List.setIfInBounds_toArray, List.set_cons_zero, List.set_cons_succ])
  refine wpAnyH_ready (rs := [3]) (by kernel_rfl) (by simp) ?_
  refine stepH rfl (fun K hK => ?_) AllReadyH.nil
  go_simp
  refine (HAR.out wa (HF.out.below ha) (HT.out.below ha)).mono ?_
  rintro e wr1 ⟨vb, rfl, hrb, hq⟩
  obtain ⟨ab, lb, cb, rfl⟩ : ∃ a l c, vb = .slice a l c := by (obtain ⟨a, c, h, _⟩ := hrb.shape; exact ⟨_, _, _, h⟩)
  have HRB := Lib.hid hrb
  clear hrb
  have hr1 := bnext ha hq
  go_wp2_with fail
  refine hK.out _ _ (hr1) (fun _ => ?_)
  clear hK K
  (try simp only [Act.put, List.setIfInBounds_toArray, List.set_cons_zero, List.set_cons_succ])
  refine wpAnyH_ready (rs := [4]) (by kernel_rfl) (by simp) ?_
  refine stepH rfl (fun K hK => ?_) AllReadyH.nil
  have hst := Rd.str HRB.out
  go_simp
  refine hK.out _ _ (hr1) (fun _ => ?_)
  clear hK K
  (try simp only [Act.put, List.setIfInBounds_toArray, List.set_cons_zero, List.set_cons_succ])
  refine takeH (i := 5) (v := ?_) rfl (by kernel_rfl) (by kernel_rfl) (by kernel_rfl) (fun _ _ _ h => h) (Or.inl ⟨by rfl, ?_⟩) (by assumption) ?_
  rotate_left
  · (intro w hSw; (try dsimp only at hSw); go_simp; first | done | with_reducible rfl)
  (try simp only [Act.put, List.setIfInBounds_toArray, List.set_cons_zero, List.set_cons_succ])
  refine takeH (i := 6) (v := ?_) rfl (by kernel_rfl) (by kernel_rfl) (by kernel_rfl) (fun _ _ _ h => h) (Or.inl ⟨by rfl, ?_⟩) (by assumption) ?_
  rotate_left
  · (intro w hSw; (try dsimp only at hSw); go_simp; first | done | with_reducible rfl)
  (try simp only [Act.put, List.setIfInBounds_toArray, List.set_cons_zero, List.set_cons_succ])
  refine takeH (i := 7) (v := ?_) rfl (by kernel_rfl) (by kernel_rfl) (by kernel_rfl) (fun _ _ _ h => h) (Or.inl ⟨by rfl, ?_⟩) (by assumption) ?_
  rotate_left
  · (intro w hSw; (try dsimp only at hSw); go_simp; first | done | with_reducible rfl)
  (try simp only [Act.put, List.setIfInBounds_toArray, List.set_cons_zero, List.set_cons_succ])
  refine takeH (i := 8) (v := ?_) rfl (by kernel_rfl) (by kernel_rfl) (by kernel_rfl) (fun _ _ _ h => h) (Or.inl ⟨by rfl, ?_⟩) (by assumption) ?_
  rotate_left
  · (intro w hSw; (try dsimp only at hSw); go_simp; first | done | with_reducible rfl)
  (try simp only [Act.put, List.setIfInBounds_toArray, List.set_cons_zero, List.set_cons_succ])
  refine takeH (i := 9) (v := ?_) rfl (by kernel_rfl) (by kernel_rfl) (by kernel_rfl) (fun _ _ _ h => h) (Or.inl ⟨by rfl, ?_⟩) (by assumption) ?_
  rotate_left
  · (intro w hSw; (try dsimp only at hSw); go_simp; first | done | with_reducible rfl)
  (try simp only [Act.put, List.setIfInBounds_toArray, List.set_cons_zero, List.set_cons_succ])
  refine takeH (i := 10) (v := ?_) rfl (by kernel_rfl) (by kernel_rfl) (by kernel_rfl) (fun _ _ _ h => h) (Or.inl ⟨by rfl, ?_⟩) (by assumption) ?_
  rotate_left
  · (intro w hSw; (try dsimp only at hSw); go_simp; first | done | with_reducible rfl)
  (try simp only [Act.put, List.setIfInBounds_toArray, List.set_cons_zero, List.set_cons_succ])
  refine takeH (i := 11) (v := ?_) rfl (by kernel_rfl) (by kernel_rfl) (by kernel_rfl) (fun _ _ _ h => h) (Or.inl ⟨by rfl, ?_⟩) (by assumption) ?_
  rotate_left
  · (intro w hSw; (try dsimp only at hSw); go_simp; first | done | with_reducible rfl)
  (try simp only [Act.put, List.setIfInBounds_toArray, List.set_cons_zero, List.set_cons_succ])
  refine takeH (i := 12) (v := ?_) rfl (by kernel_rfl) (by kernel_rfl) (by kernel_rfl) (fun _ _ _ h => h) (Or.inl ⟨by rfl, ?_⟩) (by assumption) ?_
  rotate_left
  · (intro w hSw; (try dsimp only at hSw); go_simp; first | done | with_reducible rfl)
  (try simp only [Act.put, List.setIfInBounds_toArray, List.set_cons_zero, List.set_cons_succ])
  refine takeH (i := 13) (v := ?_) rfl (by kernel_rfl) (by kernel_rfl) (by kernel_rfl) (fun _ _ _ h => h) (Or.inl ⟨by rfl, ?_⟩) (by assumption) ?_
  rotate_left
  · (intro w hSw; (try dsimp only at hSw); go_simp; first | done | with_reducible rfl)
  (try simp only [Act.put, List.setIfInBounds_toArray, List.set_cons_zero, List.set_cons_succ])
  refine takeH (i := 14) (v := ?_) rfl (by kernel_rfl) (by kernel_rfl) (by kernel_rfl) (fun _ _ _ h => h) (Or.inl ⟨by rfl, ?_⟩) (by assumption) ?_
  rotate_left
  · (intro w hSw; (try dsimp only at hSw); go_simp; first | done | with_reducible rfl)
  (try simp only [Act.put, List.setIfInBounds_toArray, List.set_cons_zero, List.set_cons_succ])
  refine takeH (i := 15) (v := ?_) rfl (by kernel_rfl) (by kernel_rfl) (by kernel_rfl) (fun _ _ _ h => h) (Or.inl ⟨by rfl, ?_⟩) (by assumption) ?_
  rotate_left
  · (intro w hSw; (try dsimp only at hSw); go_simp; first | done | with_reducible rfl)
  (try simp only [Act.put, List.setIfInBounds_toArray, List.set_cons_zero, List.set_cons_succ])
  refine takeH (i := 16) (v := ?_) rfl (by kernel_rfl) (by kernel_rfl) (by kernel_rfl) (fun _ _ _ h => h) (Or.inl ⟨by rfl, ?_⟩) (by assumption) ?_
  rotate_left
  · (intro w hSw; (try dsimp only at hSw); go_simp; first | done | with_reducible rfl)
  (try simp only [Act.put, List.setIfInBounds_toArray, List.set_cons_zero, List.set_cons_succ])
  refine takeH (i := 17) (v := ?_) rfl (by kernel_rfl) (by kernel_rfl) (by kernel_rfl) (fun _ _ _ h => h) (Or.inl ⟨by rfl, ?_⟩) (by assumption) ?_
  rotate_left
  · (intro w hSw; (try dsimp only at hSw); obtain ⟨hc0, hc1, _⟩ := (HX0.out.below hSw).cells; go_simp; first | done | with_reducible rfl)
  (try simp only [Act.put, List.setIfInBounds_toArray, List.set_cons_zero, List.set_cons_succ])
  refine takeH (i := 18) (v := ?_) rfl (by kernel_rfl) (by kernel_rfl) (by kernel_rfl) (fun _ _ _ h => h) (Or.inl ⟨by rfl, ?_⟩) (by assumption) ?_
  rotate_left
  · (intro w hSw; (try dsimp only at hSw); obtain ⟨hc0, hc1, _⟩ := (HX3.out.below hSw).cells; go_simp; first | done | with_reducible rfl)
  (try simp only [Act.put, List.setIfInBounds_toArray, List.set_cons_zero, List.set_cons_succ])
  refine wpAnyH_ready (rs := [19]) (by kernel_rfl) (by simp) ?_
  refine stepH rfl (fun K hK => ?_) AllReadyH.nil
  go_simp
  refine (HEQ.out wr1 (HF.out.below hr1) (HT.out.below hr1) (HP3.out.below hr1) (HQ3.out.below hr1)).mono ?_
  rintro e wr2 ⟨rfl, hq⟩
  replace HRB := Lib.hid (HRB.out.below hq)
  have hr2 := bnext hr1 hq
  go_wp2_with fail
  refine hK.out _ _ (hr2) (fun _ => ?_)
  clear hK K
  (try simp only [Act.put, List.setIfInBounds_toArray, List.set_cons_zero, List.set_cons_succ])
  refine takeH (i := 20) (v := ?_) rfl (by kernel_rfl) (by kernel_rfl) (by kernel_rfl) (fun _ _ _ h => h) (Or.inl ⟨by rfl, ?_⟩) (by assumption) ?_
  rotate_left
  · (intro w hSw; (try dsimp only at hSw); go_simp; first | done | with_reducible rfl)
  (try simp only [Act.put, List.setIfInBounds_toArray, List.set_cons_zero, List.set_cons_succ])
  refine takeH (i := 21) (v := ?_) rfl (by kernel_rfl) (by kernel_rfl) (by kernel_rfl) (fun _ _ _ h => h) (Or.inl ⟨by rfl, ?_⟩) (by assumption) ?_
  rotate_left
  · (intro w hSw; (try dsimp only at hSw); go_simp; first | done | with_reducible rfl)
  (try simp only [Act.put, List.setIfInBounds_toArray, List.set_cons_zero, List.set_cons_succ])
  refine wpAnyH_ready (rs := [22]) (by kernel_rfl) (by simp) ?_
  refine stepH rfl (fun K hK => ?_) AllReadyH.nil
  go_simp
  refine (cAwake13 ct wr2).mono ?_
  rintro e wr3 ⟨rfl, hq⟩
  replace HRB := Lib.hid (HRB.out.below hq)
  have hr3 := bnext hr2 hq
  go_wp2_with fail
  refine hK.out _ _ (hr3) (fun _ => ?_)
  clear hK K
  (try simp only [Act.put, List.setIfInBounds_toArray, List.set_cons_zero, List.set_cons_succ])
  refine takeH (i := 23) (v := ?_) rfl (by kernel_rfl) (by kernel_rfl) (by kernel_rfl) (fun _ _ _ h => h) (Or.inl ⟨by rfl, ?_⟩) (by assumption) ?_
  rotate_left
  · (intro w hSw; (try dsimp only at hSw); go_simp; first | done | with_reducible rfl)
  (try simp only [Act.put, List.setIfInBounds_toArray, List.set_cons_zero, List.set_cons_succ])
  refine takeH (i := 24) (v := ?_) rfl (by kernel_rfl) (by kernel_rfl) (by kernel_rfl) (fun _ _ _ h => h) (Or.inl ⟨by rfl, ?_⟩) (by assumption) ?_
  rotate_left
  · (intro w hSw; (try dsimp only at hSw); go_simp; first | done | with_reducible rfl)
  (try simp only [Act.put, List.setIfInBounds_toArray, List.set_cons_zero, List.set_cons_succ])
  refine wpAnyH_done (by kernel_rfl) ?_ _
  have HZ := Lib.hid (bnext HB.out hr3)
  go_wp2
  go_ret
  exact ⟨rfl, HZ.out⟩

end Go.Proofs.Ytfdgoehfkfdgaaa
