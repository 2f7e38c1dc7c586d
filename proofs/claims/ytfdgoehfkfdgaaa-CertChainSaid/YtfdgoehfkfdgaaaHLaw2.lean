/-
  The calls of the laws CertOrder: each returns true. Conditions: what comes in reads; the contracts of package cert hold. (Written by mk_hlaws.py.)
-/
import Derived.Test.YtfdgoehfkfdgaaaHLawM
namespace Go.Proofs.Ytfdgoehfkfdgaaa
open Go.RowKit
open JM (Chg)
open CM (Fp)

set_option maxRecDepth 100000 in
set_option maxHeartbeats 8000000 in
theorem lCertOrder (ct : CT) (v : Value) (l : List Int) (x y z : Int) (w : World) (hl : l.length ≤ 4611686018427387904) (h : RdI w v l) :
    Calls Try.prog 5 #[v, .int .i64 x, .int .i64 y, .int .i64 z] w fun e w' => e = .returned (.bool true) ∧ Below w.heap.size w w' := by
  have HB := Lib.hid (Below.refl w.heap.size w)
  have HC := Lib.hid (kPool v l w h hl)
  clear h hl
  go_enter Try.func5, Try.ntmps5
  go_wp2_with fail
  refine HC.out.mono ?_
  rintro e w101 ⟨vp, p, rfl, hr, hp, hb⟩
  have HP := Lib.hid hr
  have HOK := Lib.hid hp
  replace HB := Lib.hid (bnext HB.out hb)
  obtain ⟨pa, pc, rfl, _, _⟩ := hr.shape
  clear hr hp hb HC
  have hC := kCert _ p x w101 HP.out HOK.out
  have HQ := Lib.hid hC
  clear hC
  go_wp2_with fail
  refine HQ.out.mono ?_
  rintro e w102 ⟨a1, b1, g, kk, rfl, hr, hs, hb⟩
  replace HP := Lib.hid (HP.out.below hb)
  replace HB := Lib.hid (bnext HB.out hb)
  have HCEta := Lib.hid (Ce.mk2 p g kk)
  generalize CM.rs (CM.rs p g) kk = fa at hr HCEta
  generalize CM.rs p g = ta at hs HCEta
  have HFta := Lib.hid hr
  have HTta := Lib.hid hs
  obtain ⟨a1, a1c, rfl, _, _⟩ := hr.shape
  obtain ⟨b1, b1c, rfl, _, _⟩ := hs.shape
  clear hb HQ hr hs
  have hC := kCert _ p y w102 HP.out HOK.out
  have HQ := Lib.hid hC
  clear hC
  go_wp2_with fail
  refine HQ.out.mono ?_
  rintro e w103 ⟨a2, b2, g, kk, rfl, hr, hs, hb⟩
  replace HP := Lib.hid (HP.out.below hb)
  replace HFta := Lib.hid (HFta.out.below hb)
  replace HTta := Lib.hid (HTta.out.below hb)
  replace HB := Lib.hid (bnext HB.out hb)
  have HCEtb := Lib.hid (Ce.mk2 p g kk)
  generalize CM.rs (CM.rs p g) kk = fb at hr HCEtb
  generalize CM.rs p g = tb at hs HCEtb
  have HFtb := Lib.hid hr
  have HTtb := Lib.hid hs
  obtain ⟨a2, a2c, rfl, _, _⟩ := hr.shape
  obtain ⟨b2, b2c, rfl, _, _⟩ := hs.shape
  clear hb HQ hr hs
  have hC := kCert _ p z w103 HP.out HOK.out
  have HQ := Lib.hid hC
  clear hC
  go_wp2_with fail
  refine HQ.out.mono ?_
  rintro e w104 ⟨a3, b3, g, kk, rfl, hr, hs, hb⟩
  replace HP := Lib.hid (HP.out.below hb)
  replace HFta := Lib.hid (HFta.out.below hb)
  replace HTta := Lib.hid (HTta.out.below hb)
  replace HFtb := Lib.hid (HFtb.out.below hb)
  replace HTtb := Lib.hid (HTtb.out.below hb)
  replace HB := Lib.hid (bnext HB.out hb)
  have HCEtc := Lib.hid (Ce.mk2 p g kk)
  generalize CM.rs (CM.rs p g) kk = fc at hr HCEtc
  generalize CM.rs p g = tc at hs HCEtc
  have HFtc := Lib.hid hr
  have HTtc := Lib.hid hs
  obtain ⟨a3, a3c, rfl, _, _⟩ := hr.shape
  obtain ⟨b3, b3c, rfl, _, _⟩ := hs.shape
  clear hb HQ hr hs
  obtain ⟨w105, hqw105, hX0, hX1, hX2, hb⟩ := threeX w104 (.slice a1 fa.length a1c) (.slice b1 ta.length b1c) (.slice a2 fb.length a2c) (.slice b2 tb.length b2c) (.slice a3 fc.length a3c) (.slice b3 tc.length b3c)
  have HWw105 := Lib.hid hqw105
  have HX0 := Lib.hid hX0
  have HX1 := Lib.hid hX1
  have HX2 := Lib.hid hX2
  replace HP := Lib.hid (HP.out.below hb)
  replace HFta := Lib.hid (HFta.out.below hb)
  replace HTta := Lib.hid (HTta.out.below hb)
  replace HFtb := Lib.hid (HFtb.out.below hb)
  replace HTtb := Lib.hid (HTtb.out.below hb)
  replace HFtc := Lib.hid (HFtc.out.below hb)
  replace HTtc := Lib.hid (HTtc.out.below hb)
  replace HB := Lib.hid (bnext HB.out hb)
  clear hb hqw105 hX0 hX1 hX2
  go_upto_region 3 with fail
  rw [HWw105.out]
  clear HWw105
  have NAA := Lib.hid (fun w' (g1 : RdF w' (.slice a1 fa.length a1c) fa) (g2 : RdF w' (.slice b1 ta.length b1c) ta) (g3 : RdF w' (.slice a1 fa.length a1c) fa) (g4 : RdF w' (.slice b1 ta.length b1c) ta) => ct.newer _ _ _ _ fa ta fa ta w' g1 g2 g3 g4 (HCEta.out.gd HCEta.out HOK.out))
  have NAB := Lib.hid (fun w' (g1 : RdF w' (.slice a1 fa.length a1c) fa) (g2 : RdF w' (.slice b1 ta.length b1c) ta) (g3 : RdF w' (.slice a2 fb.length a2c) fb) (g4 : RdF w' (.slice b2 tb.length b2c) tb) => ct.newer _ _ _ _ fa ta fb tb w' g1 g2 g3 g4 (HCEta.out.gd HCEtb.out HOK.out))
  have NBA := Lib.hid (fun w' (g1 : RdF w' (.slice a2 fb.length a2c) fb) (g2 : RdF w' (.slice b2 tb.length b2c) tb) (g3 : RdF w' (.slice a1 fa.length a1c) fa) (g4 : RdF w' (.slice b1 ta.length b1c) ta) => ct.newer _ _ _ _ fb tb fa ta w' g1 g2 g3 g4 (HCEtb.out.gd HCEta.out HOK.out))
  have NBC := Lib.hid (fun w' (g1 : RdF w' (.slice a2 fb.length a2c) fb) (g2 : RdF w' (.slice b2 tb.length b2c) tb) (g3 : RdF w' (.slice a3 fc.length a3c) fc) (g4 : RdF w' (.slice b3 tc.length b3c) tc) => ct.newer _ _ _ _ fb tb fc tc w' g1 g2 g3 g4 (HCEtb.out.gd HCEtc.out HOK.out))
  have NAC := Lib.hid (fun w' (g1 : RdF w' (.slice a1 fa.length a1c) fa) (g2 : RdF w' (.slice b1 ta.length b1c) ta) (g3 : RdF w' (.slice a3 fc.length a3c) fc) (g4 : RdF w' (.slice b3 tc.length b3c) tc) => ct.newer _ _ _ _ fa ta fc tc w' g1 g2 g3 g4 (HCEta.out.gd HCEtc.out HOK.out))
  have hasy := Lib.hid (fun h : CM.newr ta tb = true => newr_asym' HOK.out HCEta.out.pt HCEtb.out.pt h)
  have htra := Lib.hid (fun (h : CM.newr ta tb = true) (k : CM.newr tb tc = true) => newr_trans' HOK.out HCEta.out.pt HCEtb.out.pt HCEtc.out.pt h k)
  have HCL := Lib.hid (HCEta.out.lat HCEtb.out)
  have hl1 := Lib.hid (newr_lat1 HOK.out HCEta.out.pt HCEtb.out.pt)
  have hl2 := Lib.hid (newr_lat2 ta tb)
  have hl0 := Lib.hid (CM.newr_self ta)
  have HLAB := Lib.hid (fun w' (g1 : RdF w' (.slice a1 fa.length a1c) fa) (g2 : RdF w' (.slice b1 ta.length b1c) ta) (g3 : RdF w' (.slice a2 fb.length a2c) fb) (g4 : RdF w' (.slice b2 tb.length b2c) tb) => ct.latest _ _ _ _ fa ta fb tb w' g1 g2 g3 g4 (HCEta.out.gd HCEtb.out HOK.out))
  have HLAA := Lib.hid (fun w' (g1 : RdF w' (.slice a1 fa.length a1c) fa) (g2 : RdF w' (.slice b1 ta.length b1c) ta) => ct.latest _ _ _ _ fa ta fa ta w' g1 g2 g1 g2 (HCEta.out.gd HCEta.out HOK.out))
  rw [latF_self, latT_self] at HLAA
  generalize CM.latF fa ta fb tb = lf at HCL HLAB
  generalize CM.latT ta tb = lt at HCL HLAB hl1 hl2
  have NAL := Lib.hid (fun x y w' (g1 : RdF w' (.slice a1 fa.length a1c) fa) (g2 : RdF w' (.slice b1 ta.length b1c) ta) (g3 : RdF w' x lf) (g4 : RdF w' y lt) => ct.newer _ _ x y fa ta lf lt w' g1 g2 g3 g4 (HCEta.out.gd HCL.out HOK.out))
  have NLA := Lib.hid (fun x y w' (g1 : RdF w' (.slice a1 fa.length a1c) fa) (g2 : RdF w' (.slice b1 ta.length b1c) ta) (g3 : RdF w' x lf) (g4 : RdF w' y lt) => ct.newer x y _ _ lf lt fa ta w' g3 g4 g1 g2 (HCL.out.gd HCEta.out HOK.out))
  have HEQ := Lib.hid (fun x y w' (g1 : RdF w' (.slice a1 fa.length a1c) fa) (g2 : RdF w' (.slice b1 ta.length b1c) ta) (g3 : RdF w' x fa) (g4 : RdF w' y ta) => (show Calls Try.prog 13 #[cev x y, cev (.slice a1 fa.length a1c) (.slice b1 ta.length b1c)] w' fun e w'' => e = .returned (.bool true) ∧ Below w'.heap.size w' w'' from by
    have h := ct.equal x y _ _ fa ta fa ta w' g3 g4 g1 g2
    rw [decide_eq_true rfl, decide_eq_true rfl] at h
    exact h))
  rw [hl0.out] at NAA
  rw [hl1.out] at NAL
  rw [hl2.out] at NLA
  generalize CM.newr ta tb = Nab at NAB hasy htra
  generalize CM.newr tb ta = Nba at NBA hasy NLA
  generalize CM.newr tb tc = Nbc at NBC htra
  generalize CM.newr ta tc = Nac at NAC htra
  clear hl0 hl1 hl2 HCL HCEta HCEtb HCEtc
  cases Nab
  · have heN : (Nba == Nba) = true := by cases Nba <;> rfl
    clear hasy htra NBC NAC
    obtain ⟨x0, x1, _⟩ := HX0.out.cells
    obtain ⟨y0, y1, _⟩ := HX1.out.cells
    obtain ⟨z0, z1, _⟩ := HX2.out.cells
    have hC := NAA.out w105 HFta.out HTta.out HFta.out HTta.out
    have HQ := Lib.hid hC
    clear hC
    go_wp2_with fail
    refine HQ.out.mono ?_
    rintro e w101 ⟨rfl, hb⟩
    clear x0 x1
    clear y0 y1
    clear z0 z1
    replace HX0 := Lib.hid (HX0.out.below hb)
    replace HX1 := Lib.hid (HX1.out.below hb)
    replace HX2 := Lib.hid (HX2.out.below hb)
    replace HFta := Lib.hid (HFta.out.below hb)
    replace HTta := Lib.hid (HTta.out.below hb)
    replace HFtb := Lib.hid (HFtb.out.below hb)
    replace HTtb := Lib.hid (HTtb.out.below hb)
    replace HFtc := Lib.hid (HFtc.out.below hb)
    replace HTtc := Lib.hid (HTtc.out.below hb)
    replace HB := Lib.hid (bnext HB.out hb)
    obtain ⟨x0, x1, _⟩ := HX0.out.cells
    obtain ⟨y0, y1, _⟩ := HX1.out.cells
    obtain ⟨z0, z1, _⟩ := HX2.out.cells
    clear hb HQ
    have hC := NAB.out w101 HFta.out HTta.out HFtb.out HTtb.out
    have HQ := Lib.hid hC
    clear hC
    go_wp2_with fail
    refine HQ.out.mono ?_
    rintro e w102 ⟨rfl, hb⟩
    clear x0 x1
    clear y0 y1
    clear z0 z1
    replace HX0 := Lib.hid (HX0.out.below hb)
    replace HX1 := Lib.hid (HX1.out.below hb)
    replace HX2 := Lib.hid (HX2.out.below hb)
    replace HFta := Lib.hid (HFta.out.below hb)
    replace HTta := Lib.hid (HTta.out.below hb)
    replace HFtb := Lib.hid (HFtb.out.below hb)
    replace HTtb := Lib.hid (HTtb.out.below hb)
    replace HFtc := Lib.hid (HFtc.out.below hb)
    replace HTtc := Lib.hid (HTtc.out.below hb)
    replace HB := Lib.hid (bnext HB.out hb)
    obtain ⟨x0, x1, _⟩ := HX0.out.cells
    obtain ⟨y0, y1, _⟩ := HX1.out.cells
    obtain ⟨z0, z1, _⟩ := HX2.out.cells
    clear hb HQ
    have hC := NAB.out w102 HFta.out HTta.out HFtb.out HTtb.out
    have HQ := Lib.hid hC
    clear hC
    go_wp2_with fail
    refine HQ.out.mono ?_
    rintro e w103 ⟨rfl, hb⟩
    clear x0 x1
    clear y0 y1
    clear z0 z1
    replace HX0 := Lib.hid (HX0.out.below hb)
    replace HX1 := Lib.hid (HX1.out.below hb)
    replace HX2 := Lib.hid (HX2.out.below hb)
    replace HFta := Lib.hid (HFta.out.below hb)
    replace HTta := Lib.hid (HTta.out.below hb)
    replace HFtb := Lib.hid (HFtb.out.below hb)
    replace HTtb := Lib.hid (HTtb.out.below hb)
    replace HFtc := Lib.hid (HFtc.out.below hb)
    replace HTtc := Lib.hid (HTtc.out.below hb)
    replace HB := Lib.hid (bnext HB.out hb)
    obtain ⟨x0, x1, _⟩ := HX0.out.cells
    obtain ⟨y0, y1, _⟩ := HX1.out.cells
    obtain ⟨z0, z1, _⟩ := HX2.out.cells
    clear hb HQ
    go_wp2
    clear x0 x1
    clear y0 y1
    clear z0 z1
    refine wp_region_held_drew (S := fun w' => Below w103.heap.size w103 w') (by kernel_rfl) ((Below.refl _ _).drew) (fun ha => ?_)
    replace ha : Below w103.heap.size w103 w103.drew := (Below.refl _ _).drew
    generalize w103.drew = wa at ha ⊢
    refine takeH (i := 0) (v := ?_) rfl (by kernel_rfl) (by kernel_rfl) (by kernel_rfl) (fun _ _ _ h => h) (Or.inl ⟨by rfl, ?_⟩) (by assumption) ?_
    rotate_left
    · (intro w hSw; (try dsimp only at hSw); obtain ⟨hc0, hc1, _⟩ := (HX0.out.below hSw).cells; go_simp; first | done | with_reducible rfl)
    (try simp only [Act.put, List.setIfInBounds_toArray, List.set_cons_zero, List.set_cons_succ])
    refine takeH (i := 1) (v := ?_) rfl (by kernel_rfl) (by kernel_rfl) (by kernel_rfl) (fun _ _ _ h => h) (Or.inl ⟨by rfl, ?_⟩) (by assumption) ?_
    rotate_left
    · (intro w hSw; (try dsimp only at hSw); obtain ⟨hc0, hc1, _⟩ := (HX0.out.below hSw).cells; go_simp; first | done | with_reducible rfl)
    (try simp only [Act.put, List.setIfInBounds_toArray, List.set_cons_zero, List.set_cons_succ])
    refine takeH (i := 2) (v := ?_) rfl (by kernel_rfl) (by kernel_rfl) (by kernel_rfl) (fun _ _ _ h => h) (Or.inl ⟨by rfl, ?_⟩) (by assumption) ?_
    rotate_left
    · (intro w hSw; (try dsimp only at hSw); obtain ⟨hc0, hc1, _⟩ := (HX1.out.below hSw).cells; go_simp; first | done | with_reducible rfl)
    (try simp only [Act.put, List.setIfInBounds_toArray, List.set_cons_zero, List.set_cons_succ])
    refine wpAnyH_ready (rs := [3]) (by kernel_rfl) (by simp) ?_
    refine stepH rfl (fun K hK => ?_) AllReadyH.nil
    go_simp
    refine (HLAB.out wa (HFta.out.below ha) (HTta.out.below ha) (HFtb.out.below ha) (HTtb.out.below ha)).mono ?_
    rintro e wr1 ⟨v1, u1, rfl, k1, l1, hq⟩
    have K1 := Lib.hid k1
    have L1 := Lib.hid l1
    clear k1 l1
    have hr1 := bnext ha hq
    go_wp2_with fail
    refine hK.out _ _ (hr1) (fun _ => ?_)
    clear hK K
    (try simp only [Act.put, List.setIfInBounds_toArray, List.set_cons_zero, List.set_cons_succ])
    refine wpAnyH_ready (rs := [4]) (by kernel_rfl) (by simp) ?_
    refine stepH rfl (fun K hK => ?_) AllReadyH.nil
    go_simp
    refine (NAL.out _ _ wr1 (HFta.out.below hr1) (HTta.out.below hr1) K1.out L1.out).mono ?_
    rintro e wr2 ⟨rfl, hq⟩
    replace K1 := Lib.hid (K1.out.below hq)
    replace L1 := Lib.hid (L1.out.below hq)
    have hr2 := bnext hr1 hq
    go_wp2_with fail
    refine hK.out _ _ (hr2) (fun _ => ?_)
    clear hK K
    (try simp only [Act.put, List.setIfInBounds_toArray, List.set_cons_zero, List.set_cons_succ])
    refine takeH (i := 5) (v := ?_) rfl (by kernel_rfl) (by kernel_rfl) (by kernel_rfl) (fun _ _ _ h => h) (Or.inl ⟨by rfl, ?_⟩) (by assumption) ?_
    rotate_left
    · (intro w hSw; (try dsimp only at hSw); go_simp; first | done | with_reducible rfl)
    (try simp only [Act.put, List.setIfInBounds_toArray, List.set_cons_zero, List.set_cons_succ])
    refine takeH (i := 6) (v := ?_) rfl (by kernel_rfl) (by kernel_rfl) (by kernel_rfl) (fun _ _ _ h => h) (Or.inl ⟨by rfl, ?_⟩) (by assumption) ?_
    rotate_left
    · (intro w hSw; (try dsimp only at hSw); go_simp; first | done | with_reducible rfl)
    (try simp only [Act.put, List.setIfInBounds_toArray, List.set_cons_zero, List.set_cons_succ])
    refine takeH (i := 7) (v := ?_) rfl (by kernel_rfl) (by kernel_rfl) (by kernel_rfl) (fun _ _ _ h => h) (Or.inl ⟨by rfl, ?_⟩) (by assumption) ?_
    rotate_left
    · (intro w hSw; (try dsimp only at hSw); obtain ⟨hc0, hc1, _⟩ := (HX0.out.below hSw).cells; go_simp; first | done | with_reducible rfl)
    (try simp only [Act.put, List.setIfInBounds_toArray, List.set_cons_zero, List.set_cons_succ])
    refine takeH (i := 8) (v := ?_) rfl (by kernel_rfl) (by kernel_rfl) (by kernel_rfl) (fun _ _ _ h => h) (Or.inl ⟨by rfl, ?_⟩) (by assumption) ?_
    rotate_left
    · (intro w hSw; (try dsimp only at hSw); obtain ⟨hc0, hc1, _⟩ := (HX0.out.below hSw).cells; go_simp; first | done | with_reducible rfl)
    (try simp only [Act.put, List.setIfInBounds_toArray, List.set_cons_zero, List.set_cons_succ])
    refine takeH (i := 10) (v := ?_) rfl (by kernel_rfl) (by kernel_rfl) (by kernel_rfl) (fun _ _ _ h => h) (Or.inl ⟨by rfl, ?_⟩) (by assumption) ?_
    rotate_left
    · (intro w hSw; (try dsimp only at hSw); obtain ⟨hc0, hc1, _⟩ := (HX0.out.below hSw).cells; go_simp; first | done | with_reducible rfl)
    (try simp only [Act.put, List.setIfInBounds_toArray, List.set_cons_zero, List.set_cons_succ])
    refine wpAnyH_ready (rs := [9]) (by kernel_rfl) (by simp) ?_
    refine stepH rfl (fun K hK => ?_) AllReadyH.nil
    go_simp
    refine (HLAA.out wr2 (HFta.out.below hr2) (HTta.out.below hr2)).mono ?_
    rintro e wr3 ⟨v2, u2, rfl, k2, l2, hq⟩
    replace K1 := Lib.hid (K1.out.below hq)
    replace L1 := Lib.hid (L1.out.below hq)
    have K2 := Lib.hid k2
    have L2 := Lib.hid l2
    clear k2 l2
    have hr3 := bnext hr2 hq
    go_wp2_with fail
    refine hK.out _ _ (hr3) (fun _ => ?_)
    clear hK K
    (try simp only [Act.put, List.setIfInBounds_toArray, List.set_cons_zero, List.set_cons_succ])
    refine wpAnyH_ready (rs := [11]) (by kernel_rfl) (by simp) ?_
    refine stepH rfl (fun K hK => ?_) AllReadyH.nil
    go_simp
    refine (HEQ.out _ _ wr3 (HFta.out.below hr3) (HTta.out.below hr3) K2.out L2.out).mono ?_
    rintro e wr4 ⟨rfl, hq⟩
    replace K1 := Lib.hid (K1.out.below hq)
    replace L1 := Lib.hid (L1.out.below hq)
    replace K2 := Lib.hid (K2.out.below hq)
    replace L2 := Lib.hid (L2.out.below hq)
    have hr4 := bnext hr3 hq
    go_wp2_with fail
    refine hK.out _ _ (hr4) (fun _ => ?_)
    clear hK K
    (try simp only [Act.put, List.setIfInBounds_toArray, List.set_cons_zero, List.set_cons_succ])
    refine takeH (i := 12) (v := ?_) rfl (by kernel_rfl) (by kernel_rfl) (by kernel_rfl) (fun _ _ _ h => h) (Or.inl ⟨by rfl, ?_⟩) (by assumption) ?_
    rotate_left
    · (intro w hSw; (try dsimp only at hSw); go_simp; first | done | with_reducible rfl)
    (try simp only [Act.put, List.setIfInBounds_toArray, List.set_cons_zero, List.set_cons_succ])
    refine takeH (i := 13) (v := ?_) rfl (by kernel_rfl) (by kernel_rfl) (by kernel_rfl) (fun _ _ _ h => h) (Or.inl ⟨by rfl, ?_⟩) (by assumption) ?_
    rotate_left
    · (intro w hSw; (try dsimp only at hSw); go_simp; first | done | with_reducible rfl)
    (try simp only [Act.put, List.setIfInBounds_toArray, List.set_cons_zero, List.set_cons_succ])
    refine takeH (i := 14) (v := ?_) rfl (by kernel_rfl) (by kernel_rfl) (by kernel_rfl) (fun _ _ _ h => h) (Or.inl ⟨by rfl, ?_⟩) (by assumption) ?_
    rotate_left
    · (intro w hSw; (try dsimp only at hSw); obtain ⟨hc0, hc1, _⟩ := (HX1.out.below hSw).cells; go_simp; first | done | with_reducible rfl)
    (try simp only [Act.put, List.setIfInBounds_toArray, List.set_cons_zero, List.set_cons_succ])
    refine takeH (i := 15) (v := ?_) rfl (by kernel_rfl) (by kernel_rfl) (by kernel_rfl) (fun _ _ _ h => h) (Or.inl ⟨by rfl, ?_⟩) (by assumption) ?_
    rotate_left
    · (intro w hSw; (try dsimp only at hSw); obtain ⟨hc0, hc1, _⟩ := (HX0.out.below hSw).cells; go_simp; first | done | with_reducible rfl)
    (try simp only [Act.put, List.setIfInBounds_toArray, List.set_cons_zero, List.set_cons_succ])
    refine takeH (i := 17) (v := ?_) rfl (by kernel_rfl) (by kernel_rfl) (by kernel_rfl) (fun _ _ _ h => h) (Or.inl ⟨by rfl, ?_⟩) (by assumption) ?_
    rotate_left
    · (intro w hSw; (try dsimp only at hSw); obtain ⟨hc0, hc1, _⟩ := (HX0.out.below hSw).cells; go_simp; first | done | with_reducible rfl)
    (try simp only [Act.put, List.setIfInBounds_toArray, List.set_cons_zero, List.set_cons_succ])
    refine takeH (i := 18) (v := ?_) rfl (by kernel_rfl) (by kernel_rfl) (by kernel_rfl) (fun _ _ _ h => h) (Or.inl ⟨by rfl, ?_⟩) (by assumption) ?_
    rotate_left
    · (intro w hSw; (try dsimp only at hSw); obtain ⟨hc0, hc1, _⟩ := (HX1.out.below hSw).cells; go_simp; first | done | with_reducible rfl)
    (try simp only [Act.put, List.setIfInBounds_toArray, List.set_cons_zero, List.set_cons_succ])
    refine takeH (i := 20) (v := ?_) rfl (by kernel_rfl) (by kernel_rfl) (by kernel_rfl) (fun _ _ _ h => h) (Or.inl ⟨by rfl, ?_⟩) (by assumption) ?_
    rotate_left
    · (intro w hSw; (try dsimp only at hSw); obtain ⟨hc0, hc1, _⟩ := (HX0.out.below hSw).cells; go_simp; first | done | with_reducible rfl)
    (try simp only [Act.put, List.setIfInBounds_toArray, List.set_cons_zero, List.set_cons_succ])
    refine wpAnyH_ready (rs := [16]) (by kernel_rfl) (by simp) ?_
    refine stepH rfl (fun K hK => ?_) AllReadyH.nil
    go_simp
    refine (NBA.out wr4 (HFtb.out.below hr4) (HTtb.out.below hr4) (HFta.out.below hr4) (HTta.out.below hr4)).mono ?_
    rintro e wr5 ⟨rfl, hq⟩
    replace K1 := Lib.hid (K1.out.below hq)
    replace L1 := Lib.hid (L1.out.below hq)
    replace K2 := Lib.hid (K2.out.below hq)
    replace L2 := Lib.hid (L2.out.below hq)
    have hr5 := bnext hr4 hq
    go_wp2_with fail
    refine hK.out _ _ (hr5) (fun _ => ?_)
    clear hK K
    (try simp only [Act.put, List.setIfInBounds_toArray, List.set_cons_zero, List.set_cons_succ])
    refine wpAnyH_ready (rs := [19]) (by kernel_rfl) (by simp) ?_
    refine stepH rfl (fun K hK => ?_) AllReadyH.nil
    go_simp
    refine (HLAB.out wr5 (HFta.out.below hr5) (HTta.out.below hr5) (HFtb.out.below hr5) (HTtb.out.below hr5)).mono ?_
    rintro e wr6 ⟨v3, u3, rfl, k3, l3, hq⟩
    replace K1 := Lib.hid (K1.out.below hq)
    replace L1 := Lib.hid (L1.out.below hq)
    replace K2 := Lib.hid (K2.out.below hq)
    replace L2 := Lib.hid (L2.out.below hq)
    have K3 := Lib.hid k3
    have L3 := Lib.hid l3
    clear k3 l3
    have hr6 := bnext hr5 hq
    go_wp2_with fail
    refine hK.out _ _ (hr6) (fun _ => ?_)
    clear hK K
    (try simp only [Act.put, List.setIfInBounds_toArray, List.set_cons_zero, List.set_cons_succ])
    refine wpAnyH_ready (rs := [21]) (by kernel_rfl) (by simp) ?_
    refine stepH rfl (fun K hK => ?_) AllReadyH.nil
    go_simp
    refine (NLA.out _ _ wr6 (HFta.out.below hr6) (HTta.out.below hr6) K3.out L3.out).mono ?_
    rintro e wr7 ⟨rfl, hq⟩
    replace K1 := Lib.hid (K1.out.below hq)
    replace L1 := Lib.hid (L1.out.below hq)
    replace K2 := Lib.hid (K2.out.below hq)
    replace L2 := Lib.hid (L2.out.below hq)
    replace K3 := Lib.hid (K3.out.below hq)
    replace L3 := Lib.hid (L3.out.below hq)
    have hr7 := bnext hr6 hq
    go_wp2_with fail
    refine hK.out _ _ (hr7) (fun _ => ?_)
    clear hK K
    (try simp only [Act.put, List.setIfInBounds_toArray, List.set_cons_zero, List.set_cons_succ])
    refine takeH (i := 22) (v := ?_) rfl (by kernel_rfl) (by kernel_rfl) (by kernel_rfl) (fun _ _ _ h => h) (Or.inl ⟨by rfl, ?_⟩) (by assumption) ?_
    rotate_left
    · (intro w hSw; (try dsimp only at hSw); go_simp; first | done | with_reducible rfl)
    (try simp only [Act.put, List.setIfInBounds_toArray, List.set_cons_zero, List.set_cons_succ])
    refine takeH (i := 23) (v := ?_) rfl (by kernel_rfl) (by kernel_rfl) (by kernel_rfl) (fun _ _ _ h => h) (Or.inl ⟨by rfl, ?_⟩) (by assumption) ?_
    rotate_left
    · (intro w hSw; (try dsimp only at hSw); go_simp; first | done | with_reducible rfl)
    (try simp only [Act.put, List.setIfInBounds_toArray, List.set_cons_zero, List.set_cons_succ])
    refine takeH (i := 24) (v := ?_) rfl (by kernel_rfl) (by kernel_rfl) (by kernel_rfl) (fun _ _ _ h => h) (Or.inl ⟨by rfl, ?_⟩) (by assumption) ?_
    rotate_left
    · (intro w hSw; (try dsimp only at hSw); go_simp; first | done | with_reducible rfl)
    (try simp only [Act.put, List.setIfInBounds_toArray, List.set_cons_zero, List.set_cons_succ])
    refine wpAnyH_ready (rs := [25]) (by kernel_rfl) (by simp) ?_
    refine stepH rfl (fun K hK => ?_) AllReadyH.nil
    go_simp
    refine (cAwake13 ct wr7).mono ?_
    rintro e wr8 ⟨rfl, hq⟩
    replace K1 := Lib.hid (K1.out.below hq)
    replace L1 := Lib.hid (L1.out.below hq)
    replace K2 := Lib.hid (K2.out.below hq)
    replace L2 := Lib.hid (L2.out.below hq)
    replace K3 := Lib.hid (K3.out.below hq)
    replace L3 := Lib.hid (L3.out.below hq)
    have hr8 := bnext hr7 hq
    go_wp2_with fail
    refine hK.out _ _ (hr8) (fun _ => ?_)
    clear hK K
    (try simp only [Act.put, List.setIfInBounds_toArray, List.set_cons_zero, List.set_cons_succ])
    refine takeH (i := 26) (v := ?_) rfl (by kernel_rfl) (by kernel_rfl) (by kernel_rfl) (fun _ _ _ h => h) (Or.inl ⟨by rfl, ?_⟩) (by assumption) ?_
    rotate_left
    · (intro w hSw; (try dsimp only at hSw); go_simp; first | done | with_reducible rfl)
    (try simp only [Act.put, List.setIfInBounds_toArray, List.set_cons_zero, List.set_cons_succ])
    refine takeH (i := 27) (v := ?_) rfl (by kernel_rfl) (by kernel_rfl) (by kernel_rfl) (fun _ _ _ h => h) (Or.inl ⟨by rfl, ?_⟩) (by assumption) ?_
    rotate_left
    · (intro w hSw; (try dsimp only at hSw); go_simp; first | done | with_reducible rfl)
    (try simp only [Act.put, List.setIfInBounds_toArray, List.set_cons_zero, List.set_cons_succ])
    refine wpAnyH_done (by kernel_rfl) ?_ _
    have HZ := Lib.hid (bnext HB.out hr8)
    go_wp2
    go_ret
    exact ⟨rfl, HZ.out⟩
  obtain rfl : Nba = false := hasy.out rfl
  cases Nbc
  · clear hasy htra NAC
    obtain ⟨x0, x1, _⟩ := HX0.out.cells
    obtain ⟨y0, y1, _⟩ := HX1.out.cells
    obtain ⟨z0, z1, _⟩ := HX2.out.cells
    have hC := NAA.out w105 HFta.out HTta.out HFta.out HTta.out
    have HQ := Lib.hid hC
    clear hC
    go_wp2_with fail
    refine HQ.out.mono ?_
    rintro e w101 ⟨rfl, hb⟩
    clear x0 x1
    clear y0 y1
    clear z0 z1
    replace HX0 := Lib.hid (HX0.out.below hb)
    replace HX1 := Lib.hid (HX1.out.below hb)
    replace HX2 := Lib.hid (HX2.out.below hb)
    replace HFta := Lib.hid (HFta.out.below hb)
    replace HTta := Lib.hid (HTta.out.below hb)
    replace HFtb := Lib.hid (HFtb.out.below hb)
    replace HTtb := Lib.hid (HTtb.out.below hb)
    replace HFtc := Lib.hid (HFtc.out.below hb)
    replace HTtc := Lib.hid (HTtc.out.below hb)
    replace HB := Lib.hid (bnext HB.out hb)
    obtain ⟨x0, x1, _⟩ := HX0.out.cells
    obtain ⟨y0, y1, _⟩ := HX1.out.cells
    obtain ⟨z0, z1, _⟩ := HX2.out.cells
    clear hb HQ
    have hC := NAB.out w101 HFta.out HTta.out HFtb.out HTtb.out
    have HQ := Lib.hid hC
    clear hC
    go_wp2_with fail
    refine HQ.out.mono ?_
    rintro e w102 ⟨rfl, hb⟩
    clear x0 x1
    clear y0 y1
    clear z0 z1
    replace HX0 := Lib.hid (HX0.out.below hb)
    replace HX1 := Lib.hid (HX1.out.below hb)
    replace HX2 := Lib.hid (HX2.out.below hb)
    replace HFta := Lib.hid (HFta.out.below hb)
    replace HTta := Lib.hid (HTta.out.below hb)
    replace HFtb := Lib.hid (HFtb.out.below hb)
    replace HTtb := Lib.hid (HTtb.out.below hb)
    replace HFtc := Lib.hid (HFtc.out.below hb)
    replace HTtc := Lib.hid (HTtc.out.below hb)
    replace HB := Lib.hid (bnext HB.out hb)
    obtain ⟨x0, x1, _⟩ := HX0.out.cells
    obtain ⟨y0, y1, _⟩ := HX1.out.cells
    obtain ⟨z0, z1, _⟩ := HX2.out.cells
    clear hb HQ
    have hC := NBA.out w102 HFtb.out HTtb.out HFta.out HTta.out
    have HQ := Lib.hid hC
    clear hC
    go_wp2_with fail
    refine HQ.out.mono ?_
    rintro e w103 ⟨rfl, hb⟩
    clear x0 x1
    clear y0 y1
    clear z0 z1
    replace HX0 := Lib.hid (HX0.out.below hb)
    replace HX1 := Lib.hid (HX1.out.below hb)
    replace HX2 := Lib.hid (HX2.out.below hb)
    replace HFta := Lib.hid (HFta.out.below hb)
    replace HTta := Lib.hid (HTta.out.below hb)
    replace HFtb := Lib.hid (HFtb.out.below hb)
    replace HTtb := Lib.hid (HTtb.out.below hb)
    replace HFtc := Lib.hid (HFtc.out.below hb)
    replace HTtc := Lib.hid (HTtc.out.below hb)
    replace HB := Lib.hid (bnext HB.out hb)
    obtain ⟨x0, x1, _⟩ := HX0.out.cells
    obtain ⟨y0, y1, _⟩ := HX1.out.cells
    obtain ⟨z0, z1, _⟩ := HX2.out.cells
    clear hb HQ
    have hC := NAB.out w103 HFta.out HTta.out HFtb.out HTtb.out
    have HQ := Lib.hid hC
    clear hC
    go_wp2_with fail
    refine HQ.out.mono ?_
    rintro e w104 ⟨rfl, hb⟩
    clear x0 x1
    clear y0 y1
    clear z0 z1
    replace HX0 := Lib.hid (HX0.out.below hb)
    replace HX1 := Lib.hid (HX1.out.below hb)
    replace HX2 := Lib.hid (HX2.out.below hb)
    replace HFta := Lib.hid (HFta.out.below hb)
    replace HTta := Lib.hid (HTta.out.below hb)
    replace HFtb := Lib.hid (HFtb.out.below hb)
    replace HTtb := Lib.hid (HTtb.out.below hb)
    replace HFtc := Lib.hid (HFtc.out.below hb)
    replace HTtc := Lib.hid (HTtc.out.below hb)
    replace HB := Lib.hid (bnext HB.out hb)
    obtain ⟨x0, x1, _⟩ := HX0.out.cells
    obtain ⟨y0, y1, _⟩ := HX1.out.cells
    obtain ⟨z0, z1, _⟩ := HX2.out.cells
    clear hb HQ
    have hC := NBC.out w104 HFtb.out HTtb.out HFtc.out HTtc.out
    have HQ := Lib.hid hC
    clear hC
    go_wp2_with fail
    refine HQ.out.mono ?_
    rintro e w105 ⟨rfl, hb⟩
    clear x0 x1
    clear y0 y1
    clear z0 z1
    replace HX0 := Lib.hid (HX0.out.below hb)
    replace HX1 := Lib.hid (HX1.out.below hb)
    replace HX2 := Lib.hid (HX2.out.below hb)
    replace HFta := Lib.hid (HFta.out.below hb)
    replace HTta := Lib.hid (HTta.out.below hb)
    replace HFtb := Lib.hid (HFtb.out.below hb)
    replace HTtb := Lib.hid (HTtb.out.below hb)
    replace HFtc := Lib.hid (HFtc.out.below hb)
    replace HTtc := Lib.hid (HTtc.out.below hb)
    replace HB := Lib.hid (bnext HB.out hb)
    obtain ⟨x0, x1, _⟩ := HX0.out.cells
    obtain ⟨y0, y1, _⟩ := HX1.out.cells
    obtain ⟨z0, z1, _⟩ := HX2.out.cells
    clear hb HQ
    go_wp2
    clear x0 x1
    clear y0 y1
    clear z0 z1
    refine wp_region_held_drew (S := fun w' => Below w105.heap.size w105 w') (by kernel_rfl) ((Below.refl _ _).drew) (fun ha => ?_)
    replace ha : Below w105.heap.size w105 w105.drew := (Below.refl _ _).drew
    generalize w105.drew = wa at ha ⊢
    refine takeH (i := 0) (v := ?_) rfl (by kernel_rfl) (by kernel_rfl) (by kernel_rfl) (fun _ _ _ h => h) (Or.inl ⟨by rfl, ?_⟩) (by assumption) ?_
    rotate_left
    · (intro w hSw; (try dsimp only at hSw); obtain ⟨hc0, hc1, _⟩ := (HX0.out.below hSw).cells; go_simp; first | done | with_reducible rfl)
    (try simp only [Act.put, List.setIfInBounds_toArray, List.set_cons_zero, List.set_cons_succ])
    refine takeH (i := 1) (v := ?_) rfl (by kernel_rfl) (by kernel_rfl) (by kernel_rfl) (fun _ _ _ h => h) (Or.inl ⟨by rfl, ?_⟩) (by assumption) ?_
    rotate_left
    · (intro w hSw; (try dsimp only at hSw); obtain ⟨hc0, hc1, _⟩ := (HX0.out.below hSw).cells; go_simp; first | done | with_reducible rfl)
    (try simp only [Act.put, List.setIfInBounds_toArray, List.set_cons_zero, List.set_cons_succ])
    refine takeH (i := 2) (v := ?_) rfl (by kernel_rfl) (by kernel_rfl) (by kernel_rfl) (fun _ _ _ h => h) (Or.inl ⟨by rfl, ?_⟩) (by assumption) ?_
    rotate_left
    · (intro w hSw; (try dsimp only at hSw); obtain ⟨hc0, hc1, _⟩ := (HX1.out.below hSw).cells; go_simp; first | done | with_reducible rfl)
    (try simp only [Act.put, List.setIfInBounds_toArray, List.set_cons_zero, List.set_cons_succ])
    refine wpAnyH_ready (rs := [3]) (by kernel_rfl) (by simp) ?_
    refine stepH rfl (fun K hK => ?_) AllReadyH.nil
    go_simp
    refine (HLAB.out wa (HFta.out.below ha) (HTta.out.below ha) (HFtb.out.below ha) (HTtb.out.below ha)).mono ?_
    rintro e wr1 ⟨v1, u1, rfl, k1, l1, hq⟩
    have K1 := Lib.hid k1
    have L1 := Lib.hid l1
    clear k1 l1
    have hr1 := bnext ha hq
    go_wp2_with fail
    refine hK.out _ _ (hr1) (fun _ => ?_)
    clear hK K
    (try simp only [Act.put, List.setIfInBounds_toArray, List.set_cons_zero, List.set_cons_succ])
    refine wpAnyH_ready (rs := [4]) (by kernel_rfl) (by simp) ?_
    refine stepH rfl (fun K hK => ?_) AllReadyH.nil
    go_simp
    refine (NAL.out _ _ wr1 (HFta.out.below hr1) (HTta.out.below hr1) K1.out L1.out).mono ?_
    rintro e wr2 ⟨rfl, hq⟩
    replace K1 := Lib.hid (K1.out.below hq)
    replace L1 := Lib.hid (L1.out.below hq)
    have hr2 := bnext hr1 hq
    go_wp2_with fail
    refine hK.out _ _ (hr2) (fun _ => ?_)
    clear hK K
    (try simp only [Act.put, List.setIfInBounds_toArray, List.set_cons_zero, List.set_cons_succ])
    refine takeH (i := 5) (v := ?_) rfl (by kernel_rfl) (by kernel_rfl) (by kernel_rfl) (fun _ _ _ h => h) (Or.inl ⟨by rfl, ?_⟩) (by assumption) ?_
    rotate_left
    · (intro w hSw; (try dsimp only at hSw); go_simp; first | done | with_reducible rfl)
    (try simp only [Act.put, List.setIfInBounds_toArray, List.set_cons_zero, List.set_cons_succ])
    refine takeH (i := 6) (v := ?_) rfl (by kernel_rfl) (by kernel_rfl) (by kernel_rfl) (fun _ _ _ h => h) (Or.inl ⟨by rfl, ?_⟩) (by assumption) ?_
    rotate_left
    · (intro w hSw; (try dsimp only at hSw); go_simp; first | done | with_reducible rfl)
    (try simp only [Act.put, List.setIfInBounds_toArray, List.set_cons_zero, List.set_cons_succ])
    refine takeH (i := 7) (v := ?_) rfl (by kernel_rfl) (by kernel_rfl) (by kernel_rfl) (fun _ _ _ h => h) (Or.inl ⟨by rfl, ?_⟩) (by assumption) ?_
    rotate_left
    · (intro w hSw; (try dsimp only at hSw); obtain ⟨hc0, hc1, _⟩ := (HX0.out.below hSw).cells; go_simp; first | done | with_reducible rfl)
    (try simp only [Act.put, List.setIfInBounds_toArray, List.set_cons_zero, List.set_cons_succ])
    refine takeH (i := 8) (v := ?_) rfl (by kernel_rfl) (by kernel_rfl) (by kernel_rfl) (fun _ _ _ h => h) (Or.inl ⟨by rfl, ?_⟩) (by assumption) ?_
    rotate_left
    · (intro w hSw; (try dsimp only at hSw); obtain ⟨hc0, hc1, _⟩ := (HX0.out.below hSw).cells; go_simp; first | done | with_reducible rfl)
    (try simp only [Act.put, List.setIfInBounds_toArray, List.set_cons_zero, List.set_cons_succ])
    refine takeH (i := 10) (v := ?_) rfl (by kernel_rfl) (by kernel_rfl) (by kernel_rfl) (fun _ _ _ h => h) (Or.inl ⟨by rfl, ?_⟩) (by assumption) ?_
    rotate_left
    · (intro w hSw; (try dsimp only at hSw); obtain ⟨hc0, hc1, _⟩ := (HX0.out.below hSw).cells; go_simp; first | done | with_reducible rfl)
    (try simp only [Act.put, List.setIfInBounds_toArray, List.set_cons_zero, List.set_cons_succ])
    refine wpAnyH_ready (rs := [9]) (by kernel_rfl) (by simp) ?_
    refine stepH rfl (fun K hK => ?_) AllReadyH.nil
    go_simp
    refine (HLAA.out wr2 (HFta.out.below hr2) (HTta.out.below hr2)).mono ?_
    rintro e wr3 ⟨v2, u2, rfl, k2, l2, hq⟩
    replace K1 := Lib.hid (K1.out.below hq)
    replace L1 := Lib.hid (L1.out.below hq)
    have K2 := Lib.hid k2
    have L2 := Lib.hid l2
    clear k2 l2
    have hr3 := bnext hr2 hq
    go_wp2_with fail
    refine hK.out _ _ (hr3) (fun _ => ?_)
    clear hK K
    (try simp only [Act.put, List.setIfInBounds_toArray, List.set_cons_zero, List.set_cons_succ])
    refine wpAnyH_ready (rs := [11]) (by kernel_rfl) (by simp) ?_
    refine stepH rfl (fun K hK => ?_) AllReadyH.nil
    go_simp
    refine (HEQ.out _ _ wr3 (HFta.out.below hr3) (HTta.out.below hr3) K2.out L2.out).mono ?_
    rintro e wr4 ⟨rfl, hq⟩
    replace K1 := Lib.hid (K1.out.below hq)
    replace L1 := Lib.hid (L1.out.below hq)
    replace K2 := Lib.hid (K2.out.below hq)
    replace L2 := Lib.hid (L2.out.below hq)
    have hr4 := bnext hr3 hq
    go_wp2_with fail
    refine hK.out _ _ (hr4) (fun _ => ?_)
    clear hK K
    (try simp only [Act.put, List.setIfInBounds_toArray, List.set_cons_zero, List.set_cons_succ])
    refine takeH (i := 12) (v := ?_) rfl (by kernel_rfl) (by kernel_rfl) (by kernel_rfl) (fun _ _ _ h => h) (Or.inl ⟨by rfl, ?_⟩) (by assumption) ?_
    rotate_left
    · (intro w hSw; (try dsimp only at hSw); go_simp; first | done | with_reducible rfl)
    (try simp only [Act.put, List.setIfInBounds_toArray, List.set_cons_zero, List.set_cons_succ])
    refine takeH (i := 13) (v := ?_) rfl (by kernel_rfl) (by kernel_rfl) (by kernel_rfl) (fun _ _ _ h => h) (Or.inl ⟨by rfl, ?_⟩) (by assumption) ?_
    rotate_left
    · (intro w hSw; (try dsimp only at hSw); go_simp; first | done | with_reducible rfl)
    (try simp only [Act.put, List.setIfInBounds_toArray, List.set_cons_zero, List.set_cons_succ])
    refine takeH (i := 14) (v := ?_) rfl (by kernel_rfl) (by kernel_rfl) (by kernel_rfl) (fun _ _ _ h => h) (Or.inl ⟨by rfl, ?_⟩) (by assumption) ?_
    rotate_left
    · (intro w hSw; (try dsimp only at hSw); obtain ⟨hc0, hc1, _⟩ := (HX1.out.below hSw).cells; go_simp; first | done | with_reducible rfl)
    (try simp only [Act.put, List.setIfInBounds_toArray, List.set_cons_zero, List.set_cons_succ])
    refine takeH (i := 15) (v := ?_) rfl (by kernel_rfl) (by kernel_rfl) (by kernel_rfl) (fun _ _ _ h => h) (Or.inl ⟨by rfl, ?_⟩) (by assumption) ?_
    rotate_left
    · (intro w hSw; (try dsimp only at hSw); obtain ⟨hc0, hc1, _⟩ := (HX0.out.below hSw).cells; go_simp; first | done | with_reducible rfl)
    (try simp only [Act.put, List.setIfInBounds_toArray, List.set_cons_zero, List.set_cons_succ])
    refine takeH (i := 17) (v := ?_) rfl (by kernel_rfl) (by kernel_rfl) (by kernel_rfl) (fun _ _ _ h => h) (Or.inl ⟨by rfl, ?_⟩) (by assumption) ?_
    rotate_left
    · (intro w hSw; (try dsimp only at hSw); obtain ⟨hc0, hc1, _⟩ := (HX0.out.below hSw).cells; go_simp; first | done | with_reducible rfl)
    (try simp only [Act.put, List.setIfInBounds_toArray, List.set_cons_zero, List.set_cons_succ])
    refine takeH (i := 18) (v := ?_) rfl (by kernel_rfl) (by kernel_rfl) (by kernel_rfl) (fun _ _ _ h => h) (Or.inl ⟨by rfl, ?_⟩) (by assumption) ?_
    rotate_left
    · (intro w hSw; (try dsimp only at hSw); obtain ⟨hc0, hc1, _⟩ := (HX1.out.below hSw).cells; go_simp; first | done | with_reducible rfl)
    (try simp only [Act.put, List.setIfInBounds_toArray, List.set_cons_zero, List.set_cons_succ])
    refine takeH (i := 20) (v := ?_) rfl (by kernel_rfl) (by kernel_rfl) (by kernel_rfl) (fun _ _ _ h => h) (Or.inl ⟨by rfl, ?_⟩) (by assumption) ?_
    rotate_left
    · (intro w hSw; (try dsimp only at hSw); obtain ⟨hc0, hc1, _⟩ := (HX0.out.below hSw).cells; go_simp; first | done | with_reducible rfl)
    (try simp only [Act.put, List.setIfInBounds_toArray, List.set_cons_zero, List.set_cons_succ])
    refine wpAnyH_ready (rs := [16]) (by kernel_rfl) (by simp) ?_
    refine stepH rfl (fun K hK => ?_) AllReadyH.nil
    go_simp
    refine (NBA.out wr4 (HFtb.out.below hr4) (HTtb.out.below hr4) (HFta.out.below hr4) (HTta.out.below hr4)).mono ?_
    rintro e wr5 ⟨rfl, hq⟩
    replace K1 := Lib.hid (K1.out.below hq)
    replace L1 := Lib.hid (L1.out.below hq)
    replace K2 := Lib.hid (K2.out.below hq)
    replace L2 := Lib.hid (L2.out.below hq)
    have hr5 := bnext hr4 hq
    go_wp2_with fail
    refine hK.out _ _ (hr5) (fun _ => ?_)
    clear hK K
    (try simp only [Act.put, List.setIfInBounds_toArray, List.set_cons_zero, List.set_cons_succ])
    refine wpAnyH_ready (rs := [19]) (by kernel_rfl) (by simp) ?_
    refine stepH rfl (fun K hK => ?_) AllReadyH.nil
    go_simp
    refine (HLAB.out wr5 (HFta.out.below hr5) (HTta.out.below hr5) (HFtb.out.below hr5) (HTtb.out.below hr5)).mono ?_
    rintro e wr6 ⟨v3, u3, rfl, k3, l3, hq⟩
    replace K1 := Lib.hid (K1.out.below hq)
    replace L1 := Lib.hid (L1.out.below hq)
    replace K2 := Lib.hid (K2.out.below hq)
    replace L2 := Lib.hid (L2.out.below hq)
    have K3 := Lib.hid k3
    have L3 := Lib.hid l3
    clear k3 l3
    have hr6 := bnext hr5 hq
    go_wp2_with fail
    refine hK.out _ _ (hr6) (fun _ => ?_)
    clear hK K
    (try simp only [Act.put, List.setIfInBounds_toArray, List.set_cons_zero, List.set_cons_succ])
    refine wpAnyH_ready (rs := [21]) (by kernel_rfl) (by simp) ?_
    refine stepH rfl (fun K hK => ?_) AllReadyH.nil
    go_simp
    refine (NLA.out _ _ wr6 (HFta.out.below hr6) (HTta.out.below hr6) K3.out L3.out).mono ?_
    rintro e wr7 ⟨rfl, hq⟩
    replace K1 := Lib.hid (K1.out.below hq)
    replace L1 := Lib.hid (L1.out.below hq)
    replace K2 := Lib.hid (K2.out.below hq)
    replace L2 := Lib.hid (L2.out.below hq)
    replace K3 := Lib.hid (K3.out.below hq)
    replace L3 := Lib.hid (L3.out.below hq)
    have hr7 := bnext hr6 hq
    go_wp2_with fail
    refine hK.out _ _ (hr7) (fun _ => ?_)
    clear hK K
    (try simp only [Act.put, List.setIfInBounds_toArray, List.set_cons_zero, List.set_cons_succ])
    refine takeH (i := 22) (v := ?_) rfl (by kernel_rfl) (by kernel_rfl) (by kernel_rfl) (fun _ _ _ h => h) (Or.inl ⟨by rfl, ?_⟩) (by assumption) ?_
    rotate_left
    · (intro w hSw; (try dsimp only at hSw); go_simp; first | done | with_reducible rfl)
    (try simp only [Act.put, List.setIfInBounds_toArray, List.set_cons_zero, List.set_cons_succ])
    refine takeH (i := 23) (v := ?_) rfl (by kernel_rfl) (by kernel_rfl) (by kernel_rfl) (fun _ _ _ h => h) (Or.inl ⟨by rfl, ?_⟩) (by assumption) ?_
    rotate_left
    · (intro w hSw; (try dsimp only at hSw); go_simp; first | done | with_reducible rfl)
    (try simp only [Act.put, List.setIfInBounds_toArray, List.set_cons_zero, List.set_cons_succ])
    refine takeH (i := 24) (v := ?_) rfl (by kernel_rfl) (by kernel_rfl) (by kernel_rfl) (fun _ _ _ h => h) (Or.inl ⟨by rfl, ?_⟩) (by assumption) ?_
    rotate_left
    · (intro w hSw; (try dsimp only at hSw); go_simp; first | done | with_reducible rfl)
    (try simp only [Act.put, List.setIfInBounds_toArray, List.set_cons_zero, List.set_cons_succ])
    refine wpAnyH_ready (rs := [25]) (by kernel_rfl) (by simp) ?_
    refine stepH rfl (fun K hK => ?_) AllReadyH.nil
    go_simp
    refine (cAwake13 ct wr7).mono ?_
    rintro e wr8 ⟨rfl, hq⟩
    replace K1 := Lib.hid (K1.out.below hq)
    replace L1 := Lib.hid (L1.out.below hq)
    replace K2 := Lib.hid (K2.out.below hq)
    replace L2 := Lib.hid (L2.out.below hq)
    replace K3 := Lib.hid (K3.out.below hq)
    replace L3 := Lib.hid (L3.out.below hq)
    have hr8 := bnext hr7 hq
    go_wp2_with fail
    refine hK.out _ _ (hr8) (fun _ => ?_)
    clear hK K
    (try simp only [Act.put, List.setIfInBounds_toArray, List.set_cons_zero, List.set_cons_succ])
    refine takeH (i := 26) (v := ?_) rfl (by kernel_rfl) (by kernel_rfl) (by kernel_rfl) (fun _ _ _ h => h) (Or.inl ⟨by rfl, ?_⟩) (by assumption) ?_
    rotate_left
    · (intro w hSw; (try dsimp only at hSw); go_simp; first | done | with_reducible rfl)
    (try simp only [Act.put, List.setIfInBounds_toArray, List.set_cons_zero, List.set_cons_succ])
    refine takeH (i := 27) (v := ?_) rfl (by kernel_rfl) (by kernel_rfl) (by kernel_rfl) (fun _ _ _ h => h) (Or.inl ⟨by rfl, ?_⟩) (by assumption) ?_
    rotate_left
    · (intro w hSw; (try dsimp only at hSw); go_simp; first | done | with_reducible rfl)
    (try simp only [Act.put, List.setIfInBounds_toArray, List.set_cons_zero, List.set_cons_succ])
    refine wpAnyH_done (by kernel_rfl) ?_ _
    have HZ := Lib.hid (bnext HB.out hr8)
    go_wp2
    go_ret
    exact ⟨rfl, HZ.out⟩
  obtain rfl : Nac = true := htra.out rfl rfl
  clear hasy htra
  obtain ⟨x0, x1, _⟩ := HX0.out.cells
  obtain ⟨y0, y1, _⟩ := HX1.out.cells
  obtain ⟨z0, z1, _⟩ := HX2.out.cells
  have hC := NAA.out w105 HFta.out HTta.out HFta.out HTta.out
  have HQ := Lib.hid hC
  clear hC
  go_wp2_with fail
  refine HQ.out.mono ?_
  rintro e w101 ⟨rfl, hb⟩
  clear x0 x1
  clear y0 y1
  clear z0 z1
  replace HX0 := Lib.hid (HX0.out.below hb)
  replace HX1 := Lib.hid (HX1.out.below hb)
  replace HX2 := Lib.hid (HX2.out.below hb)
  replace HFta := Lib.hid (HFta.out.below hb)
  replace HTta := Lib.hid (HTta.out.below hb)
  replace HFtb := Lib.hid (HFtb.out.below hb)
  replace HTtb := Lib.hid (HTtb.out.below hb)
  replace HFtc := Lib.hid (HFtc.out.below hb)
  replace HTtc := Lib.hid (HTtc.out.below hb)
  replace HB := Lib.hid (bnext HB.out hb)
  obtain ⟨x0, x1, _⟩ := HX0.out.cells
  obtain ⟨y0, y1, _⟩ := HX1.out.cells
  obtain ⟨z0, z1, _⟩ := HX2.out.cells
  clear hb HQ
  have hC := NAB.out w101 HFta.out HTta.out HFtb.out HTtb.out
  have HQ := Lib.hid hC
  clear hC
  go_wp2_with fail
  refine HQ.out.mono ?_
  rintro e w102 ⟨rfl, hb⟩
  clear x0 x1
  clear y0 y1
  clear z0 z1
  replace HX0 := Lib.hid (HX0.out.below hb)
  replace HX1 := Lib.hid (HX1.out.below hb)
  replace HX2 := Lib.hid (HX2.out.below hb)
  replace HFta := Lib.hid (HFta.out.below hb)
  replace HTta := Lib.hid (HTta.out.below hb)
  replace HFtb := Lib.hid (HFtb.out.below hb)
  replace HTtb := Lib.hid (HTtb.out.below hb)
  replace HFtc := Lib.hid (HFtc.out.below hb)
  replace HTtc := Lib.hid (HTtc.out.below hb)
  replace HB := Lib.hid (bnext HB.out hb)
  obtain ⟨x0, x1, _⟩ := HX0.out.cells
  obtain ⟨y0, y1, _⟩ := HX1.out.cells
  obtain ⟨z0, z1, _⟩ := HX2.out.cells
  clear hb HQ
  have hC := NBA.out w102 HFtb.out HTtb.out HFta.out HTta.out
  have HQ := Lib.hid hC
  clear hC
  go_wp2_with fail
  refine HQ.out.mono ?_
  rintro e w103 ⟨rfl, hb⟩
  clear x0 x1
  clear y0 y1
  clear z0 z1
  replace HX0 := Lib.hid (HX0.out.below hb)
  replace HX1 := Lib.hid (HX1.out.below hb)
  replace HX2 := Lib.hid (HX2.out.below hb)
  replace HFta := Lib.hid (HFta.out.below hb)
  replace HTta := Lib.hid (HTta.out.below hb)
  replace HFtb := Lib.hid (HFtb.out.below hb)
  replace HTtb := Lib.hid (HTtb.out.below hb)
  replace HFtc := Lib.hid (HFtc.out.below hb)
  replace HTtc := Lib.hid (HTtc.out.below hb)
  replace HB := Lib.hid (bnext HB.out hb)
  obtain ⟨x0, x1, _⟩ := HX0.out.cells
  obtain ⟨y0, y1, _⟩ := HX1.out.cells
  obtain ⟨z0, z1, _⟩ := HX2.out.cells
  clear hb HQ
  have hC := NAB.out w103 HFta.out HTta.out HFtb.out HTtb.out
  have HQ := Lib.hid hC
  clear hC
  go_wp2_with fail
  refine HQ.out.mono ?_
  rintro e w104 ⟨rfl, hb⟩
  clear x0 x1
  clear y0 y1
  clear z0 z1
  replace HX0 := Lib.hid (HX0.out.below hb)
  replace HX1 := Lib.hid (HX1.out.below hb)
  replace HX2 := Lib.hid (HX2.out.below hb)
  replace HFta := Lib.hid (HFta.out.below hb)
  replace HTta := Lib.hid (HTta.out.below hb)
  replace HFtb := Lib.hid (HFtb.out.below hb)
  replace HTtb := Lib.hid (HTtb.out.below hb)
  replace HFtc := Lib.hid (HFtc.out.below hb)
  replace HTtc := Lib.hid (HTtc.out.below hb)
  replace HB := Lib.hid (bnext HB.out hb)
  obtain ⟨x0, x1, _⟩ := HX0.out.cells
  obtain ⟨y0, y1, _⟩ := HX1.out.cells
  obtain ⟨z0, z1, _⟩ := HX2.out.cells
  clear hb HQ
  have hC := NBC.out w104 HFtb.out HTtb.out HFtc.out HTtc.out
  have HQ := Lib.hid hC
  clear hC
  go_wp2_with fail
  refine HQ.out.mono ?_
  rintro e w105 ⟨rfl, hb⟩
  clear x0 x1
  clear y0 y1
  clear z0 z1
  replace HX0 := Lib.hid (HX0.out.below hb)
  replace HX1 := Lib.hid (HX1.out.below hb)
  replace HX2 := Lib.hid (HX2.out.below hb)
  replace HFta := Lib.hid (HFta.out.below hb)
  replace HTta := Lib.hid (HTta.out.below hb)
  replace HFtb := Lib.hid (HFtb.out.below hb)
  replace HTtb := Lib.hid (HTtb.out.below hb)
  replace HFtc := Lib.hid (HFtc.out.below hb)
  replace HTtc := Lib.hid (HTtc.out.below hb)
  replace HB := Lib.hid (bnext HB.out hb)
  obtain ⟨x0, x1, _⟩ := HX0.out.cells
  obtain ⟨y0, y1, _⟩ := HX1.out.cells
  obtain ⟨z0, z1, _⟩ := HX2.out.cells
  clear hb HQ
  have hC := NAC.out w105 HFta.out HTta.out HFtc.out HTtc.out
  have HQ := Lib.hid hC
  clear hC
  go_wp2_with fail
  refine HQ.out.mono ?_
  rintro e w106 ⟨rfl, hb⟩
  clear x0 x1
  clear y0 y1
  clear z0 z1
  replace HX0 := Lib.hid (HX0.out.below hb)
  replace HX1 := Lib.hid (HX1.out.below hb)
  replace HX2 := Lib.hid (HX2.out.below hb)
  replace HFta := Lib.hid (HFta.out.below hb)
  replace HTta := Lib.hid (HTta.out.below hb)
  replace HFtb := Lib.hid (HFtb.out.below hb)
  replace HTtb := Lib.hid (HTtb.out.below hb)
  replace HFtc := Lib.hid (HFtc.out.below hb)
  replace HTtc := Lib.hid (HTtc.out.below hb)
  replace HB := Lib.hid (bnext HB.out hb)
  obtain ⟨x0, x1, _⟩ := HX0.out.cells
  obtain ⟨y0, y1, _⟩ := HX1.out.cells
  obtain ⟨z0, z1, _⟩ := HX2.out.cells
  clear hb HQ
  go_wp2
  clear x0 x1
  clear y0 y1
  clear z0 z1
  refine wp_region_held_drew (S := fun w' => Below w106.heap.size w106 w') (by kernel_rfl) ((Below.refl _ _).drew) (fun ha => ?_)
  replace ha : Below w106.heap.size w106 w106.drew := (Below.refl _ _).drew
  generalize w106.drew = wa at ha ⊢
  refine takeH (i := 0) (v := ?_) rfl (by kernel_rfl) (by kernel_rfl) (by kernel_rfl) (fun _ _ _ h => h) (Or.inl ⟨by rfl, ?_⟩) (by assumption) ?_
  rotate_left
  · (intro w hSw; (try dsimp only at hSw); obtain ⟨hc0, hc1, _⟩ := (HX0.out.below hSw).cells; go_simp; first | done | with_reducible rfl)
  (try simp only [Act.put, List.setIfInBounds_toArray, List.set_cons_zero, List.set_cons_succ])
  refine takeH (i := 1) (v := ?_) rfl (by kernel_rfl) (by kernel_rfl) (by kernel_rfl) (fun _ _ _ h => h) (Or.inl ⟨by rfl, ?_⟩) (by assumption) ?_
  rotate_left
  · (intro w hSw; (try dsimp only at hSw); obtain ⟨hc0, hc1, _⟩ := (HX0.out.below hSw).cells; go_simp; first | done | with_reducible rfl)
  (try simp only [Act.put, List.setIfInBounds_toArray, List.set_cons_zero, List.set_cons_succ])
  refine takeH (i := 2) (v := ?_) rfl (by kernel_rfl) (by kernel_rfl) (by kernel_rfl) (fun _ _ _ h => h) (Or.inl ⟨by rfl, ?_⟩) (by assumption) ?_
  rotate_left
  · (intro w hSw; (try dsimp only at hSw); obtain ⟨hc0, hc1, _⟩ := (HX1.out.below hSw).cells; go_simp; first | done | with_reducible rfl)
  (try simp only [Act.put, List.setIfInBounds_toArray, List.set_cons_zero, List.set_cons_succ])
  refine wpAnyH_ready (rs := [3]) (by kernel_rfl) (by simp) ?_
  refine stepH rfl (fun K hK => ?_) AllReadyH.nil
  go_simp
  refine (HLAB.out wa (HFta.out.below ha) (HTta.out.below ha) (HFtb.out.below ha) (HTtb.out.below ha)).mono ?_
  rintro e wr1 ⟨v1, u1, rfl, k1, l1, hq⟩
  have K1 := Lib.hid k1
  have L1 := Lib.hid l1
  clear k1 l1
  have hr1 := bnext ha hq
  go_wp2_with fail
  refine hK.out _ _ (hr1) (fun _ => ?_)
  clear hK K
  (try simp only [Act.put, List.setIfInBounds_toArray, List.set_cons_zero, List.set_cons_succ])
  refine wpAnyH_ready (rs := [4]) (by kernel_rfl) (by simp) ?_
  refine stepH rfl (fun K hK => ?_) AllReadyH.nil
  go_simp
  refine (NAL.out _ _ wr1 (HFta.out.below hr1) (HTta.out.below hr1) K1.out L1.out).mono ?_
  rintro e wr2 ⟨rfl, hq⟩
  replace K1 := Lib.hid (K1.out.below hq)
  replace L1 := Lib.hid (L1.out.below hq)
  have hr2 := bnext hr1 hq
  go_wp2_with fail
  refine hK.out _ _ (hr2) (fun _ => ?_)
  clear hK K
  (try simp only [Act.put, List.setIfInBounds_toArray, List.set_cons_zero, List.set_cons_succ])
  refine takeH (i := 5) (v := ?_) rfl (by kernel_rfl) (by kernel_rfl) (by kernel_rfl) (fun _ _ _ h => h) (Or.inl ⟨by rfl, ?_⟩) (by assumption) ?_
  rotate_left
  · (intro w hSw; (try dsimp only at hSw); go_simp; first | done | with_reducible rfl)
  (try simp only [Act.put, List.setIfInBounds_toArray, List.set_cons_zero, List.set_cons_succ])
  refine takeH (i := 6) (v := ?_) rfl (by kernel_rfl) (by kernel_rfl) (by kernel_rfl) (fun _ _ _ h => h) (Or.inl ⟨by rfl, ?_⟩) (by assumption) ?_
  rotate_left
  · (intro w hSw; (try dsimp only at hSw); go_simp; first | done | with_reducible rfl)
  (try simp only [Act.put, List.setIfInBounds_toArray, List.set_cons_zero, List.set_cons_succ])
  refine takeH (i := 7) (v := ?_) rfl (by kernel_rfl) (by kernel_rfl) (by kernel_rfl) (fun _ _ _ h => h) (Or.inl ⟨by rfl, ?_⟩) (by assumption) ?_
  rotate_left
  · (intro w hSw; (try dsimp only at hSw); obtain ⟨hc0, hc1, _⟩ := (HX0.out.below hSw).cells; go_simp; first | done | with_reducible rfl)
  (try simp only [Act.put, List.setIfInBounds_toArray, List.set_cons_zero, List.set_cons_succ])
  refine takeH (i := 8) (v := ?_) rfl (by kernel_rfl) (by kernel_rfl) (by kernel_rfl) (fun _ _ _ h => h) (Or.inl ⟨by rfl, ?_⟩) (by assumption) ?_
  rotate_left
  · (intro w hSw; (try dsimp only at hSw); obtain ⟨hc0, hc1, _⟩ := (HX0.out.below hSw).cells; go_simp; first | done | with_reducible rfl)
  (try simp only [Act.put, List.setIfInBounds_toArray, List.set_cons_zero, List.set_cons_succ])
  refine takeH (i := 10) (v := ?_) rfl (by kernel_rfl) (by kernel_rfl) (by kernel_rfl) (fun _ _ _ h => h) (Or.inl ⟨by rfl, ?_⟩) (by assumption) ?_
  rotate_left
  · (intro w hSw; (try dsimp only at hSw); obtain ⟨hc0, hc1, _⟩ := (HX0.out.below hSw).cells; go_simp; first | done | with_reducible rfl)
  (try simp only [Act.put, List.setIfInBounds_toArray, List.set_cons_zero, List.set_cons_succ])
  refine wpAnyH_ready (rs := [9]) (by kernel_rfl) (by simp) ?_
  refine stepH rfl (fun K hK => ?_) AllReadyH.nil
  go_simp
  refine (HLAA.out wr2 (HFta.out.below hr2) (HTta.out.below hr2)).mono ?_
  rintro e wr3 ⟨v2, u2, rfl, k2, l2, hq⟩
  replace K1 := Lib.hid (K1.out.below hq)
  replace L1 := Lib.hid (L1.out.below hq)
  have K2 := Lib.hid k2
  have L2 := Lib.hid l2
  clear k2 l2
  have hr3 := bnext hr2 hq
  go_wp2_with fail
  refine hK.out _ _ (hr3) (fun _ => ?_)
  clear hK K
  (try simp only [Act.put, List.setIfInBounds_toArray, List.set_cons_zero, List.set_cons_succ])
  refine wpAnyH_ready (rs := [11]) (by kernel_rfl) (by simp) ?_
  refine stepH rfl (fun K hK => ?_) AllReadyH.nil
  go_simp
  refine (HEQ.out _ _ wr3 (HFta.out.below hr3) (HTta.out.below hr3) K2.out L2.out).mono ?_
  rintro e wr4 ⟨rfl, hq⟩
  replace K1 := Lib.hid (K1.out.below hq)
  replace L1 := Lib.hid (L1.out.below hq)
  replace K2 := Lib.hid (K2.out.below hq)
  replace L2 := Lib.hid (L2.out.below hq)
  have hr4 := bnext hr3 hq
  go_wp2_with fail
  refine hK.out _ _ (hr4) (fun _ => ?_)
  clear hK K
  (try simp only [Act.put, List.setIfInBounds_toArray, List.set_cons_zero, List.set_cons_succ])
  refine takeH (i := 12) (v := ?_) rfl (by kernel_rfl) (by kernel_rfl) (by kernel_rfl) (fun _ _ _ h => h) (Or.inl ⟨by rfl, ?_⟩) (by assumption) ?_
  rotate_left
  · (intro w hSw; (try dsimp only at hSw); go_simp; first | done | with_reducible rfl)
  (try simp only [Act.put, List.setIfInBounds_toArray, List.set_cons_zero, List.set_cons_succ])
  refine takeH (i := 13) (v := ?_) rfl (by kernel_rfl) (by kernel_rfl) (by kernel_rfl) (fun _ _ _ h => h) (Or.inl ⟨by rfl, ?_⟩) (by assumption) ?_
  rotate_left
  · (intro w hSw; (try dsimp only at hSw); go_simp; first | done | with_reducible rfl)
  (try simp only [Act.put, List.setIfInBounds_toArray, List.set_cons_zero, List.set_cons_succ])
  refine takeH (i := 14) (v := ?_) rfl (by kernel_rfl) (by kernel_rfl) (by kernel_rfl) (fun _ _ _ h => h) (Or.inl ⟨by rfl, ?_⟩) (by assumption) ?_
  rotate_left
  · (intro w hSw; (try dsimp only at hSw); obtain ⟨hc0, hc1, _⟩ := (HX1.out.below hSw).cells; go_simp; first | done | with_reducible rfl)
  (try simp only [Act.put, List.setIfInBounds_toArray, List.set_cons_zero, List.set_cons_succ])
  refine takeH (i := 15) (v := ?_) rfl (by kernel_rfl) (by kernel_rfl) (by kernel_rfl) (fun _ _ _ h => h) (Or.inl ⟨by rfl, ?_⟩) (by assumption) ?_
  rotate_left
  · (intro w hSw; (try dsimp only at hSw); obtain ⟨hc0, hc1, _⟩ := (HX0.out.below hSw).cells; go_simp; first | done | with_reducible rfl)
  (try simp only [Act.put, List.setIfInBounds_toArray, List.set_cons_zero, List.set_cons_succ])
  refine takeH (i := 17) (v := ?_) rfl (by kernel_rfl) (by kernel_rfl) (by kernel_rfl) (fun _ _ _ h => h) (Or.inl ⟨by rfl, ?_⟩) (by assumption) ?_
  rotate_left
  · (intro w hSw; (try dsimp only at hSw); obtain ⟨hc0, hc1, _⟩ := (HX0.out.below hSw).cells; go_simp; first | done | with_reducible rfl)
  (try simp only [Act.put, List.setIfInBounds_toArray, List.set_cons_zero, List.set_cons_succ])
  refine takeH (i := 18) (v := ?_) rfl (by kernel_rfl) (by kernel_rfl) (by kernel_rfl) (fun _ _ _ h => h) (Or.inl ⟨by rfl, ?_⟩) (by assumption) ?_
  rotate_left
  · (intro w hSw; (try dsimp only at hSw); obtain ⟨hc0, hc1, _⟩ := (HX1.out.below hSw).cells; go_simp; first | done | with_reducible rfl)
  (try simp only [Act.put, List.setIfInBounds_toArray, List.set_cons_zero, List.set_cons_succ])
  refine takeH (i := 20) (v := ?_) rfl (by kernel_rfl) (by kernel_rfl) (by kernel_rfl) (fun _ _ _ h => h) (Or.inl ⟨by rfl, ?_⟩) (by assumption) ?_
  rotate_left
  · (intro w hSw; (try dsimp only at hSw); obtain ⟨hc0, hc1, _⟩ := (HX0.out.below hSw).cells; go_simp; first | done | with_reducible rfl)
  (try simp only [Act.put, List.setIfInBounds_toArray, List.set_cons_zero, List.set_cons_succ])
  refine wpAnyH_ready (rs := [16]) (by kernel_rfl) (by simp) ?_
  refine stepH rfl (fun K hK => ?_) AllReadyH.nil
  go_simp
  refine (NBA.out wr4 (HFtb.out.below hr4) (HTtb.out.below hr4) (HFta.out.below hr4) (HTta.out.below hr4)).mono ?_
  rintro e wr5 ⟨rfl, hq⟩
  replace K1 := Lib.hid (K1.out.below hq)
  replace L1 := Lib.hid (L1.out.below hq)
  replace K2 := Lib.hid (K2.out.below hq)
  replace L2 := Lib.hid (L2.out.below hq)
  have hr5 := bnext hr4 hq
  go_wp2_with fail
  refine hK.out _ _ (hr5) (fun _ => ?_)
  clear hK K
  (try simp only [Act.put, List.setIfInBounds_toArray, List.set_cons_zero, List.set_cons_succ])
  refine wpAnyH_ready (rs := [19]) (by kernel_rfl) (by simp) ?_
  refine stepH rfl (fun K hK => ?_) AllReadyH.nil
  go_simp
  refine (HLAB.out wr5 (HFta.out.below hr5) (HTta.out.below hr5) (HFtb.out.below hr5) (HTtb.out.below hr5)).mono ?_
  rintro e wr6 ⟨v3, u3, rfl, k3, l3, hq⟩
  replace K1 := Lib.hid (K1.out.below hq)
  replace L1 := Lib.hid (L1.out.below hq)
  replace K2 := Lib.hid (K2.out.below hq)
  replace L2 := Lib.hid (L2.out.below hq)
  have K3 := Lib.hid k3
  have L3 := Lib.hid l3
  clear k3 l3
  have hr6 := bnext hr5 hq
  go_wp2_with fail
  refine hK.out _ _ (hr6) (fun _ => ?_)
  clear hK K
  (try simp only [Act.put, List.setIfInBounds_toArray, List.set_cons_zero, List.set_cons_succ])
  refine wpAnyH_ready (rs := [21]) (by kernel_rfl) (by simp) ?_
  refine stepH rfl (fun K hK => ?_) AllReadyH.nil
  go_simp
  refine (NLA.out _ _ wr6 (HFta.out.below hr6) (HTta.out.below hr6) K3.out L3.out).mono ?_
  rintro e wr7 ⟨rfl, hq⟩
  replace K1 := Lib.hid (K1.out.below hq)
  replace L1 := Lib.hid (L1.out.below hq)
  replace K2 := Lib.hid (K2.out.below hq)
  replace L2 := Lib.hid (L2.out.below hq)
  replace K3 := Lib.hid (K3.out.below hq)
  replace L3 := Lib.hid (L3.out.below hq)
  have hr7 := bnext hr6 hq
  go_wp2_with fail
  refine hK.out _ _ (hr7) (fun _ => ?_)
  clear hK K
  (try simp only [Act.put, List.setIfInBounds_toArray, List.set_cons_zero, List.set_cons_succ])
  refine takeH (i := 22) (v := ?_) rfl (by kernel_rfl) (by kernel_rfl) (by kernel_rfl) (fun _ _ _ h => h) (Or.inl ⟨by rfl, ?_⟩) (by assumption) ?_
  rotate_left
  · (intro w hSw; (try dsimp only at hSw); go_simp; first | done | with_reducible rfl)
  (try simp only [Act.put, List.setIfInBounds_toArray, List.set_cons_zero, List.set_cons_succ])
  refine takeH (i := 23) (v := ?_) rfl (by kernel_rfl) (by kernel_rfl) (by kernel_rfl) (fun _ _ _ h => h) (Or.inl ⟨by rfl, ?_⟩) (by assumption) ?_
  rotate_left
  · (intro w hSw; (try dsimp only at hSw); go_simp; first | done | with_reducible rfl)
  (try simp only [Act.put, List.setIfInBounds_toArray, List.set_cons_zero, List.set_cons_succ])
  refine takeH (i := 24) (v := ?_) rfl (by kernel_rfl) (by kernel_rfl) (by kernel_rfl) (fun _ _ _ h => h) (Or.inl ⟨by rfl, ?_⟩) (by assumption) ?_
  rotate_left
  · (intro w hSw; (try dsimp only at hSw); go_simp; first | done | with_reducible rfl)
  (try simp only [Act.put, List.setIfInBounds_toArray, List.set_cons_zero, List.set_cons_succ])
  refine wpAnyH_ready (rs := [25]) (by kernel_rfl) (by simp) ?_
  refine stepH rfl (fun K hK => ?_) AllReadyH.nil
  go_simp
  refine (cAwake13 ct wr7).mono ?_
  rintro e wr8 ⟨rfl, hq⟩
  replace K1 := Lib.hid (K1.out.below hq)
  replace L1 := Lib.hid (L1.out.below hq)
  replace K2 := Lib.hid (K2.out.below hq)
  replace L2 := Lib.hid (L2.out.below hq)
  replace K3 := Lib.hid (K3.out.below hq)
  replace L3 := Lib.hid (L3.out.below hq)
  have hr8 := bnext hr7 hq
  go_wp2_with fail
  refine hK.out _ _ (hr8) (fun _ => ?_)
  clear hK K
  (try simp only [Act.put, List.setIfInBounds_toArray, List.set_cons_zero, List.set_cons_succ])
  refine takeH (i := 26) (v := ?_) rfl (by kernel_rfl) (by kernel_rfl) (by kernel_rfl) (fun _ _ _ h => h) (Or.inl ⟨by rfl, ?_⟩) (by assumption) ?_
  rotate_left
  · (intro w hSw; (try dsimp only at hSw); go_simp; first | done | with_reducible rfl)
  (try simp only [Act.put, List.setIfInBounds_toArray, List.set_cons_zero, List.set_cons_succ])
  refine takeH (i := 27) (v := ?_) rfl (by kernel_rfl) (by kernel_rfl) (by kernel_rfl) (fun _ _ _ h => h) (Or.inl ⟨by rfl, ?_⟩) (by assumption) ?_
  rotate_left
  · (intro w hSw; (try dsimp only at hSw); go_simp; first | done | with_reducible rfl)
  (try simp only [Act.put, List.setIfInBounds_toArray, List.set_cons_zero, List.set_cons_succ])
  refine wpAnyH_done (by kernel_rfl) ?_ _
  have HZ := Lib.hid (bnext HB.out hr8)
  go_wp2
  go_ret
  exact ⟨rfl, HZ.out⟩

end Go.Proofs.Ytfdgoehfkfdgaaa
