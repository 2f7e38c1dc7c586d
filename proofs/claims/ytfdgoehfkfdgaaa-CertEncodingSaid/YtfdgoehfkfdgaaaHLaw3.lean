/-
  The calls of the laws CertChain, CertStart: each returns true. Conditions: what comes in reads; the contracts of package cert hold. (Written by mk_hlaws.py.)
-/
import Derived.Test.YtfdgoehfkfdgaaaHLawM
namespace Go.Proofs.Ytfdgoehfkfdgaaa
open Go.RowKit
open JM (Chg)
open CM (Fp)

set_option maxRecDepth 100000 in
set_option maxHeartbeats 8000000 in
theorem lCertChain (ct : CT) (v : Value) (l : List Int) (x y z : Int) (w : World) (hl : l.length ≤ 4611686018427387904) (h : RdI w v l) :
    Calls Try.prog 6 #[v, .int .i64 x, .int .i64 y, .int .i64 z] w fun e w' => e = .returned (.bool true) ∧ Below w.heap.size w w' := by
  have HB := Lib.hid (Below.refl w.heap.size w)
  have HC := Lib.hid (kPool v l w h hl)
  clear h hl
  go_enter Try.func6, Try.ntmps6
  go_wp2_with fail
  refine HC.out.mono ?_
  rintro e w101 ⟨vp, p, rfl, hr, hp, hb⟩
  have HP := Lib.hid hr
  have HOK := Lib.hid hp
  replace HB := Lib.hid (bnext HB.out hb)
  obtain ⟨pa, pc, rfl, _, _⟩ := hr.shape
  clear hr hp hb HC
  have hC := kCert _ p x w101 HP.out HOK.out
  have HQ := Lib.hid hC
  clear hC
  go_wp2_with fail
  refine HQ.out.mono ?_
  rintro e w102 ⟨a3, b3, g, kk, rfl, hr, hs, hb⟩
  replace HP := Lib.hid (HP.out.below hb)
  replace HB := Lib.hid (bnext HB.out hb)
  have HCEtc := Lib.hid (Ce.mk2 p g kk)
  generalize CM.rs (CM.rs p g) kk = fc at hr HCEtc
  generalize CM.rs p g = tc at hs HCEtc
  have HFtc := Lib.hid hr
  have HTtc := Lib.hid hs
  obtain ⟨a3, a3c, rfl, _, _⟩ := hr.shape
  obtain ⟨b3, b3c, rfl, _, _⟩ := hs.shape
  clear hb HQ hr hs
  obtain ⟨w103, hqw, hX, hb⟩ := oneX w102 (.slice a3 fc.length a3c) (.slice b3 tc.length b3c)
  have HW := Lib.hid hqw
  have HX0 := Lib.hid hX
  replace HP := Lib.hid (HP.out.below hb)
  replace HFtc := Lib.hid (HFtc.out.below hb)
  replace HTtc := Lib.hid (HTtc.out.below hb)
  replace HB := Lib.hid (bnext HB.out hb)
  clear hb hqw hX
  go_upto_region 3 with fail
  rw [HW.out]
  clear HW
  obtain ⟨x0, x1, _⟩ := HX0.out.cells
  have hC := kPart _ tc y w103 HTtc.out (by have := (HCEtc.out.pt.ok HOK.out).nine; omega)
  have HQ := Lib.hid hC
  clear hC
  go_wp2_with fail
  refine HQ.out.mono ?_
  rintro e w104 ⟨b2, g, rfl, hr, hb⟩
  clear x0 x1
  replace HX0 := Lib.hid (HX0.out.below hb)
  replace HP := Lib.hid (HP.out.below hb)
  replace HFtc := Lib.hid (HFtc.out.below hb)
  replace HTtc := Lib.hid (HTtc.out.below hb)
  replace HB := Lib.hid (bnext HB.out hb)
  have HCEtb := Lib.hid (Ce.low (HCEtc.out.pt.rs g) HOK.out)
  have HCOtb := Lib.hid (cons_rs1 tc g)
  generalize CM.rs tc g = tb at hr HCEtb HCOtb
  have HTtb := Lib.hid hr
  obtain ⟨b2, b2c, rfl, _, _⟩ := hr.shape
  obtain ⟨x0, x1, _⟩ := HX0.out.cells
  clear hb HQ hr
  clear x0 x1
  obtain ⟨w105, hqw, hX, hb⟩ := oneX w104 (.slice none 0 0) (.slice b2 tb.length b2c)
  have HW := Lib.hid hqw
  have HX1 := Lib.hid hX
  replace HX0 := Lib.hid (HX0.out.below hb)
  replace HP := Lib.hid (HP.out.below hb)
  replace HFtc := Lib.hid (HFtc.out.below hb)
  replace HTtc := Lib.hid (HTtc.out.below hb)
  replace HTtb := Lib.hid (HTtb.out.below hb)
  replace HB := Lib.hid (bnext HB.out hb)
  clear hb hqw hX
  go_upto_region 4 with fail
  rw [HW.out]
  clear HW
  obtain ⟨x0, x1, _⟩ := HX0.out.cells
  obtain ⟨y0, y1, _⟩ := HX1.out.cells
  have hC := kPart _ tb z w105 HTtb.out (by have := (HCEtb.out.pt.ok HOK.out).nine; omega)
  have HQ := Lib.hid hC
  clear hC
  go_wp2_with fail
  refine HQ.out.mono ?_
  rintro e w106 ⟨b1, g, rfl, hr, hb⟩
  clear x0 x1
  clear y0 y1
  replace HX0 := Lib.hid (HX0.out.below hb)
  replace HX1 := Lib.hid (HX1.out.below hb)
  replace HP := Lib.hid (HP.out.below hb)
  replace HFtc := Lib.hid (HFtc.out.below hb)
  replace HTtc := Lib.hid (HTtc.out.below hb)
  replace HTtb := Lib.hid (HTtb.out.below hb)
  replace HB := Lib.hid (bnext HB.out hb)
  have HCEta := Lib.hid (Ce.low (HCEtb.out.pt.rs g) HOK.out)
  have HCOta := Lib.hid (cons_rs1 tb g)
  generalize CM.rs tb g = ta at hr HCEta HCOta
  have HTta := Lib.hid hr
  obtain ⟨b1, b1c, rfl, _, _⟩ := hr.shape
  obtain ⟨x0, x1, _⟩ := HX0.out.cells
  obtain ⟨y0, y1, _⟩ := HX1.out.cells
  clear hb HQ hr
  clear x0 x1
  clear y0 y1
  obtain ⟨w107, hqw, hX, hb⟩ := oneX w106 (.slice none 0 0) (.slice b1 ta.length b1c)
  have HW := Lib.hid hqw
  have HX2 := Lib.hid hX
  replace HX0 := Lib.hid (HX0.out.below hb)
  replace HX1 := Lib.hid (HX1.out.below hb)
  replace HP := Lib.hid (HP.out.below hb)
  replace HFtc := Lib.hid (HFtc.out.below hb)
  replace HTtc := Lib.hid (HTtc.out.below hb)
  replace HTtb := Lib.hid (HTtb.out.below hb)
  replace HTta := Lib.hid (HTta.out.below hb)
  replace HB := Lib.hid (bnext HB.out hb)
  clear hb hqw hX
  go_upto_region 5 with fail
  rw [HW.out]
  clear HW
  obtain ⟨x0, x1, _⟩ := HX0.out.cells
  obtain ⟨y0, y1, _⟩ := HX1.out.cells
  obtain ⟨z0, z1, _⟩ := HX2.out.cells
  have HCOac := Lib.hid (CM.cons_trans HCOtb.out HCOta.out)
  have hft := fun (x y : Value) (w : World) => run_fieldT x y w
  clear x0 x1
  clear y0 y1
  clear z0 z1
  refine wp_region_held_drew (S := fun w' => Below w107.heap.size w107 w') (by kernel_rfl) ((Below.refl _ _).drew) (fun ha => ?_)
  replace ha : Below w107.heap.size w107 w107.drew := (Below.refl _ _).drew
  generalize w107.drew = wa at ha ⊢
  refine takeH (i := 0) (v := ?_) rfl (by kernel_rfl) (by kernel_rfl) (by kernel_rfl) (fun _ _ _ h => h) (Or.inl ⟨by rfl, ?_⟩) (by assumption) ?_
  rotate_left
  · (intro w hSw; (try dsimp only at hSw); obtain ⟨hc0, hc1, _⟩ := (HX2.out.below hSw).cells; go_simp; first | done | with_reducible rfl)
  (try simp only [Act.put, List.setIfInBounds_toArray, List.set_cons_zero, List.set_cons_succ])
  refine takeH (i := 1) (v := ?_) rfl (by kernel_rfl) (by kernel_rfl) (by kernel_rfl) (fun _ _ _ h => h) (Or.inl ⟨by rfl, ?_⟩) (by assumption) ?_
  rotate_left
  · (intro w hSw; (try dsimp only at hSw); obtain ⟨hc0, hc1, _⟩ := (HX1.out.below hSw).cells; go_simp; first | done | with_reducible rfl)
  (try simp only [Act.put, List.setIfInBounds_toArray, List.set_cons_zero, List.set_cons_succ])
  refine takeH (i := 4) (v := ?_) rfl (by kernel_rfl) (by kernel_rfl) (by kernel_rfl) (fun _ _ _ h => h) (Or.inl ⟨by rfl, ?_⟩) (by assumption) ?_
  rotate_left
  · (intro w hSw; (try dsimp only at hSw); go_simp; first | done | with_reducible rfl)
  (try simp only [Act.put, List.setIfInBounds_toArray, List.set_cons_zero, List.set_cons_succ])
  refine takeH (i := 5) (v := ?_) rfl (by kernel_rfl) (by kernel_rfl) (by kernel_rfl) (fun _ _ _ h => h) (Or.inl ⟨by rfl, ?_⟩) (by assumption) ?_
  rotate_left
  · (intro w hSw; (try dsimp only at hSw); obtain ⟨hc0, hc1, _⟩ := (HX1.out.below hSw).cells; go_simp; first | done | with_reducible rfl)
  (try simp only [Act.put, List.setIfInBounds_toArray, List.set_cons_zero, List.set_cons_succ])
  refine wpAnyH_ready (rs := [2]) (by kernel_rfl) (by simp) ?_
  refine stepH rfl (fun K hK => ?_) AllReadyH.nil
  go_simp
  refine (ct.latUp HOK.out HCEta.out HCEtb.out HCOta.out _ _ _ _ wa (RdF.nil _) (HTta.out.below ha) (RdF.nil _) (HTtb.out.below ha)).mono ?_
  rintro e wr1 ⟨v1, u1, f1, rfl, k1, ce1, l1, hq⟩
  have K1 := Lib.hid k1
  have L1 := Lib.hid l1
  have CE1 := Lib.hid ce1
  clear k1 l1 ce1
  have hr1 := bnext ha hq
  go_wp2_with fail
  refine hK.out _ _ (hr1) (fun _ => ?_)
  clear hK K
  (try simp only [Act.put, List.setIfInBounds_toArray, List.set_cons_zero, List.set_cons_succ])
  refine takeH (i := 3) (v := ?_) rfl (by kernel_rfl) (by kernel_rfl) (by kernel_rfl) (fun _ _ _ h => h) (Or.inl ⟨by rfl, ?_⟩) (by assumption) ?_
  rotate_left
  · (intro w hSw; (try dsimp only at hSw); go_simp; first | done | with_reducible rfl)
  (try simp only [Act.put, List.setIfInBounds_toArray, List.set_cons_zero, List.set_cons_succ])
  refine wpAnyH_ready (rs := [6]) (by kernel_rfl) (by simp) ?_
  refine stepH rfl (fun K hK => ?_) AllReadyH.nil
  go_simp
  refine (eqC _ _ tb wr1 L1.out (HTtb.out.below hr1)).mono ?_
  rintro e wr2 ⟨rfl, hq⟩
  replace K1 := Lib.hid (K1.out.below hq)
  replace L1 := Lib.hid (L1.out.below hq)
  have hr2 := bnext hr1 hq
  go_wp2_with fail
  refine hK.out _ _ (hr2) (fun _ => ?_)
  clear hK K
  (try simp only [Act.put, List.setIfInBounds_toArray, List.set_cons_zero, List.set_cons_succ])
  refine takeH (i := 7) (v := ?_) rfl (by kernel_rfl) (by kernel_rfl) (by kernel_rfl) (fun _ _ _ h => h) (Or.inl ⟨by rfl, ?_⟩) (by assumption) ?_
  rotate_left
  · (intro w hSw; (try dsimp only at hSw); go_simp; first | done | with_reducible rfl)
  (try simp only [Act.put, List.setIfInBounds_toArray, List.set_cons_zero, List.set_cons_succ])
  refine takeH (i := 8) (v := ?_) rfl (by kernel_rfl) (by kernel_rfl) (by kernel_rfl) (fun _ _ _ h => h) (Or.inl ⟨by rfl, ?_⟩) (by assumption) ?_
  rotate_left
  · (intro w hSw; (try dsimp only at hSw); go_simp; first | done | with_reducible rfl)
  (try simp only [Act.put, List.setIfInBounds_toArray, List.set_cons_zero, List.set_cons_succ])
  refine takeH (i := 9) (v := ?_) rfl (by kernel_rfl) (by kernel_rfl) (by kernel_rfl) (fun _ _ _ h => h) (Or.inl ⟨by rfl, ?_⟩) (by assumption) ?_
  rotate_left
  · (intro w hSw; (try dsimp only at hSw); obtain ⟨hc0, hc1, _⟩ := (HX1.out.below hSw).cells; go_simp; first | done | with_reducible rfl)
  (try simp only [Act.put, List.setIfInBounds_toArray, List.set_cons_zero, List.set_cons_succ])
  refine takeH (i := 10) (v := ?_) rfl (by kernel_rfl) (by kernel_rfl) (by kernel_rfl) (fun _ _ _ h => h) (Or.inl ⟨by rfl, ?_⟩) (by assumption) ?_
  rotate_left
  · (intro w hSw; (try dsimp only at hSw); obtain ⟨hc0, hc1, _⟩ := (HX2.out.below hSw).cells; go_simp; first | done | with_reducible rfl)
  (try simp only [Act.put, List.setIfInBounds_toArray, List.set_cons_zero, List.set_cons_succ])
  refine takeH (i := 13) (v := ?_) rfl (by kernel_rfl) (by kernel_rfl) (by kernel_rfl) (fun _ _ _ h => h) (Or.inl ⟨by rfl, ?_⟩) (by assumption) ?_
  rotate_left
  · (intro w hSw; (try dsimp only at hSw); go_simp; first | done | with_reducible rfl)
  (try simp only [Act.put, List.setIfInBounds_toArray, List.set_cons_zero, List.set_cons_succ])
  refine takeH (i := 14) (v := ?_) rfl (by kernel_rfl) (by kernel_rfl) (by kernel_rfl) (fun _ _ _ h => h) (Or.inl ⟨by rfl, ?_⟩) (by assumption) ?_
  rotate_left
  · (intro w hSw; (try dsimp only at hSw); obtain ⟨hc0, hc1, _⟩ := (HX1.out.below hSw).cells; go_simp; first | done | with_reducible rfl)
  (try simp only [Act.put, List.setIfInBounds_toArray, List.set_cons_zero, List.set_cons_succ])
  refine wpAnyH_ready (rs := [11]) (by kernel_rfl) (by simp) ?_
  refine stepH rfl (fun K hK => ?_) AllReadyH.nil
  go_simp
  refine (ct.latDn HOK.out HCEtb.out HCEta.out HCOta.out _ _ _ _ wr2 (RdF.nil _) (HTtb.out.below hr2) (RdF.nil _) (HTta.out.below hr2)).mono ?_
  rintro e wr3 ⟨v2, u2, f2, rfl, k2, ce2, l2, hq⟩
  replace K1 := Lib.hid (K1.out.below hq)
  replace L1 := Lib.hid (L1.out.below hq)
  have K2 := Lib.hid k2
  have L2 := Lib.hid l2
  have CE2 := Lib.hid ce2
  clear k2 l2 ce2
  have hr3 := bnext hr2 hq
  go_wp2_with fail
  refine hK.out _ _ (hr3) (fun _ => ?_)
  clear hK K
  (try simp only [Act.put, List.setIfInBounds_toArray, List.set_cons_zero, List.set_cons_succ])
  refine takeH (i := 12) (v := ?_) rfl (by kernel_rfl) (by kernel_rfl) (by kernel_rfl) (fun _ _ _ h => h) (Or.inl ⟨by rfl, ?_⟩) (by assumption) ?_
  rotate_left
  · (intro w hSw; (try dsimp only at hSw); go_simp; first | done | with_reducible rfl)
  (try simp only [Act.put, List.setIfInBounds_toArray, List.set_cons_zero, List.set_cons_succ])
  refine wpAnyH_ready (rs := [15]) (by kernel_rfl) (by simp) ?_
  refine stepH rfl (fun K hK => ?_) AllReadyH.nil
  go_simp
  refine (eqC _ _ tb wr3 L2.out (HTtb.out.below hr3)).mono ?_
  rintro e wr4 ⟨rfl, hq⟩
  replace K1 := Lib.hid (K1.out.below hq)
  replace L1 := Lib.hid (L1.out.below hq)
  replace K2 := Lib.hid (K2.out.below hq)
  replace L2 := Lib.hid (L2.out.below hq)
  have hr4 := bnext hr3 hq
  go_wp2_with fail
  refine hK.out _ _ (hr4) (fun _ => ?_)
  clear hK K
  (try simp only [Act.put, List.setIfInBounds_toArray, List.set_cons_zero, List.set_cons_succ])
  refine takeH (i := 16) (v := ?_) rfl (by kernel_rfl) (by kernel_rfl) (by kernel_rfl) (fun _ _ _ h => h) (Or.inl ⟨by rfl, ?_⟩) (by assumption) ?_
  rotate_left
  · (intro w hSw; (try dsimp only at hSw); go_simp; first | done | with_reducible rfl)
  (try simp only [Act.put, List.setIfInBounds_toArray, List.set_cons_zero, List.set_cons_succ])
  refine takeH (i := 17) (v := ?_) rfl (by kernel_rfl) (by kernel_rfl) (by kernel_rfl) (fun _ _ _ h => h) (Or.inl ⟨by rfl, ?_⟩) (by assumption) ?_
  rotate_left
  · (intro w hSw; (try dsimp only at hSw); go_simp; first | done | with_reducible rfl)
  (try simp only [Act.put, List.setIfInBounds_toArray, List.set_cons_zero, List.set_cons_succ])
  refine wpAnyH_done (by kernel_rfl) ?_ _
  replace HX0 := Lib.hid (HX0.out.below hr4)
  replace HX1 := Lib.hid (HX1.out.below hr4)
  replace HX2 := Lib.hid (HX2.out.below hr4)
  replace HP := Lib.hid (HP.out.below hr4)
  replace HFtc := Lib.hid (HFtc.out.below hr4)
  replace HTtc := Lib.hid (HTtc.out.below hr4)
  replace HTtb := Lib.hid (HTtb.out.below hr4)
  replace HTta := Lib.hid (HTta.out.below hr4)
  replace HB := Lib.hid (bnext HB.out hr4)
  clear ha hr1 hr2 hr3 hr4
  obtain ⟨x0, x1, _⟩ := HX0.out.cells
  obtain ⟨y0, y1, _⟩ := HX1.out.cells
  obtain ⟨z0, z1, _⟩ := HX2.out.cells
  go_wp2
  clear x0 x1
  clear y0 y1
  clear z0 z1
  refine wp_region_held_drew (S := fun w' => Below wr4.heap.size wr4 w') (by kernel_rfl) ((Below.refl _ _).drew) (fun ha => ?_)
  replace ha : Below wr4.heap.size wr4 wr4.drew := (Below.refl _ _).drew
  generalize wr4.drew = wa at ha ⊢
  refine takeH (i := 0) (v := ?_) rfl (by kernel_rfl) (by kernel_rfl) (by kernel_rfl) (fun _ _ _ h => h) (Or.inl ⟨by rfl, ?_⟩) (by assumption) ?_
  rotate_left
  · (intro w hSw; (try dsimp only at hSw); obtain ⟨hc0, hc1, _⟩ := (HX2.out.below hSw).cells; go_simp; first | done | with_reducible rfl)
  (try simp only [Act.put, List.setIfInBounds_toArray, List.set_cons_zero, List.set_cons_succ])
  refine takeH (i := 1) (v := ?_) rfl (by kernel_rfl) (by kernel_rfl) (by kernel_rfl) (fun _ _ _ h => h) (Or.inl ⟨by rfl, ?_⟩) (by assumption) ?_
  rotate_left
  · (intro w hSw; (try dsimp only at hSw); obtain ⟨hc0, hc1, _⟩ := (HX1.out.below hSw).cells; go_simp; first | done | with_reducible rfl)
  (try simp only [Act.put, List.setIfInBounds_toArray, List.set_cons_zero, List.set_cons_succ])
  refine takeH (i := 3) (v := ?_) rfl (by kernel_rfl) (by kernel_rfl) (by kernel_rfl) (fun _ _ _ h => h) (Or.inl ⟨by rfl, ?_⟩) (by assumption) ?_
  rotate_left
  · (intro w hSw; (try dsimp only at hSw); obtain ⟨hc0, hc1, _⟩ := (HX0.out.below hSw).cells; go_simp; first | done | with_reducible rfl)
  (try simp only [Act.put, List.setIfInBounds_toArray, List.set_cons_zero, List.set_cons_succ])
  refine takeH (i := 6) (v := ?_) rfl (by kernel_rfl) (by kernel_rfl) (by kernel_rfl) (fun _ _ _ h => h) (Or.inl ⟨by rfl, ?_⟩) (by assumption) ?_
  rotate_left
  · (intro w hSw; (try dsimp only at hSw); obtain ⟨hc0, hc1, _⟩ := (HX2.out.below hSw).cells; go_simp; first | done | with_reducible rfl)
  (try simp only [Act.put, List.setIfInBounds_toArray, List.set_cons_zero, List.set_cons_succ])
  refine takeH (i := 7) (v := ?_) rfl (by kernel_rfl) (by kernel_rfl) (by kernel_rfl) (fun _ _ _ h => h) (Or.inl ⟨by rfl, ?_⟩) (by assumption) ?_
  rotate_left
  · (intro w hSw; (try dsimp only at hSw); obtain ⟨hc0, hc1, _⟩ := (HX1.out.below hSw).cells; go_simp; first | done | with_reducible rfl)
  (try simp only [Act.put, List.setIfInBounds_toArray, List.set_cons_zero, List.set_cons_succ])
  refine takeH (i := 8) (v := ?_) rfl (by kernel_rfl) (by kernel_rfl) (by kernel_rfl) (fun _ _ _ h => h) (Or.inl ⟨by rfl, ?_⟩) (by assumption) ?_
  rotate_left
  · (intro w hSw; (try dsimp only at hSw); obtain ⟨hc0, hc1, _⟩ := (HX0.out.below hSw).cells; go_simp; first | done | with_reducible rfl)
  (try simp only [Act.put, List.setIfInBounds_toArray, List.set_cons_zero, List.set_cons_succ])
  refine wpAnyH_ready (rs := [2]) (by kernel_rfl) (by simp) ?_
  refine stepH rfl (fun K hK => ?_) AllReadyH.nil
  go_simp
  refine (ct.latUp HOK.out HCEta.out HCEtb.out HCOta.out _ _ _ _ wa (RdF.nil _) (HTta.out.below ha) (RdF.nil _) (HTtb.out.below ha)).mono ?_
  rintro e wr1 ⟨v3, u3, f3, rfl, k3, ce3, l3, hq⟩
  have K3 := Lib.hid k3
  have L3 := Lib.hid l3
  have CE3 := Lib.hid ce3
  clear k3 l3 ce3
  have hr1 := bnext ha hq
  go_wp2_with fail
  refine hK.out _ _ (hr1) (fun _ => ?_)
  clear hK K
  (try simp only [Act.put, List.setIfInBounds_toArray, List.set_cons_zero, List.set_cons_succ])
  refine wpAnyH_ready (rs := [4]) (by kernel_rfl) (by simp) ?_
  refine stepH rfl (fun K hK => ?_) AllReadyH.nil
  go_simp
  refine (ct.latUp HOK.out CE3.out HCEtc.out HCOtb.out _ _ _ _ wr1 K3.out L3.out (HFtc.out.below hr1) (HTtc.out.below hr1)).mono ?_
  rintro e wr2 ⟨v4, u4, f4, rfl, k4, ce4, l4, hq⟩
  replace K3 := Lib.hid (K3.out.below hq)
  replace L3 := Lib.hid (L3.out.below hq)
  have K4 := Lib.hid k4
  have L4 := Lib.hid l4
  have CE4 := Lib.hid ce4
  clear k4 l4 ce4
  have hr2 := bnext hr1 hq
  go_wp2_with fail
  refine hK.out _ _ (hr2) (fun _ => ?_)
  clear hK K
  (try simp only [Act.put, List.setIfInBounds_toArray, List.set_cons_zero, List.set_cons_succ])
  refine takeH (i := 5) (v := ?_) rfl (by kernel_rfl) (by kernel_rfl) (by kernel_rfl) (fun _ _ _ h => h) (Or.inl ⟨by rfl, ?_⟩) (by assumption) ?_
  rotate_left
  · (intro w hSw; (try dsimp only at hSw); go_simp; first | done | with_reducible rfl)
  (try simp only [Act.put, List.setIfInBounds_toArray, List.set_cons_zero, List.set_cons_succ])
  refine wpAnyH_ready (rs := [9]) (by kernel_rfl) (by simp) ?_
  refine stepH rfl (fun K hK => ?_) AllReadyH.nil
  go_simp
  refine (ct.latUp HOK.out HCEtb.out HCEtc.out HCOtb.out _ _ _ _ wr2 (RdF.nil _) (HTtb.out.below hr2) (HFtc.out.below hr2) (HTtc.out.below hr2)).mono ?_
  rintro e wr3 ⟨v5, u5, f5, rfl, k5, ce5, l5, hq⟩
  replace K3 := Lib.hid (K3.out.below hq)
  replace L3 := Lib.hid (L3.out.below hq)
  replace K4 := Lib.hid (K4.out.below hq)
  replace L4 := Lib.hid (L4.out.below hq)
  have K5 := Lib.hid k5
  have L5 := Lib.hid l5
  have CE5 := Lib.hid ce5
  clear k5 l5 ce5
  have hr3 := bnext hr2 hq
  go_wp2_with fail
  refine hK.out _ _ (hr3) (fun _ => ?_)
  clear hK K
  (try simp only [Act.put, List.setIfInBounds_toArray, List.set_cons_zero, List.set_cons_succ])
  refine wpAnyH_ready (rs := [10]) (by kernel_rfl) (by simp) ?_
  refine stepH rfl (fun K hK => ?_) AllReadyH.nil
  go_simp
  refine (ct.latUp HOK.out HCEta.out CE5.out HCOac.out _ _ _ _ wr3 (RdF.nil _) (HTta.out.below hr3) K5.out L5.out).mono ?_
  rintro e wr4 ⟨v6, u6, f6, rfl, k6, ce6, l6, hq⟩
  replace K3 := Lib.hid (K3.out.below hq)
  replace L3 := Lib.hid (L3.out.below hq)
  replace K4 := Lib.hid (K4.out.below hq)
  replace L4 := Lib.hid (L4.out.below hq)
  replace K5 := Lib.hid (K5.out.below hq)
  replace L5 := Lib.hid (L5.out.below hq)
  have K6 := Lib.hid k6
  have L6 := Lib.hid l6
  have CE6 := Lib.hid ce6
  clear k6 l6 ce6
  have hr4 := bnext hr3 hq
  go_wp2_with fail
  refine hK.out _ _ (hr4) (fun _ => ?_)
  clear hK K
  (try simp only [Act.put, List.setIfInBounds_toArray, List.set_cons_zero, List.set_cons_succ])
  refine takeH (i := 11) (v := ?_) rfl (by kernel_rfl) (by kernel_rfl) (by kernel_rfl) (fun _ _ _ h => h) (Or.inl ⟨by rfl, ?_⟩) (by assumption) ?_
  rotate_left
  · (intro w hSw; (try dsimp only at hSw); go_simp; first | done | with_reducible rfl)
  (try simp only [Act.put, List.setIfInBounds_toArray, List.set_cons_zero, List.set_cons_succ])
  refine wpAnyH_ready (rs := [12]) (by kernel_rfl) (by simp) ?_
  refine stepH rfl (fun K hK => ?_) AllReadyH.nil
  go_simp
  refine (eqC _ _ tc wr4 L4.out L6.out).mono ?_
  rintro e wr5 ⟨rfl, hq⟩
  replace K3 := Lib.hid (K3.out.below hq)
  replace L3 := Lib.hid (L3.out.below hq)
  replace K4 := Lib.hid (K4.out.below hq)
  replace L4 := Lib.hid (L4.out.below hq)
  replace K5 := Lib.hid (K5.out.below hq)
  replace L5 := Lib.hid (L5.out.below hq)
  replace K6 := Lib.hid (K6.out.below hq)
  replace L6 := Lib.hid (L6.out.below hq)
  have hr5 := bnext hr4 hq
  go_wp2_with fail
  refine hK.out _ _ (hr5) (fun _ => ?_)
  clear hK K
  (try simp only [Act.put, List.setIfInBounds_toArray, List.set_cons_zero, List.set_cons_succ])
  refine takeH (i := 13) (v := ?_) rfl (by kernel_rfl) (by kernel_rfl) (by kernel_rfl) (fun _ _ _ h => h) (Or.inl ⟨by rfl, ?_⟩) (by assumption) ?_
  rotate_left
  · (intro w hSw; (try dsimp only at hSw); go_simp; first | done | with_reducible rfl)
  (try simp only [Act.put, List.setIfInBounds_toArray, List.set_cons_zero, List.set_cons_succ])
  refine takeH (i := 14) (v := ?_) rfl (by kernel_rfl) (by kernel_rfl) (by kernel_rfl) (fun _ _ _ h => h) (Or.inl ⟨by rfl, ?_⟩) (by assumption) ?_
  rotate_left
  · (intro w hSw; (try dsimp only at hSw); obtain ⟨hc0, hc1, _⟩ := (HX0.out.below hSw).cells; go_simp; first | done | with_reducible rfl)
  (try simp only [Act.put, List.setIfInBounds_toArray, List.set_cons_zero, List.set_cons_succ])
  refine takeH (i := 15) (v := ?_) rfl (by kernel_rfl) (by kernel_rfl) (by kernel_rfl) (fun _ _ _ h => h) (Or.inl ⟨by rfl, ?_⟩) (by assumption) ?_
  rotate_left
  · (intro w hSw; (try dsimp only at hSw); obtain ⟨hc0, hc1, _⟩ := (HX2.out.below hSw).cells; go_simp; first | done | with_reducible rfl)
  (try simp only [Act.put, List.setIfInBounds_toArray, List.set_cons_zero, List.set_cons_succ])
  refine takeH (i := 17) (v := ?_) rfl (by kernel_rfl) (by kernel_rfl) (by kernel_rfl) (fun _ _ _ h => h) (Or.inl ⟨by rfl, ?_⟩) (by assumption) ?_
  rotate_left
  · (intro w hSw; (try dsimp only at hSw); obtain ⟨hc0, hc1, _⟩ := (HX1.out.below hSw).cells; go_simp; first | done | with_reducible rfl)
  (try simp only [Act.put, List.setIfInBounds_toArray, List.set_cons_zero, List.set_cons_succ])
  refine takeH (i := 20) (v := ?_) rfl (by kernel_rfl) (by kernel_rfl) (by kernel_rfl) (fun _ _ _ h => h) (Or.inl ⟨by rfl, ?_⟩) (by assumption) ?_
  rotate_left
  · (intro w hSw; (try dsimp only at hSw); go_simp; first | done | with_reducible rfl)
  (try simp only [Act.put, List.setIfInBounds_toArray, List.set_cons_zero, List.set_cons_succ])
  refine takeH (i := 21) (v := ?_) rfl (by kernel_rfl) (by kernel_rfl) (by kernel_rfl) (fun _ _ _ h => h) (Or.inl ⟨by rfl, ?_⟩) (by assumption) ?_
  rotate_left
  · (intro w hSw; (try dsimp only at hSw); obtain ⟨hc0, hc1, _⟩ := (HX0.out.below hSw).cells; go_simp; first | done | with_reducible rfl)
  (try simp only [Act.put, List.setIfInBounds_toArray, List.set_cons_zero, List.set_cons_succ])
  refine wpAnyH_ready (rs := [16]) (by kernel_rfl) (by simp) ?_
  refine stepH rfl (fun K hK => ?_) AllReadyH.nil
  go_simp
  refine (ct.latDn HOK.out HCEtc.out HCEta.out HCOac.out _ _ _ _ wr5 (HFtc.out.below hr5) (HTtc.out.below hr5) (RdF.nil _) (HTta.out.below hr5)).mono ?_
  rintro e wr6 ⟨v7, u7, f7, rfl, k7, ce7, l7, hq⟩
  replace K3 := Lib.hid (K3.out.below hq)
  replace L3 := Lib.hid (L3.out.below hq)
  replace K4 := Lib.hid (K4.out.below hq)
  replace L4 := Lib.hid (L4.out.below hq)
  replace K5 := Lib.hid (K5.out.below hq)
  replace L5 := Lib.hid (L5.out.below hq)
  replace K6 := Lib.hid (K6.out.below hq)
  replace L6 := Lib.hid (L6.out.below hq)
  have K7 := Lib.hid k7
  have L7 := Lib.hid l7
  have CE7 := Lib.hid ce7
  clear k7 l7 ce7
  have hr6 := bnext hr5 hq
  go_wp2_with fail
  refine hK.out _ _ (hr6) (fun _ => ?_)
  clear hK K
  (try simp only [Act.put, List.setIfInBounds_toArray, List.set_cons_zero, List.set_cons_succ])
  refine wpAnyH_ready (rs := [18]) (by kernel_rfl) (by simp) ?_
  refine stepH rfl (fun K hK => ?_) AllReadyH.nil
  go_simp
  refine (ct.latDn HOK.out CE7.out HCEtb.out HCOtb.out _ _ _ _ wr6 K7.out L7.out (RdF.nil _) (HTtb.out.below hr6)).mono ?_
  rintro e wr7 ⟨v8, u8, f8, rfl, k8, ce8, l8, hq⟩
  replace K3 := Lib.hid (K3.out.below hq)
  replace L3 := Lib.hid (L3.out.below hq)
  replace K4 := Lib.hid (K4.out.below hq)
  replace L4 := Lib.hid (L4.out.below hq)
  replace K5 := Lib.hid (K5.out.below hq)
  replace L5 := Lib.hid (L5.out.below hq)
  replace K6 := Lib.hid (K6.out.below hq)
  replace L6 := Lib.hid (L6.out.below hq)
  replace K7 := Lib.hid (K7.out.below hq)
  replace L7 := Lib.hid (L7.out.below hq)
  have K8 := Lib.hid k8
  have L8 := Lib.hid l8
  have CE8 := Lib.hid ce8
  clear k8 l8 ce8
  have hr7 := bnext hr6 hq
  go_wp2_with fail
  refine hK.out _ _ (hr7) (fun _ => ?_)
  clear hK K
  (try simp only [Act.put, List.setIfInBounds_toArray, List.set_cons_zero, List.set_cons_succ])
  refine takeH (i := 19) (v := ?_) rfl (by kernel_rfl) (by kernel_rfl) (by kernel_rfl) (fun _ _ _ h => h) (Or.inl ⟨by rfl, ?_⟩) (by assumption) ?_
  rotate_left
  · (intro w hSw; (try dsimp only at hSw); go_simp; first | done | with_reducible rfl)
  (try simp only [Act.put, List.setIfInBounds_toArray, List.set_cons_zero, List.set_cons_succ])
  refine wpAnyH_ready (rs := [22]) (by kernel_rfl) (by simp) ?_
  refine stepH rfl (fun K hK => ?_) AllReadyH.nil
  go_simp
  refine (eqC _ _ tc wr7 L8.out (HTtc.out.below hr7)).mono ?_
  rintro e wr8 ⟨rfl, hq⟩
  replace K3 := Lib.hid (K3.out.below hq)
  replace L3 := Lib.hid (L3.out.below hq)
  replace K4 := Lib.hid (K4.out.below hq)
  replace L4 := Lib.hid (L4.out.below hq)
  replace K5 := Lib.hid (K5.out.below hq)
  replace L5 := Lib.hid (L5.out.below hq)
  replace K6 := Lib.hid (K6.out.below hq)
  replace L6 := Lib.hid (L6.out.below hq)
  replace K7 := Lib.hid (K7.out.below hq)
  replace L7 := Lib.hid (L7.out.below hq)
  replace K8 := Lib.hid (K8.out.below hq)
  replace L8 := Lib.hid (L8.out.below hq)
  have hr8 := bnext hr7 hq
  go_wp2_with fail
  refine hK.out _ _ (hr8) (fun _ => ?_)
  clear hK K
  (try simp only [Act.put, List.setIfInBounds_toArray, List.set_cons_zero, List.set_cons_succ])
  refine takeH (i := 23) (v := ?_) rfl (by kernel_rfl) (by kernel_rfl) (by kernel_rfl) (fun _ _ _ h => h) (Or.inl ⟨by rfl, ?_⟩) (by assumption) ?_
  rotate_left
  · (intro w hSw; (try dsimp only at hSw); go_simp; first | done | with_reducible rfl)
  (try simp only [Act.put, List.setIfInBounds_toArray, List.set_cons_zero, List.set_cons_succ])
  refine takeH (i := 24) (v := ?_) rfl (by kernel_rfl) (by kernel_rfl) (by kernel_rfl) (fun _ _ _ h => h) (Or.inl ⟨by rfl, ?_⟩) (by assumption) ?_
  rotate_left
  · (intro w hSw; (try dsimp only at hSw); go_simp; first | done | with_reducible rfl)
  (try simp only [Act.put, List.setIfInBounds_toArray, List.set_cons_zero, List.set_cons_succ])
  refine wpAnyH_ready (rs := [25]) (by kernel_rfl) (by simp) ?_
  refine stepH rfl (fun K hK => ?_) AllReadyH.nil
  go_simp
  refine (cAwake13 ct wr8).mono ?_
  rintro e wr9 ⟨rfl, hq⟩
  replace K3 := Lib.hid (K3.out.below hq)
  replace L3 := Lib.hid (L3.out.below hq)
  replace K4 := Lib.hid (K4.out.below hq)
  replace L4 := Lib.hid (L4.out.below hq)
  replace K5 := Lib.hid (K5.out.below hq)
  replace L5 := Lib.hid (L5.out.below hq)
  replace K6 := Lib.hid (K6.out.below hq)
  replace L6 := Lib.hid (L6.out.below hq)
  replace K7 := Lib.hid (K7.out.below hq)
  replace L7 := Lib.hid (L7.out.below hq)
  replace K8 := Lib.hid (K8.out.below hq)
  replace L8 := Lib.hid (L8.out.below hq)
  have hr9 := bnext hr8 hq
  go_wp2_with fail
  refine hK.out _ _ (hr9) (fun _ => ?_)
  clear hK K
  (try simp only [Act.put, List.setIfInBounds_toArray, List.set_cons_zero, List.set_cons_succ])
  refine takeH (i := 26) (v := ?_) rfl (by kernel_rfl) (by kernel_rfl) (by kernel_rfl) (fun _ _ _ h => h) (Or.inl ⟨by rfl, ?_⟩) (by assumption) ?_
  rotate_left
  · (intro w hSw; (try dsimp only at hSw); go_simp; first | done | with_reducible rfl)
  (try simp only [Act.put, List.setIfInBounds_toArray, List.set_cons_zero, List.set_cons_succ])
  refine takeH (i := 27) (v := ?_) rfl (by kernel_rfl) (by kernel_rfl) (by kernel_rfl) (fun _ _ _ h => h) (Or.inl ⟨by rfl, ?_⟩) (by assumption) ?_
  rotate_left
  · (intro w hSw; (try dsimp only at hSw); go_simp; first | done | with_reducible rfl)
  (try simp only [Act.put, List.setIfInBounds_toArray, List.set_cons_zero, List.set_cons_succ])
  refine wpAnyH_done (by kernel_rfl) ?_ _
  have HZ := Lib.hid (bnext HB.out hr9)
  go_wp2
  go_ret
  exact ⟨rfl, HZ.out⟩

set_option maxRecDepth 100000 in
set_option maxHeartbeats 8000000 in
theorem lCertStart (ct : CT) (v : Value) (l : List Int) (x y : Int) (w : World) (hl : l.length ≤ 4611686018427387904) (h : RdI w v l) :
    Calls Try.prog 7 #[v, .int .i64 x, .int .i64 y] w fun e w' => e = .returned (.bool true) ∧ Below w.heap.size w w' := by
  have HB := Lib.hid (Below.refl w.heap.size w)
  have HC := Lib.hid (kPool v l w h hl)
  clear h hl
  go_enter Try.func7, Try.ntmps7
  go_wp2_with fail
  refine HC.out.mono ?_
  rintro e w101 ⟨vp, p, rfl, hr, hp, hb⟩
  have HP := Lib.hid hr
  have HOK := Lib.hid hp
  replace HB := Lib.hid (bnext HB.out hb)
  obtain ⟨pa, pc, rfl, _, _⟩ := hr.shape
  clear hr hp hb HC
  have hC := kCert _ p x w101 HP.out HOK.out
  have HQ := Lib.hid hC
  clear hC
  go_wp2_with fail
  refine HQ.out.mono ?_
  rintro e w102 ⟨a1, b1, g, kk, rfl, hr, hs, hb⟩
  replace HP := Lib.hid (HP.out.below hb)
  replace HB := Lib.hid (bnext HB.out hb)
  have HCEtc := Lib.hid (Ce.mk2 p g kk)
  generalize CM.rs (CM.rs p g) kk = fc at hr HCEtc
  generalize CM.rs p g = tc at hs HCEtc
  have HFtc := Lib.hid hr
  have HTtc := Lib.hid hs
  obtain ⟨a1, a1c, rfl, _, _⟩ := hr.shape
  obtain ⟨b1, b1c, rfl, _, _⟩ := hs.shape
  clear hb HQ hr hs
  have hC := kCert _ p y w102 HP.out HOK.out
  have HQ := Lib.hid hC
  clear hC
  go_wp2_with fail
  refine HQ.out.mono ?_
  rintro e w103 ⟨a2, b2, g, kk, rfl, hr, hs, hb⟩
  replace HP := Lib.hid (HP.out.below hb)
  replace HFtc := Lib.hid (HFtc.out.below hb)
  replace HTtc := Lib.hid (HTtc.out.below hb)
  replace HB := Lib.hid (bnext HB.out hb)
  have HCEte := Lib.hid (Ce.mk2 p g kk)
  generalize CM.rs (CM.rs p g) kk = fe at hr HCEte
  generalize CM.rs p g = te at hs HCEte
  have HFte := Lib.hid hr
  have HTte := Lib.hid hs
  obtain ⟨a2, a2c, rfl, _, _⟩ := hr.shape
  obtain ⟨b2, b2c, rfl, _, _⟩ := hs.shape
  clear hb HQ hr hs
  obtain ⟨w104, hqw104, hX0, hX1, hb⟩ := twoX w103 (.slice a1 fc.length a1c) (.slice b1 tc.length b1c) (.slice a2 fe.length a2c) (.slice b2 te.length b2c)
  have HWw104 := Lib.hid hqw104
  have HX0 := Lib.hid hX0
  have HX1 := Lib.hid hX1
  replace HP := Lib.hid (HP.out.below hb)
  replace HFtc := Lib.hid (HFtc.out.below hb)
  replace HTtc := Lib.hid (HTtc.out.below hb)
  replace HFte := Lib.hid (HFte.out.below hb)
  replace HTte := Lib.hid (HTte.out.below hb)
  replace HB := Lib.hid (bnext HB.out hb)
  clear hb hqw104 hX0 hX1
  go_upto_region 3 with fail
  rw [HWw104.out]
  clear HWw104
  obtain ⟨x0, x1, _⟩ := HX0.out.cells
  obtain ⟨y0, y1, _⟩ := HX1.out.cells
  have hC := ct.start _ _ _ _ fc tc fe te w104 HFtc.out HTtc.out HFte.out HTte.out (HCEtc.out.gd HCEte.out HOK.out)
  have HQ := Lib.hid hC
  clear hC
  go_wp2_with fail
  refine HQ.out.mono ?_
  rintro e w105 ⟨vs, rfl, hs, hb⟩
  clear x0 x1
  clear y0 y1
  replace HX0 := Lib.hid (HX0.out.below hb)
  replace HX1 := Lib.hid (HX1.out.below hb)
  replace HFtc := Lib.hid (HFtc.out.below hb)
  replace HTtc := Lib.hid (HTtc.out.below hb)
  replace HFte := Lib.hid (HFte.out.below hb)
  replace HTte := Lib.hid (HTte.out.below hb)
  replace HB := Lib.hid (bnext HB.out hb)
  have HS := Lib.hid hs
  obtain ⟨x0, x1, _⟩ := HX0.out.cells
  obtain ⟨y0, y1, _⟩ := HX1.out.cells
  clear hb HQ hs
  have q1 : CM.conk tc fc = true := by rw [CM.conk_cons (HCEtc.out.pt.agr HCEtc.out.pf HOK.out)]; exact HCEtc.out.pc
  have q2 : CM.conk fc fc = true := by rw [CM.conk_cons (HCEtc.out.pf.agr HCEtc.out.pf HOK.out)]; exact CM.cons_self fc
  have H4 := Lib.hid (fun a b w' (g1 : RdF w' a tc) (g2 : RdF w' b fc) => rContains a b tc fc w' g1 g2)
  have H5 := Lib.hid (fun a b w' (g1 : RdF w' a fc) (g2 : RdF w' b fc) => rContains a b fc fc w' g1 g2)
  rw [q1] at H4
  rw [q2] at H5
  have H1 := Lib.hid (fun a b w' (g1 : RdF w' a tc) (g2 : RdF w' b te) => rContains a b tc te w' g1 g2)
  have H2 := Lib.hid (fun a b w' (g1 : RdF w' a te) (g2 : RdF w' b fc) => rContains a b te fc w' g1 g2)
  have H3 := Lib.hid (fun a b w' (g1 : RdF w' a te) (g2 : RdF w' b fc) => rEqualConfig a b te fc w' g1 g2)
  unfold CM.strt at HS
  generalize CM.conk tc te = A at H1 HS
  generalize CM.conk te fc = B at H2 HS
  generalize decide (te = fc) = D at H3
  clear q1 q2 HCEtc HCEte HP HOK
  cases A
  · replace HS := Lib.hid (show RdF w105 vs fc from HS.out)
    have hC := H4.out _ _ w105 HTtc.out HS.out
    have HQ := Lib.hid hC
    clear hC
    go_wp2_with fail
    refine HQ.out.mono ?_
    rintro e w106 ⟨rfl, hb⟩
    clear x0 x1
    clear y0 y1
    replace HX0 := Lib.hid (HX0.out.below hb)
    replace HX1 := Lib.hid (HX1.out.below hb)
    replace HFtc := Lib.hid (HFtc.out.below hb)
    replace HTtc := Lib.hid (HTtc.out.below hb)
    replace HFte := Lib.hid (HFte.out.below hb)
    replace HTte := Lib.hid (HTte.out.below hb)
    replace HS := Lib.hid (HS.out.below hb)
    replace HB := Lib.hid (bnext HB.out hb)
    obtain ⟨x0, x1, _⟩ := HX0.out.cells
    obtain ⟨y0, y1, _⟩ := HX1.out.cells
    clear hb HQ
    have hC := H5.out _ _ w106 HS.out HFtc.out
    have HQ := Lib.hid hC
    clear hC
    go_wp2_with fail
    refine HQ.out.mono ?_
    rintro e w107 ⟨rfl, hb⟩
    clear x0 x1
    clear y0 y1
    replace HX0 := Lib.hid (HX0.out.below hb)
    replace HX1 := Lib.hid (HX1.out.below hb)
    replace HFtc := Lib.hid (HFtc.out.below hb)
    replace HTtc := Lib.hid (HTtc.out.below hb)
    replace HFte := Lib.hid (HFte.out.below hb)
    replace HTte := Lib.hid (HTte.out.below hb)
    replace HS := Lib.hid (HS.out.below hb)
    replace HB := Lib.hid (bnext HB.out hb)
    obtain ⟨x0, x1, _⟩ := HX0.out.cells
    obtain ⟨y0, y1, _⟩ := HX1.out.cells
    clear hb HQ
    have hC := eqC _ _ fc w107 HS.out HFtc.out
    have HQ := Lib.hid hC
    clear hC
    go_wp2_with fail
    refine HQ.out.mono ?_
    rintro e w108 ⟨rfl, hb⟩
    clear x0 x1
    clear y0 y1
    replace HX0 := Lib.hid (HX0.out.below hb)
    replace HX1 := Lib.hid (HX1.out.below hb)
    replace HFtc := Lib.hid (HFtc.out.below hb)
    replace HTtc := Lib.hid (HTtc.out.below hb)
    replace HFte := Lib.hid (HFte.out.below hb)
    replace HTte := Lib.hid (HTte.out.below hb)
    replace HS := Lib.hid (HS.out.below hb)
    replace HB := Lib.hid (bnext HB.out hb)
    obtain ⟨x0, x1, _⟩ := HX0.out.cells
    obtain ⟨y0, y1, _⟩ := HX1.out.cells
    clear hb HQ
    have hC := H1.out _ _ w108 HTtc.out HTte.out
    have HQ := Lib.hid hC
    clear hC
    go_wp2_with fail
    refine HQ.out.mono ?_
    rintro e w109 ⟨rfl, hb⟩
    clear x0 x1
    clear y0 y1
    replace HX0 := Lib.hid (HX0.out.below hb)
    replace HX1 := Lib.hid (HX1.out.below hb)
    replace HFtc := Lib.hid (HFtc.out.below hb)
    replace HTtc := Lib.hid (HTtc.out.below hb)
    replace HFte := Lib.hid (HFte.out.below hb)
    replace HTte := Lib.hid (HTte.out.below hb)
    replace HS := Lib.hid (HS.out.below hb)
    replace HB := Lib.hid (bnext HB.out hb)
    obtain ⟨x0, x1, _⟩ := HX0.out.cells
    obtain ⟨y0, y1, _⟩ := HX1.out.cells
    clear hb HQ
    have hC := cAwake13 ct w109
    have HQ := Lib.hid hC
    clear hC
    go_wp2_with fail
    refine HQ.out.mono ?_
    rintro e w110 ⟨rfl, hb⟩
    clear x0 x1
    clear y0 y1
    replace HX0 := Lib.hid (HX0.out.below hb)
    replace HX1 := Lib.hid (HX1.out.below hb)
    replace HFtc := Lib.hid (HFtc.out.below hb)
    replace HTtc := Lib.hid (HTtc.out.below hb)
    replace HFte := Lib.hid (HFte.out.below hb)
    replace HTte := Lib.hid (HTte.out.below hb)
    replace HS := Lib.hid (HS.out.below hb)
    replace HB := Lib.hid (bnext HB.out hb)
    obtain ⟨x0, x1, _⟩ := HX0.out.cells
    obtain ⟨y0, y1, _⟩ := HX1.out.cells
    clear hb HQ
    go_wp2
    go_ret
    exact ⟨rfl, HB.out⟩
  cases B
  · replace HS := Lib.hid (show RdF w105 vs fc from HS.out)
    have hC := H4.out _ _ w105 HTtc.out HS.out
    have HQ := Lib.hid hC
    clear hC
    go_wp2_with fail
    refine HQ.out.mono ?_
    rintro e w106 ⟨rfl, hb⟩
    clear x0 x1
    clear y0 y1
    replace HX0 := Lib.hid (HX0.out.below hb)
    replace HX1 := Lib.hid (HX1.out.below hb)
    replace HFtc := Lib.hid (HFtc.out.below hb)
    replace HTtc := Lib.hid (HTtc.out.below hb)
    replace HFte := Lib.hid (HFte.out.below hb)
    replace HTte := Lib.hid (HTte.out.below hb)
    replace HS := Lib.hid (HS.out.below hb)
    replace HB := Lib.hid (bnext HB.out hb)
    obtain ⟨x0, x1, _⟩ := HX0.out.cells
    obtain ⟨y0, y1, _⟩ := HX1.out.cells
    clear hb HQ
    have hC := H5.out _ _ w106 HS.out HFtc.out
    have HQ := Lib.hid hC
    clear hC
    go_wp2_with fail
    refine HQ.out.mono ?_
    rintro e w107 ⟨rfl, hb⟩
    clear x0 x1
    clear y0 y1
    replace HX0 := Lib.hid (HX0.out.below hb)
    replace HX1 := Lib.hid (HX1.out.below hb)
    replace HFtc := Lib.hid (HFtc.out.below hb)
    replace HTtc := Lib.hid (HTtc.out.below hb)
    replace HFte := Lib.hid (HFte.out.below hb)
    replace HTte := Lib.hid (HTte.out.below hb)
    replace HS := Lib.hid (HS.out.below hb)
    replace HB := Lib.hid (bnext HB.out hb)
    obtain ⟨x0, x1, _⟩ := HX0.out.cells
    obtain ⟨y0, y1, _⟩ := HX1.out.cells
    clear hb HQ
    have hC := eqC _ _ fc w107 HS.out HFtc.out
    have HQ := Lib.hid hC
    clear hC
    go_wp2_with fail
    refine HQ.out.mono ?_
    rintro e w108 ⟨rfl, hb⟩
    clear x0 x1
    clear y0 y1
    replace HX0 := Lib.hid (HX0.out.below hb)
    replace HX1 := Lib.hid (HX1.out.below hb)
    replace HFtc := Lib.hid (HFtc.out.below hb)
    replace HTtc := Lib.hid (HTtc.out.below hb)
    replace HFte := Lib.hid (HFte.out.below hb)
    replace HTte := Lib.hid (HTte.out.below hb)
    replace HS := Lib.hid (HS.out.below hb)
    replace HB := Lib.hid (bnext HB.out hb)
    obtain ⟨x0, x1, _⟩ := HX0.out.cells
    obtain ⟨y0, y1, _⟩ := HX1.out.cells
    clear hb HQ
    have hC := H1.out _ _ w108 HTtc.out HTte.out
    have HQ := Lib.hid hC
    clear hC
    go_wp2_with fail
    refine HQ.out.mono ?_
    rintro e w109 ⟨rfl, hb⟩
    clear x0 x1
    clear y0 y1
    replace HX0 := Lib.hid (HX0.out.below hb)
    replace HX1 := Lib.hid (HX1.out.below hb)
    replace HFtc := Lib.hid (HFtc.out.below hb)
    replace HTtc := Lib.hid (HTtc.out.below hb)
    replace HFte := Lib.hid (HFte.out.below hb)
    replace HTte := Lib.hid (HTte.out.below hb)
    replace HS := Lib.hid (HS.out.below hb)
    replace HB := Lib.hid (bnext HB.out hb)
    obtain ⟨x0, x1, _⟩ := HX0.out.cells
    obtain ⟨y0, y1, _⟩ := HX1.out.cells
    clear hb HQ
    have hC := H2.out _ _ w109 HTte.out HFtc.out
    have HQ := Lib.hid hC
    clear hC
    go_wp2_with fail
    refine HQ.out.mono ?_
    rintro e w110 ⟨rfl, hb⟩
    clear x0 x1
    clear y0 y1
    replace HX0 := Lib.hid (HX0.out.below hb)
    replace HX1 := Lib.hid (HX1.out.below hb)
    replace HFtc := Lib.hid (HFtc.out.below hb)
    replace HTtc := Lib.hid (HTtc.out.below hb)
    replace HFte := Lib.hid (HFte.out.below hb)
    replace HTte := Lib.hid (HTte.out.below hb)
    replace HS := Lib.hid (HS.out.below hb)
    replace HB := Lib.hid (bnext HB.out hb)
    obtain ⟨x0, x1, _⟩ := HX0.out.cells
    obtain ⟨y0, y1, _⟩ := HX1.out.cells
    clear hb HQ
    have hC := cAwake13 ct w110
    have HQ := Lib.hid hC
    clear hC
    go_wp2_with fail
    refine HQ.out.mono ?_
    rintro e w111 ⟨rfl, hb⟩
    clear x0 x1
    clear y0 y1
    replace HX0 := Lib.hid (HX0.out.below hb)
    replace HX1 := Lib.hid (HX1.out.below hb)
    replace HFtc := Lib.hid (HFtc.out.below hb)
    replace HTtc := Lib.hid (HTtc.out.below hb)
    replace HFte := Lib.hid (HFte.out.below hb)
    replace HTte := Lib.hid (HTte.out.below hb)
    replace HS := Lib.hid (HS.out.below hb)
    replace HB := Lib.hid (bnext HB.out hb)
    obtain ⟨x0, x1, _⟩ := HX0.out.cells
    obtain ⟨y0, y1, _⟩ := HX1.out.cells
    clear hb HQ
    go_wp2
    go_ret
    exact ⟨rfl, HB.out⟩
  replace HS := Lib.hid (show RdF w105 vs te from HS.out)
  cases D
  · have hC := H1.out _ _ w105 HTtc.out HS.out
    have HQ := Lib.hid hC
    clear hC
    go_wp2_with fail
    refine HQ.out.mono ?_
    rintro e w106 ⟨rfl, hb⟩
    clear x0 x1
    clear y0 y1
    replace HX0 := Lib.hid (HX0.out.below hb)
    replace HX1 := Lib.hid (HX1.out.below hb)
    replace HFtc := Lib.hid (HFtc.out.below hb)
    replace HTtc := Lib.hid (HTtc.out.below hb)
    replace HFte := Lib.hid (HFte.out.below hb)
    replace HTte := Lib.hid (HTte.out.below hb)
    replace HS := Lib.hid (HS.out.below hb)
    replace HB := Lib.hid (bnext HB.out hb)
    obtain ⟨x0, x1, _⟩ := HX0.out.cells
    obtain ⟨y0, y1, _⟩ := HX1.out.cells
    clear hb HQ
    have hC := H2.out _ _ w106 HS.out HFtc.out
    have HQ := Lib.hid hC
    clear hC
    go_wp2_with fail
    refine HQ.out.mono ?_
    rintro e w107 ⟨rfl, hb⟩
    clear x0 x1
    clear y0 y1
    replace HX0 := Lib.hid (HX0.out.below hb)
    replace HX1 := Lib.hid (HX1.out.below hb)
    replace HFtc := Lib.hid (HFtc.out.below hb)
    replace HTtc := Lib.hid (HTtc.out.below hb)
    replace HFte := Lib.hid (HFte.out.below hb)
    replace HTte := Lib.hid (HTte.out.below hb)
    replace HS := Lib.hid (HS.out.below hb)
    replace HB := Lib.hid (bnext HB.out hb)
    obtain ⟨x0, x1, _⟩ := HX0.out.cells
    obtain ⟨y0, y1, _⟩ := HX1.out.cells
    clear hb HQ
    have hC := H3.out _ _ w107 HS.out HFtc.out
    have HQ := Lib.hid hC
    clear hC
    go_wp2_with fail
    refine HQ.out.mono ?_
    rintro e w108 ⟨rfl, hb⟩
    clear x0 x1
    clear y0 y1
    replace HX0 := Lib.hid (HX0.out.below hb)
    replace HX1 := Lib.hid (HX1.out.below hb)
    replace HFtc := Lib.hid (HFtc.out.below hb)
    replace HTtc := Lib.hid (HTtc.out.below hb)
    replace HFte := Lib.hid (HFte.out.below hb)
    replace HTte := Lib.hid (HTte.out.below hb)
    replace HS := Lib.hid (HS.out.below hb)
    replace HB := Lib.hid (bnext HB.out hb)
    obtain ⟨x0, x1, _⟩ := HX0.out.cells
    obtain ⟨y0, y1, _⟩ := HX1.out.cells
    clear hb HQ
    have hC := eqC _ _ te w108 HS.out HTte.out
    have HQ := Lib.hid hC
    clear hC
    go_wp2_with fail
    refine HQ.out.mono ?_
    rintro e w109 ⟨rfl, hb⟩
    clear x0 x1
    clear y0 y1
    replace HX0 := Lib.hid (HX0.out.below hb)
    replace HX1 := Lib.hid (HX1.out.below hb)
    replace HFtc := Lib.hid (HFtc.out.below hb)
    replace HTtc := Lib.hid (HTtc.out.below hb)
    replace HFte := Lib.hid (HFte.out.below hb)
    replace HTte := Lib.hid (HTte.out.below hb)
    replace HS := Lib.hid (HS.out.below hb)
    replace HB := Lib.hid (bnext HB.out hb)
    obtain ⟨x0, x1, _⟩ := HX0.out.cells
    obtain ⟨y0, y1, _⟩ := HX1.out.cells
    clear hb HQ
    have hC := H1.out _ _ w109 HTtc.out HTte.out
    have HQ := Lib.hid hC
    clear hC
    go_wp2_with fail
    refine HQ.out.mono ?_
    rintro e w110 ⟨rfl, hb⟩
    clear x0 x1
    clear y0 y1
    replace HX0 := Lib.hid (HX0.out.below hb)
    replace HX1 := Lib.hid (HX1.out.below hb)
    replace HFtc := Lib.hid (HFtc.out.below hb)
    replace HTtc := Lib.hid (HTtc.out.below hb)
    replace HFte := Lib.hid (HFte.out.below hb)
    replace HTte := Lib.hid (HTte.out.below hb)
    replace HS := Lib.hid (HS.out.below hb)
    replace HB := Lib.hid (bnext HB.out hb)
    obtain ⟨x0, x1, _⟩ := HX0.out.cells
    obtain ⟨y0, y1, _⟩ := HX1.out.cells
    clear hb HQ
    have hC := H2.out _ _ w110 HTte.out HFtc.out
    have HQ := Lib.hid hC
    clear hC
    go_wp2_with fail
    refine HQ.out.mono ?_
    rintro e w111 ⟨rfl, hb⟩
    clear x0 x1
    clear y0 y1
    replace HX0 := Lib.hid (HX0.out.below hb)
    replace HX1 := Lib.hid (HX1.out.below hb)
    replace HFtc := Lib.hid (HFtc.out.below hb)
    replace HTtc := Lib.hid (HTtc.out.below hb)
    replace HFte := Lib.hid (HFte.out.below hb)
    replace HTte := Lib.hid (HTte.out.below hb)
    replace HS := Lib.hid (HS.out.below hb)
    replace HB := Lib.hid (bnext HB.out hb)
    obtain ⟨x0, x1, _⟩ := HX0.out.cells
    obtain ⟨y0, y1, _⟩ := HX1.out.cells
    clear hb HQ
    have hC := eqC _ _ te w111 HS.out HTte.out
    have HQ := Lib.hid hC
    clear hC
    go_wp2_with fail
    refine HQ.out.mono ?_
    rintro e w112 ⟨rfl, hb⟩
    clear x0 x1
    clear y0 y1
    replace HX0 := Lib.hid (HX0.out.below hb)
    replace HX1 := Lib.hid (HX1.out.below hb)
    replace HFtc := Lib.hid (HFtc.out.below hb)
    replace HTtc := Lib.hid (HTtc.out.below hb)
    replace HFte := Lib.hid (HFte.out.below hb)
    replace HTte := Lib.hid (HTte.out.below hb)
    replace HS := Lib.hid (HS.out.below hb)
    replace HB := Lib.hid (bnext HB.out hb)
    obtain ⟨x0, x1, _⟩ := HX0.out.cells
    obtain ⟨y0, y1, _⟩ := HX1.out.cells
    clear hb HQ
    have hC := cAwake13 ct w112
    have HQ := Lib.hid hC
    clear hC
    go_wp2_with fail
    refine HQ.out.mono ?_
    rintro e w113 ⟨rfl, hb⟩
    clear x0 x1
    clear y0 y1
    replace HX0 := Lib.hid (HX0.out.below hb)
    replace HX1 := Lib.hid (HX1.out.below hb)
    replace HFtc := Lib.hid (HFtc.out.below hb)
    replace HTtc := Lib.hid (HTtc.out.below hb)
    replace HFte := Lib.hid (HFte.out.below hb)
    replace HTte := Lib.hid (HTte.out.below hb)
    replace HS := Lib.hid (HS.out.below hb)
    replace HB := Lib.hid (bnext HB.out hb)
    obtain ⟨x0, x1, _⟩ := HX0.out.cells
    obtain ⟨y0, y1, _⟩ := HX1.out.cells
    clear hb HQ
    go_wp2
    go_ret
    exact ⟨rfl, HB.out⟩
  · have hC := H1.out _ _ w105 HTtc.out HS.out
    have HQ := Lib.hid hC
    clear hC
    go_wp2_with fail
    refine HQ.out.mono ?_
    rintro e w106 ⟨rfl, hb⟩
    clear x0 x1
    clear y0 y1
    replace HX0 := Lib.hid (HX0.out.below hb)
    replace HX1 := Lib.hid (HX1.out.below hb)
    replace HFtc := Lib.hid (HFtc.out.below hb)
    replace HTtc := Lib.hid (HTtc.out.below hb)
    replace HFte := Lib.hid (HFte.out.below hb)
    replace HTte := Lib.hid (HTte.out.below hb)
    replace HS := Lib.hid (HS.out.below hb)
    replace HB := Lib.hid (bnext HB.out hb)
    obtain ⟨x0, x1, _⟩ := HX0.out.cells
    obtain ⟨y0, y1, _⟩ := HX1.out.cells
    clear hb HQ
    have hC := H2.out _ _ w106 HS.out HFtc.out
    have HQ := Lib.hid hC
    clear hC
    go_wp2_with fail
    refine HQ.out.mono ?_
    rintro e w107 ⟨rfl, hb⟩
    clear x0 x1
    clear y0 y1
    replace HX0 := Lib.hid (HX0.out.below hb)
    replace HX1 := Lib.hid (HX1.out.below hb)
    replace HFtc := Lib.hid (HFtc.out.below hb)
    replace HTtc := Lib.hid (HTtc.out.below hb)
    replace HFte := Lib.hid (HFte.out.below hb)
    replace HTte := Lib.hid (HTte.out.below hb)
    replace HS := Lib.hid (HS.out.below hb)
    replace HB := Lib.hid (bnext HB.out hb)
    obtain ⟨x0, x1, _⟩ := HX0.out.cells
    obtain ⟨y0, y1, _⟩ := HX1.out.cells
    clear hb HQ
    have hC := H3.out _ _ w107 HS.out HFtc.out
    have HQ := Lib.hid hC
    clear hC
    go_wp2_with fail
    refine HQ.out.mono ?_
    rintro e w108 ⟨rfl, hb⟩
    clear x0 x1
    clear y0 y1
    replace HX0 := Lib.hid (HX0.out.below hb)
    replace HX1 := Lib.hid (HX1.out.below hb)
    replace HFtc := Lib.hid (HFtc.out.below hb)
    replace HTtc := Lib.hid (HTtc.out.below hb)
    replace HFte := Lib.hid (HFte.out.below hb)
    replace HTte := Lib.hid (HTte.out.below hb)
    replace HS := Lib.hid (HS.out.below hb)
    replace HB := Lib.hid (bnext HB.out hb)
    obtain ⟨x0, x1, _⟩ := HX0.out.cells
    obtain ⟨y0, y1, _⟩ := HX1.out.cells
    clear hb HQ
    have hC := H1.out _ _ w108 HTtc.out HTte.out
    have HQ := Lib.hid hC
    clear hC
    go_wp2_with fail
    refine HQ.out.mono ?_
    rintro e w109 ⟨rfl, hb⟩
    clear x0 x1
    clear y0 y1
    replace HX0 := Lib.hid (HX0.out.below hb)
    replace HX1 := Lib.hid (HX1.out.below hb)
    replace HFtc := Lib.hid (HFtc.out.below hb)
    replace HTtc := Lib.hid (HTtc.out.below hb)
    replace HFte := Lib.hid (HFte.out.below hb)
    replace HTte := Lib.hid (HTte.out.below hb)
    replace HS := Lib.hid (HS.out.below hb)
    replace HB := Lib.hid (bnext HB.out hb)
    obtain ⟨x0, x1, _⟩ := HX0.out.cells
    obtain ⟨y0, y1, _⟩ := HX1.out.cells
    clear hb HQ
    have hC := H2.out _ _ w109 HTte.out HFtc.out
    have HQ := Lib.hid hC
    clear hC
    go_wp2_with fail
    refine HQ.out.mono ?_
    rintro e w110 ⟨rfl, hb⟩
    clear x0 x1
    clear y0 y1
    replace HX0 := Lib.hid (HX0.out.below hb)
    replace HX1 := Lib.hid (HX1.out.below hb)
    replace HFtc := Lib.hid (HFtc.out.below hb)
    replace HTtc := Lib.hid (HTtc.out.below hb)
    replace HFte := Lib.hid (HFte.out.below hb)
    replace HTte := Lib.hid (HTte.out.below hb)
    replace HS := Lib.hid (HS.out.below hb)
    replace HB := Lib.hid (bnext HB.out hb)
    obtain ⟨x0, x1, _⟩ := HX0.out.cells
    obtain ⟨y0, y1, _⟩ := HX1.out.cells
    clear hb HQ
    have hC := eqC _ _ te w110 HS.out HTte.out
    have HQ := Lib.hid hC
    clear hC
    go_wp2_with fail
    refine HQ.out.mono ?_
    rintro e w111 ⟨rfl, hb⟩
    clear x0 x1
    clear y0 y1
    replace HX0 := Lib.hid (HX0.out.below hb)
    replace HX1 := Lib.hid (HX1.out.below hb)
    replace HFtc := Lib.hid (HFtc.out.below hb)
    replace HTtc := Lib.hid (HTtc.out.below hb)
    replace HFte := Lib.hid (HFte.out.below hb)
    replace HTte := Lib.hid (HTte.out.below hb)
    replace HS := Lib.hid (HS.out.below hb)
    replace HB := Lib.hid (bnext HB.out hb)
    obtain ⟨x0, x1, _⟩ := HX0.out.cells
    obtain ⟨y0, y1, _⟩ := HX1.out.cells
    clear hb HQ
    have hC := cAwake13 ct w111
    have HQ := Lib.hid hC
    clear hC
    go_wp2_with fail
    refine HQ.out.mono ?_
    rintro e w112 ⟨rfl, hb⟩
    clear x0 x1
    clear y0 y1
    replace HX0 := Lib.hid (HX0.out.below hb)
    replace HX1 := Lib.hid (HX1.out.below hb)
    replace HFtc := Lib.hid (HFtc.out.below hb)
    replace HTtc := Lib.hid (HTtc.out.below hb)
    replace HFte := Lib.hid (HFte.out.below hb)
    replace HTte := Lib.hid (HTte.out.below hb)
    replace HS := Lib.hid (HS.out.below hb)
    replace HB := Lib.hid (bnext HB.out hb)
    obtain ⟨x0, x1, _⟩ := HX0.out.cells
    obtain ⟨y0, y1, _⟩ := HX1.out.cells
    clear hb HQ
    go_wp2
    go_ret
    exact ⟨rfl, HB.out⟩

end Go.Proofs.Ytfdgoehfkfdgaaa
