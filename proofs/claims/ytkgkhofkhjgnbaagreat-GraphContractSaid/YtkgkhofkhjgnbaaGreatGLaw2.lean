/-
  The call of the law GraphContract: it returns true. Conditions: what came in reads; GCon's structure.
-/
import Derived.Deep.RegionHeld3
import Derived.Test.YtkgkhofkhjgnbaaGreatGOrd
namespace Go.Proofs.YtkgkhofkhjgnbaaGreat
open Go.RowKit Go.Joins Go.Shelf
open JM (Chg)
open CM (Fp)
open VM (Ent)

set_option maxRecDepth 100000 in
set_option maxHeartbeats 8000000 in
theorem lGraphContract (H : GC) (v : Value) (l : List Int) (x y z : Int) (w : World) (h : RdI w v l) (hl : l.length ≤ 4611686018427387904) :
    Calls Tryz.prog 4 #[v, .int .i64 x, .int .i64 y, .int .i64 z] w fun e w' => e = .returned (.bool true) ∧ Below w.heap.size w w' := by
  have HL := Lib.hid h
  have HLL := Lib.hid hl
  have HB := Lib.hid (Below.refl w.heap.size w)
  clear h hl
  go_enter Tryz.func4, Tryz.ntmps4
  go_wp2_with fail
  refine (kPool _ l w HL.out HLL.out).mono ?_
  rintro e w1 ⟨u1, p, rfl, hr, op, hq⟩
  replace HB := Lib.hid (bnext HB.out hq)
  have HP := Lib.hid hr
  clear HLL
  clear hq hr
  have hp9 : p.length ≤ 1000 := by have := op.nine; omega
  go_wp2_with fail
  refine (kPart _ p y w1 HP.out hp9).mono ?_
  rintro e w2 ⟨u2, g, rfl, hr, hq⟩
  obtain ⟨ft, hft⟩ : ∃ z, z = CM.rs p g := ⟨_, rfl⟩
  rw [← hft] at hr
  replace HP := Lib.hid (HP.out.below hq)
  replace HB := Lib.hid (bnext HB.out hq)
  have HT := Lib.hid hr
  clear hq hr
  have oft : CM.Ok ft := by rw [hft]; exact op.rs g
  have ftc : CM.cons p ft = true := by rw [hft]; exact IM.cons_rs _ _
  have ft9 : ft.length ≤ 1000 := by have := oft.nine; omega
  clear hft
  go_wp2_with fail
  refine (kPart _ ft x w2 HT.out ft9).mono ?_
  rintro e w3 ⟨u3, g, rfl, hr, hq⟩
  obtain ⟨fa, hfa⟩ : ∃ z, z = CM.rs ft g := ⟨_, rfl⟩
  rw [← hfa] at hr
  replace HP := Lib.hid (HP.out.below hq)
  replace HT := Lib.hid (HT.out.below hq)
  replace HB := Lib.hid (bnext HB.out hq)
  have HA := Lib.hid hr
  clear hq hr
  have ofa : CM.Ok fa := by rw [hfa]; exact oft.rs g
  have fac : CM.cons ft fa = true := by rw [hfa]; exact IM.cons_rs _ _
  have fa9 : fa.length ≤ 1000 := by have := ofa.nine; omega
  clear hfa
  go_wp2_with fail
  refine (kPart _ p z w3 HP.out hp9).mono ?_
  rintro e w4 ⟨u4, g, rfl, hr, hq⟩
  obtain ⟨fb, hfb⟩ : ∃ z, z = CM.rs p g := ⟨_, rfl⟩
  rw [← hfb] at hr
  replace HP := Lib.hid (HP.out.below hq)
  replace HT := Lib.hid (HT.out.below hq)
  replace HA := Lib.hid (HA.out.below hq)
  replace HB := Lib.hid (bnext HB.out hq)
  have HF := Lib.hid hr
  clear hq hr
  have ofb : CM.Ok fb := by rw [hfb]; exact op.rs g
  have fbc : CM.cons p fb = true := by rw [hfb]; exact IM.cons_rs _ _
  have fb9 : fb.length ≤ 1000 := by have := ofb.nine; omega
  clear hfb
  clear HP
  have gd : IM.Gd p (IM.all fa ft) := IM.Gd.all ofa oft ftc
  have hag : CM.Agr ft fa := IM.agr_part op ftc (IM.cons_trans ftc fac)
  have mid := IM.mid_ok op ofa oft ofb (IM.cons_trans ftc fac) ftc fbc fac
  go_wp2_with fail
  refine (H.build _ _ fa ft w4 HA.out HT.out ofa oft).mono ?_
  rintro e w5 ⟨u5, rfl, hr, hq⟩
  replace HT := Lib.hid (HT.out.below hq)
  replace HA := Lib.hid (HA.out.below hq)
  replace HF := Lib.hid (HF.out.below hq)
  replace HB := Lib.hid (bnext HB.out hq)
  have HG := Lib.hid hr
  clear hq hr
  go_wp2_with fail
  refine (H.contract p _ _ _ fb w5 op gd HG.out HF.out ofb fbc).mono ?_
  rintro e w6 ⟨u6, rfl, hr, hq⟩
  clear HG
  replace HT := Lib.hid (HT.out.below hq)
  replace HA := Lib.hid (HA.out.below hq)
  replace HF := Lib.hid (HF.out.below hq)
  replace HB := Lib.hid (bnext HB.out hq)
  have HG := Lib.hid hr
  clear hq hr
  obtain ⟨mv, ev, hmv, hm1, hm2⟩ := HG.out
  subst hmv
  obtain ⟨ma, mc, hmv, _, _⟩ := hm1.shape
  obtain ⟨ea, ec, hev, _, _⟩ := hm2.shape
  obtain ⟨mn, hmn⟩ : ∃ z, z = ((IM.all fa ft).filter fun x => CM.conk x fb : List (List Fp)).length := ⟨_, rfl⟩
  obtain ⟨en, hen⟩ : ∃ z, z = (IM.edgK ((IM.all fa ft).filter fun x => CM.conk x fb)).length := ⟨_, rfl⟩
  rw [← hmn] at hmv
  rw [← hen] at hev
  have HMN := Lib.hid hmn
  have HEN := Lib.hid hen
  clear hmn hen
  subst hmv hev
  go_upto_region 5 with fail
  obtain ⟨w7, hw⟩ : ∃ z, z = w6.alloc (.cells #[.slice ma mn mc, .slice ea en ec] 31) := ⟨_, rfl⟩
  rw [← hw]
  have ka0 : w7.cell? ⟨w6.heap.size, 0, none⟩ = some (.slice ma mn mc) := by rw [hw]; exact World.cell?_alloc_new _ _ _ 0
  have ka1 : w7.cell? ⟨w6.heap.size, 1, none⟩ = some (.slice ea en ec) := by rw [hw]; exact World.cell?_alloc_new _ _ _ 1
  have hq : Below w6.heap.size w6 w7 := by rw [hw]; exact below_fresh w6 _
  replace HT := Lib.hid (HT.out.below hq)
  replace HA := Lib.hid (HA.out.below hq)
  replace HF := Lib.hid (HF.out.below hq)
  replace HG := Lib.hid (HG.out.below hq)
  replace HB := Lib.hid (bnext HB.out hq)
  have HK := Lib.hid (fun wx (hb : Below w7.heap.size w7 wx) => (⟨below_cell hb ka0, below_cell hb ka1⟩ : wx.cell? ⟨w6.heap.size, 0, none⟩ = some (.slice ma mn mc) ∧ wx.cell? ⟨w6.heap.size, 1, none⟩ = some (.slice ea en ec)))
  have HM1 := Lib.hid (hm1.below hq (fun _ _ z => z.below hq))
  clear hq ka0 ka1 hw hm1 hm2
  generalize w6.heap.size = gb at *
  refine wp_region_held_drew (S := fun w' => Below w7.heap.size w7 w') (by kernel_rfl) ((Below.refl _ _).drew) (fun ha => ?_)
  replace ha : Below w7.heap.size w7 w7.drew := (Below.refl _ _).drew
  generalize w7.drew = wa at ha ⊢
  refine takeH (i := 0) (v := ?_) rfl (by kernel_rfl) (by kernel_rfl) (by kernel_rfl) (fun _ _ _ h => h) (Or.inl ⟨by rfl, ?_⟩) (by assumption) ?_
  rotate_left
  · (intro w hSw; (try dsimp only at hSw); obtain ⟨c0, c1⟩ := HK.out w hSw; go_simp; first | done | with_reducible rfl)
  (try simp only [Act.put, List.setIfInBounds_toArray, List.set_cons_zero, List.set_cons_succ])
  refine takeH (i := 1) (v := ?_) rfl (by kernel_rfl) (by kernel_rfl) (by kernel_rfl) (fun _ _ _ h => h) (Or.inl ⟨by rfl, ?_⟩) (by assumption) ?_
  rotate_left
  · (intro w hSw; (try dsimp only at hSw); go_simp; first | done | with_reducible rfl)
  (try simp only [Act.put, List.setIfInBounds_toArray, List.set_cons_zero, List.set_cons_succ])
  refine takeH (i := 2) (v := ?_) rfl (by kernel_rfl) (by kernel_rfl) (by kernel_rfl) (fun _ _ _ h => h) (Or.inl ⟨by rfl, ?_⟩) (by assumption) ?_
  rotate_left
  · (intro w hSw; (try dsimp only at hSw); go_simp; first | done | with_reducible rfl)
  (try simp only [Act.put, List.setIfInBounds_toArray, List.set_cons_zero, List.set_cons_succ])
  refine takeH (i := 4) (v := ?_) rfl (by kernel_rfl) (by kernel_rfl) (by kernel_rfl) (fun _ _ _ h => h) (Or.inl ⟨by rfl, ?_⟩) (by assumption) ?_
  rotate_left
  · (intro w hSw; (try dsimp only at hSw); go_simp; first | done | with_reducible rfl)
  (try simp only [Act.put, List.setIfInBounds_toArray, List.set_cons_zero, List.set_cons_succ])
  refine wpAnyH_ready (rs := [3]) (by kernel_rfl) (by simp) ?_
  refine stepH rfl (fun K hK => ?_) AllReadyH.nil
  go_simp
  refine (rAll _ _ fa ft wa (HA.out.below ha) (HT.out.below ha) ofa oft hag).mono ?_
  rintro e wb ⟨u8, rfl, hr, hq⟩
  have HN := Lib.hid (show RdLs RdF wb u8 (IM.all fa ft) from hr.rd.imp (fun u x h => h.rd hq))
  clear hr
  have hb := bnext ha hq
  go_wp2_with fail
  refine hK.out _ _ (hb) (fun _ => ?_)
  clear hK K
  (try simp only [Act.put, List.setIfInBounds_toArray, List.set_cons_zero, List.set_cons_succ])
  refine wpAnyH_ready (rs := [5]) (by kernel_rfl) (by simp) ?_
  refine stepH rfl (fun K hK => ?_) AllReadyH.nil
  go_simp
  refine (rContractN _ _ _ fb wb HN.out (HF.out.below hb) (by have := gd.1; omega)).mono ?_
  rintro e wc ⟨u9, rfl, hr, hq⟩
  have HM := Lib.hid (show RdLs RdF wc u9 _ from RdLs.imp (R := fun _ u x => RdF wb u x) (OwnLs.rd hr) (fun u x h => RdF.below h hq))
  clear hr HN
  have hc := bnext hb hq
  go_wp2_with fail
  refine hK.out _ _ (hc) (fun _ => ?_)
  clear hK K
  (try simp only [Act.put, List.setIfInBounds_toArray, List.set_cons_zero, List.set_cons_succ])
  refine wpAnyH_ready (rs := [6]) (by kernel_rfl) (by simp) ?_
  refine stepH rfl (fun K hK => ?_) AllReadyH.nil
  go_simp
  refine (IM.isG (gd.filter _) (HG.out.below hc) HM.out).mono ?_
  rintro e wd ⟨rfl, hq⟩
  have hd := bnext hc hq
  go_wp2_with fail
  refine hK.out _ _ (hd) (fun _ => ?_)
  clear hK K
  (try simp only [Act.put, List.setIfInBounds_toArray, List.set_cons_zero, List.set_cons_succ])
  refine takeH (i := 7) (v := ?_) rfl (by kernel_rfl) (by kernel_rfl) (by kernel_rfl) (fun _ _ _ h => h) (Or.inl ⟨by rfl, ?_⟩) (by assumption) ?_
  rotate_left
  · (intro w hSw; (try dsimp only at hSw); go_simp; first | done | with_reducible rfl)
  (try simp only [Act.put, List.setIfInBounds_toArray, List.set_cons_zero, List.set_cons_succ])
  refine wpAnyH_done (by kernel_rfl) ?_ _
  replace HA := Lib.hid (HA.out.below hd)
  replace HT := Lib.hid (HT.out.below hd)
  replace HF := Lib.hid (HF.out.below hd)
  replace HB := Lib.hid (bnext HB.out hd)
  clear ha hb hc hd HK HMN HEN HG HM
  go_wp2_with fail
  refine (rMeet _ _ fb ft wd HF.out HT.out fb9).mono ?_
  rintro e w8 ⟨u10, rfl, hr, hq⟩
  replace HA := Lib.hid (HA.out.below hq)
  replace HT := Lib.hid (HT.out.below hq)
  replace HF := Lib.hid (HF.out.below hq)
  replace HB := Lib.hid (bnext HB.out hq)
  have HM := Lib.hid hr
  clear hq hr
  have hml : (CM.meetK fb ft).length ≤ 1000 := Nat.le_trans (List.length_filter_le _ _) fb9
  go_wp2_with fail
  refine (rUnion _ _ fa _ w8 HA.out HM.out fa9 hml).mono ?_
  rintro e w9 ⟨u11, rfl, hr, hq⟩
  replace HA := Lib.hid (HA.out.below hq)
  replace HT := Lib.hid (HT.out.below hq)
  replace HF := Lib.hid (HF.out.below hq)
  replace HM := Lib.hid (HM.out.below hq)
  replace HB := Lib.hid (bnext HB.out hq)
  have HU := Lib.hid hr
  clear hq hr
  clear HM
  clear hml
  obtain ⟨om, mc1, mc2, mc3⟩ := mid
  generalize CM.un fa (CM.meetK fb ft) = fm at *
  have gm : IM.Gd p (IM.all fm ft) := IM.Gd.all om oft ftc
  have heq : (IM.all fa ft).filter (fun x => CM.conk x fm) = IM.all fm ft := by
    rw [← IM.above_eq ofa om oft mc2]
    exact List.filter_congr fun x hx => IM.conk_part op (gd.2 x hx).2 mc1
  go_wp2_with fail
  refine (H.build _ _ fa ft w9 HA.out HT.out ofa oft).mono ?_
  rintro e w10 ⟨u12, rfl, hr, hq⟩
  replace HA := Lib.hid (HA.out.below hq)
  replace HT := Lib.hid (HT.out.below hq)
  replace HF := Lib.hid (HF.out.below hq)
  replace HU := Lib.hid (HU.out.below hq)
  replace HB := Lib.hid (bnext HB.out hq)
  have HG := Lib.hid hr
  clear hq hr
  go_wp2_with fail
  refine (H.contract p _ _ _ fm w10 op gd HG.out HU.out om mc1).mono ?_
  rintro e w11 ⟨u13, rfl, hr, hq⟩
  clear HG
  rw [heq] at hr
  replace HA := Lib.hid (HA.out.below hq)
  replace HT := Lib.hid (HT.out.below hq)
  replace HF := Lib.hid (HF.out.below hq)
  replace HU := Lib.hid (HU.out.below hq)
  replace HB := Lib.hid (bnext HB.out hq)
  have HG := Lib.hid hr
  clear hq hr
  go_wp2_with fail
  refine (H.build _ _ fm ft w11 HU.out HT.out om oft).mono ?_
  rintro e w12 ⟨u14, rfl, hr, hq⟩
  replace HA := Lib.hid (HA.out.below hq)
  replace HT := Lib.hid (HT.out.below hq)
  replace HF := Lib.hid (HF.out.below hq)
  replace HU := Lib.hid (HU.out.below hq)
  replace HG := Lib.hid (HG.out.below hq)
  replace HB := Lib.hid (bnext HB.out hq)
  have HH := Lib.hid hr
  clear hq hr
  go_wp2_with fail
  refine (H.equal p _ _ _ _ w12 op gm HG.out HH.out rfl).mono ?_
  rintro e w13 ⟨rfl, hq⟩
  replace HA := Lib.hid (HA.out.below hq)
  replace HT := Lib.hid (HT.out.below hq)
  replace HF := Lib.hid (HF.out.below hq)
  replace HU := Lib.hid (HU.out.below hq)
  replace HG := Lib.hid (HG.out.below hq)
  replace HH := Lib.hid (HH.out.below hq)
  replace HB := Lib.hid (bnext HB.out hq)
  clear hq 
  clear HG HH HA HT HF HU
  go_wp2_with fail
  refine (cAwake10 H w13).mono ?_
  rintro e wz ⟨rfl, hq⟩
  replace HB := Lib.hid (bnext HB.out hq)
  clear hq
  go_wp2
  go_ret
  exact ⟨rfl, HB.out⟩

end Go.Proofs.YtkgkhofkhjgnbaaGreat
