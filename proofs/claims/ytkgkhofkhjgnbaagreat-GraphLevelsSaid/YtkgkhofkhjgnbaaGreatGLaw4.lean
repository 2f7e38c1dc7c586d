/-
  The call of the law GraphLevels: it returns true. Conditions: what came in reads; GCon's structure.
-/
import Derived.Deep.RegionHeld3
import Derived.Test.YtkgkhofkhjgnbaaGreatGOrd
namespace Go.Proofs.YtkgkhofkhjgnbaaGreat
open Go.RowKit Go.Joins Go.Shelf
open JM (Chg)
open CM (Fp)
open VM (Ent)

set_option maxRecDepth 100000 in
set_option maxHeartbeats 8000000 in
theorem lGraphLevels (H : GC) (v : Value) (l : List Int) (x y z q : Int) (w : World) (h : RdI w v l) (hl : l.length ≤ 4611686018427387904) :
    Calls Tryz.prog 6 #[v, .int .i64 x, .int .i64 y, .int .i64 z, .int .i64 q] w fun e w' => e = .returned (.bool true) ∧ Below w.heap.size w w' := by
  have HL := Lib.hid h
  have HLL := Lib.hid hl
  have HB := Lib.hid (Below.refl w.heap.size w)
  clear h hl
  go_enter Tryz.func6, Tryz.ntmps6
  go_wp2_with fail
  refine (kPool _ l w HL.out HLL.out).mono ?_
  rintro e w1 ⟨u1, p, rfl, hr, op, hq⟩
  replace HB := Lib.hid (bnext HB.out hq)
  have HP := Lib.hid hr
  clear HLL
  clear hq hr
  have hp9 : p.length ≤ 1000 := by have := op.nine; omega
  go_wp2_with fail
  refine (kPart _ p x w1 HP.out hp9).mono ?_
  rintro e w2 ⟨u2, g, rfl, hr, hq⟩
  obtain ⟨fa, hfa⟩ : ∃ z, z = CM.rs p g := ⟨_, rfl⟩
  rw [← hfa] at hr
  replace HP := Lib.hid (HP.out.below hq)
  replace HB := Lib.hid (bnext HB.out hq)
  have HA := Lib.hid hr
  clear hq hr
  have ofa : CM.Ok fa := by rw [hfa]; exact op.rs g
  have fac : CM.cons p fa = true := by rw [hfa]; exact IM.cons_rs _ _
  have fa9 : fa.length ≤ 1000 := by have := ofa.nine; omega
  clear hfa
  go_wp2_with fail
  refine (kPart _ p y w2 HP.out hp9).mono ?_
  rintro e w3 ⟨u3, g, rfl, hr, hq⟩
  obtain ⟨fb, hfb⟩ : ∃ z, z = CM.rs p g := ⟨_, rfl⟩
  rw [← hfb] at hr
  replace HP := Lib.hid (HP.out.below hq)
  replace HA := Lib.hid (HA.out.below hq)
  replace HB := Lib.hid (bnext HB.out hq)
  have HF := Lib.hid hr
  clear hq hr
  have ofb : CM.Ok fb := by rw [hfb]; exact op.rs g
  have fbc : CM.cons p fb = true := by rw [hfb]; exact IM.cons_rs _ _
  have fb9 : fb.length ≤ 1000 := by have := ofb.nine; omega
  clear hfb
  have gd : IM.Gd p (IM.all fa fb) := IM.Gd.all ofa ofb fbc
  go_wp2_with fail
  refine (H.build _ _ fa fb w3 HA.out HF.out ofa ofb).mono ?_
  rintro e w4 ⟨u4, rfl, hr, hq⟩
  replace HP := Lib.hid (HP.out.below hq)
  replace HA := Lib.hid (HA.out.below hq)
  replace HF := Lib.hid (HF.out.below hq)
  replace HB := Lib.hid (bnext HB.out hq)
  have HG := Lib.hid hr
  clear hq hr
  clear HA HF
  go_wp2_with fail
  refine (kPart _ p z w4 HP.out hp9).mono ?_
  rintro e w5 ⟨u5, g, rfl, hr, hq⟩
  obtain ⟨fc, hfc⟩ : ∃ z, z = CM.rs p g := ⟨_, rfl⟩
  rw [← hfc] at hr
  replace HP := Lib.hid (HP.out.below hq)
  replace HG := Lib.hid (HG.out.below hq)
  replace HB := Lib.hid (bnext HB.out hq)
  have HC := Lib.hid hr
  clear hq hr
  have ofc : CM.Ok fc := by rw [hfc]; exact op.rs g
  have fcc : CM.cons p fc = true := by rw [hfc]; exact IM.cons_rs _ _
  have fc9 : fc.length ≤ 1000 := by have := ofc.nine; omega
  clear hfc
  go_wp2_with fail
  refine (H.prune p _ _ _ fc w5 op gd HG.out HC.out ofc fcc).mono ?_
  rintro e w6 ⟨u6, rfl, hr, hq⟩
  clear HG
  replace HP := Lib.hid (HP.out.below hq)
  replace HC := Lib.hid (HC.out.below hq)
  replace HB := Lib.hid (bnext HB.out hq)
  have HG := Lib.hid hr
  clear hq hr
  clear HC
  go_wp2_with fail
  refine (kPart _ p q w6 HP.out hp9).mono ?_
  rintro e w7 ⟨u7, g, rfl, hr, hq⟩
  obtain ⟨fd, hfd⟩ : ∃ z, z = CM.rs p g := ⟨_, rfl⟩
  rw [← hfd] at hr
  replace HP := Lib.hid (HP.out.below hq)
  replace HG := Lib.hid (HG.out.below hq)
  replace HB := Lib.hid (bnext HB.out hq)
  have HD := Lib.hid hr
  clear hq hr
  have ofd : CM.Ok fd := by rw [hfd]; exact op.rs g
  have fdc : CM.cons p fd = true := by rw [hfd]; exact IM.cons_rs _ _
  have fd9 : fd.length ≤ 1000 := by have := ofd.nine; omega
  clear hfd
  go_wp2_with fail
  refine (H.contract p _ _ _ fd w7 op (gd.filter _) HG.out HD.out ofd fdc).mono ?_
  rintro e w8 ⟨u8, rfl, hr, hq⟩
  clear HG
  replace HP := Lib.hid (HP.out.below hq)
  replace HD := Lib.hid (HD.out.below hq)
  replace HB := Lib.hid (bnext HB.out hq)
  have HG := Lib.hid hr
  clear hq hr
  clear HD HP
  replace gd := (gd.filter (fun x => CM.conk x fc || CM.conk fc x)).filter (fun x => CM.conk x fd)
  generalize ((IM.all fa fb).filter fun x => CM.conk x fc || CM.conk fc x).filter (fun x => CM.conk x fd) = L at *
  obtain ⟨mv, ev, hmv, hm1, hm2⟩ := HG.out
  subst hmv
  obtain ⟨ma, mc, hmv, _, _⟩ := hm1.shape
  obtain ⟨ea, ec, hev, _, _⟩ := hm2.shape
  obtain ⟨mn, hmn⟩ : ∃ z, z = (L : List (List Fp)).length := ⟨_, rfl⟩
  obtain ⟨en, hen⟩ : ∃ z, z = (IM.edgK (L)).length := ⟨_, rfl⟩
  rw [← hmn] at hmv
  rw [← hen] at hev
  have HMN := Lib.hid hmn
  have HEN := Lib.hid hen
  clear hmn hen
  subst hmv hev
  go_upto_region 3 with fail
  obtain ⟨w9, hw⟩ : ∃ z, z = w8.alloc (.cells #[.slice ma mn mc, .slice ea en ec] 31) := ⟨_, rfl⟩
  rw [← hw]
  have ka0 : w9.cell? ⟨w8.heap.size, 0, none⟩ = some (.slice ma mn mc) := by rw [hw]; exact World.cell?_alloc_new _ _ _ 0
  have ka1 : w9.cell? ⟨w8.heap.size, 1, none⟩ = some (.slice ea en ec) := by rw [hw]; exact World.cell?_alloc_new _ _ _ 1
  have hq : Below w8.heap.size w8 w9 := by rw [hw]; exact below_fresh w8 _
  replace HG := Lib.hid (HG.out.below hq)
  replace HB := Lib.hid (bnext HB.out hq)
  have HK := Lib.hid (fun wx (hb : Below w9.heap.size w9 wx) => (⟨below_cell hb ka0, below_cell hb ka1⟩ : wx.cell? ⟨w8.heap.size, 0, none⟩ = some (.slice ma mn mc) ∧ wx.cell? ⟨w8.heap.size, 1, none⟩ = some (.slice ea en ec)))
  have HM1 := Lib.hid (hm1.below hq (fun _ _ z => z.below hq))
  clear hq ka0 ka1 hw hm1 hm2
  generalize w8.heap.size = gb at *
  obtain ⟨n, hn⟩ : ∃ z, (IM.lvs L 10).length = z := ⟨_, rfl⟩
  have hn10 : n ≤ 10 := by rw [← hn]; exact IM.lvs_len L 10
  have HLN := Lib.hid hn
  clear hn HMN HEN
  have hL6 : L.length ≤ 1000 := by have := gd.1; omega
  have hL9 : ∀ f ∈ L, f.length ≤ 1000 := fun f hf => by have := gd.nine f hf; omega
  have HL9 := Lib.hid hL9
  clear hL9
  refine wp_region_held_drew (S := fun w' => Below w9.heap.size w9 w') (by kernel_rfl) ((Below.refl _ _).drew) (fun ha => ?_)
  replace ha : Below w9.heap.size w9 w9.drew := (Below.refl _ _).drew
  generalize w9.drew = wa at ha ⊢
  refine takeH (i := 2) (v := ?_) rfl (by kernel_rfl) (by kernel_rfl) (by kernel_rfl) (fun _ _ _ h => h) (Or.inl ⟨by rfl, ?_⟩) (by assumption) ?_
  rotate_left
  · (intro w hSw; (try dsimp only at hSw); go_simp; first | done | with_reducible rfl)
  (try simp only [Act.put, List.setIfInBounds_toArray, List.set_cons_zero, List.set_cons_succ])
  refine takeH (i := 0) (v := ?_) rfl (by kernel_rfl) (by kernel_rfl) (by kernel_rfl) (fun _ _ _ h => h) (Or.inl ⟨by rfl, ?_⟩) (by assumption) ?_
  rotate_left
  · (intro w hSw; (try dsimp only at hSw); obtain ⟨c0, c1⟩ := HK.out w hSw; go_simp; first | done | with_reducible rfl)
  (try simp only [Act.put, List.setIfInBounds_toArray, List.set_cons_zero, List.set_cons_succ])
  refine takeH (i := 3) (v := ?_) rfl (by kernel_rfl) (by kernel_rfl) (by kernel_rfl) (fun _ _ _ h => h) (Or.inl ⟨by rfl, ?_⟩) (by assumption) ?_
  rotate_left
  · (intro w hSw; (try dsimp only at hSw); obtain ⟨c0, c1⟩ := HK.out w hSw; go_simp; first | done | with_reducible rfl)
  (try simp only [Act.put, List.setIfInBounds_toArray, List.set_cons_zero, List.set_cons_succ])
  refine wpAnyH_ready (rs := [1]) (by kernel_rfl) (by simp) ?_
  refine stepH rfl (fun K hK => ?_) AllReadyH.nil
  go_simp
  refine (H.levels p _ _ wa op gd (HG.out.below ha)).mono ?_
  rintro e wb ⟨u9, rfl, hr, hq⟩
  obtain ⟨a1, c1, hv1, _, _⟩ := hr.shape
  rw [HLN.out] at hv1
  subst hv1
  have HX := Lib.hid hr
  clear hr
  have hb := bnext ha hq
  go_wp2_with fail
  refine hK.out _ _ (hb) (fun _ => ?_)
  clear hK K
  (try simp only [Act.put, List.setIfInBounds_toArray, List.set_cons_zero, List.set_cons_succ])
  refine wpAnyH_ready (rs := [4]) (by kernel_rfl) (by simp) ?_
  refine stepH rfl (fun K hK => ?_) AllReadyH.nil
  go_simp
  refine (rLevels _ _ wb (HM1.out.below hb (fun _ _ z => z.below hb)) hL6 HL9.out).mono ?_
  rintro e wc ⟨u10, rfl, hr, hq⟩
  have hr := hr.rd.imp (S := RdI) (fun u x h => OwnG.rd h)
  obtain ⟨a2, c2, hv2, _, _⟩ := hr.shape
  rw [HLN.out] at hv2
  subst hv2
  replace HX := Lib.hid (HX.out.below hq (fun _ _ z => z.below hq))
  have HY := Lib.hid hr
  clear hr
  have hc := bnext hb hq
  go_wp2_with fail
  refine hK.out _ _ (hc) (fun _ => ?_)
  clear hK K
  (try simp only [Act.put, List.setIfInBounds_toArray, List.set_cons_zero, List.set_cons_succ])
  refine takeH (i := 5) (v := ?_) rfl (by kernel_rfl) (by kernel_rfl) (by kernel_rfl) (fun _ _ _ h => h) (Or.inl ⟨by rfl, ?_⟩) (by assumption) ?_
  rotate_left
  · (intro w hSw; (try dsimp only at hSw); go_simp; first | done | with_reducible rfl)
  (try simp only [Act.put, List.setIfInBounds_toArray, List.set_cons_zero, List.set_cons_succ])
  refine takeH (i := 6) (v := ?_) rfl (by kernel_rfl) (by kernel_rfl) (by kernel_rfl) (fun _ _ _ h => h) (Or.inl ⟨by rfl, ?_⟩) (by assumption) ?_
  rotate_left
  · (intro w hSw; (try dsimp only at hSw); go_simp; first | done | with_reducible rfl)
  (try simp only [Act.put, List.setIfInBounds_toArray, List.set_cons_zero, List.set_cons_succ])
  refine wpAnyH_done (by kernel_rfl) ?_ _
  replace HB := Lib.hid (bnext HB.out hc)
  clear ha hb hc HK HG HM1 HL9
  have hne : ((n : Int) != (n : Int)) = false := by simp
  go_wp2
  clear hne
  obtain ⟨wo, hwo⟩ : ∃ z, z = wc := ⟨_, rfl⟩
  rw [← hwo] at HX HY HB ⊢
  clear hwo
  go_loopw [15] (fun ix wr => ∃ i : Nat, i ≤ n ∧ ix = .int .i64 i ∧ Hid (Below wo.heap.size wo wr)) (fun ix _ => n - (intOf ix).toNat)
  case atStart => exact ⟨0, Nat.zero_le _, rfl, Lib.hid (Below.refl _ _)⟩
  case round =>
    obtain ⟨i, hii, rfl, hbw⟩ := hrel
    by_cases hlt : i < n
    · have hq2 : (i : Int) < (n : Int) := by omega
      have hat := List.getElem?_eq_getElem (show i < (IM.lvs L 10).length by rw [HLN.out]; exact hlt)
      generalize (IM.lvs L 10)[i]'(by rw [HLN.out]; exact hlt) = r at hat
      obtain ⟨mb, mo, mad, ml, mcp, him, hmb, hmc, hmo⟩ := HX.out.at_ intsE i r hat
      obtain ⟨nb, no, nad, nl, ncp, hin, hnb, hnc, hno⟩ := HY.out.at_ intsE i r hat
      have k1 : ∀ p : Later wr, p.val.cell? ⟨mb, mo, none⟩ = some (.slice mad ml mcp) := fun p => below_cell (bnext hbw.out p.h) hmc
      have k2 : ∀ p : Later wr, p.val.cell? ⟨nb, no, none⟩ = some (.slice nad nl ncp) := fun p => below_cell (bnext hbw.out p.h) hnc
      have HQ := Lib.hid (fun p : Later wr => Calls.later (rEqInts _ _ r r p.val (hmo.below (bnext hbw.out p.h)) (hno.below (bnext hbw.out p.h))))
      rw [show decide (r = r) = true from decide_eq_true rfl] at HQ
      clear hat hmb hmc hmo hnb hnc hno
      go_wp2
      refine wp_region_later (by kernel_rfl) (by kernel_rfl) ?_
      repeat (go_big_quiet_step (first | (go_at_call 24; with_reducible exact HQ.out _)))
      refine wpQuiet_nil ?_
      rintro _ ⟨p', rfl⟩
      have hbx := Lib.hid (bnext hbw.out p'.h)
      clear HQ k1 k2
      generalize p'.val = wr2 at hbx ⊢
      clear hbw
      go_wp2
      go_roundw
      case rel => exact ⟨i + 1, by omega, by go_num, hbx⟩
      case measure => simp [intOf]; omega
    have hq2 : ¬ ((i : Int) < (n : Int)) := by omega
    replace HB := Lib.hid (bnext HB.out hbw.out)
    clear hbw HX HY
    go_wp2_with fail
    refine (cAwake10 H wr).mono ?_
    rintro e wz ⟨rfl, hq⟩
    go_wp2
    go_ret
    exact ⟨rfl, bnext HB.out hq⟩

end Go.Proofs.YtkgkhofkhjgnbaaGreat
