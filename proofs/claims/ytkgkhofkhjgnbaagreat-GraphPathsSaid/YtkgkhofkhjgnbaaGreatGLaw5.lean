/-
  The call of the law GraphPaths: it returns true. Conditions: what came in reads; GCon's structure.
-/
import Derived.Deep.RegionHeld3
import Derived.Test.YtkgkhofkhjgnbaaGreatGOrd
namespace Go.Proofs.YtkgkhofkhjgnbaaGreat
open Go.RowKit Go.Joins Go.Shelf
open JM (Chg)
open CM (Fp)
open VM (Ent)

theorem kIndexA (n : Int) (k : Nat) (w : World) (hk : (k : Int) ≤ 4611686018427387904) : Calls Tryz.prog 30 #[.int .i64 n, .int .i64 (k : Int)] w fun e w' => ∃ r : Int, e = .returned (.int .i64 r) ∧ w = w' := by
  by_cases h : 1 ≤ (k : Int)
  · exact (kIndex n k w h hk).mono fun e w' ⟨h1, h2⟩ => ⟨_, h1, h2⟩
  · have h0 : (k : Int) < 1 := by omega
    clear h hk
    go_enter Tryz.func30, Tryz.ntmps30
    go_wp2
    go_ret
    exact ⟨_, rfl, rfl⟩

set_option maxRecDepth 100000 in
set_option maxHeartbeats 8000000 in
theorem lGraphPaths (H : GC) (v : Value) (l : List Int) (x y z f t : Int) (w : World) (h : RdI w v l) (hl : l.length ≤ 4611686018427387904) :
    Calls Tryz.prog 7 #[v, .int .i64 x, .int .i64 y, .int .i64 z, .int .i64 f, .int .i64 t] w fun e w' => e = .returned (.bool true) ∧ Below w.heap.size w w' := by
  have HL := Lib.hid h
  have HLL := Lib.hid hl
  have HB := Lib.hid (Below.refl w.heap.size w)
  clear h hl
  go_enter Tryz.func7, Tryz.ntmps7
  go_wp2_with fail
  refine (kPool _ l w HL.out HLL.out).mono ?_
  rintro e w1 ⟨u1, p, rfl, hr, op, hq⟩
  replace HB := Lib.hid (bnext HB.out hq)
  have HP := Lib.hid hr
  clear HLL
  clear hq hr
  have hp9 : p.length ≤ 1000 := by have := op.nine; omega
  have ofa := IM.prt_ok op x
  have ofb := IM.prt_ok op y
  have ofc := IM.prt_ok op z
  have fac := IM.prt_cons p x
  have fbc := IM.prt_cons p y
  have fcc := IM.prt_cons p z
  have gd : IM.Gd p (IM.all (IM.prt x p) (IM.prt y p)) := IM.Gd.all ofa ofb fbc
  have hag : CM.Agr (IM.prt y p) (IM.prt x p) := IM.agr_part op fbc fac
  go_wp2_with fail
  refine (kPartD _ p x w1 HP.out hp9).mono ?_
  rintro e w2 ⟨u2, rfl, hr, hq⟩
  replace HP := Lib.hid (HP.out.below hq)
  replace HB := Lib.hid (bnext HB.out hq)
  have HA := Lib.hid hr
  clear hq hr
  go_wp2_with fail
  refine (kPartD _ p y w2 HP.out hp9).mono ?_
  rintro e w3 ⟨u3, rfl, hr, hq⟩
  replace HP := Lib.hid (HP.out.below hq)
  replace HA := Lib.hid (HA.out.below hq)
  replace HB := Lib.hid (bnext HB.out hq)
  have HF := Lib.hid hr
  clear hq hr
  go_wp2_with fail
  refine (rAll _ _ _ _ w3 HA.out HF.out ofa ofb hag).mono ?_
  rintro e w4 ⟨u4, rfl, hr, hq⟩
  have hr : RdLs RdF w4 u4 _ := hr.rd.imp (fun u x h => h.rd hq)
  replace HP := Lib.hid (HP.out.below hq)
  replace HA := Lib.hid (HA.out.below hq)
  replace HF := Lib.hid (HF.out.below hq)
  replace HB := Lib.hid (bnext HB.out hq)
  have HN := Lib.hid hr
  clear hq hr
  clear HA HF
  go_wp2_with fail
  refine (kPartD _ p z w4 HP.out hp9).mono ?_
  rintro e w5 ⟨u5, rfl, hr, hq⟩
  replace HP := Lib.hid (HP.out.below hq)
  replace HN := Lib.hid (HN.out.below hq (fun _ _ z => z.below hq))
  replace HB := Lib.hid (bnext HB.out hq)
  have HC := Lib.hid hr
  clear hq hr
  go_wp2_with fail
  refine (rPruneN _ _ _ _ w5 HN.out HC.out (by have := gd.1; omega)).mono ?_
  rintro e w6 ⟨u6, rfl, hr, hq⟩
  have hr : RdLs RdF w6 u6 _ := RdLs.imp (R := fun _ u x => RdF w5 u x) (OwnLs.rd hr) (fun u x h => RdF.below h hq)
  clear HN
  replace HP := Lib.hid (HP.out.below hq)
  replace HC := Lib.hid (HC.out.below hq)
  replace HB := Lib.hid (bnext HB.out hq)
  have HM := Lib.hid hr
  clear hq hr
  clear HC
  go_wp2_with fail
  refine (kPartD _ p x w6 HP.out hp9).mono ?_
  rintro e w7 ⟨u7, rfl, hr, hq⟩
  replace HP := Lib.hid (HP.out.below hq)
  replace HM := Lib.hid (HM.out.below hq (fun _ _ z => z.below hq))
  replace HB := Lib.hid (bnext HB.out hq)
  have HA := Lib.hid hr
  clear hq hr
  go_wp2_with fail
  refine (kPartD _ p y w7 HP.out hp9).mono ?_
  rintro e w8 ⟨u8, rfl, hr, hq⟩
  replace HP := Lib.hid (HP.out.below hq)
  replace HM := Lib.hid (HM.out.below hq (fun _ _ z => z.below hq))
  replace HA := Lib.hid (HA.out.below hq)
  replace HB := Lib.hid (bnext HB.out hq)
  have HF := Lib.hid hr
  clear hq hr
  go_wp2_with fail
  refine (H.build _ _ _ _ w8 HA.out HF.out ofa ofb).mono ?_
  rintro e w9 ⟨u9, rfl, hr, hq⟩
  replace HP := Lib.hid (HP.out.below hq)
  replace HM := Lib.hid (HM.out.below hq (fun _ _ z => z.below hq))
  replace HA := Lib.hid (HA.out.below hq)
  replace HF := Lib.hid (HF.out.below hq)
  replace HB := Lib.hid (bnext HB.out hq)
  have HG := Lib.hid hr
  clear hq hr
  clear HA HF
  go_wp2_with fail
  refine (kPartD _ p z w9 HP.out hp9).mono ?_
  rintro e w10 ⟨u10, rfl, hr, hq⟩
  replace HP := Lib.hid (HP.out.below hq)
  replace HM := Lib.hid (HM.out.below hq (fun _ _ z => z.below hq))
  replace HG := Lib.hid (HG.out.below hq)
  replace HB := Lib.hid (bnext HB.out hq)
  have HC := Lib.hid hr
  clear hq hr
  go_wp2_with fail
  refine (H.prune p _ _ _ _ w10 op gd HG.out HC.out ofc fcc).mono ?_
  rintro e w11 ⟨u11, rfl, hr, hq⟩
  clear HG
  replace HP := Lib.hid (HP.out.below hq)
  replace HM := Lib.hid (HM.out.below hq (fun _ _ z => z.below hq))
  replace HC := Lib.hid (HC.out.below hq)
  replace HB := Lib.hid (bnext HB.out hq)
  have HG := Lib.hid hr
  clear hq hr
  clear HC HP
  replace gd := gd.filter (fun x => CM.conk x (IM.prt z p) || CM.conk (IM.prt z p) x)
  generalize (IM.all (IM.prt x p) (IM.prt y p)).filter (fun x => CM.conk x (IM.prt z p) || CM.conk (IM.prt z p) x) = L at *
  clear hag
  obtain ⟨mv, ev, hmv, hm1, hm2⟩ := HG.out
  subst hmv
  obtain ⟨ma, mc, hmv, _, _⟩ := hm1.shape
  obtain ⟨ea, ec, hev, _, _⟩ := hm2.shape
  obtain ⟨mn, hmn⟩ : ∃ z, z = (L : List (List Fp)).length := ⟨_, rfl⟩
  obtain ⟨en, hen⟩ : ∃ z, z = (IM.edgK (L)).length := ⟨_, rfl⟩
  rw [← hmn] at hmv
  rw [← hen] at hev
  have HMN := Lib.hid hmn
  have HEN := Lib.hid hen
  clear hmn hen
  subst hmv hev
  go_upto_region 4 with fail
  obtain ⟨w12, hw⟩ : ∃ z, z = w11.alloc (.cells #[.slice ma mn mc, .slice ea en ec] 31) := ⟨_, rfl⟩
  rw [← hw]
  have ka0 : w12.cell? ⟨w11.heap.size, 0, none⟩ = some (.slice ma mn mc) := by rw [hw]; exact World.cell?_alloc_new _ _ _ 0
  have ka1 : w12.cell? ⟨w11.heap.size, 1, none⟩ = some (.slice ea en ec) := by rw [hw]; exact World.cell?_alloc_new _ _ _ 1
  have hq : Below w11.heap.size w11 w12 := by rw [hw]; exact below_fresh w11 _
  replace HM := Lib.hid (HM.out.below hq (fun _ _ z => z.below hq))
  replace HG := Lib.hid (HG.out.below hq)
  replace HB := Lib.hid (bnext HB.out hq)
  have HK := Lib.hid (fun wx (hb : Below w12.heap.size w12 wx) => (⟨below_cell hb ka0, below_cell hb ka1⟩ : wx.cell? ⟨w11.heap.size, 0, none⟩ = some (.slice ma mn mc) ∧ wx.cell? ⟨w11.heap.size, 1, none⟩ = some (.slice ea en ec)))
  have HM1 := Lib.hid (hm1.below hq (fun _ _ z => z.below hq))
  clear hq ka0 ka1 hw hm1 hm2
  generalize w11.heap.size = gb at *
  obtain ⟨c0, c1⟩ := HK.out w12 (Below.refl _ _)
  obtain ⟨na, nc, hnv, _, _⟩ := HM.out.shape
  rw [← HMN.out] at hnv
  subst hnv
  go_wp2_with fail
  refine (IM.isG gd HG.out HM.out).mono ?_
  rintro e w13 ⟨rfl, hq⟩
  replace HM := Lib.hid (HM.out.below hq (fun _ _ z => z.below hq))
  replace HG := Lib.hid (HG.out.below hq)
  replace HB := Lib.hid (bnext HB.out hq)
  have HKB := Lib.hid hq
  clear hq 
  clear c0 c1 HM1 HEN
  have HRE := Lib.hid (fun wx (hb : Below w13.heap.size w13 wx) => rEdges _ L wx (HM.out.below hb (fun _ _ z => z.below hb)) (by have := gd.1; omega) (fun f hf => by have := gd.nine f hf; omega))
  have hel : (IM.edgK L).length ≤ 1000000 := by
    have h1 := IM.edgT_len L L.length
    have h2 : L.length * L.length ≤ 64 * 64 := Nat.mul_le_mul gd.1 gd.1
    exact Nat.le_trans h1 (by omega)
  have HRP := Lib.hid (fun F T ev wx (hb : Below w13.heap.size w13 wx) (he : RdE2 wx ev (IM.edgK L)) => rPaths _ ev L (IM.edgK L) F T wx (HM.out.below hb (fun _ _ z => z.below hb)) he (by have := gd.1; omega) (fun f hf => by have := gd.nine f hf; omega) hel (fun e he => ⟨(IM.edg_ok L e he).1, (IM.edg_ok L e he).2.1⟩) (IM.edg_bd gd.1 gd.nine))
  have HRQ := Lib.hid (fun F T ev wx (hb : Below w13.heap.size w13 wx) (he : RdE2 wx ev (IM.edgK L)) => rPath _ ev L (IM.edgK L) F T wx (HM.out.below hb (fun _ _ z => z.below hb)) he (by have := gd.1; omega) (fun f hf => by have := gd.nine f hf; omega) hel (fun e he => ⟨(IM.edg_ok L e he).1, (IM.edg_ok L e he).2.1⟩) (IM.edg_bd gd.1 gd.nine))
  have HGP := Lib.hid (fun F T wx (hb : Below w13.heap.size w13 wx) => H.paths p _ L F T wx op gd (HG.out.below hb))
  have HGQ := Lib.hid (fun F T wx (hb : Below w13.heap.size w13 wx) => H.path p _ L F T wx op gd (HG.out.below hb))
  have HKK := Lib.hid (fun wx (hb : Below w13.heap.size w13 wx) => HK.out wx (bnext HKB.out hb))
  have hmn64 : mn ≤ 64 := by rw [HMN.out]; exact gd.1
  clear HK HKB HG HM hel HMN
  go_wp2
  go_loopw [4, 5, 16] (fun fx tx ix wr => ∃ (i : Nat) (F T : Int), i ≤ 2 ∧ fx = .int .i64 F ∧ tx = .int .i64 T ∧ ix = .int .i64 i ∧ Hid (Below w13.heap.size w13 wr)) (fun _ _ ix _ => 2 - (intOf ix).toNat)
  case atStart => exact ⟨0, f, t, by omega, rfl, rfl, rfl, Lib.hid (Below.refl _ _)⟩
  case round =>
    obtain ⟨i, F, T, hii, rfl, rfl, rfl, hbw⟩ := hrel
    by_cases hlt : i < 2
    case neg =>
      have hq2 : ¬ ((i : Int) < 2) := by omega
      replace HB := Lib.hid (bnext HB.out hbw.out)
      clear hbw HRE HRP HRQ HGP HGQ HKK
      go_wp2_with fail
      refine (cAwake10 H wr).mono ?_
      rintro e wz ⟨rfl, hq⟩
      go_wp2
      go_ret
      exact ⟨rfl, bnext HB.out hq⟩
    have hq2 : (i : Int) < 2 := by omega
    obtain ⟨c0, c1⟩ := HKK.out wr hbw.out
    obtain ⟨pv, hpv⟩ : ∃ z, z = IM.pv L (IM.edgK L) F T := ⟨_, rfl⟩
    have h1 := HGP.out F T wr hbw.out
    rw [← hpv] at h1
    have H1 := Lib.hid h1
    have h2 := HRP.out F T
    rw [← hpv] at h2
    have H2 := Lib.hid h2
    have hne : (pv != pv) = false := by simp
    clear h1 h2 hpv
    go_wp2_with fail
    refine H1.out.mono ?_
    rintro e wa ⟨rfl, hq⟩
    have HBA := Lib.hid (bnext hbw.out hq)
    clear hq H1 hbw c0 c1
    go_wp2_with fail
    refine (HRE.out wa HBA.out).mono ?_
    rintro e wb ⟨v1, rfl, hr, hq⟩
    have HBB := Lib.hid (bnext HBA.out hq)
    have H2 := Lib.hid (H2.out v1 wb HBB.out hr.rd)
    obtain ⟨c0, c1⟩ := HKK.out wb HBB.out
    clear hq hr HBA
    go_wp2_with fail
    refine H2.out.mono ?_
    rintro e wc ⟨rfl, hq⟩
    have HBC := Lib.hid (bnext HBB.out hq)
    clear hq H2 HBB c0 c1
    obtain ⟨c0, c1⟩ := HKK.out wc HBC.out
    go_wp2_with fail
    refine (HGQ.out F T wc HBC.out).mono ?_
    rintro e wd ⟨v2, rfl, hr, hq⟩
    have HBD := Lib.hid (bnext HBC.out hq)
    have HP1 := Lib.hid hr
    clear hq hr HBC c0 c1
    go_wp2_with fail
    refine (HRE.out wd HBD.out).mono ?_
    rintro e we ⟨v3, rfl, hr, hq⟩
    have HBE := Lib.hid (bnext HBD.out hq)
    have H3 := Lib.hid (HRQ.out F T v3 we HBE.out hr.rd)
    replace HP1 := Lib.hid (HP1.out.below hq)
    clear hq hr HBD
    go_wp2_with fail
    refine H3.out.mono ?_
    rintro e wf ⟨v4, rfl, hr, hq⟩
    have HBF := Lib.hid (bnext HBE.out hq)
    have h4 := rEqInts _ _ _ _ wf (HP1.out.below hq) hr.rd
    rw [decide_eq_true rfl] at h4
    have H4 := Lib.hid h4
    clear hq hr h4 HP1 H3 HBE
    go_wp2_with fail
    refine H4.out.mono ?_
    rintro e wg ⟨rfl, hq⟩
    have HBG := Lib.hid (bnext HBF.out hq)
    clear hq H4 HBF hne
    go_wp2_with fail
    refine (kIndexA F mn wg (by omega)).mono ?_
    rintro e wh ⟨r1, rfl, rfl⟩
    go_wp2_with fail
    refine (kIndexA T mn wg (by omega)).mono ?_
    rintro e wh ⟨r2, rfl, rfl⟩
    go_wp2
    go_roundw
    case rel => exact ⟨i + 1, r1, r2, by omega, rfl, rfl, by go_num, HBG⟩
    case measure => simp [intOf]; omega

end Go.Proofs.YtkgkhofkhjgnbaaGreat
