/-
  The call of the law GraphOrders: it returns true. Conditions: what came in reads; GCon's structure.
-/
import Derived.Deep.RegionHeld3
import Derived.Test.YtkgkhofkhjgnbaaGreatGOrd
namespace Go.Proofs.YtkgkhofkhjgnbaaGreat
open Go.RowKit Go.Joins Go.Shelf
open JM (Chg)
open CM (Fp)
open VM (Ent)

set_option maxRecDepth 100000 in
set_option maxHeartbeats 8000000 in
theorem lGraphOrders (H : GC) (v : Value) (l : List Int) (x y : Int) (w : World) (h : RdI w v l) (hl : l.length ≤ 4611686018427387904) :
    Calls Tryz.prog 8 #[v, .int .i64 x, .int .i64 y] w fun e w' => e = .returned (.bool true) ∧ Below w.heap.size w w' := by
  have HL := Lib.hid h
  have HLL := Lib.hid hl
  have HB := Lib.hid (Below.refl w.heap.size w)
  clear h hl
  go_enter Tryz.func8, Tryz.ntmps8
  go_wp2_with fail
  refine (kPool _ l w HL.out HLL.out).mono ?_
  rintro e w1 ⟨u1, p, rfl, hr, op, hq⟩
  replace HB := Lib.hid (bnext HB.out hq)
  have HP := Lib.hid hr
  clear HLL
  clear hq hr
  have hp9 : p.length ≤ 1000 := by have := op.nine; omega
  go_wp2_with fail
  refine (kPart _ p y w1 HP.out hp9).mono ?_
  rintro e w2 ⟨u2, g, rfl, hr, hq⟩
  obtain ⟨ft, hft⟩ : ∃ z, z = CM.rs p g := ⟨_, rfl⟩
  rw [← hft] at hr
  replace HP := Lib.hid (HP.out.below hq)
  replace HB := Lib.hid (bnext HB.out hq)
  have HT := Lib.hid hr
  clear hq hr
  have oft : CM.Ok ft := by rw [hft]; exact op.rs g
  have ftc : CM.cons p ft = true := by rw [hft]; exact IM.cons_rs _ _
  have ft9 : ft.length ≤ 1000 := by have := oft.nine; omega
  clear hft
  go_wp2_with fail
  refine (kPart _ ft x w2 HT.out ft9).mono ?_
  rintro e w3 ⟨u3, g, rfl, hr, hq⟩
  obtain ⟨fa, hfa⟩ : ∃ z, z = CM.rs ft g := ⟨_, rfl⟩
  rw [← hfa] at hr
  replace HP := Lib.hid (HP.out.below hq)
  replace HT := Lib.hid (HT.out.below hq)
  replace HB := Lib.hid (bnext HB.out hq)
  have HA := Lib.hid hr
  clear hq hr
  have ofa : CM.Ok fa := by rw [hfa]; exact oft.rs g
  have fac : CM.cons ft fa = true := by rw [hfa]; exact IM.cons_rs _ _
  have fa9 : fa.length ≤ 1000 := by have := ofa.nine; omega
  clear hfa
  clear HP
  have gd : IM.Gd p (IM.all fa ft) := IM.Gd.all ofa oft ftc
  go_wp2_with fail
  refine (H.build _ _ fa ft w3 HA.out HT.out ofa oft).mono ?_
  rintro e w4 ⟨u4, rfl, hr, hq⟩
  replace HT := Lib.hid (HT.out.below hq)
  replace HA := Lib.hid (HA.out.below hq)
  replace HB := Lib.hid (bnext HB.out hq)
  have HG := Lib.hid hr
  clear hq hr
  obtain ⟨ta, tc, htv, _, _⟩ := HT.out.shape
  obtain ⟨tn, htn⟩ : ∃ z, z = ft.length := ⟨_, rfl⟩
  rw [← htn] at htv
  subst htv
  obtain ⟨aa, ac, hav, _, _⟩ := HA.out.shape
  obtain ⟨an, han⟩ : ∃ z, z = fa.length := ⟨_, rfl⟩
  rw [← han] at hav
  subst hav
  obtain ⟨a, b, c, a4, b4, c4, e1, e2, e3, hlen, hpv, hpl, hpath⟩ := IM.orders ofa oft fac
  obtain ⟨N, hN⟩ : ∃ N : Nat → Nat, N = fun j : Nat => IM.newT fa ft (201 + (j : Int)) ft.length := ⟨_, rfl⟩
  have hNj : ∀ j : Nat, N j = IM.newT fa ft (201 + (j : Int)) ft.length := fun j => by rw [hN]
  have hN4 : ∀ j, N j < 4 := fun j => by
    have h1 := IM.newT_all ofa oft fac (201 + (j : Int))
    have h2 := oft.ct3 (201 + (j : Int))
    have h3 := CM.ct_pos fa (201 + (j : Int))
    rw [hNj]; omega
  have hOS : IM.os N 3 = (IM.ord3 a b c, a + b + c) := by
    have n0 : N 0 = a := by have h1 := IM.newT_all ofa oft fac (201 + ((0 : Nat) : Int)); rw [← hNj] at h1; have : (201 : Int) + ((0 : Nat) : Int) = 201 := rfl; rw [this] at h1; omega
    have n1 : N 1 = b := by have h1 := IM.newT_all ofa oft fac (201 + ((1 : Nat) : Int)); rw [← hNj] at h1; have : (201 : Int) + ((1 : Nat) : Int) = 202 := rfl; rw [this] at h1; omega
    have n2 : N 2 = c := by have h1 := IM.newT_all ofa oft fac (201 + ((2 : Nat) : Int)); rw [← hNj] at h1; have : (201 : Int) + ((2 : Nat) : Int) = 203 := rfl; rw [this] at h1; omega
    rw [IM.os_three, n0, n1, n2]
  have hoc := IM.ord_le a a4 b b4 c c4
  generalize IM.ord3 a b c = OC at *
  obtain ⟨D, hD⟩ : ∃ D, D = a + b + c := ⟨_, rfl⟩
  rw [← hD] at hlen hpl hOS
  rw [← htn, ← han] at hlen
  have htn9 : tn ≤ 9 := by rw [htn]; exact oft.nine
  have hsub : IntKind.i64.wrap ((tn : Int) - (an : Int)) = (D : Int) := by rw [IntWalk.i64_in _ (by omega)]; omega
  have HOS := Lib.hid hOS
  have HN4 := Lib.hid hN4
  have HNJ := Lib.hid hNj
  have HPV := Lib.hid hpv
  have HPL := Lib.hid hpl
  rw [← han] at hpath
  have HPA := Lib.hid hpath
  have HTN := Lib.hid htn
  have HAN := Lib.hid han
  have HLEN := Lib.hid hlen
  have hD9 : D ≤ 9 := by omega
  clear e1 e2 e3 hN hNj hN4 hOS hpv hpl hpath htn han hlen hD a4 b4 c4
  obtain ⟨mv, ev, hmv, hm1, hm2⟩ := HG.out
  subst hmv
  obtain ⟨ma, mc, hmv, _, _⟩ := hm1.shape
  obtain ⟨ea, ec, hev, _, _⟩ := hm2.shape
  obtain ⟨mn, hmn⟩ : ∃ z, z = (IM.all fa ft : List (List Fp)).length := ⟨_, rfl⟩
  obtain ⟨en, hen⟩ : ∃ z, z = (IM.edgK (IM.all fa ft)).length := ⟨_, rfl⟩
  rw [← hmn] at hmv
  rw [← hen] at hev
  have HMN := Lib.hid hmn
  have HEN := Lib.hid hen
  clear hmn hen
  subst hmv hev
  go_upto_region 5 with fail
  obtain ⟨w5, hw⟩ : ∃ z, z = w4.alloc (.cells #[.slice ma mn mc, .slice ea en ec] 31) := ⟨_, rfl⟩
  rw [← hw]
  have ka0 : w5.cell? ⟨w4.heap.size, 0, none⟩ = some (.slice ma mn mc) := by rw [hw]; exact World.cell?_alloc_new _ _ _ 0
  have ka1 : w5.cell? ⟨w4.heap.size, 1, none⟩ = some (.slice ea en ec) := by rw [hw]; exact World.cell?_alloc_new _ _ _ 1
  have hq : Below w4.heap.size w4 w5 := by rw [hw]; exact below_fresh w4 _
  replace HT := Lib.hid (HT.out.below hq)
  replace HA := Lib.hid (HA.out.below hq)
  replace HG := Lib.hid (HG.out.below hq)
  replace HB := Lib.hid (bnext HB.out hq)
  have HK := Lib.hid (fun wx (hb : Below w5.heap.size w5 wx) => (⟨below_cell hb ka0, below_cell hb ka1⟩ : wx.cell? ⟨w4.heap.size, 0, none⟩ = some (.slice ma mn mc) ∧ wx.cell? ⟨w4.heap.size, 1, none⟩ = some (.slice ea en ec)))
  have HM1 := Lib.hid (hm1.below hq (fun _ _ z => z.below hq))
  clear hq ka0 ka1 hw hm1 hm2
  generalize w4.heap.size = gb at *
  rw [← HMN.out] at HPV HPL HPA
  have hmn64 : mn ≤ 64 := by rw [HMN.out]; exact gd.1
  clear HEN
  go_wp2
  go_loopw [12, 13, 14] (fun ox sx jx wr => ∃ j : Nat, j ≤ 3 ∧ ox = .int .i64 (((IM.os N j).1 : Nat) : Int) ∧ sx = .int .i64 (((IM.os N j).2 : Nat) : Int) ∧ jx = .int .i64 j ∧ Hid (Below w5.heap.size w5 wr)) (fun _ _ jx _ => 3 - (intOf jx).toNat)
  case atStart => exact ⟨0, by omega, rfl, rfl, rfl, Lib.hid (Below.refl _ _)⟩
  case round =>
    obtain ⟨j, hj3, rfl, rfl, rfl, hbw⟩ := hrel
    by_cases hlt : j < 3
    case neg =>
      have hq2 : ¬ ((j : Int) < 3) := by omega
      obtain rfl : j = 3 := by omega
      have ho1 := congrArg Prod.fst HOS.out
      have ho2 := congrArg Prod.snd HOS.out
      generalize IM.os N 3 = OS at *
      obtain ⟨OS1, OS2⟩ := OS
      have ho1 : OS1 = OC := ho1
      have ho2 : OS2 = D := ho2
      subst ho1 ho2
      clear HOS HN4 HNJ hlt hj3
      have HB5 := hbw
      obtain ⟨c0, c1⟩ := HK.out wr hbw.out
      have hm1w : IntKind.i64.wrap ((mn : Int) - 1) = (mn : Int) - 1 := IntWalk.i64_in _ (by omega)
      have HPQ := Lib.hid (H.path p _ _ 0 ((mn : Int) - 1) wr op gd (HG.out.below hbw.out))
      have HPS := Lib.hid (fun wx (hb : Below w5.heap.size w5 wx) => by
        have h1 := H.paths p _ _ 0 ((mn : Int) - 1) wx op gd (HG.out.below hb)
        rw [HPV.out] at h1
        exact h1)
      clear hbw HG HPV
      go_wp2_with fail
      refine HPQ.out.mono ?_
      rintro e w6 ⟨v6, rfl, hr6, hq⟩
      have HB6 := Lib.hid (bnext HB5.out hq)
      obtain ⟨pa, pc, hv6, _, _⟩ := hr6.shape
      rw [HPL.out] at hv6
      obtain ⟨PL, hPLe⟩ : ∃ z : Nat, z = OS2 + 1 := ⟨_, rfl⟩
      rw [← hPLe] at hv6
      subst hv6
      have hne1 : ((OS2 : Int) != (OS2 : Int)) = false := by simp
      have hne2 : ((OS1 : Int) != (OS1 : Int)) = false := by simp
      have hne3 : ((PL : Int) != (OS2 : Int) + 1) = false := by simp [hPLe]
      have HPLE := Lib.hid hPLe
      have HR6 := Lib.hid hr6
      clear hPLe hq hr6 HPQ HB5 c0 c1
      obtain ⟨c0, c1⟩ := HK.out w6 HB6.out
      go_wp2_with fail
      refine (HPS.out w6 HB6.out).mono ?_
      rintro e w7 ⟨rfl, hq⟩
      have HB7 := Lib.hid (bnext HB6.out hq)
      replace HR6 := Lib.hid (HR6.out.below hq)
      clear hq HPS HB6 c0 c1
      go_wp2
      clear hne1 hne2 hne3
      go_loopw [18] (fun ix wr => ∃ i : Nat, i ≤ PL ∧ ix = .int .i64 i ∧ Hid (Below w7.heap.size w7 wr)) (fun ix _ => PL - (intOf ix).toNat)
      case atStart => exact ⟨0, Nat.zero_le _, rfl, Lib.hid (Below.refl _ _)⟩
      case round =>
        obtain ⟨i, hii, rfl, hbi⟩ := hrel
        by_cases hip : i < PL
        case neg =>
          have hq3 : ¬ ((i : Int) < (PL : Int)) := by omega
          replace HB := Lib.hid (bnext HB.out (bnext HB7.out hbi.out))
          clear hbi HB7 HPA HR6 HPL HM1 HK HMN
          go_wp2_with fail
          refine (cAwake10 H wr).mono ?_
          rintro e wz ⟨rfl, hq⟩
          go_wp2
          go_ret
          exact ⟨rfl, bnext HB.out hq⟩
        have hq3 : (i : Int) < (PL : Int) := by omega
        have hat := List.getElem?_eq_getElem (show i < (IM.pathV (IM.all fa ft) (IM.edgK (IM.all fa ft)) 0 ((mn : Int) - 1)).length by rw [HPL.out, ← HPLE.out]; exact hip)
        generalize (IM.pathV (IM.all fa ft) (IM.edgK (IM.all fa ft)) 0 ((mn : Int) - 1))[i]'(by rw [HPL.out, ← HPLE.out]; exact hip) = yy at hat
        obtain ⟨m, rfl, hm, hlm⟩ := HPA.out i yy hat
        obtain ⟨b, o, hi, hb, k0⟩ := atI HR6.out i _ hat
        have hx := List.getElem?_eq_getElem (show m < (IM.all fa ft).length by rw [← HMN.out]; exact hm)
        rw [IM.lnL_of hx] at hlm
        generalize (IM.all fa ft)[m]'(by rw [← HMN.out]; exact hm) = xx at hx hlm
        obtain ⟨xb, xo, xad, xl, xcp, hix, hxb, hxc, hxo⟩ := HM1.out.at_ cfgE m xx hx
        obtain ⟨_, _, hxs, _, _⟩ := hxo.shape
        obtain rfl : xl = xx.length := by cases hxs; rfl
        have HBI := Lib.hid (bnext HB7.out hbi.out)
        have z0 : ∀ p : Later wr, p.val.cell? ⟨gb, 0, none⟩ = some (.slice ma mn mc) := fun p => (HK.out _ (bnext HBI.out p.h)).1
        have z1 : ∀ p : Later wr, p.val.cell? ⟨b, o, none⟩ = some (.int .i64 (m : Int)) := fun p => below_cell (bnext hbi.out p.h) k0
        have z2 : ∀ p : Later wr, p.val.cell? ⟨xb, xo, none⟩ = some (.slice xad xx.length xcp) := fun p => below_cell (bnext HBI.out p.h) hxc
        have h0 : ¬ ((m : Int) < 0) := by omega
        have h1 : ¬ ((mn : Int) ≤ (m : Int)) := by omega
        have d0 : decide ((m : Int) < 0) = false := decide_eq_false h0
        have d2 : decide (mn ≤ m) = false := decide_eq_false (by omega)
        have d1 : decide ((mn : Int) ≤ (m : Int)) = false := decide_eq_false h1
        have hPL9 : PL ≤ 10 := by have := HPLE.out; omega
        have hw : IntKind.i64.wrap ((an : Int) + (i : Int)) = (an : Int) + (i : Int) := IntWalk.i64_in _ (by omega)
        have h2 : ((xx.length : Int) != (an : Int) + (i : Int)) = false := by rw [hlm]; simp
        generalize xx.length = xl at *
        clear hat hx hlm hxc hxo hxs hxb hb k0
        go_wp2
        refine wp_region_later (by kernel_rfl) (by kernel_rfl) ?_
        clear h0 h1
        repeat (go_big_quiet_step (fail))
        refine wpQuiet_nil ?_
        rintro _ ⟨p', rfl⟩
        have hbx := Lib.hid (bnext hbi.out p'.h)
        clear z0 z1 z2 HBI
        generalize p'.val = wr2 at hbx ⊢
        clear hbi
        go_wp2
        go_roundw
        case rel => exact ⟨i + 1, by omega, by go_num, hbx⟩
        case measure => simp [intOf]; omega
    have hq2 : (j : Int) < 3 := by omega
    obtain ⟨wo, hwo⟩ : ∃ z, z = wr := ⟨_, rfl⟩
    rw [← hwo] at hbw ⊢
    clear hwo
    have HBD := Lib.hid (fun m (hm : m < 4) => IM.os_bd HN4.out hlt hm)
    have HNX := Lib.hid (show IM.os N (j + 1) = (IM.ordS (IM.os N j).1 (IM.os N j).2 (N j), (IM.os N j).2 + N j) from rfl)
    generalize (IM.os N j).1 = o at *
    generalize (IM.os N j).2 = sj at *
    have hs6 : sj ≤ 6 := (HBD.out 0 (by omega)).2
    go_wp2
    go_loopw [12, 13, 15, 16] (fun ox sx kx ix wr => ∃ (i m : Nat), i ≤ tn ∧ m < 4 ∧ Hid (m = IM.newT fa ft (201 + (j : Int)) i) ∧ ox = .int .i64 ((IM.ordS o sj m : Nat) : Int) ∧ sx = .int .i64 ((sj : Int) + (m : Int)) ∧ kx = .int .i64 (m : Int) ∧ ix = .int .i64 i ∧ Hid (Below wo.heap.size wo wr)) (fun _ _ _ ix _ => tn - (intOf ix).toNat)
    case atStart => exact ⟨0, 0, Nat.zero_le _, by omega, Lib.hid rfl, rfl, by simp, rfl, rfl, Lib.hid (Below.refl _ _)⟩
    case round =>
      obtain ⟨i, m, hii, hm4, hmm, rfl, rfl, rfl, rfl, hbi⟩ := hrel
      by_cases hit : i < tn
      case neg =>
        have hq3 : ¬ ((i : Int) < (tn : Int)) := by omega
        obtain rfl : i = tn := by omega
        have hmN : m = N j := by rw [HNJ.out, ← HTN.out]; exact hmm.out
        rw [← hmN] at HNX
        have hx1 := congrArg Prod.fst HNX.out
        have hx2 := congrArg Prod.snd HNX.out
        have HX1 := Lib.hid hx1
        have HX2 := Lib.hid hx2
        have HB4 := Lib.hid (bnext hbw.out hbi.out)
        clear hx1 hx2 hmN hmm hbi hbw HBD HNX
        go_wp2
        go_roundw
        case rel => exact ⟨j + 1, by omega, by rw [HX1.out], by rw [HX2.out]; simp, by go_num, HB4⟩
        case measure => simp [intOf]; omega
      have hq3 : (i : Int) < (tn : Int) := by omega
      have hat := List.getElem?_eq_getElem (show i < ft.length by rw [← HTN.out]; exact hit)
      generalize ft[i]'(by rw [← HTN.out]; exact hit) = f at hat
      obtain ⟨x1, n1, cs⟩ := f
      obtain ⟨fb, fo, fad, fl, fcp, hif, hfb, k0, k1, k2, k3⟩ := HT.out.at_ i x1 n1 cs hat
      have HBW := Lib.hid (bnext hbw.out hbi.out)
      have c0 := below_cell HBW.out k0
      have c1 := below_cell HBW.out k1
      have c2 := below_cell HBW.out k2
      have HK3 := Lib.hid (k3.below HBW.out)
      have h201 : IntKind.i64.wrap (201 + (j : Int)) = 201 + (j : Int) := IntWalk.i64_in _ (by omega)
      clear k0 k1 k2 k3 hfb
      by_cases hx : x1 = 201 + (j : Int)
      case neg =>
        have hq5 : (x1 == 201 + (j : Int)) = false := beq_eq_false_iff_ne.2 hx
        have HMM := Lib.hid (show m = IM.newT fa ft (201 + (j : Int)) (i + 1) by rw [IM.newT_miss hat (.inl hx)]; exact hmm.out)
        clear hat hx hmm
        go_wp2
        go_roundw
        case rel => exact ⟨i + 1, m, by omega, hm4, HMM, rfl, rfl, rfl, by go_num, hbi⟩
        case measure => simp [intOf]; omega
      have hq5 : (x1 == 201 + (j : Int)) = true := by rw [hx]; exact beq_self_eq_true _
      obtain ⟨B, hB⟩ : ∃ B, B = CM.conk fa [(x1, n1, cs)] := ⟨_, rfl⟩
      have hbf := below_fresh wr (.cells #[.int .i64 x1, .int .i64 n1, .slice fad fl fcp] 55)
      have hone : RdF (wr.alloc (.cells #[.int .i64 x1, .int .i64 n1, .slice fad fl fcp] 55)) (.slice (some ⟨wr.heap.size, 0, none⟩) 1 1) [(x1, n1, cs)] :=
        ⟨_, (ownG_fresh hlQ 55 wr [(x1, n1, fad, fl, fcp)] (by simp [maxLen])).rd, ⟨rfl, rfl, HK3.out.below hbf⟩, trivial⟩
      have hcn := rContains _ _ fa [(x1, n1, cs)] _ ((HA.out.below HBW.out).below hbf) hone
      rw [← hB] at hcn
      have HCN := Lib.hid hcn
      have HBF := Lib.hid (bnext hbi.out hbf)
      clear hbf hone hcn HK3
      cases B
      case true =>
        have HMM := Lib.hid (show m = IM.newT fa ft (201 + (j : Int)) (i + 1) by rw [IM.newT_miss hat (.inr hB.symm)]; exact hmm.out)
        clear hat hx hmm hB
        go_wp2_with fail
        refine HCN.out.mono ?_
        rintro e w7 ⟨rfl, hq⟩
        have HB7 := Lib.hid (bnext HBF.out hq)
        clear hq HCN HBF hbi
        go_wp2
        go_roundw
        case rel => exact ⟨i + 1, m, by omega, hm4, HMM, rfl, rfl, rfl, by go_num, HB7⟩
        case measure => simp [intOf]; omega
      have hmN : m + 1 = IM.newT fa ft (201 + (j : Int)) (i + 1) := by rw [IM.newT_hit hat hx hB.symm, ← hmm.out]
      have hm5 : m + 1 < 4 := by
        have h1 := IM.newT_le fa ft (201 + (j : Int)) (i + 1)
        have h2 := HN4.out j
        rw [HNJ.out] at h2
        omega
      have HMM := Lib.hid hmN
      have hod := (HBD.out m hm4).1
      have hod2 := (HBD.out (m + 1) hm5).1
      have hos : IM.ordS o sj (m + 1) = IM.ordS o sj m * (sj + (m + 1)) / (m + 1) := rfl
      obtain ⟨o2, ho2⟩ : ∃ z, z = IM.ordS o sj (m + 1) := ⟨_, rfl⟩
      rw [← ho2] at hos hod2
      have HO2 := Lib.hid ho2
      clear ho2
      generalize IM.ordS o sj m = o1 at *
      clear hat hx hmm hB hmN
      go_wp2_with fail
      refine HCN.out.mono ?_
      rintro e w7 ⟨rfl, hq⟩
      have HB7 := Lib.hid (bnext HBF.out hq)
      clear hq HCN HBF hbi
      obtain ⟨P, hP⟩ : ∃ P : Nat, P = o1 * (sj + (m + 1)) := ⟨_, rfl⟩
      have hPb : P ≤ 1680 * 10 := by rw [hP]; exact Nat.mul_le_mul hod (by omega)
      have hPI : (o1 : Int) * ((sj : Int) + (m : Int) + 1) = (P : Int) := by rw [hP]; push_cast; rw [Int.add_assoc]
      rw [← hP] at hos
      have hw3 : IntKind.i64.wrap ((o1 : Int) * ((sj : Int) + (m : Int) + 1)) = (P : Int) := by rw [hPI]; exact IntWalk.i64_in _ (by omega)
      have hw4 : ((P : Int)).tdiv ((m : Int) + 1) = (o2 : Int) := by rw [hos]; rfl
      have hw5 : IntKind.i64.wrap (o2 : Int) = (o2 : Int) := IntWalk.i64_in _ (by omega)
      have HPI := Lib.hid hPI
      clear hP hPI hos hod hPb
      go_wp2
      refine ⟨⟨i + 1, m + 1, by omega, hm5, HMM, by rw [HO2.out], by rw [Int.add_assoc]; rfl, rfl, by go_num, HB7⟩, ?_⟩
      simp [intOf]; omega

end Go.Proofs.YtkgkhofkhjgnbaaGreat
