/-
  The call of sets.Validate: the error that the plain mathematics says. Conditions: the set reads. (Written by mk_sets.py.)
-/
import Derived.Test.YteeegpojfbgkfaaTFol
namespace Go.Proofs.Yteeegpojfbgkfaa
open Go.RowKit
open JM (Chg)
open CM (Fp)

set_option maxRecDepth 100000 in
set_option maxHeartbeats 8000000 in
theorem sValidate (v : Value) (fs : List Fp) (w : World) (h : RdF w v fs) :
    Calls Try.prog 44 #[(.agg #[.func (.func 70) #[] #[], .func (.func 71) #[] #[], .func (.func 72) #[] #[], .func (.func 73) #[] #[], .func (.func 55) #[] #[], .func (.func 74) #[] #[], .func (.func 75) #[] #[], .func (.func 76) #[] #[], .int .i64 9]), v] w fun e w' => e = .returned (.int .i64 (CM.errL (0, 0) fs)) ∧ Below w.heap.size w w' := by
  obtain ⟨ad, c, rfl, hc, hl⟩ := h.shape
  obtain ⟨R, hR⟩ : ∃ R, R = CM.errL (0, 0) fs := ⟨_, rfl⟩
  rw [← hR]
  have H := Lib.hid h
  have HR := Lib.hid hR
  obtain ⟨w0, HX⟩ := kone w
  have HW := Lib.hid HX.eq
  have HB0 := Lib.hid HX.below
  have HK0 := Lib.hid HX.k
  obtain ⟨K, hK⟩ : ∃ K, w.heap.size = K := ⟨_, rfl⟩
  rw [hK] at HK0
  have HKE := Lib.hid hK
  clear h hR HX hK
  go_enter Try.func44, Try.ntmps44
  go_upto_region 1 with fail
  rw [HW.out, HKE.out]
  clear HW
  go_wp2
  go_loopw [10] (fun i wr => ∃ (k : Nat), k ≤ fs.length ∧ i = .int .i64 k ∧ Hid (Below w.heap.size w wr) ∧ Hid (KB wr K) ∧ Hid (R = CM.errL (pre fs k) (fs.drop k))) (fun i _ => fs.length - (intOf i).toNat)
  case atStart => exact ⟨0, Nat.zero_le _, rfl, HB0.out, HK0.out, HR.out⟩
  case round =>
    obtain ⟨k, hk, rfl, hbl, hkb, he⟩ := hrel
    clear HR HB0 HK0
    by_cases hlt : k < fs.length
    · have hq : (k : Int) < (fs.length : Int) := by omega
      have hd := Lib.hid (drop_get hlt)
      have hk2 := List.getElem?_eq_getElem hlt
      have hp := Lib.hid (pre_succ hk2)
      generalize fs[k] = f at hd hk2 hp
      obtain ⟨x, m, cs⟩ := f
      obtain ⟨b, o, da, dl, dc, hi, hb, c0, c1, c2, hrd⟩ := (H.out.below hbl.out).atS k x m cs hk2
      have e1 := Lib.hid (he.out.trans ((congrArg (CM.errL (pre fs k)) hd.out).trans (errL_step _ _ _)))
      have e2 : Hid (R = if JM.errP x m cs ≠ 0 then JM.errP x m cs else if JM.cmpP x m (pre fs k).1 (pre fs k).2 ≤ 0 then 7 else if 1 < m ∧ ¬ ((pre fs k).1 = x ∧ (pre fs k).2 = m - 1) then 8 else CM.errL (x, m) (fs.drop (k + 1))) := e1.out
      have hp' : Hid (pre fs (k + 1) = (x, m)) := hp.out
      have HN := Lib.hid (fun h => CM.errF_num (f := (x, m, cs)) h)
      obtain ⟨wx, HX⟩ := eone wr x m (.slice da dl dc)
      have HWX := Lib.hid HX.eq
      have HBX := Lib.hid (bnext hbl.out HX.below)
      have HKX := Lib.hid (hkb.out.below HX.below)
      have HPX := Lib.hid HX.e
      have HV := Lib.hid (cValidate x m (.slice da dl dc) cs wx (hrd.below HX.below))
      obtain ⟨B, hB⟩ : ∃ B, wr.heap.size = B := ⟨_, rfl⟩
      rw [hB] at HPX
      have HBE := Lib.hid hB
      clear hk2 he hd e1 hp hrd HX hB hbl hkb
      go_upto_region 4 with fail
      rw [HWX.out, HBE.out]
      clear c0 c1 c2 hi hb HWX
      obtain ⟨p0, p1, p2, _⟩ := HPX.out.cells
      obtain ⟨_, _, j2, _⟩ := HKX.out.cells
      by_cases hE : JM.errP x m cs = 0
      · obtain ⟨n1, n2, n3, n4⟩ := HN.out hE
        simp only at n1 n2 n3 n4
        rw [hE] at HV
        have e3 := Lib.hid (e2.out.trans (if_neg (by rw [hE]; simp)))
        clear e2 hE HN
        go_wp2_with fail
        refine HV.out.mono ?_
        rintro e w1 ⟨rfl, hb1⟩
        have HP1 := Lib.hid (HPX.out.below hb1)
        have HK1 := Lib.hid (HKX.out.below hb1)
        have HB1 := Lib.hid (bnext HBX.out hb1)
        clear p0 p1 p2 j2 HV hb1 HBX HKX HPX
        have hFT : ∀ w2, Below w.heap.size w w2 → ∃ v2, (∀ w0 : World, (Instr.slice 22 (.slice ad fs.length c) none (some (.int .i64 (k : Int))) none).run Try.prog w0 = .ok v2 w0) ∧ RdF w2 v2 (fs.take k) := fun w2 hb => (H.out.below hb).cut0S k (by omega)
        obtain ⟨v2, hcut, hr1⟩ := hFT w1 HB1.out
        have HFO := Lib.hid (fun w' (hb : Below w1.heap.size w1 w') => sFollows v2 (fs.take k) x m da dl dc w' (hr1.below hb) ⟨n3, by omega⟩ (by omega))
        obtain ⟨z0, z1, z2⟩ := lat_e HP1.out
        obtain ⟨l0, l1, l2, l3, l4, l5, l6, l7, l8⟩ := HK1.out.later
        clear hFT hr1
        by_cases h0 : k = 0
        · have hkd : decide ((0 : Int) < (k : Int)) = false := decide_eq_false (by omega)
          have hkn : decide (0 < k) = false := decide_eq_false (by omega)
          have hpk : pre fs k = (0, 0) := by rw [h0]; rfl
          have e4 := Lib.hid (e3.out.trans (if_neg (by rw [hpk]; show ¬ JM.cmpP x m 0 0 ≤ 0; have := (@CM.cmpP_pos x m 0 0).2 (by omega); omega)))
          have hfo := pre_take (show k ≤ fs.length by omega)
          clear e3 h0 hpk
          by_cases hG : 1 < m ∧ ¬ ((pre fs k).1 = x ∧ (pre fs k).2 = m - 1)
          · have e5 := Lib.hid (e4.out.trans (if_pos hG))
            have hff : folS (fs.take k) x m = false := by unfold folS; rw [hfo]; exact decide_eq_false (fun h => h.elim (fun h => by omega) (fun h => hG.2 h))
            rw [hff] at HFO
            clear e4 hG hfo hff
            go_wp2
            refine wp_region_later (by kernel_rfl) (by kernel_rfl) ?_
            repeat (go_big_quiet_step (fail))
            refine wpQuiet_nil ?_
            rintro _ ⟨p, rfl⟩
            have HB2 := Lib.hid (bnext HB1.out p.h)
            have HK2 := Lib.hid (HK1.out.below p.h)
            have HP2 := Lib.hid (HP1.out.below p.h)
            have HFO2 := Lib.hid (fun q : Later p.val => Calls.later (HFO.out q.val (bnext p.h q.h)))
            clear z0 z1 z2 l0 l1 l2 l3 l4 l5 l6 l7 l8 HFO HK1 HP1 HB1
            generalize p.val = w2 at HB2 HK2 HP2 HFO2 ⊢
            obtain ⟨z0, z1, z2⟩ := lat_e HP2.out
            obtain ⟨l0, l1, l2, l3, l4, l5, l6, l7, l8⟩ := HK2.out.later
            go_wp2
            refine wp_region_later (by kernel_rfl) (by kernel_rfl) ?_
            repeat (go_big_quiet_step (first | (go_at_call 69; with_reducible exact HFO2.out _)))
            refine wpQuiet_nil ?_
            rintro _ ⟨p', rfl⟩
            have HB3 := Lib.hid (bnext HB2.out p'.h)
            have HK3 := Lib.hid (HK2.out.below p'.h)
            generalize p'.val = w3 at HB3 HK3 ⊢
            clear z0 z1 z2 l0 l1 l2 l3 l4 l5 l6 l7 l8 HFO2 HK2 HP2 HB2
            go_wp2
            go_ret
            rw [e5.out]
            exact ⟨rfl, HB3.out⟩
          · have e5 := Lib.hid (e4.out.trans (if_neg hG))
            have hff : folS (fs.take k) x m = true := by
              unfold folS; rw [hfo]
              by_cases hm : m ≤ 1
              · exact decide_eq_true (.inl hm)
              · refine decide_eq_true (.inr ?_)
                by_cases hH : (pre fs k).1 = x ∧ (pre fs k).2 = m - 1
                · exact hH
                · exact absurd ⟨by omega, hH⟩ hG
            rw [hff] at HFO
            clear e4 hG hfo hff
            go_wp2
            refine wp_region_later (by kernel_rfl) (by kernel_rfl) ?_
            repeat (go_big_quiet_step (fail))
            refine wpQuiet_nil ?_
            rintro _ ⟨p, rfl⟩
            have HB2 := Lib.hid (bnext HB1.out p.h)
            have HK2 := Lib.hid (HK1.out.below p.h)
            have HP2 := Lib.hid (HP1.out.below p.h)
            have HFO2 := Lib.hid (fun q : Later p.val => Calls.later (HFO.out q.val (bnext p.h q.h)))
            clear z0 z1 z2 l0 l1 l2 l3 l4 l5 l6 l7 l8 HFO HK1 HP1 HB1
            generalize p.val = w2 at HB2 HK2 HP2 HFO2 ⊢
            obtain ⟨z0, z1, z2⟩ := lat_e HP2.out
            obtain ⟨l0, l1, l2, l3, l4, l5, l6, l7, l8⟩ := HK2.out.later
            go_wp2
            refine wp_region_later (by kernel_rfl) (by kernel_rfl) ?_
            repeat (go_big_quiet_step (first | (go_at_call 69; with_reducible exact HFO2.out _)))
            refine wpQuiet_nil ?_
            rintro _ ⟨p', rfl⟩
            have HB3 := Lib.hid (bnext HB2.out p'.h)
            have HK3 := Lib.hid (HK2.out.below p'.h)
            generalize p'.val = w3 at HB3 HK3 ⊢
            clear z0 z1 z2 l0 l1 l2 l3 l4 l5 l6 l7 l8 HFO2 HK2 HP2 HB2
            go_wp2
            go_roundw
            case rel => exact ⟨k + 1, by omega, by go_num, HB3.out, HK3.out, by rw [hp'.out]; exact e5.out⟩
            case measure => simp [intOf]; omega
        · have hkd : (0 : Int) < (k : Int) := by omega
          have hkn : 0 < k := by omega
          have hkl : k - 1 < fs.length := by omega
          have hg2 := List.getElem?_eq_getElem hkl
          have hpk : pre fs k = (fs[k - 1].1, fs[k - 1].2.1) := by simp [pre, h0, List.getD, List.getElem?_eq_getElem hkl]
          generalize fs[k - 1] = g at hg2 hpk
          obtain ⟨y, n, ds⟩ := g
          simp only at hpk
          obtain ⟨b2, o2, ea, el, ec, hi2, hb2, f0, f1, f2, hrd2⟩ := (H.out.below HB1.out).atS (k - 1) y n ds hg2
          rw [show ((k - 1 : Nat) : Int) = (k : Int) - 1 by omega] at hi2
          have hC := fun p : Later w1 => Calls.later (cCompare x m da dl dc y n ea el ec p.val)
          have hcc : JM.cmpP x m (pre fs k).1 (pre fs k).2 = JM.cmpP x m y n := by rw [hpk]
          rw [hcc] at e3
          have y0 : ∀ p : Later w1, p.val.cell? ⟨b2, o2, none⟩ = some (.int .i64 y) := fun p => below_cell p.h f0
          have y1 : ∀ p : Later w1, p.val.cell? ⟨b2, o2 + 1, none⟩ = some (.int .i64 n) := fun p => below_cell p.h f1
          have y2 : ∀ p : Later w1, p.val.cell? ⟨b2, o2 + 2, none⟩ = some (.slice ea el ec) := fun p => below_cell p.h f2
          have hfo := pre_take (show k ≤ fs.length by omega)
          clear hg2 hrd2 hcc h0 hpk f0 f1 f2
          by_cases hcl : JM.cmpP x m y n ≤ 0
          · have e4 := Lib.hid (e3.out.trans (if_pos hcl))
            generalize JM.cmpP x m y n = C at hC hcl
            have HC := Lib.hid hC
            clear e3 hC hfo
            go_wp2
            refine wp_region_later (by kernel_rfl) (by kernel_rfl) ?_
            repeat (go_big_quiet_step (first | (go_at_call 73; with_reducible exact HC.out _)))
            refine wpQuiet_nil ?_
            rintro _ ⟨p, rfl⟩
            have HB2 := Lib.hid (bnext HB1.out p.h)
            generalize p.val = w2 at HB2 ⊢
            go_wp2
            go_ret
            rw [e4.out]
            exact ⟨rfl, HB2.out⟩
          · have e4 := Lib.hid (e3.out.trans (if_neg hcl))
            generalize JM.cmpP x m y n = C at hC hcl
            have HC := Lib.hid hC
            clear e3 hC
            by_cases hG : 1 < m ∧ ¬ ((pre fs k).1 = x ∧ (pre fs k).2 = m - 1)
            · have e5 := Lib.hid (e4.out.trans (if_pos hG))
              have hff : folS (fs.take k) x m = false := by unfold folS; rw [hfo]; exact decide_eq_false (fun h => h.elim (fun h => by omega) (fun h => hG.2 h))
              rw [hff] at HFO
              clear e4 hG hfo hff
              go_wp2
              refine wp_region_later (by kernel_rfl) (by kernel_rfl) ?_
              repeat (go_big_quiet_step (first | (go_at_call 73; with_reducible exact HC.out _)))
              refine wpQuiet_nil ?_
              rintro _ ⟨p, rfl⟩
              have HB2 := Lib.hid (bnext HB1.out p.h)
              have HK2 := Lib.hid (HK1.out.below p.h)
              have HP2 := Lib.hid (HP1.out.below p.h)
              have HFO2 := Lib.hid (fun q : Later p.val => Calls.later (HFO.out q.val (bnext p.h q.h)))
              clear z0 z1 z2 l0 l1 l2 l3 l4 l5 l6 l7 l8 HFO HK1 HP1 HB1
              generalize p.val = w2 at HB2 HK2 HP2 HFO2 ⊢
              obtain ⟨z0, z1, z2⟩ := lat_e HP2.out
              obtain ⟨l0, l1, l2, l3, l4, l5, l6, l7, l8⟩ := HK2.out.later
              go_wp2
              refine wp_region_later (by kernel_rfl) (by kernel_rfl) ?_
              repeat (go_big_quiet_step (first | (go_at_call 69; with_reducible exact HFO2.out _)))
              refine wpQuiet_nil ?_
              rintro _ ⟨p', rfl⟩
              have HB3 := Lib.hid (bnext HB2.out p'.h)
              have HK3 := Lib.hid (HK2.out.below p'.h)
              generalize p'.val = w3 at HB3 HK3 ⊢
              clear z0 z1 z2 l0 l1 l2 l3 l4 l5 l6 l7 l8 HFO2 HK2 HP2 HB2
              go_wp2
              go_ret
              rw [e5.out]
              exact ⟨rfl, HB3.out⟩
            · have e5 := Lib.hid (e4.out.trans (if_neg hG))
              have hff : folS (fs.take k) x m = true := by
                unfold folS; rw [hfo]
                by_cases hm : m ≤ 1
                · exact decide_eq_true (.inl hm)
                · refine decide_eq_true (.inr ?_)
                  by_cases hH : (pre fs k).1 = x ∧ (pre fs k).2 = m - 1
                  · exact hH
                  · exact absurd ⟨by omega, hH⟩ hG
              rw [hff] at HFO
              clear e4 hG hfo hff
              go_wp2
              refine wp_region_later (by kernel_rfl) (by kernel_rfl) ?_
              repeat (go_big_quiet_step (first | (go_at_call 73; with_reducible exact HC.out _)))
              refine wpQuiet_nil ?_
              rintro _ ⟨p, rfl⟩
              have HB2 := Lib.hid (bnext HB1.out p.h)
              have HK2 := Lib.hid (HK1.out.below p.h)
              have HP2 := Lib.hid (HP1.out.below p.h)
              have HFO2 := Lib.hid (fun q : Later p.val => Calls.later (HFO.out q.val (bnext p.h q.h)))
              clear z0 z1 z2 l0 l1 l2 l3 l4 l5 l6 l7 l8 HFO HK1 HP1 HB1
              generalize p.val = w2 at HB2 HK2 HP2 HFO2 ⊢
              obtain ⟨z0, z1, z2⟩ := lat_e HP2.out
              obtain ⟨l0, l1, l2, l3, l4, l5, l6, l7, l8⟩ := HK2.out.later
              go_wp2
              refine wp_region_later (by kernel_rfl) (by kernel_rfl) ?_
              repeat (go_big_quiet_step (first | (go_at_call 69; with_reducible exact HFO2.out _)))
              refine wpQuiet_nil ?_
              rintro _ ⟨p', rfl⟩
              have HB3 := Lib.hid (bnext HB2.out p'.h)
              have HK3 := Lib.hid (HK2.out.below p'.h)
              generalize p'.val = w3 at HB3 HK3 ⊢
              clear z0 z1 z2 l0 l1 l2 l3 l4 l5 l6 l7 l8 HFO2 HK2 HP2 HB2
              go_wp2
              go_roundw
              case rel => exact ⟨k + 1, by omega, by go_num, HB3.out, HK3.out, by rw [hp'.out]; exact e5.out⟩
              case measure => simp [intOf]; omega
      · have e3 := Lib.hid (e2.out.trans (if_pos hE))
        have hne : (JM.errP x m cs != 0) = true := bne_t hE
        generalize JM.errP x m cs = E at HV e3 hne
        clear e2 hE HN
        go_wp2_with fail
        refine HV.out.mono ?_
        rintro e w1 ⟨rfl, hb1⟩
        go_wp2
        go_ret
        rw [e3.out]
        exact ⟨rfl, bnext HBX.out hb1⟩
    · have hq : ¬ ((k : Int) < (fs.length : Int)) := by omega
      have e2 := Lib.hid (show R = 0 by rw [he.out, List.drop_of_length_le (by omega)]; rfl)
      clear he
      go_wp2
      go_ret
      rw [e2.out]
      exact ⟨rfl, hbl.out⟩

end Go.Proofs.Yteeegpojfbgkfaa
