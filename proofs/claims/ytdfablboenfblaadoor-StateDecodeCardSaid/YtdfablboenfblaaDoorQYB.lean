/-
  The calls of sets.Follows and sets.Validate: what the plain mathematics says. Conditions: the set reads; the tables of unicode/utf8 are laid; the effects fit. (Written by mk_sets.py.)
  The call of sets.Validate: the error that the plain mathematics says. Conditions: the set reads; the tables of unicode/utf8 are laid; the effects fit. (Written by mk_sets.py.)
  The calls of slices.BinarySearchFunc over a set, sets.Find and sets.Contains. Conditions: the sets read; the first is sorted. (Written by mk_sets.py.)
-/
import Derived.Test.YtdfablboenfblaaDoorQYA
import Derived.Test.YtdfablboenfblaaDoorQSR1
namespace Go.Proofs.YtdfablboenfblaaDoor.ST
open Go.RowKit
open UM (Ef)
open SM (Fp)

theorem pre_take {fs : List Fp} {k : Nat} (hk : k ≤ fs.length) : pre (fs.take k) (fs.take k).length = pre fs k := by
  rw [List.length_take, Nat.min_eq_left hk]
  unfold pre
  by_cases h : k = 0
  · rw [if_pos h, if_pos h]
  · rw [if_neg h, if_neg h]
    have : (fs.take k).getD (k - 1) (0, 0, 0, []) = fs.getD (k - 1) (0, 0, 0, []) := by simp [List.getD, show k - 1 < k by omega]
    rw [this]
/-- What Follows answers. -/
def folS (fs : List Fp) (x m : Int) : Bool := decide (m ≤ 1 ∨ ((pre fs fs.length).1 = x ∧ (pre fs fs.length).2 = m - 1))

set_option maxRecDepth 100000 in
set_option maxHeartbeats 4000000 in
theorem sFollows (v : Value) (fs : List Fp) (x m t : Int) (da : Option Addr) (dl dc : Nat) (w : World) (h : RdF w v fs) (hm : 1 ≤ m ∧ m ≤ 100) (hx : x ≠ 0) :
    Calls Tryd.prog 63 #[(.agg #[.func (.func 71) #[] #[], .func (.func 72) #[] #[], .func (.func 61) #[] #[], .func (.func 73) #[] #[], .func (.func 53) #[] #[], .func (.func 74) #[] #[], .func (.func 75) #[] #[], .func (.func 76) #[] #[], .int .i64 48]), v, uv x m t (.slice da dl dc)] w fun e w' => e = .returned (.bool (folS fs x m)) ∧ Below w.heap.size w w' := by
  obtain ⟨va, vc, rfl, hvc, _⟩ := h.shape
  obtain ⟨w2, HX⟩ := kbox w x m t (.slice da dl dc)
  have HW := Lib.hid HX.eq
  have HB := Lib.hid HX.below
  have HK := Lib.hid HX.k
  have HP := Lib.hid HX.e
  have H2 := Lib.hid (h.below HX.below)
  obtain ⟨hm1, hm2⟩ := hm
  obtain ⟨K, hK⟩ : ∃ K, w.heap.size = K := ⟨_, rfl⟩
  rw [hK] at HK HP
  have HKE := Lib.hid hK
  clear HX h hK
  obtain ⟨R, hR⟩ : ∃ R, R = folS fs x m := ⟨_, rfl⟩
  rw [← hR]
  have HR := Lib.hid hR
  clear hR
  have HN := Lib.hid (cNumb x m t da dl dc w2)
  obtain ⟨_, k1, _⟩ := HK.out.cells
  obtain ⟨p0, p1, p2, p3, _⟩ := HP.out.cells
  go_enter Tryd.func63, Tryd.ntmps63
  go_upto_region 1 with fail
  rw [HW.out, HKE.out]
  have HB0 := Lib.hid (show Below K w w2 by rw [← HKE.out]; exact HB.out)
  clear HW HB
  go_wp2_with fail
  refine HN.out.mono ?_
  rintro e w3 ⟨rfl, hb3⟩
  have HB3 := Lib.hid (HB0.out.trans (hb3.mono (Nat.le_of_lt HK.out.lt)))
  have HK3 := Lib.hid (HK.out.below hb3)
  have HP3 := Lib.hid (HP.out.below hb3)
  have H3 := Lib.hid (H2.out.below hb3)
  clear k1 p0 p1 p2 p3 HN HK HP H2 hb3
  by_cases h1 : m ≤ 1
  · have e := Lib.hid (show R = true by rw [HR.out]; exact decide_eq_true (.inl h1))
    go_wp2
    go_ret
    rw [e.out, HKE.out]
    exact ⟨rfl, HB3.out⟩
  · by_cases h0 : fs.length = 0
    · have e := Lib.hid (show R = false by
        rw [HR.out]
        refine decide_eq_false ?_
        rintro (h | ⟨h, _⟩)
        · exact h1 h
        · rw [h0, show pre fs 0 = (0, 0) from rfl] at h; exact hx h.symm)
      have hz : ((fs.length : Int) == 0) = true := beq_t (by omega)
      go_wp2
      go_ret
      rw [e.out, HKE.out]
      exact ⟨rfl, HB3.out⟩
    · have hlt : fs.length - 1 < fs.length := by omega
      have hg := List.getElem?_eq_getElem hlt
      have hpk : pre fs fs.length = (fs[fs.length - 1].1, fs[fs.length - 1].2.1) := by simp [pre, h0, List.getD, hg]
      generalize fs[fs.length - 1] = g at hg hpk
      obtain ⟨y, n, u, ds⟩ := g
      simp only at hpk
      have HR2 := Lib.hid (show R = decide (y = x ∧ n = m - 1) by
        rw [HR.out]; unfold folS; rw [hpk]
        exact decide_eq_decide.2 ⟨fun h => h.resolve_left h1, .inr⟩)
      obtain ⟨b, o, ea, el, ec, hi, hb, c0, c1, c2, c3, _⟩ := H3.out.atS (fs.length - 1) y n u ds hg
      rw [show ((fs.length - 1 : Nat) : Int) = (fs.length : Int) - 1 by omega] at hi
      have hz : ((fs.length : Int) == 0) = false := beq_f (by omega)
      have hpos : (0 : Int) < (fs.length : Int) := by omega
      obtain ⟨w4, HX4⟩ := eone w3 y n u (.slice ea el ec)
      have HW4 := Lib.hid HX4.eq
      have HL4 := Lib.hid HX4.e
      have HB4 := Lib.hid (HB3.out.trans (HX4.below.mono (Nat.le_of_lt HK3.out.lt)))
      have HK4 := Lib.hid (HK3.out.below HX4.below)
      have HP4 := Lib.hid (HP3.out.below HX4.below)
      have HA1 := Lib.hid (fun p : Later w4 => Calls.later (cAuth y n u ea el ec p.val))
      have HA2 := Lib.hid (fun p : Later w4 => Calls.later (cAuth x m t da dl dc p.val))
      have HN1 := Lib.hid (fun p : Later w4 => Calls.later (cNumb y n u ea el ec p.val))
      have HN2 := Lib.hid (fun p : Later w4 => Calls.later (cNumb x m t da dl dc p.val))
      obtain ⟨L, hL⟩ : ∃ L, w3.heap.size = L := ⟨_, rfl⟩
      rw [hL] at HL4
      have HLE := Lib.hid hL
      clear hg hpk HR HX4 HK3 HP3 H3 HB3 hL
      go_upto_region 6 with fail
      rw [HW4.out, HLE.out]
      clear c0 c1 c2 c3 hi hb HW4 HLE
      obtain ⟨j0, j1, _⟩ := HK4.out.later
      obtain ⟨z0, z1, z2, z3⟩ := lat_e HP4.out
      obtain ⟨y0, y1, y2, y3⟩ := lat_e HL4.out
      have hw1 : IntKind.i64.wrap (m - 1) = m - 1 := IntWalk.i64_in _ (by omega)
      by_cases hyx : y = x
      · have q1 : (y == x) = true := beq_t hyx
        by_cases hnm : n = m - 1
        · have q2 : (n == m - 1) = true := beq_t hnm
          have e := Lib.hid (show R = true by rw [HR2.out]; exact decide_eq_true ⟨hyx, hnm⟩)
          clear hyx hnm HR2
          refine wp_region_later (by kernel_rfl) (by kernel_rfl) ?_
          repeat (go_big_quiet_step (first | (go_at_call 71; with_reducible exact HA1.out _) | (go_at_call 71; with_reducible exact HA2.out _) | (go_at_call 72; with_reducible exact HN1.out _) | (go_at_call 72; with_reducible exact HN2.out _)))
          refine wpQuiet_nil ?_
          rintro _ ⟨p, rfl⟩
          have HB5 := Lib.hid (HB4.out.trans (p.h.mono (Nat.le_of_lt HK4.out.lt)))
          generalize p.val = w5 at HB5 ⊢
          go_wp2
          go_ret
          rw [e.out, HKE.out]
          exact ⟨rfl, HB5.out⟩
        · have q2 : (n == m - 1) = false := beq_f hnm
          have e := Lib.hid (show R = false by rw [HR2.out]; exact decide_eq_false (fun h => hnm h.2))
          clear hyx hnm HR2
          refine wp_region_later (by kernel_rfl) (by kernel_rfl) ?_
          repeat (go_big_quiet_step (first | (go_at_call 71; with_reducible exact HA1.out _) | (go_at_call 71; with_reducible exact HA2.out _) | (go_at_call 72; with_reducible exact HN1.out _) | (go_at_call 72; with_reducible exact HN2.out _)))
          refine wpQuiet_nil ?_
          rintro _ ⟨p, rfl⟩
          have HB5 := Lib.hid (HB4.out.trans (p.h.mono (Nat.le_of_lt HK4.out.lt)))
          generalize p.val = w5 at HB5 ⊢
          go_wp2
          go_ret
          rw [e.out, HKE.out]
          exact ⟨rfl, HB5.out⟩
      · have q1 : (y == x) = false := beq_f hyx
        have e := Lib.hid (show R = false by rw [HR2.out]; exact decide_eq_false (fun h => hyx h.1))
        clear hyx HR2
        refine wp_region_later (by kernel_rfl) (by kernel_rfl) ?_
        repeat (go_big_quiet_step (first | (go_at_call 71; with_reducible exact HA1.out _) | (go_at_call 71; with_reducible exact HA2.out _)))
        refine wpQuiet_nil ?_
        rintro _ ⟨p, rfl⟩
        have HB5 := Lib.hid (HB4.out.trans (p.h.mono (Nat.le_of_lt HK4.out.lt)))
        generalize p.val = w5 at HB5 ⊢
        go_wp2
        go_ret
        rw [e.out, HKE.out]
        exact ⟨rfl, HB5.out⟩

end Go.Proofs.YtdfablboenfblaaDoor.ST

namespace Go.Proofs.YtdfablboenfblaaDoor.ST
open Go.RowKit
open UM (Ef)
open SM (Fp)

set_option maxRecDepth 100000 in
set_option maxHeartbeats 8000000 in
theorem sValidate (v : Value) (fs : List Fp) (w : World) (hT : Tb w) (hfit : FitN fs) (h : RdF w v fs) :
    Calls Tryd.prog 42 #[(.agg #[.func (.func 71) #[] #[], .func (.func 72) #[] #[], .func (.func 61) #[] #[], .func (.func 73) #[] #[], .func (.func 53) #[] #[], .func (.func 74) #[] #[], .func (.func 75) #[] #[], .func (.func 76) #[] #[], .int .i64 48]), v] w fun e w' => e = .returned (.int .i64 (SM.errL (0, 0) fs)) ∧ Below w.heap.size w w' := by
  obtain ⟨ad, c, rfl, hc, hl⟩ := h.shape
  obtain ⟨R, hR⟩ : ∃ R, R = SM.errL (0, 0) fs := ⟨_, rfl⟩
  rw [← hR]
  have H := Lib.hid h
  have HR := Lib.hid hR
  have HTB := Lib.hid hT
  have HFT := Lib.hid hfit
  obtain ⟨w0, HX⟩ := kone w
  have HW := Lib.hid HX.eq
  have HB0 := Lib.hid HX.below
  have HK0 := Lib.hid HX.k
  obtain ⟨K, hK⟩ : ∃ K, w.heap.size = K := ⟨_, rfl⟩
  rw [hK] at HK0
  have HKE := Lib.hid hK
  clear h hR HX hK hT hfit
  go_enter Tryd.func42, Tryd.ntmps42
  go_upto_region 1 with fail
  rw [HW.out, HKE.out]
  clear HW
  go_wp2
  go_loopw [10] (fun i wr => ∃ (k : Nat), k ≤ fs.length ∧ i = .int .i64 k ∧ Hid (Below w.heap.size w wr) ∧ Hid (KB wr K) ∧ Hid (R = SM.errL (pre fs k) (fs.drop k))) (fun i _ => fs.length - (intOf i).toNat)
  case atStart => exact ⟨0, Nat.zero_le _, rfl, HB0.out, HK0.out, HR.out⟩
  case round =>
    obtain ⟨k, hk, rfl, hbl, hkb, he⟩ := hrel
    clear HR HB0 HK0
    by_cases hlt : k < fs.length
    · have hq : (k : Int) < (fs.length : Int) := by omega
      have hd := Lib.hid (drop_get hlt)
      have hk2 := List.getElem?_eq_getElem hlt
      have hp := Lib.hid (pre_succ hk2)
      generalize fs[k] = f at hd hk2 hp
      obtain ⟨x, m, t, cs⟩ := f
      obtain ⟨b, o, da, dl, dc, hi, hb, c0, c1, c2, c3, hrd⟩ := (H.out.below hbl.out).atS k x m t cs hk2
      have e1 := Lib.hid (he.out.trans ((congrArg (SM.errL (pre fs k)) hd.out).trans (errL_step _ _ _)))
      have e2 : Hid (R = if UM.errU x m t cs ≠ 0 then UM.errU x m t cs else if UM.cmpU x m (pre fs k).1 (pre fs k).2 ≤ 0 then 7 else if 1 < m ∧ ¬ ((pre fs k).1 = x ∧ (pre fs k).2 = m - 1) then 8 else SM.errL (x, m) (fs.drop (k + 1))) := e1.out
      have hp' : Hid (pre fs (k + 1) = (x, m)) := hp.out
      have HN := Lib.hid (fun h => SM.errF_num (f := (x, m, t, cs)) h)
      obtain ⟨wx, HX⟩ := eone wr x m t (.slice da dl dc)
      have HWX := Lib.hid HX.eq
      have HBX := Lib.hid (bnext hbl.out HX.below)
      have HKX := Lib.hid (hkb.out.below HX.below)
      have HPX := Lib.hid HX.e
      have HV := Lib.hid (cVal x m t (.slice da dl dc) cs wx (HTB.out.below HBX.out) (hrd.below HX.below) (HFT.out _ (List.mem_of_getElem? hk2)))
      obtain ⟨B, hB⟩ : ∃ B, wr.heap.size = B := ⟨_, rfl⟩
      rw [hB] at HPX
      have HBE := Lib.hid hB
      clear hk2 he hd e1 hp hrd HX hB hbl hkb
      go_upto_region 4 with fail
      rw [HWX.out, HBE.out]
      clear c0 c1 c2 c3 hi hb HWX
      obtain ⟨p0, p1, p2, p3, _⟩ := HPX.out.cells
      obtain ⟨_, _, j2, _⟩ := HKX.out.cells
      by_cases hE : UM.errU x m t cs = 0
      · obtain ⟨n1, n2, n3, n4⟩ := HN.out hE
        simp only at n1 n2 n3 n4
        rw [hE] at HV
        have e3 := Lib.hid (e2.out.trans (if_neg (by rw [hE]; simp)))
        clear e2 hE HN
        go_wp2_with fail
        refine HV.out.mono ?_
        rintro e w1 ⟨rfl, hb1⟩
        have HP1 := Lib.hid (HPX.out.below hb1)
        have HK1 := Lib.hid (HKX.out.below hb1)
        have HB1 := Lib.hid (bnext HBX.out hb1)
        clear p0 p1 p2 p3 j2 HV hb1 HBX HKX HPX
        have hFT : ∀ w2, Below w.heap.size w w2 → ∃ v2, (∀ w0 : World, (Instr.slice 22 (.slice ad fs.length c) none (some (.int .i64 (k : Int))) none).run Tryd.prog w0 = .ok v2 w0) ∧ RdF w2 v2 (fs.take k) := fun w2 hb => (H.out.below hb).cut0S k (by omega)
        obtain ⟨v2, hcut, hr1⟩ := hFT w1 HB1.out
        have HFO := Lib.hid (fun w' (hb : Below w1.heap.size w1 w') => sFollows v2 (fs.take k) x m t da dl dc w' (hr1.below hb) ⟨n3, by omega⟩ (by omega))
        obtain ⟨z0, z1, z2, z3⟩ := lat_e HP1.out
        obtain ⟨l0, l1, l2, l3, l4, l5, l6, l7, l8⟩ := HK1.out.later
        clear hFT hr1
        by_cases h0 : k = 0
        · have hkd : decide ((0 : Int) < (k : Int)) = false := decide_eq_false (by omega)
          have hkn : decide (0 < k) = false := decide_eq_false (by omega)
          have hpk : pre fs k = (0, 0) := by rw [h0]; rfl
          have e4 := Lib.hid (e3.out.trans (if_neg (by rw [hpk]; show ¬ UM.cmpU x m 0 0 ≤ 0; have := (@SM.cmpP_pos x m 0 0).2 (by omega); omega)))
          have hfo := pre_take (show k ≤ fs.length by omega)
          clear e3 h0 hpk
          by_cases hG : 1 < m ∧ ¬ ((pre fs k).1 = x ∧ (pre fs k).2 = m - 1)
          · have e5 := Lib.hid (e4.out.trans (if_pos hG))
            have hff : folS (fs.take k) x m = false := by unfold folS; rw [hfo]; exact decide_eq_false (fun h => h.elim (fun h => by omega) (fun h => hG.2 h))
            rw [hff] at HFO
            clear e4 hG hfo hff
            go_wp2
            refine wp_region_later (by kernel_rfl) (by kernel_rfl) ?_
            repeat (go_big_quiet_step (fail))
            refine wpQuiet_nil ?_
            rintro _ ⟨p, rfl⟩
            have HB2 := Lib.hid (bnext HB1.out p.h)
            have HK2 := Lib.hid (HK1.out.below p.h)
            have HP2 := Lib.hid (HP1.out.below p.h)
            have HFO2 := Lib.hid (fun q : Later p.val => Calls.later (HFO.out q.val (bnext p.h q.h)))
            clear z0 z1 z2 z3 l0 l1 l2 l3 l4 l5 l6 l7 l8 HFO HK1 HP1 HB1
            generalize p.val = w2 at HB2 HK2 HP2 HFO2 ⊢
            obtain ⟨z0, z1, z2, z3⟩ := lat_e HP2.out
            obtain ⟨l0, l1, l2, l3, l4, l5, l6, l7, l8⟩ := HK2.out.later
            go_wp2
            refine wp_region_later (by kernel_rfl) (by kernel_rfl) ?_
            repeat (go_big_quiet_step (first | (go_at_call 63; with_reducible exact HFO2.out _)))
            refine wpQuiet_nil ?_
            rintro _ ⟨p', rfl⟩
            have HB3 := Lib.hid (bnext HB2.out p'.h)
            have HK3 := Lib.hid (HK2.out.below p'.h)
            generalize p'.val = w3 at HB3 HK3 ⊢
            clear z0 z1 z2 z3 l0 l1 l2 l3 l4 l5 l6 l7 l8 HFO2 HK2 HP2 HB2
            go_wp2
            go_ret
            rw [e5.out]
            exact ⟨rfl, HB3.out⟩
          · have e5 := Lib.hid (e4.out.trans (if_neg hG))
            have hff : folS (fs.take k) x m = true := by
              unfold folS; rw [hfo]
              by_cases hm : m ≤ 1
              · exact decide_eq_true (.inl hm)
              · refine decide_eq_true (.inr ?_)
                by_cases hH : (pre fs k).1 = x ∧ (pre fs k).2 = m - 1
                · exact hH
                · exact absurd ⟨by omega, hH⟩ hG
            rw [hff] at HFO
            clear e4 hG hfo hff
            go_wp2
            refine wp_region_later (by kernel_rfl) (by kernel_rfl) ?_
            repeat (go_big_quiet_step (fail))
            refine wpQuiet_nil ?_
            rintro _ ⟨p, rfl⟩
            have HB2 := Lib.hid (bnext HB1.out p.h)
            have HK2 := Lib.hid (HK1.out.below p.h)
            have HP2 := Lib.hid (HP1.out.below p.h)
            have HFO2 := Lib.hid (fun q : Later p.val => Calls.later (HFO.out q.val (bnext p.h q.h)))
            clear z0 z1 z2 z3 l0 l1 l2 l3 l4 l5 l6 l7 l8 HFO HK1 HP1 HB1
            generalize p.val = w2 at HB2 HK2 HP2 HFO2 ⊢
            obtain ⟨z0, z1, z2, z3⟩ := lat_e HP2.out
            obtain ⟨l0, l1, l2, l3, l4, l5, l6, l7, l8⟩ := HK2.out.later
            go_wp2
            refine wp_region_later (by kernel_rfl) (by kernel_rfl) ?_
            repeat (go_big_quiet_step (first | (go_at_call 63; with_reducible exact HFO2.out _)))
            refine wpQuiet_nil ?_
            rintro _ ⟨p', rfl⟩
            have HB3 := Lib.hid (bnext HB2.out p'.h)
            have HK3 := Lib.hid (HK2.out.below p'.h)
            generalize p'.val = w3 at HB3 HK3 ⊢
            clear z0 z1 z2 z3 l0 l1 l2 l3 l4 l5 l6 l7 l8 HFO2 HK2 HP2 HB2
            go_wp2
            go_roundw
            case rel => exact ⟨k + 1, by omega, by go_num, HB3.out, HK3.out, by rw [hp'.out]; exact e5.out⟩
            case measure => simp [intOf]; omega
        · have hkd : (0 : Int) < (k : Int) := by omega
          have hkn : 0 < k := by omega
          have hkl : k - 1 < fs.length := by omega
          have hg2 := List.getElem?_eq_getElem hkl
          have hpk : pre fs k = (fs[k - 1].1, fs[k - 1].2.1) := by simp [pre, h0, List.getD, List.getElem?_eq_getElem hkl]
          generalize fs[k - 1] = g at hg2 hpk
          obtain ⟨y, n, u, ds⟩ := g
          simp only at hpk
          obtain ⟨b2, o2, ea, el, ec, hi2, hb2, f0, f1, f2, f3, hrd2⟩ := (H.out.below HB1.out).atS (k - 1) y n u ds hg2
          rw [show ((k - 1 : Nat) : Int) = (k : Int) - 1 by omega] at hi2
          have hC := fun p : Later w1 => Calls.later (pCmp x m t da dl dc y n u ea el ec p.val)
          have hcc : UM.cmpU x m (pre fs k).1 (pre fs k).2 = UM.cmpU x m y n := by rw [hpk]
          rw [hcc] at e3
          have y0 : ∀ p : Later w1, p.val.cell? ⟨b2, o2, none⟩ = some (.int .i64 y) := fun p => below_cell p.h f0
          have y1 : ∀ p : Later w1, p.val.cell? ⟨b2, o2 + 1, none⟩ = some (.int .i64 n) := fun p => below_cell p.h f1
          have y2 : ∀ p : Later w1, p.val.cell? ⟨b2, o2 + 2, none⟩ = some (.int .i64 u) := fun p => below_cell p.h f2
          have y3 : ∀ p : Later w1, p.val.cell? ⟨b2, o2 + 3, none⟩ = some (.slice ea el ec) := fun p => below_cell p.h f3
          have hfo := pre_take (show k ≤ fs.length by omega)
          clear hg2 hrd2 hcc h0 hpk f0 f1 f2 f3
          by_cases hcl : UM.cmpU x m y n ≤ 0
          · have e4 := Lib.hid (e3.out.trans (if_pos hcl))
            generalize UM.cmpU x m y n = C at hC hcl
            have HC := Lib.hid hC
            clear e3 hC hfo
            go_wp2
            refine wp_region_later (by kernel_rfl) (by kernel_rfl) ?_
            repeat (go_big_quiet_step (first | (go_at_call 73; with_reducible exact HC.out _)))
            refine wpQuiet_nil ?_
            rintro _ ⟨p, rfl⟩
            have HB2 := Lib.hid (bnext HB1.out p.h)
            generalize p.val = w2 at HB2 ⊢
            go_wp2
            go_ret
            rw [e4.out]
            exact ⟨rfl, HB2.out⟩
          · have e4 := Lib.hid (e3.out.trans (if_neg hcl))
            generalize UM.cmpU x m y n = C at hC hcl
            have HC := Lib.hid hC
            clear e3 hC
            by_cases hG : 1 < m ∧ ¬ ((pre fs k).1 = x ∧ (pre fs k).2 = m - 1)
            · have e5 := Lib.hid (e4.out.trans (if_pos hG))
              have hff : folS (fs.take k) x m = false := by unfold folS; rw [hfo]; exact decide_eq_false (fun h => h.elim (fun h => by omega) (fun h => hG.2 h))
              rw [hff] at HFO
              clear e4 hG hfo hff
              go_wp2
              refine wp_region_later (by kernel_rfl) (by kernel_rfl) ?_
              repeat (go_big_quiet_step (first | (go_at_call 73; with_reducible exact HC.out _)))
              refine wpQuiet_nil ?_
              rintro _ ⟨p, rfl⟩
              have HB2 := Lib.hid (bnext HB1.out p.h)
              have HK2 := Lib.hid (HK1.out.below p.h)
              have HP2 := Lib.hid (HP1.out.below p.h)
              have HFO2 := Lib.hid (fun q : Later p.val => Calls.later (HFO.out q.val (bnext p.h q.h)))
              clear z0 z1 z2 z3 l0 l1 l2 l3 l4 l5 l6 l7 l8 HFO HK1 HP1 HB1
              generalize p.val = w2 at HB2 HK2 HP2 HFO2 ⊢
              obtain ⟨z0, z1, z2, z3⟩ := lat_e HP2.out
              obtain ⟨l0, l1, l2, l3, l4, l5, l6, l7, l8⟩ := HK2.out.later
              go_wp2
              refine wp_region_later (by kernel_rfl) (by kernel_rfl) ?_
              repeat (go_big_quiet_step (first | (go_at_call 63; with_reducible exact HFO2.out _)))
              refine wpQuiet_nil ?_
              rintro _ ⟨p', rfl⟩
              have HB3 := Lib.hid (bnext HB2.out p'.h)
              have HK3 := Lib.hid (HK2.out.below p'.h)
              generalize p'.val = w3 at HB3 HK3 ⊢
              clear z0 z1 z2 z3 l0 l1 l2 l3 l4 l5 l6 l7 l8 HFO2 HK2 HP2 HB2
              go_wp2
              go_ret
              rw [e5.out]
              exact ⟨rfl, HB3.out⟩
            · have e5 := Lib.hid (e4.out.trans (if_neg hG))
              have hff : folS (fs.take k) x m = true := by
                unfold folS; rw [hfo]
                by_cases hm : m ≤ 1
                · exact decide_eq_true (.inl hm)
                · refine decide_eq_true (.inr ?_)
                  by_cases hH : (pre fs k).1 = x ∧ (pre fs k).2 = m - 1
                  · exact hH
                  · exact absurd ⟨by omega, hH⟩ hG
              rw [hff] at HFO
              clear e4 hG hfo hff
              go_wp2
              refine wp_region_later (by kernel_rfl) (by kernel_rfl) ?_
              repeat (go_big_quiet_step (first | (go_at_call 73; with_reducible exact HC.out _)))
              refine wpQuiet_nil ?_
              rintro _ ⟨p, rfl⟩
              have HB2 := Lib.hid (bnext HB1.out p.h)
              have HK2 := Lib.hid (HK1.out.below p.h)
              have HP2 := Lib.hid (HP1.out.below p.h)
              have HFO2 := Lib.hid (fun q : Later p.val => Calls.later (HFO.out q.val (bnext p.h q.h)))
              clear z0 z1 z2 z3 l0 l1 l2 l3 l4 l5 l6 l7 l8 HFO HK1 HP1 HB1
              generalize p.val = w2 at HB2 HK2 HP2 HFO2 ⊢
              obtain ⟨z0, z1, z2, z3⟩ := lat_e HP2.out
              obtain ⟨l0, l1, l2, l3, l4, l5, l6, l7, l8⟩ := HK2.out.later
              go_wp2
              refine wp_region_later (by kernel_rfl) (by kernel_rfl) ?_
              repeat (go_big_quiet_step (first | (go_at_call 63; with_reducible exact HFO2.out _)))
              refine wpQuiet_nil ?_
              rintro _ ⟨p', rfl⟩
              have HB3 := Lib.hid (bnext HB2.out p'.h)
              have HK3 := Lib.hid (HK2.out.below p'.h)
              generalize p'.val = w3 at HB3 HK3 ⊢
              clear z0 z1 z2 z3 l0 l1 l2 l3 l4 l5 l6 l7 l8 HFO2 HK2 HP2 HB2
              go_wp2
              go_roundw
              case rel => exact ⟨k + 1, by omega, by go_num, HB3.out, HK3.out, by rw [hp'.out]; exact e5.out⟩
              case measure => simp [intOf]; omega
      · have e3 := Lib.hid (e2.out.trans (if_pos hE))
        have hne : (UM.errU x m t cs != 0) = true := bne_t hE
        generalize UM.errU x m t cs = E at HV e3 hne
        clear e2 hE HN
        go_wp2_with fail
        refine HV.out.mono ?_
        rintro e w1 ⟨rfl, hb1⟩
        go_wp2
        go_ret
        rw [e3.out]
        exact ⟨rfl, bnext HBX.out hb1⟩
    · have hq : ¬ ((k : Int) < (fs.length : Int)) := by omega
      have e2 := Lib.hid (show R = 0 by rw [he.out, List.drop_of_length_le (by omega)]; rfl)
      clear he
      go_wp2
      go_ret
      rw [e2.out]
      exact ⟨rfl, hbl.out⟩

end Go.Proofs.YtdfablboenfblaaDoor.ST

namespace Go.Proofs.YtdfablboenfblaaDoor.ST
open Go.RowKit
open UM (Ef)
open SM (Fp)

set_option maxRecDepth 100000 in
set_option maxHeartbeats 4000000 in
theorem sSearch (v : Value) (fs : List Fp) (x m t : Int) (ua : Option Addr) (ul uc : Nat) (w : World) (h : RdF w v fs) (hv : SM.Srt fs) (hl : fs.length ≤ 1000) :
    Calls Tryd.prog 88 #[v, uv x m t (.slice ua ul uc), .func (.func 73) #[] #[]] w
      fun e w' => ∃ i : Nat, e = .returned (.tuple #[.int .i64 i, .bool (fndF fs x m i)]) ∧ AtF fs x m i ∧ Below w.heap.size w w' := by
  obtain ⟨ad, cap, rfl, hc, _⟩ := h.shape
  have hb0 := below_fresh w (.cells #[.int .i64 x, .int .i64 m, .int .i64 t, .slice ua ul uc] 43)
  have hP0 := OU.fresh w x m t (.slice ua ul uc)
  have hB : w.heap.size < (w.alloc (.cells #[.int .i64 x, .int .i64 m, .int .i64 t, .slice ua ul uc] 43)).heap.size := by rw [World.size_alloc]; exact Nat.lt_succ_self _
  have H := Lib.hid (h.below hb0)
  have HV := Lib.hid hv
  clear h hv
  go_enter Tryd.func88, Tryd.ntmps88
  go_wp2
  obtain ⟨w0, hw0⟩ : ∃ w0, w.alloc (.cells #[.int .i64 x, .int .i64 m, .int .i64 t, .slice ua ul uc] 43) = w0 := ⟨_, rfl⟩
  rw [hw0] at hb0 hP0 H hB ⊢
  obtain ⟨B, hBe⟩ : ∃ B, B = w.heap.size := ⟨_, rfl⟩
  rw [← hBe] at hP0 hB ⊢
  have HP := Lib.hid hP0
  have HB := Lib.hid (show Below B w w0 by rw [hBe]; exact hb0)
  have HBE := Lib.hid hBe
  clear hw0 hb0 hP0 hBe
  go_loopw [9, 10] (fun i j wr => ∃ p q : Nat, p ≤ q ∧ q ≤ fs.length ∧ i = .int .i64 p ∧ j = .int .i64 q ∧ Below w0.heap.size w0 wr ∧ Hid (∀ k f, fs[k]? = some f → k < p → UM.cmpU f.1 f.2.1 x m < 0) ∧ Hid (∀ k f, fs[k]? = some f → q ≤ k → 0 ≤ UM.cmpU f.1 f.2.1 x m)) (fun i j _ => (intOf j - intOf i).toNat)
  case atStart => exact ⟨0, fs.length, Nat.zero_le _, Nat.le_refl _, rfl, rfl, Below.refl _ _, (by show ∀ k e, _; intro k e _ h; omega), (by show ∀ k e, _; intro k e hk h; have := (List.getElem?_eq_some_iff.1 hk).1; omega)⟩
  case round =>
    obtain ⟨p, q, hpq, hq, rfl, rfl, hbl, hlo, hhi⟩ := hrel
    obtain ⟨r0, r1, r2, r3, _⟩ := (HP.out.below hbl).cells
    have z0 : ∀ p : Later wr, p.val.cell? ⟨B, 0, none⟩ = some (.int .i64 x) := fun p => below_cell p.h r0
    have z1 : ∀ p : Later wr, p.val.cell? ⟨B, 1, none⟩ = some (.int .i64 m) := fun p => below_cell p.h r1
    have z2 : ∀ p : Later wr, p.val.cell? ⟨B, 2, none⟩ = some (.int .i64 t) := fun p => below_cell p.h r2
    have z3 : ∀ p : Later wr, p.val.cell? ⟨B, 3, none⟩ = some (.slice ua ul uc) := fun p => below_cell p.h r3
    clear r0 r1 r2 r3
    by_cases hlt : p < q
    · have hq1 : (p : Int) < (q : Int) := by omega
      have hmid : (p + q) / 2 < fs.length := by omega
      have hg := List.getElem?_eq_getElem hmid
      generalize fs[(p + q) / 2] = en at hg
      obtain ⟨y, n, u, cs⟩ := en
      obtain ⟨b, o, da, dl, dc, hi, hb, c0, c1, c2, c3, _⟩ := (H.out.below hbl).atS ((p + q) / 2) y n u cs hg
      rw [show (((p + q) / 2 : Nat) : Int) = ((p : Int) + (q : Int)) / 2 by omega] at hi
      have k0 : ∀ p : Later wr, p.val.cell? ⟨b, o, none⟩ = some (.int .i64 y) := fun p => below_cell p.h c0
      have k1 : ∀ p : Later wr, p.val.cell? ⟨b, o + 1, none⟩ = some (.int .i64 n) := fun p => below_cell p.h c1
      have k2 : ∀ p : Later wr, p.val.cell? ⟨b, o + 2, none⟩ = some (.int .i64 u) := fun p => below_cell p.h c2
      have k3 : ∀ p : Later wr, p.val.cell? ⟨b, o + 3, none⟩ = some (.slice da dl dc) := fun p => below_cell p.h c3
      have hC := fun p : Later wr => Calls.later (pCmp y n u da dl dc x m t ua ul uc p.val)
      by_cases hx : UM.cmpU y n x m < 0
      · have hlo2 := Lib.hid (show ∀ k f, fs[k]? = some f → k < (p + q) / 2 + 1 → UM.cmpU f.1 f.2.1 x m < 0 from fun k e hk hkl => by
          by_cases hkm : k = (p + q) / 2
          · subst hkm
            rw [hg] at hk
            cases hk
            exact hx
          · exact cmp_lt (by have := HV.out.get hk hg (by omega); exact this) hx)
        generalize UM.cmpU y n x m = C at hC hx
        have HC := Lib.hid hC
        clear hlo hg hC c0 c1 c2 c3
        go_wp2
        refine wp_region_later (by kernel_rfl) (by kernel_rfl) ?_
        repeat (go_big_quiet_step (first | (go_at_call 73; with_reducible exact HC.out _)))
        refine wpQuiet_nil ?_
        rintro _ ⟨p', rfl⟩
        have HB2 := Lib.hid (bnext hbl p'.h)
        generalize p'.val = w2 at HB2 ⊢
        clear k0 k1 k2 k3 z0 z1 z2 z3 HC hbl
        go_wp2
        go_roundw
        case rel => exact ⟨(p + q) / 2 + 1, q, by omega, hq, vint (by omega), rfl, HB2.out, hlo2, hhi⟩
        case measure => simp [intOf]; omega
      · have hhi2 := Lib.hid (show ∀ k f, fs[k]? = some f → (p + q) / 2 ≤ k → 0 ≤ UM.cmpU f.1 f.2.1 x m from fun k e hk hkl => by
          by_cases hkm : k = (p + q) / 2
          · subst hkm
            rw [hg] at hk
            cases hk
            show 0 ≤ UM.cmpU y n x m; omega
          · exact cmp_gt (by have := HV.out.get hg hk (by omega); exact this) (show 0 ≤ UM.cmpU y n x m by omega))
        generalize UM.cmpU y n x m = C at hC hx
        have HC := Lib.hid hC
        clear hhi hg hC c0 c1 c2 c3
        go_wp2
        refine wp_region_later (by kernel_rfl) (by kernel_rfl) ?_
        repeat (go_big_quiet_step (first | (go_at_call 73; with_reducible exact HC.out _)))
        refine wpQuiet_nil ?_
        rintro _ ⟨p', rfl⟩
        have HB2 := Lib.hid (bnext hbl p'.h)
        generalize p'.val = w2 at HB2 ⊢
        clear k0 k1 k2 k3 z0 z1 z2 z3 HC hbl
        go_wp2
        go_roundw
        case rel => exact ⟨p, (p + q) / 2, by omega, by omega, rfl, vint (by omega), HB2.out, hlo, hhi2⟩
        case measure => simp [intOf]; omega
    · obtain rfl : p = q := by omega
      have hq1 : ¬ ((p : Int) < (p : Int)) := by omega
      have hat := Lib.hid (show AtF fs x m p from ⟨hq, hlo.out, hhi.out⟩)
      by_cases hpn : p < fs.length
      · have hpi : (p : Int) < (fs.length : Int) := by omega
        have hg := List.getElem?_eq_getElem hpn
        generalize fs[p] = en at hg
        obtain ⟨y, n, u, cs⟩ := en
        obtain ⟨b, o, da, dl, dc, hi, hb, c0, c1, c2, c3, _⟩ := (H.out.below hbl).atS p y n u cs hg
        have k0 : ∀ p : Later wr, p.val.cell? ⟨b, o, none⟩ = some (.int .i64 y) := fun p => below_cell p.h c0
        have k1 : ∀ p : Later wr, p.val.cell? ⟨b, o + 1, none⟩ = some (.int .i64 n) := fun p => below_cell p.h c1
        have k2 : ∀ p : Later wr, p.val.cell? ⟨b, o + 2, none⟩ = some (.int .i64 u) := fun p => below_cell p.h c2
        have k3 : ∀ p : Later wr, p.val.cell? ⟨b, o + 3, none⟩ = some (.slice da dl dc) := fun p => below_cell p.h c3
        have hC := fun p : Later wr => Calls.later (pCmp y n u da dl dc x m t ua ul uc p.val)
        have hf := Lib.hid (show fndF fs x m p = (UM.cmpU y n x m == 0) by unfold fndF; rw [hg]; by_cases h : UM.cmpU y n x m = 0 <;> simp [h])
        generalize UM.cmpU y n x m = C at hC hf
        have HC := Lib.hid hC
        clear hlo hhi hg hC c0 c1 c2 c3
        go_wp2
        refine wp_region_later (by kernel_rfl) (by kernel_rfl) ?_
        repeat (go_big_quiet_step (first | (go_at_call 73; with_reducible exact HC.out _)))
        refine wpQuiet_nil ?_
        rintro _ ⟨p', rfl⟩
        have HB2 := Lib.hid (bnext hbl p'.h)
        generalize p'.val = w2 at HB2 ⊢
        go_wp2
        go_ret2
        exact ⟨p, by rw [hf.out]; rfl, hat.out, by have := HB.out.trans (HB2.out.mono (Nat.le_of_lt hB)); rw [HBE.out] at this; exact this⟩
      · have hpi : ¬ ((p : Int) < (fs.length : Int)) := by omega
        have hf := Lib.hid (show fndF fs x m p = false by unfold fndF; rw [List.getElem?_eq_none (by omega)])
        clear hlo hhi
        go_wp2
        go_quiet (fail)
        go_wp2
        go_ret2
        exact ⟨p, by rw [hf.out]; rfl, hat.out, by rw [← HBE.out]; exact HB.out.trans ((hbl.trans (below_drewN _ _ _)).mono (Nat.le_of_lt hB))⟩

set_option maxRecDepth 100000 in
set_option maxHeartbeats 1000000 in
theorem sFind (v : Value) (fs : List Fp) (x m t : Int) (ua : Option Addr) (ul uc : Nat) (w : World) (h : RdF w v fs) (hv : SM.Srt fs) (hl : fs.length ≤ 1000) :
    Calls Tryd.prog 62 #[(.agg #[.func (.func 71) #[] #[], .func (.func 72) #[] #[], .func (.func 61) #[] #[], .func (.func 73) #[] #[], .func (.func 53) #[] #[], .func (.func 74) #[] #[], .func (.func 75) #[] #[], .func (.func 76) #[] #[], .int .i64 48]), v, uv x m t (.slice ua ul uc)] w fun e w' => ∃ i : Nat, e = .returned (.tuple #[.int .i64 i, .bool (fndF fs x m i)]) ∧ AtF fs x m i ∧ Below w.heap.size w w' := by
  obtain ⟨w2, HX⟩ := kbox w x m t (.slice ua ul uc)
  have HW := Lib.hid HX.eq
  have HB := Lib.hid HX.below
  have HK := Lib.hid HX.k
  have HP := Lib.hid HX.e
  have HS := Lib.hid (sSearch v fs x m t ua ul uc w2 (h.below HX.below) hv hl)
  clear HX h hv
  obtain ⟨_, _, _, k3, _⟩ := HK.out.cells
  obtain ⟨p0, p1, p2, p3, _⟩ := HP.out.cells
  go_enter Tryd.func62, Tryd.ntmps62
  go_upto_region 1 with fail
  rw [HW.out]
  go_wp2_with fail
  refine HS.out.mono ?_
  rintro e w1 ⟨i, rfl, hat, hb⟩
  have HA := Lib.hid hat
  clear hat HS
  obtain ⟨r, hr⟩ : ∃ r, r = fndF fs x m i := ⟨_, rfl⟩
  rw [← hr]
  have HR := Lib.hid hr
  clear hr
  go_wp2
  go_ret2
  exact ⟨i, by rw [← HR.out]; rfl, HA.out, bnext HB.out hb⟩

set_option maxRecDepth 100000 in
set_option maxHeartbeats 2000000 in
theorem sContains (va vb : Value) (xs ys : List Fp) (w : World) (ha : RdF w va xs) (hb : RdF w vb ys) (hs : SM.Srt xs) (hl : xs.length ≤ 1000) :
    Calls Tryd.prog 50 #[(.agg #[.func (.func 71) #[] #[], .func (.func 72) #[] #[], .func (.func 61) #[] #[], .func (.func 73) #[] #[], .func (.func 53) #[] #[], .func (.func 74) #[] #[], .func (.func 75) #[] #[], .func (.func 76) #[] #[], .int .i64 48]), va, vb] w fun e w' => e = .returned (.bool (SM.cons xs ys)) ∧ Below w.heap.size w w' := by
  obtain ⟨aa, ac, rfl, hac, _⟩ := ha.shape
  obtain ⟨ba, bc, rfl, hbc, _⟩ := hb.shape
  obtain ⟨R, hR⟩ : ∃ R, R = SM.cons xs ys := ⟨_, rfl⟩
  rw [← hR]
  have HA := Lib.hid ha
  have HB := Lib.hid hb
  have HS := Lib.hid hs
  have HR := Lib.hid hR
  clear ha hb hs hR
  obtain ⟨w0, HX⟩ := kone w
  have HW := Lib.hid HX.eq
  have HB0 := Lib.hid HX.below
  have HK0 := Lib.hid HX.k
  obtain ⟨K, hK⟩ : ∃ K, w.heap.size = K := ⟨_, rfl⟩
  rw [hK] at HK0
  have HKE := Lib.hid hK
  clear HX hK
  go_enter Tryd.func50, Tryd.ntmps50
  go_upto_region 1 with fail
  rw [HW.out, HKE.out]
  clear HW
  go_wp2
  go_loopw [13] (fun i wr => ∃ k : Nat, k ≤ ys.length ∧ i = .int .i64 k ∧ Below w.heap.size w wr ∧ Hid (KB wr K) ∧ Hid (R = SM.cons xs (ys.drop k))) (fun i _ => ys.length - (intOf i).toNat)
  case atStart => exact ⟨0, Nat.zero_le _, rfl, HB0.out, HK0.out, HR.out⟩
  case round =>
    obtain ⟨k, hk, rfl, hbl, hkb, he⟩ := hrel
    clear HR HB0 HK0
    by_cases hlt : k < ys.length
    · have hq : (k : Int) < (ys.length : Int) := by omega
      have hd := drop_get hlt
      have hk2 := List.getElem?_eq_getElem hlt
      generalize ys[k] = f at hd hk2
      have e1 : Hid (R = (decide (f ∈ xs) && SM.cons xs (ys.drop (k + 1)))) := by show R = _; rw [he.out, hd]; rfl
      obtain ⟨x, m, t, cs⟩ := f
      obtain ⟨b, o, da, dl, dc, hi, hb, c0, c1, c2, c3, hrd⟩ := (HB.out.below hbl).atS k x m t cs hk2
      obtain ⟨wx, HX⟩ := eone wr x m t (.slice da dl dc)
      have HWX := Lib.hid HX.eq
      have HBX := Lib.hid (bnext hbl HX.below)
      have HPX := Lib.hid HX.e
      have HKX := Lib.hid (hkb.out.below HX.below)
      have HRD := Lib.hid (hrd.below HX.below)
      have HF := Lib.hid (sFind (.slice aa xs.length ac) xs x m t da dl dc wx (HA.out.below HBX.out) HS.out hl)
      obtain ⟨B, hB⟩ : ∃ B, wr.heap.size = B := ⟨_, rfl⟩
      rw [hB] at HPX
      have HBE := Lib.hid hB
      clear HX hk2 hd he hrd hbl hkb hB
      obtain ⟨p0, p1, p2, p3, _⟩ := HPX.out.cells
      obtain ⟨g0, g1, g2, g3, g4, g5, g6, g7, g8⟩ := HKX.out.cells
      go_upto_region 4 with fail
      rw [HWX.out, HBE.out]
      go_wp2_with fail
      refine HF.out.mono ?_
      rintro e w1 ⟨i, rfl, hat, hb1⟩
      have HP1 := Lib.hid (HPX.out.below hb1)
      have HK1 := Lib.hid (HKX.out.below hb1)
      have HRD1 := Lib.hid (HRD.out.below hb1)
      have HB1 := Lib.hid (bnext HBX.out hb1)
      clear c0 c1 c2 c3 hi hb p0 p1 p2 p3 g0 g1 g2 g3 g4 g5 g6 g7 g8 HF HPX HKX HRD HBX HWX hb1
      by_cases hf : fndF xs x m i = true
      · obtain ⟨g, hgi, hg1, hg2⟩ := fnd_true hf
        obtain ⟨y, n, u, ds⟩ := g
        simp only at hg1 hg2
        subst hg1 hg2
        obtain ⟨b, o, ea, el, ec, hi, hb, c0, c1, c2, c3, hrd⟩ := (HA.out.below HB1.out).atS i y n u ds hgi
        have hil : i < xs.length := (List.getElem?_eq_some_iff.1 hgi).1
        have hil2 : (i : Int) < (xs.length : Int) := by omega
        have hmem : ((y, n, t, cs) ∈ xs) ↔ (u = t ∧ ds = cs) := by
          constructor
          · intro hm
            have := HS.out.key (List.mem_of_getElem? hgi) hm ⟨rfl, rfl⟩
            cases this; exact ⟨rfl, rfl⟩
          · rintro ⟨rfl, rfl⟩; exact List.mem_of_getElem? hgi
        have hE := fun p : Later w1 => Calls.later (uEqual y n u (.slice ea el ec) ds y n t (.slice da dl dc) cs p.val (hrd.below p.h) (HRD1.out.below p.h))
        have k0 : ∀ p : Later w1, p.val.cell? ⟨b, o, none⟩ = some (.int .i64 y) := fun p => below_cell p.h c0
        have k1 : ∀ p : Later w1, p.val.cell? ⟨b, o + 1, none⟩ = some (.int .i64 n) := fun p => below_cell p.h c1
        have k2 : ∀ p : Later w1, p.val.cell? ⟨b, o + 2, none⟩ = some (.int .i64 u) := fun p => below_cell p.h c2
        have k3 : ∀ p : Later w1, p.val.cell? ⟨b, o + 3, none⟩ = some (.slice ea el ec) := fun p => below_cell p.h c3
        obtain ⟨z0, z1, z2, z3⟩ := lat_e HP1.out
        obtain ⟨_, _, _, _, l4, _⟩ := HK1.out.later
        rw [hf]
        clear hat hf hgi hrd HRD1 c0 c1 c2 c3 hb
        by_cases hds : u = t ∧ ds = cs
        · have e2 := Lib.hid (show R = SM.cons xs (ys.drop (k + 1)) by rw [e1.out, decide_eq_true (hmem.2 hds)]; rfl)
          rw [show UM.eqU y n u ds y n t cs = true from decide_eq_true ⟨rfl, rfl, hds⟩] at hE
          have HE := Lib.hid hE
          clear e1 hE hmem hds
          go_wp2
          refine wp_region_later (by kernel_rfl) (by kernel_rfl) ?_
          repeat (go_big_quiet_step (first | (go_at_call 53; with_reducible exact HE.out _)))
          refine wpQuiet_nil ?_
          rintro _ ⟨p', rfl⟩
          have HB2 := Lib.hid (bnext HB1.out p'.h)
          have HK2 := Lib.hid (HK1.out.below p'.h)
          generalize p'.val = w2 at HB2 HK2 ⊢
          clear k0 k1 k2 k3 z0 z1 z2 z3 l4 HE HB1 HK1 HP1
          go_wp2
          go_roundw
          case rel => exact ⟨k + 1, by omega, by go_num, HB2.out, HK2, e2⟩
          case measure => simp [intOf]; omega
        · have e2 := Lib.hid (show R = false by rw [e1.out, decide_eq_false (fun h => hds (hmem.1 h))]; rfl)
          rw [show UM.eqU y n u ds y n t cs = false from decide_eq_false (fun h => hds h.2.2)] at hE
          have HE := Lib.hid hE
          clear e1 hE hmem hds
          go_wp2
          refine wp_region_later (by kernel_rfl) (by kernel_rfl) ?_
          repeat (go_big_quiet_step (first | (go_at_call 53; with_reducible exact HE.out _)))
          refine wpQuiet_nil ?_
          rintro _ ⟨p', rfl⟩
          have HB2 := Lib.hid (bnext HB1.out p'.h)
          generalize p'.val = w2 at HB2 ⊢
          clear k0 k1 k2 k3 z0 z1 z2 z3 l4 HE HB1
          go_wp2
          go_ret
          rw [e2.out]
          exact ⟨rfl, HB2.out⟩
      · have hf' : fndF xs x m i = false := by simpa using hf
        have e2 := Lib.hid (show R = false by rw [e1.out, decide_eq_false (fun h => fnd_false HS.out hat hf' _ h ⟨rfl, rfl⟩)]; rfl)
        rw [hf']
        clear e1 hat hf hf'
        go_wp2
        go_quiet (fail)
        go_wp2
        go_ret
        rw [e2.out]
        exact ⟨rfl, HB1.out.trans (below_drewN _ _ _)⟩
    · have hq : ¬ ((k : Int) < (ys.length : Int)) := by omega
      have e2 := Lib.hid (show R = true by rw [he.out, List.drop_of_length_le (by omega)]; rfl)
      clear he
      go_wp2
      go_ret
      rw [e2.out]
      exact ⟨rfl, hbl⟩

end Go.Proofs.YtdfablboenfblaaDoor.ST
