/-
  The calls of the reference's Includes, ValidateCert, EqualCert, Newer, Latest and Start. Conditions: what comes in reads.
-/
import Derived.Test.YtfdgoehfkfdgaaaHBase
namespace Go.Proofs.Ytfdgoehfkfdgaaa
open Go.RowKit
open JM (Chg)
open CM (Fp)

set_option maxRecDepth 100000 in
set_option maxHeartbeats 4000000 in
theorem rIncludes (va vb : Value) (xs ys : List Fp) (w : World) (ha : RdF w va xs) (hb : RdF w vb ys) :
    Calls Try.prog 36 #[va, vb] w fun e w' => e = .returned (.bool (CM.incl xs ys)) ∧ Below w.heap.size w w' := by
  obtain ⟨aa, ac, rfl, hac, _⟩ := ha.shape
  obtain ⟨ba, bc, rfl, hbc, _⟩ := hb.shape
  obtain ⟨R, hR⟩ : ∃ R, R = CM.incl xs ys := ⟨_, rfl⟩
  rw [← hR]
  have HA := Lib.hid ha
  have HB := Lib.hid hb
  have HR := Lib.hid hR
  clear ha hb hR
  go_enter Try.func36, Try.ntmps36
  go_wp2
  go_loopw [5] (fun i wr => ∃ k : Nat, k ≤ ys.length ∧ i = .int .i64 k ∧ Hid (Below w.heap.size w wr) ∧ Hid (R = CM.incl xs (ys.drop k))) (fun i _ => ys.length - (intOf i).toNat)
  case atStart => exact ⟨0, Nat.zero_le _, rfl, Below.refl _ _, HR.out⟩
  case round =>
    obtain ⟨k, hk, rfl, hbl, he⟩ := hrel
    clear HR
    by_cases hlt : k < ys.length
    · have hq : (k : Int) < (ys.length : Int) := by omega
      have hd := drop_get hlt
      have hk2 := List.getElem?_eq_getElem hlt
      generalize ys[k] = f at hd hk2
      obtain ⟨x, m, cs⟩ := f
      have e1 : Hid (R = ((xs.any fun g => eqP g.1 g.2.1 g.2.2 x m cs) && CM.incl xs (ys.drop (k + 1)))) := by show R = _; rw [he.out, hd]; rfl
      obtain ⟨b, o, da, dl, dc, hi, hbw, c0, c1, c2, hrd⟩ := HB.out.at_ k x m cs hk2
      have HRD := Lib.hid hrd
      have C0 := Lib.hid c0
      have C1 := Lib.hid c1
      have C2 := Lib.hid c2
      clear hd hk2 he c0 c1 c2 hrd
      go_wp2
      obtain ⟨wo, hwo⟩ : ∃ wo, wo = wr := ⟨_, rfl⟩
      rw [← hwo] at hbl ⊢
      clear hwo
      go_loopw [6, 7] (fun f i wr => ∃ (j : Nat) (D : Bool), j ≤ xs.length ∧ f = .bool D ∧ i = .int .i64 j ∧ Hid (Below w.heap.size w wr) ∧ Hid (R = ((D || (xs.drop j).any fun g => eqP g.1 g.2.1 g.2.2 x m cs) && CM.incl xs (ys.drop (k + 1))))) (fun _ i _ => xs.length - (intOf i).toNat)
      case atStart => exact ⟨0, false, Nat.zero_le _, rfl, rfl, hbl.out, e1.out⟩
      case round =>
        clear hbl e1
        obtain ⟨j, D, hj, rfl, rfl, hbl, he⟩ := hrel
        by_cases hlt2 : j < xs.length
        · have hq2 : (j : Int) < (xs.length : Int) := by omega
          have hd := drop_get hlt2
          have hk2 := List.getElem?_eq_getElem hlt2
          generalize xs[j] = g at hd hk2
          obtain ⟨y, n, ds⟩ := g
          have e1 : Hid (R = (((D || eqP y n ds x m cs) || (xs.drop (j + 1)).any fun g => eqP g.1 g.2.1 g.2.2 x m cs) && CM.incl xs (ys.drop (k + 1)))) := by
            show R = _
            rw [he.out, hd, List.any_cons, Bool.or_assoc]
          obtain ⟨b2, o2, ea, el, ec, hi2, hbw2, f0, f1, f2, hrd2⟩ := HA.out.at_ j y n ds hk2
          have HE := Lib.hid (fun p : Later wr => Calls.later (rEqual y n (.slice ea el ec) ds x m (.slice da dl dc) cs p.val ((hrd2.below hbl.out).below p.h) ((HRD.out.below hbl.out).below p.h)))
          have k0 : ∀ p : Later wr, p.val.cell? ⟨b, o, none⟩ = some (.int .i64 x) := fun p => below_cell p.h (below_cell hbl.out C0.out)
          have k1 : ∀ p : Later wr, p.val.cell? ⟨b, o + 1, none⟩ = some (.int .i64 m) := fun p => below_cell p.h (below_cell hbl.out C1.out)
          have k2 : ∀ p : Later wr, p.val.cell? ⟨b, o + 2, none⟩ = some (.slice da dl dc) := fun p => below_cell p.h (below_cell hbl.out C2.out)
          have j0 : ∀ p : Later wr, p.val.cell? ⟨b2, o2, none⟩ = some (.int .i64 y) := fun p => below_cell p.h (below_cell hbl.out f0)
          have j1 : ∀ p : Later wr, p.val.cell? ⟨b2, o2 + 1, none⟩ = some (.int .i64 n) := fun p => below_cell p.h (below_cell hbl.out f1)
          have j2 : ∀ p : Later wr, p.val.cell? ⟨b2, o2 + 2, none⟩ = some (.slice ea el ec) := fun p => below_cell p.h (below_cell hbl.out f2)
          generalize eqP y n ds x m cs = Q at HE e1
          have HBL := Lib.hid hbl.out
          clear f0 f1 f2 hrd2 hk2 hd he hbl
          cases D
          · go_wp2
            refine wp_region_later (by kernel_rfl) (by kernel_rfl) ?_
            repeat (go_big_quiet_step (first | (go_at_call 43; with_reducible exact HE.out _)))
            refine wpQuiet_nil ?_
            rintro _ ⟨p', rfl⟩
            have HB2 := Lib.hid (bnext HBL.out p'.h)
            generalize p'.val = w2 at HB2 ⊢
            clear k0 k1 k2 j0 j1 j2 HE HBL
            go_wp2
            go_roundw
            case rel => exact ⟨j + 1, Q, by omega, rfl, by go_num, HB2, by show _ = _; rw [e1.out]; rfl⟩
            case measure => simp [intOf]; omega
          · go_wp2
            refine wp_region_later (by kernel_rfl) (by kernel_rfl) ?_
            repeat (go_big_quiet_step (fail))
            refine wpQuiet_nil ?_
            rintro _ ⟨p', rfl⟩
            have HB2 := Lib.hid (bnext HBL.out p'.h)
            generalize p'.val = w2 at HB2 ⊢
            clear k0 k1 k2 j0 j1 j2 HE HBL
            go_wp2
            go_roundw
            case rel => exact ⟨j + 1, true, by omega, rfl, by go_num, HB2, by show _ = _; rw [e1.out]; rfl⟩
            case measure => simp [intOf]; omega
        · have hq2 : ¬ ((j : Int) < (xs.length : Int)) := by omega
          have e2 := Lib.hid (show R = (D && CM.incl xs (ys.drop (k + 1))) by rw [he.out, List.drop_of_length_le (by omega), List.any_nil, Bool.or_false])
          clear he HRD C0 C1 C2 hi hbw
          cases D
          · have e3 := Lib.hid (e2.out.trans (Bool.false_and _))
            clear e2
            go_wp2
            go_ret
            rw [e3.out]
            exact ⟨rfl, hbl.out⟩
          · have e3 := Lib.hid (e2.out.trans (Bool.true_and _))
            clear e2
            go_wp2
            go_roundw
            case rel => exact ⟨k + 1, by omega, by go_num, hbl, e3⟩
            case measure => simp [intOf]; omega
    · have hq : ¬ ((k : Int) < (ys.length : Int)) := by omega
      have e2 := Lib.hid (show R = true by rw [he.out, List.drop_of_length_le (by omega)]; rfl)
      clear he
      go_wp2
      go_ret
      rw [e2.out]
      exact ⟨rfl, hbl.out⟩

set_option maxRecDepth 100000 in
set_option maxHeartbeats 4000000 in
theorem rValidateCert (a b : Value) (f t : List Fp) (w : World) (ha : RdF w a f) (hb : RdF w b t) :
    Calls Try.prog 11 #[cev a b] w fun e w' => e = .returned (.int .i64 (CM.errC f t)) ∧ Below w.heap.size w w' := by
  obtain ⟨R, hR⟩ : ∃ R, R = CM.errC f t := ⟨_, rfl⟩
  rw [← hR]
  unfold CM.errC at hR
  rw [← CM.incl_cons] at hR
  obtain ⟨aa, ac, rfl, hac, _⟩ := ha.shape
  obtain ⟨ba, bc, rfl, hbc, _⟩ := hb.shape
  have hb0 := below_fresh w (.cells #[.slice aa f.length ac, .slice ba t.length bc] 25)
  have hX0 := XB.fresh w (.slice aa f.length ac) (.slice ba t.length bc)
  obtain ⟨w0, hw0⟩ : ∃ w0, w.alloc (.cells #[.slice aa f.length ac, .slice ba t.length bc] 25) = w0 := ⟨_, rfl⟩
  rw [hw0] at hb0 hX0
  have HX := Lib.hid hX0
  have HB0 := Lib.hid hb0
  have HF := Lib.hid (fun w' (h : Below w0.heap.size w0 w') => rValidateC _ f w' ((ha.below hb0).below h))
  have HT := Lib.hid (fun w' (h : Below w0.heap.size w0 w') => rValidateC _ t w' ((hb.below hb0).below h))
  have HI := Lib.hid (fun w' (h : Below w0.heap.size w0 w') => rIncludes _ _ t f w' ((hb.below hb0).below h) ((ha.below hb0).below h))
  have HW := Lib.hid hw0
  generalize CM.errL (0, 0) f = E1 at HF hR
  generalize CM.errL (0, 0) t = E2 at HT hR
  generalize CM.incl t f = I at HI hR
  obtain ⟨c0, c1, _⟩ := hX0.cells
  have HR := Lib.hid hR
  clear hR ha hb hb0 hX0 hw0
  by_cases h1 : E1 = 0
  case neg =>
    have e := Lib.hid (show R = E1 by rw [HR.out, if_pos h1])
    have hne : (E1 != 0) = true := bne_t h1
    clear HR h1
    go_enter Try.func11, Try.ntmps11
    go_upto_region 1 with fail
    rw [HW.out]
    go_wp2_with fail
    refine (HF.out w0 (Below.refl _ _)).mono ?_
    rintro e w1 ⟨rfl, hb1⟩
    have d0 := below_cell hb1 c0
    have d1 := below_cell hb1 c1
    have HF1 := Lib.hid (HF.out w1 hb1)
    have HB1 := Lib.hid (bnext HB0.out hb1)
    clear HF hb1 c0 c1
    go_wp2_with fail
    refine HF1.out.mono ?_
    rintro e w2 ⟨rfl, hb2⟩
    have HB2 := Lib.hid (bnext HB1.out hb2)
    go_wp2
    go_ret
    rw [e.out]
    exact ⟨rfl, HB2.out⟩
  subst h1
  by_cases h2 : E2 = 0
  case neg =>
    have e := Lib.hid (show R = E2 by rw [HR.out, if_neg (by simp), if_pos h2])
    have hne : (E2 != 0) = true := bne_t h2
    clear HR h2
    go_enter Try.func11, Try.ntmps11
    go_upto_region 1 with fail
    rw [HW.out]
    go_wp2_with fail
    refine (HF.out w0 (Below.refl _ _)).mono ?_
    rintro e w1 ⟨rfl, hb1⟩
    have d0 := below_cell hb1 c0
    have d1 := below_cell hb1 c1
    have HT1 := Lib.hid (fun w2 (h : Below w1.heap.size w1 w2) => HT.out w2 (bnext hb1 h))
    have HB1 := Lib.hid (bnext HB0.out hb1)
    clear HF HT hb1 c0 c1
    go_wp2_with fail
    refine (HT1.out w1 (Below.refl _ _)).mono ?_
    rintro e w2 ⟨rfl, hb2⟩
    have g0 := below_cell hb2 d0
    have g1 := below_cell hb2 d1
    have HT2 := Lib.hid (HT1.out w2 hb2)
    have HB2 := Lib.hid (bnext HB1.out hb2)
    clear HT1 hb2 d0 d1
    go_wp2_with fail
    refine HT2.out.mono ?_
    rintro e w3 ⟨rfl, hb3⟩
    have HB3 := Lib.hid (bnext HB2.out hb3)
    go_wp2
    go_ret
    rw [e.out]
    exact ⟨rfl, HB3.out⟩
  subst h2
  have e := Lib.hid (show R = if I = true then 0 else 2 by rw [HR.out, if_neg (by simp), if_neg (by simp)])
  clear HR
  go_enter Try.func11, Try.ntmps11
  go_upto_region 1 with fail
  rw [HW.out]
  go_wp2_with fail
  refine (HF.out w0 (Below.refl _ _)).mono ?_
  rintro e w1 ⟨rfl, hb1⟩
  have d0 := below_cell hb1 c0
  have d1 := below_cell hb1 c1
  have HT1 := Lib.hid (HT.out w1 hb1)
  have HI1 := Lib.hid (fun w2 (h : Below w1.heap.size w1 w2) => HI.out w2 (bnext hb1 h))
  have HB1 := Lib.hid (bnext HB0.out hb1)
  clear HF HT HI hb1 c0 c1
  go_wp2_with fail
  refine HT1.out.mono ?_
  rintro e w2 ⟨rfl, hb2⟩
  have g0 := below_cell hb2 d0
  have g1 := below_cell hb2 d1
  have HI2 := Lib.hid (HI1.out w2 hb2)
  have HB2 := Lib.hid (bnext HB1.out hb2)
  clear HT1 HI1 hb2 d0 d1
  go_wp2_with fail
  refine HI2.out.mono ?_
  rintro e w3 ⟨rfl, hb3⟩
  have HB3 := Lib.hid (bnext HB2.out hb3)
  clear g0 g1 hb3 HI2
  cases I
  · go_wp2
    go_ret
    rw [‹Hid (R = _)›.out]
    exact ⟨rfl, HB3.out⟩
  · go_wp2
    go_ret
    rw [‹Hid (R = _)›.out]
    exact ⟨rfl, HB3.out⟩

/-- Two certificates that come in are boxed. -/
theorem twoX (w : World) (a b c d : Value) :
    ∃ w0, (w.alloc (.cells #[a, b] 25)).alloc (.cells #[c, d] 25) = w0 ∧ XB w0 w.heap.size a b ∧ XB w0 (w.heap.size + 1) c d ∧ Below w.heap.size w w0 := by
  have b0 := below_fresh w (.cells #[a, b] 25)
  have x0 := XB.fresh w a b
  have s0 := World.size_alloc w (.cells #[a, b] 25)
  generalize w.alloc (.cells #[a, b] 25) = w1 at b0 x0 s0
  have b1 := below_fresh w1 (.cells #[c, d] 25)
  have x1 := XB.fresh w1 c d
  rw [s0] at x1
  exact ⟨_, rfl, x0.below b1, x1, bnext b0 b1⟩
set_option maxRecDepth 100000 in
set_option maxHeartbeats 4000000 in
theorem rEqualCert (a b c d : Value) (f t f' t' : List Fp) (w : World) (ha : RdF w a f) (hb : RdF w b t) (hc : RdF w c f') (hd : RdF w d t') :
    Calls Try.prog 14 #[cev a b, cev c d] w fun e w' => e = .returned (.bool (decide (f = f') && decide (t = t'))) ∧ Below w.heap.size w w' := by
  obtain ⟨aa, ac, rfl, hac, _⟩ := ha.shape
  obtain ⟨ba, bc, rfl, hbc, _⟩ := hb.shape
  obtain ⟨ca, cc, rfl, hcc, _⟩ := hc.shape
  obtain ⟨da, dc, rfl, hdc, _⟩ := hd.shape
  obtain ⟨w0, hw0, hX, hY, hb0⟩ := twoX w (.slice aa f.length ac) (.slice ba t.length bc) (.slice ca f'.length cc) (.slice da t'.length dc)
  have HB0 := Lib.hid hb0
  have HW := Lib.hid hw0
  replace ha := ha.below hb0
  replace hb := hb.below hb0
  replace hc := hc.below hb0
  replace hd := hd.below hb0
  obtain ⟨x0, x1, _⟩ := hX.cells
  obtain ⟨y0, y1, _⟩ := hY.cells
  have H1 := Lib.hid (fun w' (h : Below w0.heap.size w0 w') => rEqualConfig _ _ f f' w' (ha.below h) (hc.below h))
  have H2 := Lib.hid (fun w' (h : Below w0.heap.size w0 w') => rEqualConfig _ _ t t' w' (hb.below h) (hd.below h))
  generalize decide (f = f') = P at H1
  generalize decide (t = t') = Q at H2
  clear ha hb hc hd hX hY hb0 hw0
  cases P
  · go_enter Try.func14, Try.ntmps14
    go_upto_region 1 with fail
    rw [HW.out]
    go_wp2_with fail
    refine (H1.out w0 (Below.refl _ _)).mono ?_
    rintro e w1 ⟨rfl, hb1⟩
    have HB1 := Lib.hid (bnext HB0.out hb1)
    go_wp2
    go_ret
    exact ⟨rfl, HB1.out⟩
  · go_enter Try.func14, Try.ntmps14
    go_upto_region 1 with fail
    rw [HW.out]
    go_wp2_with fail
    refine (H1.out w0 (Below.refl _ _)).mono ?_
    rintro e w1 ⟨rfl, hb1⟩
    have z0 := below_cell hb1 x0
    have z1 := below_cell hb1 x1
    have z2 := below_cell hb1 y0
    have z3 := below_cell hb1 y1
    have HB1 := Lib.hid (bnext HB0.out hb1)
    have HC2 := Lib.hid (H2.out w1 hb1)
    clear H1 H2 hb1 x0 x1 y0 y1
    go_wp2_with fail
    refine HC2.out.mono ?_
    rintro e w2 ⟨rfl, hb2⟩
    have HB2 := Lib.hid (bnext HB1.out hb2)
    go_wp2
    go_ret
    exact ⟨rfl, HB2.out⟩

set_option maxRecDepth 100000 in
set_option maxHeartbeats 4000000 in
theorem rNewerC (a b c d : Value) (f t f' t' : List Fp) (w : World) (ha : RdF w a f) (hb : RdF w b t) (hc : RdF w c f') (hd : RdF w d t') :
    Calls Try.prog 16 #[cev a b, cev c d] w fun e w' => e = .returned (.bool (CM.newr t t')) ∧ Below w.heap.size w w' := by
  obtain ⟨aa, ac, rfl, hac, _⟩ := ha.shape
  obtain ⟨ba, bc, rfl, hbc, _⟩ := hb.shape
  obtain ⟨ca, cc, rfl, hcc, _⟩ := hc.shape
  obtain ⟨da, dc, rfl, hdc, _⟩ := hd.shape
  obtain ⟨w0, hw0, hX, hY, hb0⟩ := twoX w (.slice aa f.length ac) (.slice ba t.length bc) (.slice ca f'.length cc) (.slice da t'.length dc)
  have HB0 := Lib.hid hb0
  have HW := Lib.hid hw0
  replace ha := ha.below hb0
  replace hb := hb.below hb0
  replace hc := hc.below hb0
  replace hd := hd.below hb0
  obtain ⟨x0, x1, _⟩ := hX.cells
  obtain ⟨y0, y1, _⟩ := hY.cells
  have H1 := Lib.hid (fun w' (h : Below w0.heap.size w0 w') => rContains _ _ t t' w' (hb.below h) (hd.below h))
  have H2 := Lib.hid (fun w' (h : Below w0.heap.size w0 w') => rContains _ _ t' t w' (hd.below h) (hb.below h))
  unfold CM.newr
  generalize CM.conk t t' = P at H1
  generalize CM.conk t' t = Q at H2
  clear ha hb hc hd hX hY hb0 hw0
  cases P
  · go_enter Try.func16, Try.ntmps16
    go_upto_region 1 with fail
    rw [HW.out]
    go_wp2_with fail
    refine (H1.out w0 (Below.refl _ _)).mono ?_
    rintro e w1 ⟨rfl, hb1⟩
    have HB1 := Lib.hid (bnext HB0.out hb1)
    go_wp2
    go_ret
    exact ⟨rfl, HB1.out⟩
  · go_enter Try.func16, Try.ntmps16
    go_upto_region 1 with fail
    rw [HW.out]
    go_wp2_with fail
    refine (H1.out w0 (Below.refl _ _)).mono ?_
    rintro e w1 ⟨rfl, hb1⟩
    have z0 := below_cell hb1 x0
    have z1 := below_cell hb1 x1
    have z2 := below_cell hb1 y0
    have z3 := below_cell hb1 y1
    have HB1 := Lib.hid (bnext HB0.out hb1)
    have HC2 := Lib.hid (H2.out w1 hb1)
    clear H1 H2 hb1 x0 x1 y0 y1
    go_wp2_with fail
    refine HC2.out.mono ?_
    rintro e w2 ⟨rfl, hb2⟩
    have HB2 := Lib.hid (bnext HB1.out hb2)
    cases Q
    · go_wp2
      go_ret
      exact ⟨rfl, HB2.out⟩
    · go_wp2
      go_ret
      exact ⟨rfl, HB2.out⟩

set_option maxRecDepth 100000 in
set_option maxHeartbeats 4000000 in
theorem rStart (a b c d : Value) (f t f' t' : List Fp) (w : World) (ha : RdF w a f) (hb : RdF w b t) (hc : RdF w c f') (hd : RdF w d t') :
    Calls Try.prog 21 #[cev a b, cev c d] w fun e w' => e = .returned (if (CM.conk t t' && CM.conk t' f) = true then d else a) ∧ Below w.heap.size w w' := by
  obtain ⟨aa, ac, rfl, hac, _⟩ := ha.shape
  obtain ⟨ba, bc, rfl, hbc, _⟩ := hb.shape
  obtain ⟨ca, cc, rfl, hcc, _⟩ := hc.shape
  obtain ⟨da, dc, rfl, hdc, _⟩ := hd.shape
  obtain ⟨w0, hw0, hX, hY, hb0⟩ := twoX w (.slice aa f.length ac) (.slice ba t.length bc) (.slice ca f'.length cc) (.slice da t'.length dc)
  have HB0 := Lib.hid hb0
  have HW := Lib.hid hw0
  replace ha := ha.below hb0
  replace hb := hb.below hb0
  replace hc := hc.below hb0
  replace hd := hd.below hb0
  obtain ⟨x0, x1, _⟩ := hX.cells
  obtain ⟨y0, y1, _⟩ := hY.cells
  have H1 := Lib.hid (fun w' (h : Below w0.heap.size w0 w') => rContains _ _ t t' w' (hb.below h) (hd.below h))
  have H2 := Lib.hid (fun w' (h : Below w0.heap.size w0 w') => rContains _ _ t' f w' (hd.below h) (ha.below h))
  generalize CM.conk t t' = P at H1
  generalize CM.conk t' f = Q at H2
  clear ha hb hc hd hX hY hb0 hw0
  cases P
  · go_enter Try.func21, Try.ntmps21
    go_upto_region 1 with fail
    rw [HW.out]
    go_wp2_with fail
    refine (H1.out w0 (Below.refl _ _)).mono ?_
    rintro e w1 ⟨rfl, hb1⟩
    have HB1 := Lib.hid (bnext HB0.out hb1)
    have z0 := below_cell hb1 x0
    have z1 := below_cell hb1 x1
    go_wp2
    go_ret
    exact ⟨rfl, HB1.out⟩
  · go_enter Try.func21, Try.ntmps21
    go_upto_region 1 with fail
    rw [HW.out]
    go_wp2_with fail
    refine (H1.out w0 (Below.refl _ _)).mono ?_
    rintro e w1 ⟨rfl, hb1⟩
    have z0 := below_cell hb1 x0
    have z1 := below_cell hb1 x1
    have z2 := below_cell hb1 y0
    have z3 := below_cell hb1 y1
    have HB1 := Lib.hid (bnext HB0.out hb1)
    have HC2 := Lib.hid (H2.out w1 hb1)
    clear H1 H2 hb1 x0 x1 y0 y1
    go_wp2_with fail
    refine HC2.out.mono ?_
    rintro e w2 ⟨rfl, hb2⟩
    have HB2 := Lib.hid (bnext HB1.out hb2)
    have g0 := below_cell hb2 z0
    have g3 := below_cell hb2 z3
    clear z0 z1 z2 z3 hb2
    cases Q
    · go_wp2
      go_ret
      exact ⟨rfl, HB2.out⟩
    · go_wp2
      go_ret
      exact ⟨rfl, HB2.out⟩
/-- A certificate that lies in a block of its own is what the call gives. -/
theorem certRet {fn : Func} {p : Tmp} {R : Ending → World → Prop} {a : Act} {w : World} {g : Nat} {x y : Value} (h : fn.results = #[.cell p 25]) (hp : a.tmps.getD p undef = .pointer (some ⟨g, 0, none⟩)) (hg : XB w g x y)
    (hd : a.defers = []) (hR : R (.returned (cev x y)) w) : bodyPost Try.prog fn R .ret a w :=
  bodyPost_ret (results_cell_row (P := Try.prog) h a.tmps w g 25 _ _ _ hp hg Try.underlying25 rfl (by kernel_rfl)) hd hR

set_option maxRecDepth 100000 in
set_option maxHeartbeats 4000000 in
theorem rLatest (a b c d : Value) (f t f' t' : List Fp) (w : World) (ha : RdF w a f) (hb : RdF w b t) (hc : RdF w c f') (hd : RdF w d t') :
    Calls Try.prog 18 #[cev a b, cev c d] w fun e w' => e = .returned (if CM.newr t' t = true then cev c d else cev a b) ∧ Below w.heap.size w w' := by
  obtain ⟨aa, ac, rfl, hac, _⟩ := ha.shape
  obtain ⟨ba, bc, rfl, hbc, _⟩ := hb.shape
  obtain ⟨ca, cc, rfl, hcc, _⟩ := hc.shape
  obtain ⟨da, dc, rfl, hdc, _⟩ := hd.shape
  obtain ⟨w1, hw1, hX, hY, hb1⟩ := twoX w (.slice aa f.length ac) (.slice ba t.length bc) (.slice ca f'.length cc) (.slice da t'.length dc)
  have hs1 : w1.heap.size = w.heap.size + 1 + 1 := by rw [← hw1, World.size_alloc, World.size_alloc]
  have hb2 := below_fresh w1 (.cells #[.slice none 0 0, .slice none 0 0] 25)
  have hZ := XB.fresh w1 (.slice none 0 0) (.slice none 0 0)
  obtain ⟨w0, hw0⟩ : ∃ w0, w1.alloc (.cells #[.slice none 0 0, .slice none 0 0] 25) = w0 := ⟨_, rfl⟩
  rw [hw0, hs1] at hZ
  rw [hw0] at hb2
  rw [← hw1] at hw0
  have hb0 := bnext hb1 hb2
  have HX := Lib.hid (hX.below hb2)
  have HY := Lib.hid (hY.below hb2)
  have HZ := Lib.hid hZ
  have HB0 := Lib.hid hb0
  have HW := Lib.hid hw0
  have H1 := Lib.hid (rNewerC _ _ _ _ f' t' f t w0 (hc.below hb0) (hd.below hb0) (ha.below hb0) (hb.below hb0))
  generalize CM.newr t' t = P at H1
  obtain ⟨x0, x1, _⟩ := HX.out.cells
  obtain ⟨y0, y1, _⟩ := HY.out.cells
  have HSZ := Lib.hid (show w.heap.size ≤ w.heap.size + 1 + 1 by omega)
  clear ha hb hc hd hX hY hZ hb0 hw0 hb1 hb2 hw1 hs1
  go_enter Try.func18, Try.ntmps18
  go_upto_region 1 with fail
  rw [HW.out]
  go_wp2_with fail
  refine H1.out.mono ?_
  rintro e w2 ⟨rfl, hb2⟩
  have HZ2 := Lib.hid (HZ.out.below hb2)
  have HB2 := Lib.hid (bnext HB0.out hb2)
  obtain ⟨z0, z1, g0, g1⟩ := HZ2.out.cells
  have p0 := below_cell hb2 x0
  have p1 := below_cell hb2 x1
  have q0 := below_cell hb2 y0
  have q1 := below_cell hb2 y1
  clear hb2 x0 x1 y0 y1 HX HY HZ HB0 H1 HW
  cases P
  · go_wp2
    exact certRet rfl rfl (HZ2.out.put _ _) rfl ⟨rfl, seen HB2.out HSZ.out (only2 _ _)⟩
  · go_wp2
    exact certRet rfl rfl (HZ2.out.put _ _) rfl ⟨rfl, seen HB2.out HSZ.out (only2 _ _)⟩
end Go.Proofs.Ytfdgoehfkfdgaaa
