/-
  The calls of config.Equal, the reference's has, Contains, Same, EqualConfig, Agree and the laws' Valid. Conditions: the configurations read.
-/
import Derived.Test.YtacbpphhkkmelaaCValR
namespace Go.Proofs.Ytacbpphhkkmelaa
open Go.RowKit
open JM (Chg)
open CM (Fp)

set_option maxRecDepth 100000 in
set_option maxHeartbeats 2000000 in
theorem rHas (v : Value) (fs : List Fp) (x m : Int) (ua : Option Addr) (ul uc : Nat) (w : World) (h : RdF w v fs) :
    Calls Try.prog 54 #[v, pv x m (.slice ua ul uc)] w fun e w' => e = .returned (.bool (CM.hasK fs x m)) ∧ Below w.heap.size w w' := by
  obtain ⟨ad, cap, rfl, hc, _⟩ := h.shape
  obtain ⟨R, hR⟩ : ∃ R, R = CM.hasK fs x m := ⟨_, rfl⟩
  rw [← hR]
  have hb0 := below_fresh w (.cells #[.int .i64 x, .int .i64 m, .slice ua ul uc] 45)
  have hP0 := PBox.fresh w x m (.slice ua ul uc)
  have H := Lib.hid (h.below hb0)
  have HR := Lib.hid hR
  clear h hR
  go_enter Try.func54, Try.ntmps54
  go_wp2
  obtain ⟨w0, hw0⟩ : ∃ w0, w.alloc (.cells #[.int .i64 x, .int .i64 m, .slice ua ul uc] 45) = w0 := ⟨_, rfl⟩
  rw [hw0] at hb0 hP0 H ⊢
  have HP := Lib.hid hP0
  have HB := Lib.hid hb0
  clear hw0 hb0 hP0
  go_loopw [5] (fun i wr => ∃ k : Nat, k ≤ fs.length ∧ i = .int .i64 k ∧ Below w0.heap.size w0 wr ∧ Hid (R = CM.hasK (fs.drop k) x m)) (fun i _ => fs.length - (intOf i).toNat)
  case atStart => exact ⟨0, Nat.zero_le _, rfl, Below.refl _ _, HR.out⟩
  case round =>
    obtain ⟨k, hk, rfl, hbl, he⟩ := hrel
    clear HR
    by_cases hlt : k < fs.length
    · have hq : (k : Int) < (fs.length : Int) := by omega
      have hd := drop_get hlt
      have hk2 := List.getElem?_eq_getElem hlt
      generalize fs[k] = f at hd hk2
      have e1 : Hid (R = ((decide (f.1 = x) && decide (f.2.1 = m)) || CM.hasK (fs.drop (k + 1)) x m)) := by show R = _; rw [he.out, hd]; rfl
      obtain ⟨y, n, cs⟩ := f
      obtain ⟨b, o, da, dl, dc, hi, hb, c0, c1, c2, _⟩ := (H.out.below hbl).at_ k y n cs hk2
      obtain ⟨r0, r1, r2⟩ := HP.out.below hbl
      have z0 : ∀ p : Later wr, p.val.cell? ⟨w.heap.size, 0, none⟩ = some (.int .i64 x) := fun p => below_cell p.h r0
      have z1 : ∀ p : Later wr, p.val.cell? ⟨w.heap.size, 1, none⟩ = some (.int .i64 m) := fun p => below_cell p.h r1
      have z2 : ∀ p : Later wr, p.val.cell? ⟨w.heap.size, 2, none⟩ = some (.slice ua ul uc) := fun p => below_cell p.h r2
      have k0 : ∀ p : Later wr, p.val.cell? ⟨b, o, none⟩ = some (.int .i64 y) := fun p => below_cell p.h c0
      have k1 : ∀ p : Later wr, p.val.cell? ⟨b, o + 1, none⟩ = some (.int .i64 n) := fun p => below_cell p.h c1
      have k2 : ∀ p : Later wr, p.val.cell? ⟨b, o + 2, none⟩ = some (.slice da dl dc) := fun p => below_cell p.h c2
      have hC := fun p : Later wr => rCompareL y n da dl dc x m ua ul uc p
      have hz := @JM.cmpP_zero y n x m
      generalize JM.cmpP y n x m = C at hC hz
      have HC := Lib.hid hC
      clear r0 r1 r2 c0 c1 c2 hC hd hk2 he hb
      by_cases hC0 : C = 0
      · have e2 := Lib.hid (show R = true by rw [e1.out, decide_eq_true (hz.1 hC0).1, decide_eq_true (hz.1 hC0).2]; rfl)
        have hCt : (C == 0) = true := beq_t hC0
        clear e1 hz hC0
        go_wp2
        refine wp_region_later (by kernel_rfl) (by kernel_rfl) ?_
        repeat (go_big_quiet_step (first | (go_at_call 48; with_reducible exact HC.out _)))
        refine wpQuiet_nil ?_
        rintro _ ⟨p', rfl⟩
        have HB2 := Lib.hid (bnext (bnext HB.out hbl) p'.h)
        generalize p'.val = w2 at HB2 ⊢
        go_wp2
        go_ret
        rw [e2.out]
        exact ⟨rfl, HB2.out⟩
      · have e2 := Lib.hid (show R = CM.hasK (fs.drop (k + 1)) x m by
          rw [e1.out]
          by_cases h1 : y = x
          · rw [decide_eq_false (show ¬ n = m from fun h2 => hC0 (hz.2 ⟨h1, h2⟩)), Bool.and_false, Bool.false_or]
          · rw [decide_eq_false (show ¬ y = x from h1), Bool.false_and, Bool.false_or])
        have hCt : (C == 0) = false := beq_f hC0
        clear e1 hz hC0
        go_wp2
        refine wp_region_later (by kernel_rfl) (by kernel_rfl) ?_
        repeat (go_big_quiet_step (first | (go_at_call 48; with_reducible exact HC.out _)))
        refine wpQuiet_nil ?_
        rintro _ ⟨p', rfl⟩
        have HB2 := Lib.hid (bnext hbl p'.h)
        generalize p'.val = w2 at HB2 ⊢
        clear k0 k1 k2 z0 z1 z2 HC hbl
        go_wp2
        go_roundw
        case rel => exact ⟨k + 1, by omega, by go_num, HB2.out, e2⟩
        case measure => simp [intOf]; omega
    · have hq : ¬ ((k : Int) < (fs.length : Int)) := by omega
      have e2 := Lib.hid (show R = false by rw [he.out, List.drop_of_length_le (by omega)]; rfl)
      clear he
      go_wp2
      go_ret
      rw [e2.out]
      exact ⟨rfl, bnext HB.out hbl⟩

set_option maxRecDepth 100000 in
set_option maxHeartbeats 2000000 in
theorem rContains (va vb : Value) (xs ys : List Fp) (w : World) (ha : RdF w va xs) (hb : RdF w vb ys) :
    Calls Try.prog 20 #[va, vb] w fun e w' => e = .returned (.bool (CM.conk xs ys)) ∧ Below w.heap.size w w' := by
  obtain ⟨aa, ac, rfl, hac, _⟩ := ha.shape
  obtain ⟨ba, bc, rfl, hbc, _⟩ := hb.shape
  obtain ⟨R, hR⟩ : ∃ R, R = CM.conk xs ys := ⟨_, rfl⟩
  rw [← hR]
  have HA := Lib.hid ha
  have HB := Lib.hid hb
  have HR := Lib.hid hR
  clear ha hb hR
  go_enter Try.func20, Try.ntmps20
  go_wp2
  go_loopw [5] (fun i wr => ∃ k : Nat, k ≤ ys.length ∧ i = .int .i64 k ∧ Below w.heap.size w wr ∧ Hid (R = CM.conk xs (ys.drop k))) (fun i _ => ys.length - (intOf i).toNat)
  case atStart => exact ⟨0, Nat.zero_le _, rfl, Below.refl _ _, HR.out⟩
  case round =>
    obtain ⟨k, hk, rfl, hbl, he⟩ := hrel
    clear HR
    by_cases hlt : k < ys.length
    · have hq : (k : Int) < (ys.length : Int) := by omega
      have hd := drop_get hlt
      have hk2 := List.getElem?_eq_getElem hlt
      generalize ys[k] = f at hd hk2
      have e1 : Hid (R = (CM.hasK xs f.1 f.2.1 && CM.conk xs (ys.drop (k + 1)))) := by show R = _; rw [he.out, hd]; rfl
      obtain ⟨x, m, cs⟩ := f
      obtain ⟨b, o, da, dl, dc, hi, hb, c0, c1, c2, hrd⟩ := (HB.out.below hbl).at_ k x m cs hk2
      have hF := rHas (.slice aa xs.length ac) xs x m da dl dc _ (HA.out.below hbl)
      simp only at e1
      generalize CM.hasK xs x m = D at hF e1
      have HF := Lib.hid hF
      clear hk2 hd he hF hrd
      cases D
      · have e2 := Lib.hid (e1.out.trans (Bool.false_and _))
        clear e1
        go_wp2_with fail
        refine HF.out.mono ?_
        rintro e w1 ⟨rfl, hb1⟩
        go_wp2
        go_ret
        rw [e2.out]
        exact ⟨rfl, bnext hbl hb1⟩
      · have e2 := Lib.hid (e1.out.trans (Bool.true_and _))
        clear e1
        go_wp2_with fail
        refine HF.out.mono ?_
        rintro e w1 ⟨rfl, hb1⟩
        have HB1 := Lib.hid (bnext hbl hb1)
        clear c0 c1 c2 hi hb HF hbl hb1
        go_wp2
        go_roundw
        case rel => exact ⟨k + 1, by omega, by go_num, HB1.out, e2⟩
        case measure => simp [intOf]; omega
    · have hq : ¬ ((k : Int) < (ys.length : Int)) := by omega
      have e2 := Lib.hid (show R = true by rw [he.out, List.drop_of_length_le (by omega)]; rfl)
      clear he
      go_wp2
      go_ret
      rw [e2.out]
      exact ⟨rfl, hbl⟩

set_option maxRecDepth 100000 in
set_option maxHeartbeats 2000000 in
theorem rSame (va vb : Value) (xs ys : List Fp) (w : World) (ha : RdF w va xs) (hb : RdF w vb ys) :
    Calls Try.prog 22 #[va, vb] w fun e w' => e = .returned (.bool (CM.conk xs ys && CM.conk ys xs)) ∧ Below w.heap.size w w' := by
  obtain ⟨aa, ac, rfl, hac, _⟩ := ha.shape
  obtain ⟨ba, bc, rfl, hbc, _⟩ := hb.shape
  have hc1 := rContains _ _ xs ys w ha hb
  have HC2 := Lib.hid (fun w' (h : Below w.heap.size w w') => rContains _ _ ys xs w' (hb.below h) (ha.below h))
  clear ha hb
  generalize CM.conk xs ys = D at hc1
  have HC1 := Lib.hid hc1
  clear hc1
  generalize CM.conk ys xs = E at HC2
  cases D
  · go_enter Try.func22, Try.ntmps22
    go_wp2_with fail
    refine HC1.out.mono ?_
    rintro e w1 ⟨rfl, hb1⟩
    go_wp2
    go_ret
    exact ⟨rfl, hb1⟩
  · go_enter Try.func22, Try.ntmps22
    go_wp2_with fail
    refine HC1.out.mono ?_
    rintro e w1 ⟨rfl, hb1⟩
    go_wp2_with fail
    refine (HC2.out _ hb1).mono ?_
    rintro e w2 ⟨rfl, hb2⟩
    go_wp2
    go_ret
    exact ⟨rfl, bnext hb1 hb2⟩

/-- 'for i .. if !equal(a[i], b[i]) return false': what is left. -/
theorem eq_drop {xs ys : List Fp} {k : Nat} {f g : Fp} (h1 : xs.drop k = f :: xs.drop (k + 1)) (h2 : ys.drop k = g :: ys.drop (k + 1)) :
    decide (xs.drop k = ys.drop k) = (eqP f.1 f.2.1 f.2.2 g.1 g.2.1 g.2.2 && decide (xs.drop (k + 1) = ys.drop (k + 1))) := by
  obtain ⟨x, m, cs⟩ := f
  obtain ⟨y, n, ds⟩ := g
  rw [h1, h2]
  unfold eqP
  rw [← Bool.decide_and]
  refine decide_eq_decide.2 ?_
  rw [List.cons_eq_cons]
  simp

set_option maxRecDepth 100000 in
set_option maxHeartbeats 2000000 in
theorem rEqualConfig (va vb : Value) (xs ys : List Fp) (w : World) (ha : RdF w va xs) (hb : RdF w vb ys) :
    Calls Try.prog 23 #[va, vb] w fun e w' => e = .returned (.bool (decide (xs = ys))) ∧ Below w.heap.size w w' := by
  obtain ⟨aa, ac, rfl, hac, _⟩ := ha.shape
  obtain ⟨ba, bc, rfl, hbc, _⟩ := hb.shape
  have HA := Lib.hid ha
  have HB := Lib.hid hb
  clear ha hb
  by_cases hlen : xs.length = ys.length
  · obtain ⟨R, hR⟩ : ∃ R, R = decide (xs = ys) := ⟨_, rfl⟩
    rw [← hR]
    have HR := Lib.hid hR
    clear hR
    have HL := Lib.hid hlen
    have hq0 : ((xs.length : Int) != (ys.length : Int)) = false := by simp; omega
    rw [← hlen] at hq0 ⊢
    clear hlen
    go_enter Try.func23, Try.ntmps23
    go_wp2
    go_loopw [5] (fun i wr => ∃ k : Nat, k ≤ xs.length ∧ i = .int .i64 k ∧ Below w.heap.size w wr ∧ Hid (R = decide (xs.drop k = ys.drop k))) (fun i _ => xs.length - (intOf i).toNat)
    case atStart => exact ⟨0, Nat.zero_le _, rfl, Below.refl _ _, HR.out⟩
    case round =>
      obtain ⟨k, hk, rfl, hbl, he⟩ := hrel
      clear HR
      by_cases hlt : k < xs.length
      · have hlt2 : k < ys.length := by rw [← HL.out]; exact hlt
        have hq : (k : Int) < (xs.length : Int) := by omega
        have hatx := List.getElem?_eq_getElem hlt
        have haty := List.getElem?_eq_getElem hlt2
        have hdx := drop_get hlt
        have hdy := drop_get hlt2
        generalize xs[k] = f at hdx hatx
        generalize ys[k] = g at hdy haty
        have e1 := Lib.hid (he.out.trans (eq_drop hdx hdy))
        obtain ⟨x, m, cs⟩ := f
        obtain ⟨y, n, ds⟩ := g
        obtain ⟨b, o, da, dl, dc, hi, hb, c0, c1, c2, hrd⟩ := (HA.out.below hbl).at_ k x m cs hatx
        obtain ⟨b2, o2, ea, el, ec, hi2, hb2, f0, f1, f2, hrd2⟩ := (HB.out.below hbl).at_ k y n ds haty
        rw [← HL.out] at hi2
        have k0 : ∀ p : Later wr, p.val.cell? ⟨b, o, none⟩ = some (.int .i64 x) := fun p => below_cell p.h c0
        have k1 : ∀ p : Later wr, p.val.cell? ⟨b, o + 1, none⟩ = some (.int .i64 m) := fun p => below_cell p.h c1
        have k2 : ∀ p : Later wr, p.val.cell? ⟨b, o + 2, none⟩ = some (.slice da dl dc) := fun p => below_cell p.h c2
        have j0 : ∀ p : Later wr, p.val.cell? ⟨b2, o2, none⟩ = some (.int .i64 y) := fun p => below_cell p.h f0
        have j1 : ∀ p : Later wr, p.val.cell? ⟨b2, o2 + 1, none⟩ = some (.int .i64 n) := fun p => below_cell p.h f1
        have j2 : ∀ p : Later wr, p.val.cell? ⟨b2, o2 + 2, none⟩ = some (.slice ea el ec) := fun p => below_cell p.h f2
        have hE := fun p : Later wr => Calls.later (rEqual x m (.slice da dl dc) cs y n (.slice ea el ec) ds p.val (hrd.below p.h) (hrd2.below p.h))
        simp only at e1
        generalize eqP x m cs y n ds = D at hE e1
        have HE := Lib.hid hE
        clear hatx haty hdx hdy he hrd hrd2 c0 c1 c2 f0 f1 f2 hE hb hb2
        cases D
        · have e2 := Lib.hid (e1.out.trans (Bool.false_and _))
          clear e1
          go_wp2
          refine wp_region_later (by kernel_rfl) (by kernel_rfl) ?_
          repeat (go_big_quiet_step (first | (go_at_call 56; with_reducible exact HE.out _)))
          refine wpQuiet_nil ?_
          rintro _ ⟨p', rfl⟩
          have HB2 := Lib.hid (bnext hbl p'.h)
          generalize p'.val = w2 at HB2 ⊢
          go_wp2
          go_ret
          rw [e2.out]
          exact ⟨rfl, HB2.out⟩
        · have e2 := Lib.hid (e1.out.trans (Bool.true_and _))
          clear e1
          go_wp2
          refine wp_region_later (by kernel_rfl) (by kernel_rfl) ?_
          repeat (go_big_quiet_step (first | (go_at_call 56; with_reducible exact HE.out _)))
          refine wpQuiet_nil ?_
          rintro _ ⟨p', rfl⟩
          have HB2 := Lib.hid (bnext hbl p'.h)
          generalize p'.val = w2 at HB2 ⊢
          clear k0 k1 k2 j0 j1 j2 HE hbl
          go_wp2
          go_roundw
          case rel => exact ⟨k + 1, by omega, by go_num, HB2.out, e2⟩
          case measure => simp [intOf]; omega
      · have hq : ¬ ((k : Int) < (xs.length : Int)) := by omega
        have e2 := Lib.hid (show R = true by rw [he.out, List.drop_of_length_le (by omega), List.drop_of_length_le (by rw [← HL.out]; omega)]; rfl)
        clear he
        go_wp2
        go_ret
        rw [e2.out]
        exact ⟨rfl, hbl⟩
  · have e2 := Lib.hid (show decide (xs = ys) = false from decide_eq_false fun h => hlen (by rw [h]))
    have hq0 : ((xs.length : Int) != (ys.length : Int)) = true := by simp; omega
    clear hlen HA HB
    go_enter Try.func23, Try.ntmps23
    go_wp2
    go_ret
    rw [e2.out]
    exact ⟨rfl, Below.refl _ _⟩

set_option maxRecDepth 100000 in
set_option maxHeartbeats 2000000 in
theorem gEqualFunc (va vb : Value) (xs ys : List Fp) (w : World) (ha : RdF w va xs) (hb : RdF w vb ys) :
    Calls Try.prog 55 #[va, vb, .func (.func 53) #[] #[]] w fun e w' => e = .returned (.bool (decide (xs = ys))) ∧ Below w.heap.size w w' := by
  obtain ⟨aa, ac, rfl, hac, _⟩ := ha.shape
  obtain ⟨ba, bc, rfl, hbc, _⟩ := hb.shape
  have HA := Lib.hid ha
  have HB := Lib.hid hb
  clear ha hb
  by_cases hlen : xs.length = ys.length
  · obtain ⟨R, hR⟩ : ∃ R, R = decide (xs = ys) := ⟨_, rfl⟩
    rw [← hR]
    have HR := Lib.hid hR
    clear hR
    have HL := Lib.hid hlen
    have hq0 : ((xs.length : Int) != (ys.length : Int)) = false := by simp; omega
    rw [← hlen] at hq0 ⊢
    clear hlen
    go_enter Try.func55, Try.ntmps55
    go_wp2
    go_loopw [17] (fun i wr => ∃ k : Nat, k ≤ xs.length ∧ i = .int .i64 k ∧ Below w.heap.size w wr ∧ Hid (R = decide (xs.drop k = ys.drop k))) (fun i _ => xs.length - (intOf i).toNat)
    case atStart => exact ⟨0, Nat.zero_le _, rfl, Below.refl _ _, HR.out⟩
    case round =>
      obtain ⟨k, hk, rfl, hbl, he⟩ := hrel
      clear HR
      by_cases hlt : k < xs.length
      · have hlt2 : k < ys.length := by rw [← HL.out]; exact hlt
        have hq : (k : Int) < (xs.length : Int) := by omega
        have hatx := List.getElem?_eq_getElem hlt
        have haty := List.getElem?_eq_getElem hlt2
        have hdx := drop_get hlt
        have hdy := drop_get hlt2
        generalize xs[k] = f at hdx hatx
        generalize ys[k] = g at hdy haty
        have e1 := Lib.hid (he.out.trans (eq_drop hdx hdy))
        obtain ⟨x, m, cs⟩ := f
        obtain ⟨y, n, ds⟩ := g
        obtain ⟨b, o, da, dl, dc, hi, hb, c0, c1, c2, hrd⟩ := (HA.out.below hbl).at_ k x m cs hatx
        have hbx := below_fresh wr (.cells #[.int .i64 x, .int .i64 m, .slice da dl dc] 45)
        have hpx := PBox.fresh wr x m (.slice da dl dc)
        obtain ⟨wx, hwx⟩ : ∃ wx, wr.alloc (.cells #[.int .i64 x, .int .i64 m, .slice da dl dc] 45) = wx := ⟨_, rfl⟩
        rw [hwx] at hbx hpx
        have hsx : wx.heap.size = wr.heap.size + 1 := by rw [← hwx]; exact World.size_alloc _ _
        obtain ⟨b2, o2, ea, el, ec, hi2, hb2, f0, f1, f2, hrd2⟩ := (HB.out.below hbl).at_ k y n ds haty
        rw [← HL.out] at hi2
        have hby := below_fresh wx (.cells #[.int .i64 y, .int .i64 n, .slice ea el ec] 45)
        have hpy := PBox.fresh wx y n (.slice ea el ec)
        rw [hsx] at hpy
        obtain ⟨wy, hwy⟩ : ∃ wy, wx.alloc (.cells #[.int .i64 y, .int .i64 n, .slice ea el ec] 45) = wy := ⟨_, rfl⟩
        rw [hwy] at hby hpy
        have hE := cEqual x m (.slice da dl dc) cs y n (.slice ea el ec) ds wy ((hrd.below hbx).below hby) ((hrd2.below hbx).below hby)
        have hpx2 := hpx.below hby
        have HBY := Lib.hid (bnext (bnext hbl hbx) hby)
        have HWX := Lib.hid hwx
        have HWY := Lib.hid hwy
        simp only at e1
        generalize eqP x m cs y n ds = D at hE e1
        have HE := Lib.hid hE
        obtain ⟨p0, p1, p2⟩ := hpx2
        obtain ⟨q0, q1, q2⟩ := hpy
        clear hatx haty hdx hdy he hrd hrd2 hE hbx hpx hby hwx hwy hsx
        cases D
        · have e2 := Lib.hid (e1.out.trans (Bool.false_and _))
          clear e1
          go_wp2_with fail
          rw [HWX.out, HWY.out]
          refine HE.out.mono ?_
          rintro e w2 ⟨rfl, hb2⟩
          go_wp2
          go_ret
          rw [e2.out]
          exact ⟨rfl, bnext HBY.out hb2⟩
        · have e2 := Lib.hid (e1.out.trans (Bool.true_and _))
          clear e1
          go_wp2_with fail
          rw [HWX.out, HWY.out]
          refine HE.out.mono ?_
          rintro e w2 ⟨rfl, hb2⟩
          have HB2 := Lib.hid (bnext HBY.out hb2)
          clear p0 p1 p2 q0 q1 q2 c0 c1 c2 f0 f1 f2 hi hi2 HE HBY HWX HWY hbl hb2
          go_wp2
          go_roundw
          case rel => exact ⟨k + 1, by omega, by go_num, HB2.out, e2⟩
          case measure => simp [intOf]; omega
      · have hq : ¬ ((k : Int) < (xs.length : Int)) := by omega
        have e2 := Lib.hid (show R = true by rw [he.out, List.drop_of_length_le (by omega), List.drop_of_length_le (by rw [← HL.out]; omega)]; rfl)
        clear he
        go_wp2
        go_ret
        rw [e2.out]
        exact ⟨rfl, hbl⟩
  · have e2 := Lib.hid (show decide (xs = ys) = false from decide_eq_false fun h => hlen (by rw [h]))
    have hq0 : ((xs.length : Int) != (ys.length : Int)) = true := by simp; omega
    clear hlen HA HB
    go_enter Try.func55, Try.ntmps55
    go_wp2
    go_ret
    rw [e2.out]
    exact ⟨rfl, Below.refl _ _⟩

set_option maxRecDepth 100000 in
set_option maxHeartbeats 1000000 in
theorem gEqual (va vb : Value) (xs ys : List Fp) (w : World) (ha : RdF w va xs) (hb : RdF w vb ys) :
    Calls Try.prog 21 #[va, vb] w fun e w' => e = .returned (.bool (decide (xs = ys))) ∧ Below w.heap.size w w' := by
  obtain ⟨aa, ac, rfl, hac, _⟩ := ha.shape
  obtain ⟨ba, bc, rfl, hbc, _⟩ := hb.shape
  have HE := Lib.hid (gEqualFunc _ _ xs ys w ha hb)
  clear ha hb
  go_enter Try.func21, Try.ntmps21
  go_wp2_with fail
  refine HE.out.mono ?_
  rintro e w2 ⟨rfl, hb2⟩
  go_wp2
  go_ret
  exact ⟨rfl, hb2⟩

end Go.Proofs.Ytacbpphhkkmelaa
