/-
  The calls of config.continues, config.Validate and the reference's ValidateConfig: the error that the plain mathematics says. Conditions: the configuration reads.
-/
import Derived.Test.YtacbpphhkkmelaaCBase
import Derived.Test.YtacbpphhkkmelaaJStep
import Derived.Test.YtacbpphhkkmelaaJPropR
namespace Go.Proofs.Ytacbpphhkkmelaa
open Go.RowKit
open JM (Chg)
open CM (Fp)

set_option maxRecDepth 100000 in
set_option maxHeartbeats 1000000 in
theorem cContinues (x m : Int) (u : Value) (a n : Int) (v : Value) (w : World) (hm : 1 ≤ m ∧ m ≤ 3) :
    Calls Try.prog 46 #[pv x m u, pv a n v] w fun e w' => e = .returned (.bool (decide (a = x ∧ n = m - 1))) ∧ Below w.heap.size w w' := by
  have hb := (below_fresh w (.cells #[.int .i64 x, .int .i64 m, u] 45))
  have hb2 := below_fresh (w.alloc (.cells #[.int .i64 x, .int .i64 m, u] 45)) (.cells #[.int .i64 a, .int .i64 n, v] 45)
  have HB := Lib.hid (bnext hb hb2)
  have hs := World.size_alloc w (.cells #[.int .i64 x, .int .i64 m, u] 45)
  obtain ⟨hm1, hm2⟩ := hm
  clear hb hb2
  by_cases h1 : a = x
  · have he : (a == x) = true := beq_t h1
    have e := Lib.hid (show decide (a = x ∧ n = m - 1) = (n == m - 1) by
      by_cases h : n = m - 1
      · simp [h1, h]
      · simp [h])
    rw [e.out]
    clear h1 e
    go_enter Try.func46, Try.ntmps46
    go_wp2
    go_ret
    exact ⟨rfl, HB.out⟩
  · have he : (a == x) = false := beq_f h1
    have e := Lib.hid (show decide (a = x ∧ n = m - 1) = false from decide_eq_false (fun h => h1 h.1))
    rw [e.out]
    go_enter Try.func46, Try.ntmps46
    go_wp2
    go_ret
    exact ⟨rfl, HB.out⟩

theorem errL_step (pr : Int × Int) (f : Fp) (r : List Fp) : CM.errL pr (f :: r) =
    if CM.errF f ≠ 0 then CM.errF f else if JM.cmpP f.1 f.2.1 pr.1 pr.2 ≤ 0 then 7 else if 1 < f.2.1 ∧ ¬ (pr.1 = f.1 ∧ pr.2 = f.2.1 - 1) then 8 else CM.errL (f.1, f.2.1) r := by
  rw [CM.errL]

set_option maxRecDepth 100000 in
set_option maxHeartbeats 4000000 in
theorem gValidate (v : Value) (fs : List Fp) (w : World) (h : RdF w v fs) :
    Calls Try.prog 13 #[v] w fun e w' => e = .returned (.int .i64 (CM.errL (0, 0) fs)) ∧ Below w.heap.size w w' := by
  obtain ⟨ad, c, rfl, hc, hl⟩ := h.shape
  obtain ⟨R, hR⟩ : ∃ R, R = CM.errL (0, 0) fs := ⟨_, rfl⟩
  rw [← hR]
  have H := Lib.hid h
  have HR := Lib.hid hR
  clear h hR
  have hop := OP.fresh w 0 0 (.slice none 0 0)
  have hb0 := below_fresh w (.cells #[.int .i64 0, .int .i64 0, .slice none 0 0] 45)
  have hwb : w.heap.size < w.heap.size + 1 := Nat.lt_succ_self _
  go_enter Try.func13, Try.ntmps13
  go_wp2
  obtain ⟨w0, hw0⟩ : ∃ w0, w.alloc (.cells #[.int .i64 0, .int .i64 0, .slice none 0 0] 45) = w0 := ⟨_, rfl⟩
  rw [hw0] at hop hb0 ⊢
  clear hw0
  go_loopw [9] (fun i wr => ∃ (k : Nat) (pa pn : Int) (sa : Option Addr) (sl sc : Nat), k ≤ fs.length ∧ i = .int .i64 k ∧ OP wr w.heap.size pa pn (.slice sa sl sc) ∧ Below w.heap.size w wr ∧ Hid (R = CM.errL (pa, pn) (fs.drop k))) (fun i _ => fs.length - (intOf i).toNat)
  case atStart => exact ⟨0, 0, 0, none, 0, 0, Nat.zero_le _, rfl, hop, hb0, HR.out⟩
  case round =>
    obtain ⟨k, pa, pn, sa, sl, sc, hk, rfl, hpr, hbl, he⟩ := hrel
    clear HR hop hb0
    by_cases hlt : k < fs.length
    · have hq : (k : Int) < (fs.length : Int) := by omega
      have hd := Lib.hid (drop_get hlt)
      have hk2 := List.getElem?_eq_getElem hlt
      generalize fs[k] = f at hd hk2
      obtain ⟨x, m, cs⟩ := f
      obtain ⟨b, o, da, dl, dc, hi, hb, c0, c1, c2, hrd⟩ := (H.out.below hbl).at_ k x m cs hk2
      have e1 := Lib.hid (he.out.trans ((congrArg (CM.errL (pa, pn)) hd.out).trans (errL_step _ _ _)))
      clear hk2 he hd
      have hbx := below_fresh wr (.cells #[.int .i64 x, .int .i64 m, .slice da dl dc] 45)
      have hpx := OP.fresh wr x m (.slice da dl dc)
      have hV := cValidate x m (.slice da dl dc) cs _ (hrd.below hbx)
      have hpr1 := hpr.below hbx
      have hgw : w.heap.size < wr.heap.size := by
        have := hpr; unfold OP at this; exact (Array.getElem?_eq_some_iff.1 this).1
      obtain ⟨wx, hwx⟩ : ∃ wx, wr.alloc (.cells #[.int .i64 x, .int .i64 m, .slice da dl dc] 45) = wx := ⟨_, rfl⟩
      rw [hwx] at hbx hpx hV hpr1
      have HWX := Lib.hid hwx
      have HBX := Lib.hid (bnext hbl hbx)
      have HPX := Lib.hid hpx
      have HPR := Lib.hid hpr1
      have e2 : Hid (R = if JM.errP x m cs ≠ 0 then JM.errP x m cs else if JM.cmpP x m pa pn ≤ 0 then 7 else if 1 < m ∧ ¬ (pa = x ∧ pn = m - 1) then 8 else CM.errL (x, m) (fs.drop (k + 1))) := e1.out
      have HN := Lib.hid (fun h => CM.errF_num (f := (x, m, cs)) h)
      have HV := Lib.hid hV
      clear hbx hpx hV hpr1 hwx hpr hbl e1 hrd
      by_cases hE : JM.errP x m cs = 0
      · obtain ⟨n1, n2, n3, n4⟩ := HN.out hE
        simp only at n1 n2 n3 n4
        rw [hE] at HV
        have e3 := Lib.hid (e2.out.trans (if_neg (by rw [hE]; simp)))
        clear e2 hE HN
        go_wp2_with fail
        rw [HWX.out]
        refine HV.out.mono ?_
        rintro e w1 ⟨rfl, hb1⟩
        obtain ⟨p0, p1, p2, _, _, _⟩ := (HPX.out.below hb1).cells
        obtain ⟨q0, q1, q2, g0, g1, g2⟩ := (HPR.out.below hb1).cells
        have HPX1 := Lib.hid (HPX.out.below hb1)
        have HPR1 := Lib.hid (HPR.out.below hb1)
        have HB1 := Lib.hid (bnext HBX.out hb1)
        have hc := cCompare x m da dl dc pa pn sa sl sc w1
        clear HPX HPR HBX hb1 HV
        by_cases hC : JM.cmpP x m pa pn ≤ 0
        · have e4 := Lib.hid (e3.out.trans (if_pos hC))
          generalize JM.cmpP x m pa pn = C at hc hC
          have HC := Lib.hid hc
          clear e3 hc
          go_wp2_with fail
          refine HC.out.mono ?_
          rintro e w2 ⟨rfl, hb2⟩
          have HB2 := Lib.hid (bnext HB1.out hb2)
          go_wp2
          go_ret
          rw [e4.out]
          exact ⟨rfl, HB2.out⟩
        · have e4 := Lib.hid (e3.out.trans (if_neg hC))
          generalize JM.cmpP x m pa pn = C at hc hC
          have HC := Lib.hid hc
          clear e3 hc
          go_wp2_with fail
          refine HC.out.mono ?_
          rintro e w2 ⟨rfl, hb2⟩
          have HB2 := Lib.hid (bnext HB1.out hb2)
          have HPX2 := Lib.hid (HPX1.out.below hb2)
          have HPR2 := Lib.hid (HPR1.out.below hb2)
          have hgx : wr.heap.size < w2.heap.size := by
            have := HPX2.out; unfold OP at this; exact (Array.getElem?_eq_some_iff.1 this).1
          clear p0 p1 p2 q0 q1 q2 g0 g1 g2 HPX1 HPR1 HB1 hb2 HC
          obtain ⟨p0, p1, p2, _, _, _⟩ := HPX2.out.cells
          obtain ⟨q0, q1, q2, g0, g1, g2⟩ := HPR2.out.cells
          by_cases hm : 1 < m
          · have hct := cContinues x m (.slice da dl dc) pa pn (.slice sa sl sc) w2 ⟨n3, n4⟩
            by_cases hG : pa = x ∧ pn = m - 1
            · rw [show decide (pa = x ∧ pn = m - 1) = true from decide_eq_true hG] at hct
              have e5 := Lib.hid (e4.out.trans (if_neg (fun h => h.2 hG)))
              have HCT := Lib.hid hct
              clear e4 hct hG
              go_wp2_with fail
              refine HCT.out.mono ?_
              rintro e w3 ⟨rfl, hb3⟩
              have HPX3 := Lib.hid (HPX2.out.below hb3)
              have HPR3 := Lib.hid (HPR2.out.below hb3)
              have HB3 := Lib.hid (bnext HB2.out hb3)
              clear p0 p1 p2 q0 q1 q2 g0 g1 g2 HPX2 HPR2 HB2 hb3 HCT
              obtain ⟨p0, p1, p2, _, _, _⟩ := HPX3.out.cells
              obtain ⟨q0, q1, q2, g0, g1, g2⟩ := HPR3.out.cells
              go_wp2
              go_roundw
              case rel => exact ⟨k + 1, x, m, da, dl, dc, by omega, by go_num, HPR3.out.put3 _ _ _, seen HB3.out (Nat.le_refl _) (only3 _ _ _), e5⟩
              case measure => simp [intOf]; omega
            · rw [show decide (pa = x ∧ pn = m - 1) = false from decide_eq_false hG] at hct
              have e5 := Lib.hid (e4.out.trans (if_pos ⟨hm, hG⟩))
              have HCT := Lib.hid hct
              clear e4 hct hG
              go_wp2_with fail
              refine HCT.out.mono ?_
              rintro e w3 ⟨rfl, hb3⟩
              have HB3 := Lib.hid (bnext HB2.out hb3)
              go_wp2
              go_ret
              rw [e5.out]
              exact ⟨rfl, HB3.out⟩
          · have e5 := Lib.hid (e4.out.trans (if_neg (fun h => hm h.1)))
            clear e4
            go_wp2
            go_roundw
            case rel => exact ⟨k + 1, x, m, da, dl, dc, by omega, by go_num, HPR2.out.put3 _ _ _, seen HB2.out (Nat.le_refl _) (only3 _ _ _), e5⟩
            case measure => simp [intOf]; omega
      · have e3 := Lib.hid (e2.out.trans (if_pos hE))
        have hne : (JM.errP x m cs != 0) = true := bne_t hE
        generalize JM.errP x m cs = E at HV e3 hne
        clear e2 hE HN
        go_wp2_with fail
        rw [HWX.out]
        refine HV.out.mono ?_
        rintro e w1 ⟨rfl, hb1⟩
        have HB1 := Lib.hid (bnext HBX.out hb1)
        go_wp2
        go_ret
        rw [e3.out]
        exact ⟨rfl, HB1.out⟩
    · have hq : ¬ ((k : Int) < (fs.length : Int)) := by omega
      have e2 := Lib.hid (show R = 0 by rw [he.out, List.drop_of_length_le (by omega)]; rfl)
      clear he
      go_wp2
      go_ret
      rw [e2.out]
      exact ⟨rfl, hbl⟩

end Go.Proofs.Ytacbpphhkkmelaa
