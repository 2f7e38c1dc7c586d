/-
  The call of the reference's ValidateConfig: the error that the plain mathematics says. Conditions: the configuration reads.
-/
import Derived.Test.YtacbpphhkkmelaaCVal
namespace Go.Proofs.Ytacbpphhkkmelaa
open Go.RowKit
open JM (Chg)
open CM (Fp)

/-- The identifier ahead of place k. -/
def pre (fs : List Fp) (k : Nat) : Int × Int := if k = 0 then (0, 0) else ((fs.getD (k - 1) (0, 0, [])).1, (fs.getD (k - 1) (0, 0, [])).2.1)
theorem pre_succ {fs : List Fp} {k : Nat} {f : Fp} (h : fs[k]? = some f) : pre fs (k + 1) = (f.1, f.2.1) := by simp [pre, List.getD, h]
/-- A call that only reads, or makes memory, at any later world. -/
theorem rCompareL {w : World} (a m : Int) (ua : Option Addr) (ul uc : Nat) (b n : Int) (va : Option Addr) (vl vc : Nat) (p : Later w) :
    Calls Try.prog 48 #[pv a m (.slice ua ul uc), pv b n (.slice va vl vc)] p.val fun e w'' => e = .returned (.int .i64 (JM.cmpP a m b n)) ∧ ∃ q : Later w, w'' = q.val :=
  Calls.later (rCompare a m ua ul uc b n va vl vc p.val)

set_option maxRecDepth 100000 in
set_option maxHeartbeats 4000000 in
theorem rValidateC (v : Value) (fs : List Fp) (w : World) (h : RdF w v fs) :
    Calls Try.prog 14 #[v] w fun e w' => e = .returned (.int .i64 (CM.errL (0, 0) fs)) ∧ Below w.heap.size w w' := by
  obtain ⟨ad, c, rfl, hc, hl⟩ := h.shape
  obtain ⟨R, hR⟩ : ∃ R, R = CM.errL (0, 0) fs := ⟨_, rfl⟩
  rw [← hR]
  have H := Lib.hid h
  have HR := Lib.hid hR
  clear h hR
  go_enter Try.func14, Try.ntmps14
  go_wp2
  go_loopw [3] (fun i wr => ∃ (k : Nat), k ≤ fs.length ∧ i = .int .i64 k ∧ Below w.heap.size w wr ∧ Hid (R = CM.errL (pre fs k) (fs.drop k))) (fun i _ => fs.length - (intOf i).toNat)
  case atStart => exact ⟨0, Nat.zero_le _, rfl, Below.refl _ _, HR.out⟩
  case round =>
    obtain ⟨k, hk, rfl, hbl, he⟩ := hrel
    clear HR
    by_cases hlt : k < fs.length
    · have hq : (k : Int) < (fs.length : Int) := by omega
      have hd := Lib.hid (drop_get hlt)
      have hk2 := List.getElem?_eq_getElem hlt
      have hp := Lib.hid (pre_succ hk2)
      generalize fs[k] = f at hd hk2 hp
      obtain ⟨x, m, cs⟩ := f
      obtain ⟨b, o, da, dl, dc, hi, hb, c0, c1, c2, hrd⟩ := (H.out.below hbl).at_ k x m cs hk2
      have e1 := Lib.hid (he.out.trans ((congrArg (CM.errL (pre fs k)) hd.out).trans (errL_step _ _ _)))
      have e2 : Hid (R = if JM.errP x m cs ≠ 0 then JM.errP x m cs else if JM.cmpP x m (pre fs k).1 (pre fs k).2 ≤ 0 then 7 else if 1 < m ∧ ¬ ((pre fs k).1 = x ∧ (pre fs k).2 = m - 1) then 8 else CM.errL (x, m) (fs.drop (k + 1))) := e1.out
      have hp' : Hid (pre fs (k + 1) = (x, m)) := hp.out
      have HN := Lib.hid (fun h => CM.errF_num (f := (x, m, cs)) h)
      have HV := Lib.hid (rValidate x m (.slice da dl dc) cs _ hrd)
      clear hk2 he hd e1 hp hrd
      by_cases hE : JM.errP x m cs = 0
      · obtain ⟨n1, n2, n3, n4⟩ := HN.out hE
        simp only at n1 n2 n3 n4
        rw [hE] at HV
        have e3 := Lib.hid (e2.out.trans (if_neg (by rw [hE]; simp)))
        clear e2 hE HN
        go_wp2_with fail
        refine HV.out.mono ?_
        rintro e w1 ⟨rfl, hb1⟩
        have d0 := below_cell hb1 c0
        have d1 := below_cell hb1 c1
        have d2 := below_cell hb1 c2
        have HB1 := Lib.hid (bnext hbl hb1)
        clear c0 c1 c2 HV hb1 hbl
        by_cases h0 : k = 0
        · subst h0
          have hi0 : ∀ w0 : World, (Instr.indexAt 23 (.slice ad fs.length c) (.int .i64 0)).run Try.prog w0 = .ok (.pointer (some ⟨b, o, none⟩)) w0 := hi
          have hq0 : (0 : Int) < (fs.length : Int) := hq
          have e4 := Lib.hid (e3.out.trans (if_neg (by show ¬ JM.cmpP x m 0 0 ≤ 0; have := (@CM.cmpP_pos x m 0 0).2 (by omega); omega)))
          clear e3 hi hq
          by_cases hm : 1 < m
          · have e5 := Lib.hid (e4.out.trans (if_pos ⟨hm, by show ¬ ((0 : Int) = x ∧ _); omega⟩))
            clear e4
            go_wp2
            go_quiet (fail)
            go_wp2
            go_quiet (fail)
            go_wp2
            go_ret
            rw [e5.out]
            exact ⟨rfl, (HB1.out.trans (below_drewN _ _ _)).trans (below_drewN _ _ _)⟩
          · have e5 := Lib.hid (e4.out.trans (if_neg (fun h => hm h.1)))
            have hm' : decide (1 < m) = false := decide_eq_false hm
            clear e4
            go_wp2
            go_quiet (fail)
            go_wp2
            go_quiet (fail)
            go_wp2
            go_roundw
            case rel => exact ⟨0 + 1, by omega, by go_num, HB1.out.trans (below_drewN _ _ _), by rw [hp'.out]; exact e5⟩
            case measure => simp [intOf]; omega
        · have hk1 : (0 : Int) < (k : Int) := by omega
          have hk2 : 0 < k := by omega
          have hk0 : ((k : Int) == 0) = false := beq_f (by omega)
          have hkl : k - 1 < fs.length := by omega
          have hg2 := List.getElem?_eq_getElem hkl
          have hpk : pre fs k = (fs[k - 1].1, fs[k - 1].2.1) := by simp [pre, h0, List.getD, List.getElem?_eq_getElem hkl]
          generalize fs[k - 1] = g at hg2 hpk
          obtain ⟨y, n, ds⟩ := g
          simp only at hpk
          rw [hpk] at e3
          obtain ⟨b2, o2, ea, el, ec, hi2, hb2, f0, f1, f2, hrd2⟩ := (H.out.below HB1.out).at_ (k - 1) y n ds hg2
          rw [show ((k - 1 : Nat) : Int) = (k : Int) - 1 by omega] at hi2
          have hC := fun p : Later w1 => rCompareL y n ea el ec x m da dl dc p
          have hcn := JM.cmpP_neg y n x m
          simp only at e3
          clear hg2 hpk hrd2
          have k0 : ∀ p : Later w1, p.val.cell? ⟨b, o, none⟩ = some (.int .i64 x) := fun p => below_cell p.h d0
          have k1 : ∀ p : Later w1, p.val.cell? ⟨b, o + 1, none⟩ = some (.int .i64 m) := fun p => below_cell p.h d1
          have k2 : ∀ p : Later w1, p.val.cell? ⟨b, o + 2, none⟩ = some (.slice da dl dc) := fun p => below_cell p.h d2
          have j0 : ∀ p : Later w1, p.val.cell? ⟨b2, o2, none⟩ = some (.int .i64 y) := fun p => below_cell p.h f0
          have j1 : ∀ p : Later w1, p.val.cell? ⟨b2, o2 + 1, none⟩ = some (.int .i64 n) := fun p => below_cell p.h f1
          have j2 : ∀ p : Later w1, p.val.cell? ⟨b2, o2 + 2, none⟩ = some (.slice ea el ec) := fun p => below_cell p.h f2
          by_cases hcl : JM.cmpP x m y n ≤ 0
          · have e4 := Lib.hid (e3.out.trans (if_pos hcl))
            have hge : 0 ≤ JM.cmpP y n x m := by omega
            generalize JM.cmpP y n x m = C at hC hge
            have HC := Lib.hid hC
            clear e3 hcl hcn hC d0 d1 d2 f0 f1 f2
            go_wp2
            refine wp_region_later (by kernel_rfl) (by kernel_rfl) ?_
            repeat (go_big_quiet_step (first | (go_at_call 48; with_reducible exact HC.out _)))
            refine wpQuiet_nil ?_
            rintro _ ⟨p, rfl⟩
            have HB2 := Lib.hid (bnext HB1.out p.h)
            generalize p.val = w2 at HB2 ⊢
            go_wp2
            go_ret
            rw [e4.out]
            exact ⟨rfl, HB2.out⟩
          · have e4 := Lib.hid (e3.out.trans (if_neg hcl))
            have hge : ¬ 0 ≤ JM.cmpP y n x m := by omega
            generalize JM.cmpP y n x m = C at hC hge
            have HC := Lib.hid hC
            clear e3 hcl hcn hC
            go_wp2
            refine wp_region_later (by kernel_rfl) (by kernel_rfl) ?_
            repeat (go_big_quiet_step (first | (go_at_call 48; with_reducible exact HC.out _)))
            refine wpQuiet_nil ?_
            rintro _ ⟨p, rfl⟩
            have HB2 := Lib.hid (bnext HB1.out p.h)
            have x0 := below_cell p.h d0
            have x1 := below_cell p.h d1
            have y0 := below_cell p.h f0
            have y1 := below_cell p.h f1
            clear k0 k1 k2 j0 j1 j2 d0 d1 d2 f0 f1 f2 HC HB1
            obtain ⟨w2, hw2⟩ : ∃ w2, w2 = p.val := ⟨_, rfl⟩
            rw [← hw2] at HB2 x0 x1 y0 y1 ⊢
            clear hw2
            have hw1 : IntKind.i64.wrap (m - 1) = m - 1 := IntWalk.i64_in _ (by omega)
            by_cases hm : 1 < m
            · by_cases hyx : y = x
              · have q1 : (y != x) = false := bne_f hyx
                by_cases hnm : n = m - 1
                · have q2 : (n != m - 1) = false := bne_f hnm
                  have e5 := Lib.hid (e4.out.trans (if_neg (fun h => h.2 ⟨hyx, hnm⟩)))
                  clear e4 hyx hnm
                  go_wp2
                  go_quiet (fail)
                  go_wp2
                  go_roundw
                  case rel => exact ⟨k + 1, by omega, by go_num, HB2.out.trans (below_drewN _ _ _), by rw [hp'.out]; exact e5⟩
                  case measure => simp [intOf]; omega
                · have q2 : (n != m - 1) = true := bne_t hnm
                  have e5 := Lib.hid (e4.out.trans (if_pos ⟨hm, fun h => hnm h.2⟩))
                  clear e4 hyx hnm
                  go_wp2
                  go_quiet (fail)
                  go_wp2
                  go_ret
                  rw [e5.out]
                  exact ⟨rfl, HB2.out.trans (below_drewN _ _ _)⟩
              · have q1 : (y != x) = true := bne_t hyx
                have e5 := Lib.hid (e4.out.trans (if_pos ⟨hm, fun h => hyx h.1⟩))
                clear e4 hyx
                go_wp2
                go_quiet (fail)
                go_wp2
                go_ret
                rw [e5.out]
                exact ⟨rfl, HB2.out.trans (below_drewN _ _ _)⟩
            · have e5 := Lib.hid (e4.out.trans (if_neg (fun h => hm h.1)))
              have hm' : decide (1 < m) = false := decide_eq_false hm
              clear e4
              go_wp2
              go_quiet (fail)
              go_wp2
              go_roundw
              case rel => exact ⟨k + 1, by omega, by go_num, HB2.out.trans (below_drewN _ _ _), by rw [hp'.out]; exact e5⟩
              case measure => simp [intOf]; omega
      · have e3 := Lib.hid (e2.out.trans (if_pos hE))
        have hne : (JM.errP x m cs != 0) = true := bne_t hE
        generalize JM.errP x m cs = E at HV e3 hne
        clear e2 hE HN
        go_wp2_with fail
        refine HV.out.mono ?_
        rintro e w1 ⟨rfl, hb1⟩
        go_wp2
        go_ret
        rw [e3.out]
        exact ⟨rfl, bnext hbl hb1⟩
    · have hq : ¬ ((k : Int) < (fs.length : Int)) := by omega
      have e2 := Lib.hid (show R = 0 by rw [he.out, List.drop_of_length_le (by omega)]; rfl)
      clear he
      go_wp2
      go_ret
      rw [e2.out]
      exact ⟨rfl, hbl⟩

end Go.Proofs.Ytacbpphhkkmelaa
