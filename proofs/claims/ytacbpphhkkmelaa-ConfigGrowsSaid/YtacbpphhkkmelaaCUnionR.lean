/-
  The call of the reference's Union: the merged list. Conditions: both configurations read and are of bounded length.
-/
import Derived.Test.YtacbpphhkkmelaaCUnion
namespace Go.Proofs.Ytacbpphhkkmelaa
open Go.RowKit
open JM (Chg)
open CM (Fp)

theorem OwnF.out {w0 w : World} {base : Nat} {v : Value} {fs : List Fp} (h : OwnF w0 base w v fs) : ∃ qs, OwnQ base w v qs ∧ Tel w0 qs fs ∧ qs.length = fs.length := by
  obtain ⟨qs, h1, h2⟩ := h
  exact ⟨qs, h1, h2, h2.len⟩

set_option maxRecDepth 100000 in
set_option maxHeartbeats 4000000 in
theorem rUnion (va vb : Value) (xs ys : List Fp) (w : World) (ha : RdF w va xs) (hb : RdF w vb ys) (hlx : xs.length ≤ 1000) (hly : ys.length ≤ 1000) :
    Calls Try.prog 25 #[va, vb] w fun e w' => ∃ v', e = .returned v' ∧ RdF w' v' (CM.un xs ys) ∧ Below w.heap.size w w' := by
  obtain ⟨aa, ac, rfl, hac, _⟩ := ha.shape
  obtain ⟨ba, bc, rfl, hbc, _⟩ := hb.shape
  obtain ⟨R, hR⟩ : ∃ R, R = CM.un xs ys := ⟨_, rfl⟩
  rw [← hR]
  have HA := Lib.hid ha
  have HB := Lib.hid hb
  have HR := Lib.hid hR
  clear ha hb hR
  go_enter Try.func25, Try.ntmps25
  go_wp2
  go_loopw [5, 6, 7] (fun u i j wr => ∃ (k n : Nat) (U : List Fp), k ≤ xs.length ∧ n ≤ ys.length ∧ i = .int .i64 k ∧ j = .int .i64 n ∧ Hid (OwnF w w.heap.size wr u U) ∧ Hid (R = U ++ CM.un (xs.drop k) (ys.drop n)) ∧ U.length ≤ k + n ∧ Hid (Below w.heap.size w wr)) (fun _ i j _ => xs.length + ys.length - (intOf i).toNat - (intOf j).toNat)
  case atStart => exact ⟨0, 0, [], Nat.zero_le _, Nat.zero_le _, rfl, rfl, OwnF.nil _ _ _, HR.out, Nat.zero_le _, Below.refl _ _⟩
  case round =>
    obtain ⟨k, n, U, hk, hn, rfl, rfl, hU, he, hul, hbl⟩ := hrel
    clear HR
    obtain ⟨uq, hu1, hu2, hu3⟩ := hU.out.out
    have hlu : uq.length ≤ 1073741824 := by omega
    have HTU := Lib.hid hu2
    have hsz := hbl.out.size
    clear hu2 hu3 hU
    by_cases hx : k < xs.length
    · have hqx : (k : Int) < (xs.length : Int) := by omega
      have hex : ((k : Int) == (xs.length : Int)) = false := beq_f (by omega)
      have hdx := drop_get hx
      have hkx := List.getElem?_eq_getElem hx
      generalize xs[k] = f at hdx hkx
      obtain ⟨x, m, cs⟩ := f
      obtain ⟨b, o, da, dl, dc, hi, hbw, c0, c1, c2, hrd⟩ := HA.out.at_ k x m cs hkx
      have HT1 := Lib.hid (show Tell1 w (x, m, da, dl, dc) (x, m, cs) from ⟨rfl, rfl, hrd⟩)
      have c0 := below_cell hbl.out c0
      have c1 := below_cell hbl.out c1
      have c2 := below_cell hbl.out c2
      have hbw : b < wr.heap.size := Nat.lt_of_lt_of_le hbw hbl.out.size
      clear hkx hrd
      by_cases hy : n < ys.length
      · have hqy : (n : Int) < (ys.length : Int) := by omega
        have hey : ((n : Int) == (ys.length : Int)) = false := beq_f (by omega)
        have hdy := drop_get hy
        have hky := List.getElem?_eq_getElem hy
        generalize ys[n] = f at hdy hky
        obtain ⟨y, l, ds⟩ := f
        obtain ⟨b2, o2, ea, el, ec, hi2, hbw2, f0, f1, f2, hrd2⟩ := HB.out.at_ n y l ds hky
        have HT2 := Lib.hid (show Tell1 w (y, l, ea, el, ec) (y, l, ds) from ⟨rfl, rfl, hrd2⟩)
        have f0 := below_cell hbl.out f0
        have f1 := below_cell hbl.out f1
        have f2 := below_cell hbl.out f2
        have hbw2 : b2 < wr.heap.size := Nat.lt_of_lt_of_le hbw2 hbl.out.size
        have e1 := he.out
        rw [hdx, hdy, CM.un_cons] at e1
        simp only at e1
        have hCG := fun w1 (p : Later w1) => rCompareL x m da dl dc y l ea el ec p
        have hdx' : Hid (xs.drop k = (x, m, cs) :: xs.drop (k + 1)) := hdx
        have hdy' : Hid (ys.drop n = (y, l, ds) :: ys.drop (n + 1)) := hdy
        generalize JM.cmpP x m y l = C at e1 hCG
        have HCG := Lib.hid hCG
        have HC := Lib.hid (HCG.out wr)
        have E1 := Lib.hid e1
        have k0 : ∀ p : Later wr, p.val.cell? ⟨b, o, none⟩ = some (.int .i64 x) := fun p => below_cell p.h c0
        have k1 : ∀ p : Later wr, p.val.cell? ⟨b, o + 1, none⟩ = some (.int .i64 m) := fun p => below_cell p.h c1
        have k2 : ∀ p : Later wr, p.val.cell? ⟨b, o + 2, none⟩ = some (.slice da dl dc) := fun p => below_cell p.h c2
        have j0 : ∀ p : Later wr, p.val.cell? ⟨b2, o2, none⟩ = some (.int .i64 y) := fun p => below_cell p.h f0
        have j1 : ∀ p : Later wr, p.val.cell? ⟨b2, o2 + 1, none⟩ = some (.int .i64 l) := fun p => below_cell p.h f1
        have j2 : ∀ p : Later wr, p.val.cell? ⟨b2, o2 + 2, none⟩ = some (.slice ea el ec) := fun p => below_cell p.h f2
        clear hky hrd2 he hdx hdy e1 hCG
        by_cases hC1 : C < 0
        · have E2 := Lib.hid (show R = (U ++ [(x, m, cs)]) ++ CM.un (xs.drop (k + 1)) (ys.drop n) by rw [E1.out, if_pos hC1, hdy'.out, List.append_assoc]; rfl)
          clear E1
          go_wp2
          refine wp_region_later (by kernel_rfl) (by kernel_rfl) ?_
          repeat (go_big_quiet_step (first | (go_at_call 48; with_reducible exact HC.out _)))
          refine wpQuiet_nil ?_
          rintro _ ⟨p', rfl⟩
          have d0 := below_cell p'.h c0
          have d1 := below_cell p'.h c1
          have d2 := below_cell p'.h c2
          have hu2 := hu1.below p'.h
          have HB2 := Lib.hid (bnext hbl.out p'.h)
          have hbs : b < p'.val.heap.size := Nat.lt_of_lt_of_le hbw p'.h.size
          clear k0 k1 k2 j0 j1 j2 c0 c1 c2 f0 f1 f2 HC hu1 hbl hsz
          obtain ⟨w2, hw2⟩ : ∃ w2, w2 = p'.val := ⟨_, rfl⟩
          rw [← hw2] at d0 d1 d2 hu2 HB2 hbs ⊢
          clear hw2
          have hsz := HB2.out.size
          go_wp2_with (at_builtin; refine wp_appG1' proE (x, m, da, dl, dc) _ rfl rfl _ _ rfl rfl hu2 rfl hlu hsz ?_)
          intro v3 w3 ho3 hb3 _
          have HO3 := Lib.hid (OwnF.snoc ho3 HTU.out HT1.out)
          have HB3 := Lib.hid (HB2.out.trans hb3)
          clear ho3 hb3 hu2 HTU d0 d1 d2 HB2
          go_wp2
          go_roundw
          case rel => exact ⟨k + 1, n, _, by omega, by omega, by go_num, rfl, HO3, E2, by rw [List.length_append]; simp; omega, HB3⟩
          case measure => simp [intOf]; omega
        · go_wp2
          refine wp_region_later (by kernel_rfl) (by kernel_rfl) ?_
          repeat (go_big_quiet_step (first | (go_at_call 48; with_reducible exact HC.out _)))
          refine wpQuiet_nil ?_
          rintro _ ⟨p0, rfl⟩
          have hh := p0.h
          obtain ⟨w1, hw1⟩ : ∃ w1, w1 = p0.val := ⟨_, rfl⟩
          rw [← hw1] at hh ⊢
          clear hw1
          have c0 := below_cell hh c0
          have c1 := below_cell hh c1
          have c2 := below_cell hh c2
          have f0 := below_cell hh f0
          have f1 := below_cell hh f1
          have f2 := below_cell hh f2
          have hu1 := hu1.below hh
          have hbw : b < w1.heap.size := Nat.lt_of_lt_of_le hbw hh.size
          have hbw2 : b2 < w1.heap.size := Nat.lt_of_lt_of_le hbw2 hh.size
          have HBL := Lib.hid (bnext hbl.out hh)
          clear k0 k1 k2 j0 j1 j2 HC hbl hsz hh
          have k0 : ∀ p : Later w1, p.val.cell? ⟨b, o, none⟩ = some (.int .i64 x) := fun p => below_cell p.h c0
          have k1 : ∀ p : Later w1, p.val.cell? ⟨b, o + 1, none⟩ = some (.int .i64 m) := fun p => below_cell p.h c1
          have k2 : ∀ p : Later w1, p.val.cell? ⟨b, o + 2, none⟩ = some (.slice da dl dc) := fun p => below_cell p.h c2
          have j0 : ∀ p : Later w1, p.val.cell? ⟨b2, o2, none⟩ = some (.int .i64 y) := fun p => below_cell p.h f0
          have j1 : ∀ p : Later w1, p.val.cell? ⟨b2, o2 + 1, none⟩ = some (.int .i64 l) := fun p => below_cell p.h f1
          have j2 : ∀ p : Later w1, p.val.cell? ⟨b2, o2 + 2, none⟩ = some (.slice ea el ec) := fun p => below_cell p.h f2
          have HC := Lib.hid (HCG.out w1)
          by_cases hC0 : C = 0
          · have E2 := Lib.hid (show R = (U ++ [(x, m, cs)]) ++ CM.un (xs.drop (k + 1)) (ys.drop (n + 1)) by rw [E1.out, if_neg (by omega), if_pos hC0, List.append_assoc]; rfl)
            have hC2 : ¬ 0 < C := by omega
            clear E1 hC0
            go_wp2
            refine wp_region_later (by kernel_rfl) (by kernel_rfl) ?_
            repeat (go_big_quiet_step (first | (go_at_call 48; with_reducible exact HC.out _)))
            refine wpQuiet_nil ?_
            rintro _ ⟨p', rfl⟩
            have d0 := below_cell p'.h c0
            have d1 := below_cell p'.h c1
            have d2 := below_cell p'.h c2
            have hu2 := hu1.below p'.h
            have HB2 := Lib.hid (bnext HBL.out p'.h)
            have hbs : b < p'.val.heap.size := Nat.lt_of_lt_of_le hbw p'.h.size
            clear k0 k1 k2 j0 j1 j2 c0 c1 c2 f0 f1 f2 HC hu1 HBL
            obtain ⟨w2, hw2⟩ : ∃ w2, w2 = p'.val := ⟨_, rfl⟩
            rw [← hw2] at d0 d1 d2 hu2 HB2 hbs ⊢
            clear hw2
            have hsz := HB2.out.size
            go_wp2_with (at_builtin; refine wp_appG1' proE (x, m, da, dl, dc) _ rfl rfl _ _ rfl rfl hu2 rfl hlu hsz ?_)
            intro v3 w3 ho3 hb3 _
            have HO3 := Lib.hid (OwnF.snoc ho3 HTU.out HT1.out)
            have HB3 := Lib.hid (HB2.out.trans hb3)
            clear ho3 hb3 hu2 HTU d0 d1 d2 HB2
            go_wp2
            go_roundw
            case rel => exact ⟨k + 1, n + 1, _, by omega, by omega, by go_num, by go_num, HO3, E2, by rw [List.length_append]; simp; omega, HB3⟩
            case measure => simp [intOf]; omega
          · have hC2 : 0 < C := by omega
            have E2 := Lib.hid (show R = (U ++ [(y, l, ds)]) ++ CM.un (xs.drop k) (ys.drop (n + 1)) by rw [E1.out, if_neg (by omega), if_neg hC0, hdx'.out, List.append_assoc]; rfl)
            clear E1 hC0
            go_wp2
            refine wp_region_later (by kernel_rfl) (by kernel_rfl) ?_
            repeat (go_big_quiet_step (first | (go_at_call 48; with_reducible exact HC.out _)))
            refine wpQuiet_nil ?_
            rintro _ ⟨p', rfl⟩
            have d0 := below_cell p'.h f0
            have d1 := below_cell p'.h f1
            have d2 := below_cell p'.h f2
            have hu2 := hu1.below p'.h
            have HB2 := Lib.hid (bnext HBL.out p'.h)
            have hbs : b2 < p'.val.heap.size := Nat.lt_of_lt_of_le hbw2 p'.h.size
            clear k0 k1 k2 j0 j1 j2 c0 c1 c2 f0 f1 f2 HC hu1 HBL
            obtain ⟨w2, hw2⟩ : ∃ w2, w2 = p'.val := ⟨_, rfl⟩
            rw [← hw2] at d0 d1 d2 hu2 HB2 hbs ⊢
            clear hw2
            have hsz := HB2.out.size
            go_wp2_with (at_builtin; refine wp_appG1' proE (y, l, ea, el, ec) _ rfl rfl _ _ rfl rfl hu2 rfl hlu hsz ?_)
            intro v3 w3 ho3 hb3 _
            have HO3 := Lib.hid (OwnF.snoc ho3 HTU.out HT2.out)
            have HB3 := Lib.hid (HB2.out.trans hb3)
            clear ho3 hb3 hu2 HTU d0 d1 d2 HB2
            go_wp2
            go_roundw
            case rel => exact ⟨k, n + 1, _, by omega, by omega, rfl, by go_num, HO3, E2, by rw [List.length_append]; simp; omega, HB3⟩
            case measure => simp [intOf]; omega
      · obtain rfl : n = ys.length := by omega
        have hqy : ¬ ((ys.length : Int) < (ys.length : Int)) := by omega
        have hey : ((ys.length : Int) == (ys.length : Int)) = true := beq_t rfl
        have E2 := Lib.hid (show R = (U ++ [(x, m, cs)]) ++ CM.un (xs.drop (k + 1)) (ys.drop ys.length) by rw [he.out, hdx, List.drop_length, CM.un_nil, CM.un_nil, List.append_assoc]; rfl)
        clear he hdx
        go_wp2
        go_quiet (fail)
        have HBL := Lib.hid (show Below w.heap.size w (wr.drewN nq) from hbl.out.trans (below_drewN _ _ _))
        have d0 : (wr.drewN nq).cell? ⟨b, o, none⟩ = some (.int .i64 x) := c0
        have d1 : (wr.drewN nq).cell? ⟨b, o + 1, none⟩ = some (.int .i64 m) := c1
        have d2 : (wr.drewN nq).cell? ⟨b, o + 2, none⟩ = some (.slice da dl dc) := c2
        have hu2 := hu1.drewN nq
        have hbs : b < (wr.drewN nq).heap.size := hbw
        clear c0 c1 c2 hu1 hbl hsz
        obtain ⟨w2, hw2⟩ : ∃ w2, w2 = wr.drewN nq := ⟨_, rfl⟩
        rw [← hw2] at d0 d1 d2 hu2 HBL hbs ⊢
        clear hw2
        have hsz := HBL.out.size
        go_wp2_with (at_builtin; refine wp_appG1' proE (x, m, da, dl, dc) _ rfl rfl _ _ rfl rfl hu2 rfl hlu hsz ?_)
        intro v3 w3 ho3 hb3 _
        have HO3 := Lib.hid (OwnF.snoc ho3 HTU.out HT1.out)
        have HB3 := Lib.hid (HBL.out.trans hb3)
        clear ho3 hb3 hu2 HTU d0 d1 d2 HBL
        go_wp2
        go_roundw
        case rel => exact ⟨k + 1, ys.length, _, by omega, by omega, by go_num, rfl, HO3, E2, by rw [List.length_append]; simp; omega, HB3⟩
        case measure => simp [intOf]; omega
    · obtain rfl : k = xs.length := by omega
      have hqx : ¬ ((xs.length : Int) < (xs.length : Int)) := by omega
      have hex : ((xs.length : Int) == (xs.length : Int)) = true := beq_t rfl
      by_cases hy : n < ys.length
      · have hqy : (n : Int) < (ys.length : Int) := by omega
        have hey : ((n : Int) == (ys.length : Int)) = false := beq_f (by omega)
        have hdy := drop_get hy
        have hky := List.getElem?_eq_getElem hy
        generalize ys[n] = f at hdy hky
        obtain ⟨y, l, ds⟩ := f
        obtain ⟨b2, o2, ea, el, ec, hi2, hbw2, f0, f1, f2, hrd2⟩ := HB.out.at_ n y l ds hky
        have HT2 := Lib.hid (show Tell1 w (y, l, ea, el, ec) (y, l, ds) from ⟨rfl, rfl, hrd2⟩)
        have f0 := below_cell hbl.out f0
        have f1 := below_cell hbl.out f1
        have f2 := below_cell hbl.out f2
        have hbw2 : b2 < wr.heap.size := Nat.lt_of_lt_of_le hbw2 hbl.out.size
        have E2 := Lib.hid (show R = (U ++ [(y, l, ds)]) ++ CM.un (xs.drop xs.length) (ys.drop (n + 1)) by rw [he.out, hdy, List.drop_length, CM.nil_un, CM.nil_un, List.append_assoc]; rfl)
        clear he hdy hky hrd2
        go_wp2
        go_quiet (fail)
        have HBL := Lib.hid (show Below w.heap.size w (wr.drewN nq) from hbl.out.trans (below_drewN _ _ _))
        have d0 : (wr.drewN nq).cell? ⟨b2, o2, none⟩ = some (.int .i64 y) := f0
        have d1 : (wr.drewN nq).cell? ⟨b2, o2 + 1, none⟩ = some (.int .i64 l) := f1
        have d2 : (wr.drewN nq).cell? ⟨b2, o2 + 2, none⟩ = some (.slice ea el ec) := f2
        have hu2 := hu1.drewN nq
        have hbs : b2 < (wr.drewN nq).heap.size := hbw2
        clear f0 f1 f2 hu1 hbl hsz
        obtain ⟨w1, hw1⟩ : ∃ w1, w1 = wr.drewN nq := ⟨_, rfl⟩
        rw [← hw1] at d0 d1 d2 hu2 HBL hbs ⊢
        clear hw1
        go_wp2
        go_quiet (fail)
        have HBL := Lib.hid (show Below w.heap.size w (w1.drewN nq) from HBL.out.trans (below_drewN _ _ _))
        have d0 : (w1.drewN nq).cell? ⟨b2, o2, none⟩ = some (.int .i64 y) := d0
        have d1 : (w1.drewN nq).cell? ⟨b2, o2 + 1, none⟩ = some (.int .i64 l) := d1
        have d2 : (w1.drewN nq).cell? ⟨b2, o2 + 2, none⟩ = some (.slice ea el ec) := d2
        have hu2 := hu2.drewN nq
        have hbs : b2 < (w1.drewN nq).heap.size := hbs
        obtain ⟨w2, hw2⟩ : ∃ w2, w2 = w1.drewN nq := ⟨_, rfl⟩
        rw [← hw2] at d0 d1 d2 hu2 HBL hbs ⊢
        clear hw2
        have hsz := HBL.out.size
        go_wp2_with (at_builtin; refine wp_appG1' proE (y, l, ea, el, ec) _ rfl rfl _ _ rfl rfl hu2 rfl hlu hsz ?_)
        intro v3 w3 ho3 hb3 _
        have HO3 := Lib.hid (OwnF.snoc ho3 HTU.out HT2.out)
        have HB3 := Lib.hid (HBL.out.trans hb3)
        clear ho3 hb3 hu2 HTU d0 d1 d2 HBL
        go_wp2
        go_roundw
        case rel => exact ⟨xs.length, n + 1, _, by omega, by omega, rfl, by go_num, HO3, E2, by rw [List.length_append]; simp; omega, HB3⟩
        case measure => simp [intOf]; omega
      · obtain rfl : n = ys.length := by omega
        have hqy : ¬ ((ys.length : Int) < (ys.length : Int)) := by omega
        have E2 := Lib.hid (show R = U by rw [he.out, List.drop_length, List.drop_length, CM.un_nil, List.append_nil])
        have HF := Lib.hid (show RdF wr _ U from ⟨uq, hu1.rd, HTU.out.below hbl.out⟩)
        clear he hu1
        go_wp2
        go_ret
        exact ⟨_, rfl, by rw [E2.out]; exact HF.out, hbl.out⟩

end Go.Proofs.Ytacbpphhkkmelaa
