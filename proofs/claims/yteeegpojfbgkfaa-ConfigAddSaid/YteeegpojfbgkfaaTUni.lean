/-
  The call of sets.Union: the merged list, in memory of the call's own. Conditions: both sets read and are of bounded length. (Written by mk_sets.py.)
-/
import Derived.Deep.LoopGhost
import Derived.Deep.RegionHeld3
import Derived.Test.YteeegpojfbgkfaaTCpy
import Derived.Test.YteeegpojfbgkfaaKB
namespace Go.Proofs.Yteeegpojfbgkfaa
open Go.RowKit
open JM (Chg)
open CM (Fp)

set_option maxRecDepth 100000 in
set_option maxHeartbeats 4000000 in
theorem sUnion (va vb : Value) (xs ys : List Fp) (w : World) (ha : RdF w va xs) (hb : RdF w vb ys) (hlx : xs.length ≤ 1000) (hly : ys.length ≤ 1000) (hcx : ∀ f ∈ xs, f.2.2.length ≤ 1073741824) (hcy : ∀ f ∈ ys, f.2.2.length ≤ 1073741824) :
    Calls Try.prog 57 #[(.agg #[.func (.func 70) #[] #[], .func (.func 71) #[] #[], .func (.func 72) #[] #[], .func (.func 73) #[] #[], .func (.func 55) #[] #[], .func (.func 74) #[] #[], .func (.func 75) #[] #[], .func (.func 76) #[] #[], .int .i64 9]), va, vb] w fun e w' => ∃ v', e = .returned v' ∧ OwnD w.heap.size w' v' (CM.un xs ys) ∧ Below w.heap.size w w' := by
  obtain ⟨aa, ac, rfl, hac, _⟩ := ha.shape
  obtain ⟨ba, bc, rfl, hbc, _⟩ := hb.shape
  obtain ⟨R, hR⟩ : ∃ R, R = CM.un xs ys := ⟨_, rfl⟩
  rw [← hR]
  have HCR := Lib.hid (show ∀ f ∈ R, f.2.2.length ≤ 1073741824 from fun f hf => by rw [hR] at hf; exact (CM.un_mem hf).elim (hcx f) (hcy f))
  have HLR := Lib.hid (show R.length ≤ 1073741824 by rw [hR]; have := CM.un_len xs ys; omega)
  have HA := Lib.hid ha
  have HB := Lib.hid hb
  have HR := Lib.hid hR
  have HLX := Lib.hid hlx
  have HLY := Lib.hid hly
  clear ha hb hR hcx hcy hlx hly
  obtain ⟨w0, HX⟩ := kone w
  have HW := Lib.hid HX.eq
  have HB0 := Lib.hid HX.below
  have HK0 := Lib.hid HX.k
  obtain ⟨Kb, hK⟩ : ∃ Kb, w.heap.size = Kb := ⟨_, rfl⟩
  rw [hK] at HK0
  have HKE := Lib.hid hK
  clear HX hK
  go_enter Try.func57, Try.ntmps57
  go_upto_region 1 with fail
  rw [HW.out, HKE.out]
  clear HW
  go_wp2
  go_step3
  go_wp2
  go_step3
  go_wp2
  go_loopg [1, 7, 13] ys.length (fun g a u i wr => ∃ (k : Nat) (A U : List Fp), k + g = ys.length ∧ i = .int .i64 k ∧ Hid (RdF w a A) ∧ Hid (OwnF w w.heap.size wr u U) ∧ Hid (R = U ++ CM.un A (ys.drop k)) ∧ Hid (A.length + U.length ≤ 1000 + k) ∧ Hid (Below w.heap.size w wr) ∧ Hid (KB wr Kb))
  case atStart => exact ⟨0, xs, [], by omega, rfl, HA.out, OwnF.nil _ _ _, HR.out, (by show xs.length + 0 ≤ 1000 + 0; have := HLX.out; omega), HB0.out, HK0.out⟩
  case round =>
    obtain ⟨k, A, U, hk, rfl, hA, hU, he, hal, hbl, hkb⟩ := hrel
    clear HR HB0 HK0
    obtain ⟨a1, a2, rfl, _, _⟩ := hA.out.shape
    obtain ⟨u1, u2, rfl, _, _⟩ := hU.out.shape
    cases gk with
    | succ g =>
      have hlt : k < ys.length := by omega
      have hq : (k : Int) < (ys.length : Int) := by omega
      have hd := drop_get hlt
      have hk2 := List.getElem?_eq_getElem hlt
      generalize ys[k] = p at hd hk2
      rw [hd] at he
      obtain ⟨x, m, cs⟩ := p
      obtain ⟨b, o, da, dl, dc, hi, hbw, c0, c1, c2, hrd⟩ := HB.out.atS k x m cs hk2
      have HT1 := Lib.hid (show Tell1 w (x, m, da, dl, dc) (x, m, cs) from ⟨rfl, rfl, hrd⟩)
      have c0 := below_cell hbl.out c0
      have c1 := below_cell hbl.out c1
      have c2 := below_cell hbl.out c2
      have hbw : b < wr.heap.size := Nat.lt_of_lt_of_le hbw hbl.out.size
      have hbx := below_fresh wr (.cells #[.int .i64 x, .int .i64 m, .slice da dl dc] 45)
      have hlx : wr.heap.size < (wr.alloc (.cells #[.int .i64 x, .int .i64 m, .slice da dl dc] 45)).heap.size := by rw [World.size_alloc]; exact Nat.lt_succ_self _
      obtain ⟨wx, hwx⟩ : ∃ wx, wr.alloc (.cells #[.int .i64 x, .int .i64 m, .slice da dl dc] 45) = wx := ⟨_, rfl⟩
      rw [hwx] at hbx hlx
      have HWX := Lib.hid hwx
      have HUX := Lib.hid (hU.out.below hbx)
      have HBX := Lib.hid (bnext hbl.out hbx)
      have HKX := Lib.hid (hkb.out.below hbx)
      have hopx : OP wx wr.heap.size x m (.slice da dl dc) := by rw [← hwx]; exact OP.fresh wr x m _
      have hub : (Value.slice u1 U.length u2).ownBlock ≠ some wr.heap.size := by
        obtain ⟨uq, hu1, _⟩ := hU.out
        intro h
        exact Nat.lt_irrefl _ (World.ownsRow.lt hu1.1 _ h).2
      have HD := Lib.hid hd
      clear hbx hwx hU hbl hkb hd hk2 hrd hlx
      go_wp2
      rw [HWX.out]
      clear c0 c1 c2 hi HWX hbw
      obtain ⟨B, hB⟩ : ∃ B, B = wr.heap.size := ⟨_, rfl⟩
      rw [← hB] at hopx hub ⊢
      clear hB
      have HOPX := Lib.hid hopx
      have HUB := Lib.hid hub
      clear hopx hub
      go_loopg [1, 7] A.length (fun g2 a u wy => ∃ (A U : List Fp), A.length = g2 ∧ Hid (RdF w a A) ∧ Hid (OwnF w w.heap.size wy u U) ∧ Hid (R = U ++ CM.un A ((x, m, cs) :: ys.drop (k + 1))) ∧ Hid (A.length + U.length ≤ 1000 + k) ∧ Hid (Below w.heap.size w wy) ∧ Hid (u.ownBlock ≠ some B) ∧ Hid (OP wy B x m (.slice da dl dc)) ∧ Hid (KB wy Kb))
      case atStart => exact ⟨A, U, rfl, hA.out, HUX.out, he.out, hal.out, HBX.out, HUB.out, HOPX.out, HKX.out⟩
      case round =>
        clear hA he hal HUX HBX HOPX HUB HKX
        obtain ⟨A, U, hg2, hA, hU, he, hal, HBW, hub, hop, hkb⟩ := hrel
        obtain ⟨a1, a2, rfl, _, _⟩ := hA.out.shape
        obtain ⟨u1, u2, rfl, _, _⟩ := hU.out.shape
        have hlB : B < wr.heap.size := hop.out.lt
        cases gk with
        | zero =>
          obtain rfl : A = [] := List.eq_nil_of_length_eq_zero hg2
          have hz : ¬ ((0 : Int) < (([] : List Fp).length : Int)) := by simp
          obtain ⟨uq, hu1, hu2⟩ := hU.out
          have hlu : uq.length ≤ 1073741824 := by have := hu2.len; have := HLY.out; have := hal.out; simp only [List.length_nil] at this; omega
          have HTU := Lib.hid hu2
          have HE := Lib.hid (show R = (U ++ [(x, m, cs)]) ++ CM.un [] (ys.drop (k + 1)) by rw [he.out, CM.nil_un, CM.nil_un, List.append_assoc]; rfl)
          have HAL := Lib.hid (show ([] : List Fp).length + (U ++ [(x, m, cs)]).length ≤ 1000 + (k + 1) by have := hal.out; simp only [List.length_append, List.length_cons, List.length_nil] at *; omega)
          have hsz := HBW.out.size
          obtain ⟨p0, p1, p2, _⟩ := hop.out.cells
          clear he hal hu2 hU
          go_wp2_with (at_builtin; refine wp_appG1' setE (x, m, da, dl, dc) _ rfl rfl _ _ rfl rfl hu1 rfl hlu hsz ?_)
          intro v3 w3 ho3 hb3 hk3
          have HO3 := Lib.hid (OwnF.snoc ho3 HTU.out HT1.out)
          have HB3 := Lib.hid (HBW.out.trans hb3)
          have HK3 := Lib.hid (hkb.out.keep hk3)
          clear ho3 hb3 hk3 hu1 HTU p0 p1 p2 HBW hkb hop
          go_wp2
          go_roundg g
          case measure => omega
          case rel => exact ⟨k + 1, [], _, by omega, by go_num, hA, HO3, HE, HAL, HB3, HK3⟩
        | succ g2 =>
          obtain ⟨⟨y, n, ds⟩, A', rfl⟩ : ∃ f A', A = f :: A' := by cases A with | nil => simp at hg2 | cons f A' => exact ⟨_, _, rfl⟩
          have hz : (0 : Int) < ((((y, n, ds) :: A' : List Fp).length : Nat) : Int) := by simp
          obtain ⟨b, o, ea, el, ec, hi, hbw, c0, c1, c2, hrd⟩ := hA.out.atS 0 y n ds rfl
          have HT2 := Lib.hid (show Tell1 w (y, n, ea, el, ec) (y, n, ds) from ⟨rfl, rfl, hrd⟩)
          have c0 := below_cell HBW.out c0
          have c1 := below_cell HBW.out c1
          have c2 := below_cell HBW.out c2
          obtain ⟨av, hcut, hA'⟩ := hA.out.cutLS 1 (by simp)
          have HA2 := Lib.hid (show RdF w av A' from hA')
          obtain ⟨N, hN⟩ : ∃ N, N = ((y, n, ds) :: A' : List Fp).length := ⟨_, rfl⟩
          have hi0 : ∀ w0 : World, (Instr.indexAt 22 (.slice a1 N a2) (.int .i64 0)).run Try.prog w0 = .ok (.pointer (some ⟨b, o, none⟩)) w0 := by rw [hN]; exact hi
          have hcut : ∀ w0 : World, (Instr.slice 22 (.slice a1 N a2) (some (.int .i64 1)) none none).run Try.prog w0 = .ok av w0 := by rw [hN]; exact hcut
          rw [← hN] at hz hal ⊢
          have HN := Lib.hid hN
          have hC := fun p : Later wr => Calls.later (cCompare y n ea el ec x m da dl dc p.val)
          have hun := Lib.hid (CM.un_cons (y, n, ds) A' (x, m, cs) (ys.drop (k + 1)))
          have hun2 : Hid (R = U ++ if JM.cmpP y n x m < 0 then (y, n, ds) :: CM.un A' ((x, m, cs) :: ys.drop (k + 1)) else if JM.cmpP y n x m = 0 then (y, n, ds) :: CM.un A' (ys.drop (k + 1)) else (x, m, cs) :: CM.un ((y, n, ds) :: A') (ys.drop (k + 1))) := by
            show R = _; rw [he.out, hun.out]
          have k0 : ∀ p : Later wr, p.val.cell? ⟨b, o, none⟩ = some (.int .i64 y) := fun p => below_cell p.h c0
          have k1 : ∀ p : Later wr, p.val.cell? ⟨b, o + 1, none⟩ = some (.int .i64 n) := fun p => below_cell p.h c1
          have k2 : ∀ p : Later wr, p.val.cell? ⟨b, o + 2, none⟩ = some (.slice ea el ec) := fun p => below_cell p.h c2
          obtain ⟨z0, z1, z2⟩ := lat_e hop.out
          obtain ⟨_, _, _, l3, _⟩ := hkb.out.later
          generalize JM.cmpP y n x m = C at hC hun2
          have HC := Lib.hid hC
          have HUU := Lib.hid hU.out
          have HAA := Lib.hid hA.out
          clear hN hi hC hun he hrd hU hA hA'
          go_wp2
          refine wp_region_later (by kernel_rfl) (by kernel_rfl) ?_
          repeat (go_big_quiet_step (first | (go_at_call 73; with_reducible exact HC.out _)))
          refine wpQuiet_nil ?_
          rintro _ ⟨p', rfl⟩
          have d0 := below_cell p'.h c0
          have d1 := below_cell p'.h c1
          have d2 := below_cell p'.h c2
          have hU2 := HUU.out.below p'.h
          have HB2 := Lib.hid (bnext HBW.out p'.h)
          have hOP2 := hop.out.below p'.h
          have hKB2 := hkb.out.below p'.h
          have hbs : b < p'.val.heap.size := Nat.lt_of_lt_of_le (Nat.lt_of_lt_of_le hbw HBW.out.size) p'.h.size
          have hBs : B < p'.val.heap.size := Nat.lt_of_lt_of_le hlB p'.h.size
          have HOP2 := Lib.hid hOP2
          clear k0 k1 k2 z0 z1 z2 l3 c0 c1 c2 HC HUU HBW hOP2 hop hkb
          obtain ⟨w2, hw2⟩ : ∃ w2, w2 = p'.val := ⟨_, rfl⟩
          rw [← hw2] at d0 d1 d2 hU2 HB2 HOP2 hKB2 hbs hBs ⊢
          clear hw2
          obtain ⟨uq, hu1, hu2⟩ := hU2
          have hlu : uq.length ≤ 1073741824 := by have := hu2.len; have := hal.out; have := HLY.out; omega
          have HTU := Lib.hid hu2
          have hsz := HB2.out.size
          have HKB2 := Lib.hid hKB2
          clear hu2 hKB2
          by_cases hC1 : 0 < C
          · have HE := Lib.hid (show R = (U ++ [(x, m, cs)]) ++ CM.un ((y, n, ds) :: A') (ys.drop (k + 1)) by rw [hun2.out, if_neg (by omega), if_neg (by omega), List.append_assoc]; rfl)
            have HAL := Lib.hid (show ((y, n, ds) :: A' : List Fp).length + (U ++ [(x, m, cs)]).length ≤ 1000 + (k + 1) by have := hal.out; rw [HN.out] at this; rw [List.length_append]; simp only [List.length_cons, List.length_nil] at *; omega)
            obtain ⟨p0, p1, p2, _⟩ := HOP2.out.cells
            clear hun2 hal d0 d1 d2 hi0 hcut
            go_wp2_with (at_builtin; refine wp_appG1' setE (x, m, da, dl, dc) _ rfl rfl _ _ rfl rfl hu1 rfl hlu hsz ?_)
            intro v3 w3 ho3 hb3 hk3
            have HO3 := Lib.hid (OwnF.snoc ho3 HTU.out HT1.out)
            have HB3 := Lib.hid (HB2.out.trans hb3)
            have HAN := Lib.hid (show RdF w (.slice a1 N a2) ((y, n, ds) :: A') by rw [HN.out]; exact HAA.out)
            have HK3 := Lib.hid (HKB2.out.keep hk3)
            clear ho3 hb3 hk3 hu1 HTU p0 p1 p2 HB2 HOP2 HKB2
            go_wp2
            go_roundg g
            case measure => omega
            case rel => exact ⟨k + 1, _, _, by omega, by go_num, HAN, HO3, HE, HAL, HB3, HK3⟩
          · by_cases hC0 : C = 0
            · have HE := Lib.hid (show R = (U ++ [(y, n, ds)]) ++ CM.un A' (ys.drop (k + 1)) by rw [hun2.out, if_neg (by omega), if_pos hC0, List.append_assoc]; rfl)
              have HAL := Lib.hid (show A'.length + (U ++ [(y, n, ds)]).length ≤ 1000 + (k + 1) by have := hal.out; rw [HN.out] at this; rw [List.length_append]; simp only [List.length_cons, List.length_nil] at *; omega)
              have hCt : (C == 0) = true := beq_t hC0
              clear hun2 hal hC0
              go_wp2_with (at_builtin; refine wp_appG1' setE (y, n, ea, el, ec) _ rfl rfl _ _ rfl rfl hu1 rfl hlu hsz ?_)
              intro v3 w3 ho3 hb3 hk3
              have HO3 := Lib.hid (OwnF.snoc ho3 HTU.out HT2.out)
              have HB3 := Lib.hid (HB2.out.trans hb3)
              have HK3 := Lib.hid (HKB2.out.keep hk3)
              clear ho3 hb3 hk3 hu1 HTU d0 d1 d2 HB2 HOP2 HKB2
              go_wp2
              go_roundg g
              case measure => omega
              case rel => exact ⟨k + 1, _, _, by omega, by go_num, HA2, HO3, HE, HAL, HB3, HK3⟩
            · have HE := Lib.hid (show R = (U ++ [(y, n, ds)]) ++ CM.un A' ((x, m, cs) :: ys.drop (k + 1)) by rw [hun2.out, if_pos (by omega), List.append_assoc]; rfl)
              have HAL := Lib.hid (show A'.length + (U ++ [(y, n, ds)]).length ≤ 1000 + k by have := hal.out; rw [HN.out] at this; rw [List.length_append]; simp only [List.length_cons, List.length_nil] at *; omega)
              have hCt : (C == 0) = false := beq_f hC0
              clear hun2 hal hC0
              go_wp2_with (at_builtin; refine wp_appG1C setE (y, n, ea, el, ec) B hBs hub.out rfl _ _ rfl rfl hu1 rfl hlu hsz ?_)
              intro v3 w3 ho3 hb3 hk3 hB3 hub3 _
              have HO3 := Lib.hid (OwnF.snoc ho3 HTU.out HT2.out)
              have HB3 := Lib.hid (HB2.out.trans hb3)
              have HOP3 := Lib.hid (show OP w3 B x m (.slice da dl dc) from hB3.out.trans ((Array.getElem?_eq_getElem hBs).symm.trans HOP2.out))
              have HUB3 := Lib.hid hub3
              have HK3 := Lib.hid (HKB2.out.keep hk3)
              clear ho3 hk3 hu1 HTU d0 d1 d2 HB2 HOP2 hB3 hub3 HKB2
              go_wp2
              go_roundg g2
              case measure => omega
              case rel => exact ⟨A', _, by simpa using hg2, HA2, HO3, HE, HAL, HB3, HUB3, HOP3, HK3⟩
    | zero =>
      have hk' : k = ys.length := by omega
      have hq : ¬ ((k : Int) < (ys.length : Int)) := by omega
      have hfin := he.out
      rw [List.drop_of_length_le (by omega), CM.un_nil] at hfin
      obtain ⟨aq, ha1, ha2⟩ := hA.out
      obtain ⟨uq, hu1, hu2⟩ := hU.out
      have hlu := hu2.len
      have hla := ha2.len
      have hl2 := hal.out
      have hly := HLY.out
      have hs1 := hbl.out.size
      have hra := ha1.below hbl.out
      have HFIN := Lib.hid hfin
      have HTT := Lib.hid (Tel.app hu2 ha2)
      have hlu2 : uq.length ≤ 1073741824 := by omega
      have hla2 : aq.length ≤ 1073741824 := by omega
      have HHB := Lib.hid hbl.out
      clear he hfin hA hU hal hu2 ha2 hl2 hlu hla hbl ha1 hk'
      obtain ⟨j0, j1, j2, j3, j4, j5, j6, j7, j8⟩ := hkb.out.cells
      have hd1 : OwnQ w.heap.size wr.drew (.slice u1 U.length u2) uq := hu1
      have hd2 : RdQ wr.drew (.slice a1 A.length a2) aq := hra
      have hd3 : Below w.heap.size w wr.drew := HHB.out.drew
      have HE1 := Lib.hid hd1
      have HE2 := Lib.hid hd2
      have HE3 := Lib.hid hd3
      clear hu1 hra HHB hd1 hd2 hd3 j0 j1 j2 j3 j4 j5 j6 j7 j8 hs1
      go_wp2
      refine wp_region_held_drew (S := fun w' => KB w' Kb) (by kernel_rfl) ((show KB wr.drew Kb from hkb.out)) (fun ha => ?_)
      replace ha := (show KB wr.drew Kb from hkb.out)
      generalize wr.drew = wa at ha HE1 HE2 HE3 ⊢
      refine takeH (i := 1) (v := ?_) rfl (by kernel_rfl) (by kernel_rfl) (by kernel_rfl) (fun _ _ _ h => h) (Or.inl ⟨by rfl, ?_⟩) (by assumption) ?_
      rotate_left
      · (intro w hSw; (try dsimp only at hSw); go_simp; first | done | with_reducible rfl)
      (try simp only [Act.put, List.setIfInBounds_toArray, List.set_cons_zero, List.set_cons_succ])
      refine takeH (i := 2) (v := ?_) rfl (by kernel_rfl) (by kernel_rfl) (by kernel_rfl) (fun _ _ _ h => h) (Or.inl ⟨by rfl, ?_⟩) (by assumption) ?_
      rotate_left
      · (intro w hSw; (try dsimp only at hSw); go_simp; first | done | with_reducible rfl)
      (try simp only [Act.put, List.setIfInBounds_toArray, List.set_cons_zero, List.set_cons_succ])
      refine takeH (i := 0) (v := ?_) rfl (by kernel_rfl) (by kernel_rfl) (by kernel_rfl) (fun _ _ _ h => h) (Or.inl ⟨by rfl, ?_⟩) (by assumption) ?_
      rotate_left
      · (intro w hSw; (try dsimp only at hSw); obtain ⟨q0, q1, q2, q3, q4, q5, q6, q7, q8⟩ := KB.cells hSw; go_simp; first | done | with_reducible rfl)
      (try simp only [Act.put, List.setIfInBounds_toArray, List.set_cons_zero, List.set_cons_succ])
      refine wpAnyH_ready (rs := [3]) (by kernel_rfl) (by simp) ?_
      refine stepH rfl (fun K hK => ?_) AllReadyH.nil
      refine step_appGK (base := w.heap.size) setE (by rfl) _ _ rfl (by rfl) HE1.out (by rfl) HE2.out hlu2 hla2 HE3.out.size ?_
      intro v2 w2 ho2 hb2 hkx
      have hk2 : KB w2 Kb := KB.keep ha hkx
      have hB2 := HE3.out.trans hb2
      have hrf : RdF w2 v2 R := by rw [HFIN.out]; exact ⟨_, ho2.rd, HTT.out.below hB2⟩
      have HCO := Lib.hid (sCopy v2 R w2 hrf HLR.out HCR.out)
      have HB2 := Lib.hid hB2
      clear ho2 hb2 hkx hB2 hrf
      refine hK.out _ _ (hk2) (fun _ => ?_)
      clear hK K
      (try simp only [Act.put, List.setIfInBounds_toArray, List.set_cons_zero, List.set_cons_succ])
      refine wpAnyH_ready (rs := [4]) (by kernel_rfl) (by simp) ?_
      refine stepH rfl (fun K hK => ?_) AllReadyH.nil
      go_simp
      refine HCO.out.mono ?_
      rintro e w3 ⟨v3, rfl, hr3, hb3⟩
      have hk3 : KB w3 Kb := KB.below hk2 hb3
      go_wp2_with fail
      refine hK.out _ _ (hk3) (fun _ => ?_)
      clear hK K
      (try simp only [Act.put, List.setIfInBounds_toArray, List.set_cons_zero, List.set_cons_succ])
      refine takeH (i := 5) (v := ?_) rfl (by kernel_rfl) (by kernel_rfl) (by kernel_rfl) (fun _ _ _ h => h) (Or.inl ⟨by rfl, ?_⟩) (by assumption) ?_
      rotate_left
      · (intro w hSw; (try dsimp only at hSw); go_simp; first | done | with_reducible rfl)
      (try simp only [Act.put, List.setIfInBounds_toArray, List.set_cons_zero, List.set_cons_succ])
      refine wpAnyH_done (by kernel_rfl) ?_ _
      have HR3 := Lib.hid hr3
      clear hr3 HCO
      go_wp2
      (try rw [Exit.noGoto_ret])
      go_ret
      exact ⟨_, rfl, OwnD.mono HR3.out HB2.out.size, bnext HB2.out hb3⟩

end Go.Proofs.Yteeegpojfbgkfaa
