/-
  The call of config.Union, where what comes back is the call's own, the changes too. Conditions: both configurations read and are of bounded length.
-/
import Derived.Test.YtbhpemdlhgdibaaGreatIClone
namespace Go.Proofs.YtbhpemdlhgdibaaGreat
open Go.RowKit
open JM (Chg)
open CM (Fp)
open VM (Ent)

set_option maxRecDepth 100000 in
set_option maxHeartbeats 4000000 in
theorem gUnionO (va vb : Value) (xs ys : List Fp) (w : World) (ha : RdF w va xs) (hb : RdF w vb ys) (hlx : xs.length ≤ 1000) (hly : ys.length ≤ 1000) (hcx : ∀ f ∈ xs, f.2.2.length ≤ 1073741824) (hcy : ∀ f ∈ ys, f.2.2.length ≤ 1073741824) :
    Calls Tryz.prog 62 #[va, vb] w fun e w' => ∃ v', e = .returned v' ∧ OwnD w.heap.size w' v' (CM.un xs ys) ∧ Below w.heap.size w w' := by
  obtain ⟨aa, ac, rfl, hac, _⟩ := ha.shape
  obtain ⟨ba, bc, rfl, hbc, _⟩ := hb.shape
  obtain ⟨R, hR⟩ : ∃ R, R = CM.un xs ys := ⟨_, rfl⟩
  rw [← hR]
  have HCR := Lib.hid (show ∀ f ∈ R, f.2.2.length ≤ 1073741824 from fun f hf => by rw [hR] at hf; exact (CM.un_mem hf).elim (hcx f) (hcy f))
  have HLR := Lib.hid (show R.length ≤ 1073741824 by rw [hR]; have := CM.un_len xs ys; omega)
  have HA := Lib.hid ha
  have HB := Lib.hid hb
  have HR := Lib.hid hR
  have HLX := Lib.hid hlx
  have HLY := Lib.hid hly
  clear ha hb hR hcx hcy hlx hly
  go_enter Tryz.func62, Tryz.ntmps62
  go_wp2
  go_step3
  go_wp2
  go_step3
  go_wp2
  go_loopg [0, 5, 11] ys.length (fun g a u i wr => ∃ (k : Nat) (A U : List Fp), k + g = ys.length ∧ i = .int .i64 k ∧ Hid (RdF w a A) ∧ Hid (OwnF w w.heap.size wr u U) ∧ Hid (R = U ++ CM.un A (ys.drop k)) ∧ Hid (A.length + U.length ≤ 1000 + k) ∧ Hid (Below w.heap.size w wr))
  case atStart => exact ⟨0, xs, [], by omega, rfl, HA.out, OwnF.nil _ _ _, HR.out, (by show xs.length + 0 ≤ 1000 + 0; have := HLX.out; omega), Below.refl _ _⟩
  case round =>
    obtain ⟨k, A, U, hk, rfl, hA, hU, he, hal, hbl⟩ := hrel
    clear HR
    obtain ⟨a1, a2, rfl, _, _⟩ := hA.out.shape
    obtain ⟨u1, u2, rfl, _, _⟩ := hU.out.shape
    cases gk with
    | succ g =>
      have hlt : k < ys.length := by omega
      have hq : (k : Int) < (ys.length : Int) := by omega
      have hd := drop_get hlt
      have hk2 := List.getElem?_eq_getElem hlt
      generalize ys[k] = p at hd hk2
      rw [hd] at he
      obtain ⟨x, m, cs⟩ := p
      obtain ⟨b, o, da, dl, dc, hi, hbw, c0, c1, c2, hrd⟩ := HB.out.at_ k x m cs hk2
      have HT1 := Lib.hid (show Tell1 w (x, m, da, dl, dc) (x, m, cs) from ⟨rfl, rfl, hrd⟩)
      have c0 := below_cell hbl.out c0
      have c1 := below_cell hbl.out c1
      have c2 := below_cell hbl.out c2
      have hbw : b < wr.heap.size := Nat.lt_of_lt_of_le hbw hbl.out.size
      have hbx := below_fresh wr (.cells #[.int .i64 x, .int .i64 m, .slice da dl dc] 55)
      have hpx := PBox.fresh wr x m (.slice da dl dc)
      have hlx : wr.heap.size < (wr.alloc (.cells #[.int .i64 x, .int .i64 m, .slice da dl dc] 55)).heap.size := by rw [World.size_alloc]; exact Nat.lt_succ_self _
      obtain ⟨wx, hwx⟩ : ∃ wx, wr.alloc (.cells #[.int .i64 x, .int .i64 m, .slice da dl dc] 55) = wx := ⟨_, rfl⟩
      rw [hwx] at hbx hpx hlx
      have HWX := Lib.hid hwx
      have HUX := Lib.hid (hU.out.below hbx)
      have HBX := Lib.hid (bnext hbl.out hbx)
      have hopx : OP wx wr.heap.size x m (.slice da dl dc) := by rw [← hwx]; exact OP.fresh wr x m _
      have hub : (Value.slice u1 U.length u2).ownBlock ≠ some wr.heap.size := by
        obtain ⟨uq, hu1, _⟩ := hU.out
        intro h
        exact Nat.lt_irrefl _ (World.ownsRow.lt hu1.1 _ h).2
      have HD := Lib.hid hd
      clear hbx hpx hwx hU hbl hd hk2 hrd hlx
      go_wp2
      rw [HWX.out]
      clear c0 c1 c2 hi HWX hbw
      obtain ⟨B, hB⟩ : ∃ B, B = wr.heap.size := ⟨_, rfl⟩
      rw [← hB] at hopx hub ⊢
      clear hB
      have HOPX := Lib.hid hopx
      have HUB := Lib.hid hub
      clear hopx hub
      go_loopg [0, 5] A.length (fun g2 a u wy => ∃ (A U : List Fp), A.length = g2 ∧ Hid (RdF w a A) ∧ Hid (OwnF w w.heap.size wy u U) ∧ Hid (R = U ++ CM.un A ((x, m, cs) :: ys.drop (k + 1))) ∧ Hid (A.length + U.length ≤ 1000 + k) ∧ Hid (Below w.heap.size w wy) ∧ Hid (u.ownBlock ≠ some B) ∧ Hid (OP wy B x m (.slice da dl dc)))
      case atStart => exact ⟨A, U, rfl, hA.out, HUX.out, he.out, hal.out, HBX.out, HUB.out, HOPX.out⟩
      case round =>
        clear hA he hal HUX HBX HOPX HUB
        obtain ⟨A, U, hg2, hA, hU, he, hal, HBW, hub, hop⟩ := hrel
        obtain ⟨a1, a2, rfl, _, _⟩ := hA.out.shape
        obtain ⟨u1, u2, rfl, _, _⟩ := hU.out.shape
        have hPX : PBox wr B x m (.slice da dl dc) := ⟨hop.out.cells.1, hop.out.cells.2.1, hop.out.cells.2.2.1⟩
        have hlB : B < wr.heap.size := hop.out.lt
        cases gk with
        | zero =>
          obtain rfl : A = [] := List.eq_nil_of_length_eq_zero hg2
          have hz : ¬ ((0 : Int) < (([] : List Fp).length : Int)) := by simp
          obtain ⟨uq, hu1, hu2⟩ := hU.out
          have hlu : uq.length ≤ 1073741824 := by have := hu2.len; have := HLY.out; have := hal.out; simp only [List.length_nil] at this; omega
          have HTU := Lib.hid hu2
          have HE := Lib.hid (show R = (U ++ [(x, m, cs)]) ++ CM.un [] (ys.drop (k + 1)) by rw [he.out, CM.nil_un, CM.nil_un, List.append_assoc]; rfl)
          have HAL := Lib.hid (show ([] : List Fp).length + (U ++ [(x, m, cs)]).length ≤ 1000 + (k + 1) by have := hal.out; simp only [List.length_append, List.length_cons, List.length_nil] at *; omega)
          have hsz := HBW.out.size
          obtain ⟨p0, p1, p2⟩ := hPX
          clear he hal hu2 hU
          go_wp2_with (at_builtin; refine wp_appG1' proE (x, m, da, dl, dc) _ rfl rfl _ _ rfl rfl hu1 rfl hlu hsz ?_)
          intro v3 w3 ho3 hb3 _
          have HO3 := Lib.hid (OwnF.snoc ho3 HTU.out HT1.out)
          have HB3 := Lib.hid (HBW.out.trans hb3)
          clear ho3 hb3 hu1 HTU p0 p1 p2 HBW
          go_wp2
          go_roundg g
          case measure => omega
          case rel => exact ⟨k + 1, [], _, by omega, by go_num, hA, HO3, HE, HAL, HB3⟩
        | succ g2 =>
          obtain ⟨⟨y, n, ds⟩, A', rfl⟩ : ∃ f A', A = f :: A' := by cases A with | nil => simp at hg2 | cons f A' => exact ⟨_, _, rfl⟩
          have hz : (0 : Int) < ((((y, n, ds) :: A' : List Fp).length : Nat) : Int) := by simp
          obtain ⟨b, o, ea, el, ec, hi, hbw, c0, c1, c2, hrd⟩ := hA.out.at_ 0 y n ds rfl
          have HT2 := Lib.hid (show Tell1 w (y, n, ea, el, ec) (y, n, ds) from ⟨rfl, rfl, hrd⟩)
          have c0 := below_cell HBW.out c0
          have c1 := below_cell HBW.out c1
          have c2 := below_cell HBW.out c2
          obtain ⟨av, hcut, hA'⟩ := hA.out.cutL 1 (by simp)
          have HA2 := Lib.hid (show RdF w av A' from hA')
          obtain ⟨N, hN⟩ : ∃ N, N = ((y, n, ds) :: A' : List Fp).length := ⟨_, rfl⟩
          have hi0 : ∀ w0 : World, (Instr.indexAt 24 (.slice a1 N a2) (.int .i64 0)).run Tryz.prog w0 = .ok (.pointer (some ⟨b, o, none⟩)) w0 := by rw [hN]; exact hi
          have hcut : ∀ w0 : World, (Instr.slice 24 (.slice a1 N a2) (some (.int .i64 1)) none none).run Tryz.prog w0 = .ok av w0 := by rw [hN]; exact hcut
          rw [← hN] at hz hal ⊢
          have HN := Lib.hid hN
          have hC := fun p : Later wr => Calls.later (cCompare y n ea el ec x m da dl dc p.val)
          have hun := Lib.hid (CM.un_cons (y, n, ds) A' (x, m, cs) (ys.drop (k + 1)))
          have hun2 : Hid (R = U ++ if JM.cmpP y n x m < 0 then (y, n, ds) :: CM.un A' ((x, m, cs) :: ys.drop (k + 1)) else if JM.cmpP y n x m = 0 then (y, n, ds) :: CM.un A' (ys.drop (k + 1)) else (x, m, cs) :: CM.un ((y, n, ds) :: A') (ys.drop (k + 1))) := by
            show R = _; rw [he.out, hun.out]
          have HPX2 := Lib.hid hPX
          obtain ⟨p0, p1, p2⟩ := hPX
          have k0 : ∀ p : Later wr, p.val.cell? ⟨b, o, none⟩ = some (.int .i64 y) := fun p => below_cell p.h c0
          have k1 : ∀ p : Later wr, p.val.cell? ⟨b, o + 1, none⟩ = some (.int .i64 n) := fun p => below_cell p.h c1
          have k2 : ∀ p : Later wr, p.val.cell? ⟨b, o + 2, none⟩ = some (.slice ea el ec) := fun p => below_cell p.h c2
          have z0 : ∀ p : Later wr, p.val.cell? ⟨B, 0, none⟩ = some (.int .i64 x) := fun p => below_cell p.h p0
          have z1 : ∀ p : Later wr, p.val.cell? ⟨B, 1, none⟩ = some (.int .i64 m) := fun p => below_cell p.h p1
          have z2 : ∀ p : Later wr, p.val.cell? ⟨B, 2, none⟩ = some (.slice da dl dc) := fun p => below_cell p.h p2
          generalize JM.cmpP y n x m = C at hC hun2
          have HC := Lib.hid hC
          have HUU := Lib.hid hU.out
          have HAA := Lib.hid hA.out
          clear hN hi hC hun he hrd hU hA hA' p0 p1 p2
          go_wp2
          refine wp_region_later (by kernel_rfl) (by kernel_rfl) ?_
          repeat (go_big_quiet_step (first | (go_at_call 78; with_reducible exact HC.out _)))
          refine wpQuiet_nil ?_
          rintro _ ⟨p', rfl⟩
          have d0 := below_cell p'.h c0
          have d1 := below_cell p'.h c1
          have d2 := below_cell p'.h c2
          have hU2 := HUU.out.below p'.h
          have HB2 := Lib.hid (bnext HBW.out p'.h)
          have hOP2 := hop.out.below p'.h
          have hP2 := HPX2.out.below p'.h
          have hbs : b < p'.val.heap.size := Nat.lt_of_lt_of_le (Nat.lt_of_lt_of_le hbw HBW.out.size) p'.h.size
          have hBs : B < p'.val.heap.size := Nat.lt_of_lt_of_le hlB p'.h.size
          have HOP2 := Lib.hid hOP2
          clear k0 k1 k2 z0 z1 z2 c0 c1 c2 HC HUU HPX2 HBW hOP2 hop
          obtain ⟨w2, hw2⟩ : ∃ w2, w2 = p'.val := ⟨_, rfl⟩
          rw [← hw2] at d0 d1 d2 hU2 HB2 HOP2 hP2 hbs hBs ⊢
          clear hw2
          obtain ⟨uq, hu1, hu2⟩ := hU2
          have hlu : uq.length ≤ 1073741824 := by have := hu2.len; have := hal.out; have := HLY.out; omega
          have HTU := Lib.hid hu2
          have hsz := HB2.out.size
          clear hu2
          by_cases hC1 : 0 < C
          · have HE := Lib.hid (show R = (U ++ [(x, m, cs)]) ++ CM.un ((y, n, ds) :: A') (ys.drop (k + 1)) by rw [hun2.out, if_neg (by omega), if_neg (by omega), List.append_assoc]; rfl)
            have HAL := Lib.hid (show ((y, n, ds) :: A' : List Fp).length + (U ++ [(x, m, cs)]).length ≤ 1000 + (k + 1) by have := hal.out; rw [HN.out] at this; rw [List.length_append]; simp only [List.length_cons, List.length_nil] at *; omega)
            obtain ⟨p0, p1, p2⟩ := hP2
            clear hun2 hal d0 d1 d2 hi0 hcut
            go_wp2_with (at_builtin; refine wp_appG1' proE (x, m, da, dl, dc) _ rfl rfl _ _ rfl rfl hu1 rfl hlu hsz ?_)
            intro v3 w3 ho3 hb3 _
            have HO3 := Lib.hid (OwnF.snoc ho3 HTU.out HT1.out)
            have HB3 := Lib.hid (HB2.out.trans hb3)
            have HAN := Lib.hid (show RdF w (.slice a1 N a2) ((y, n, ds) :: A') by rw [HN.out]; exact HAA.out)
            clear ho3 hb3 hu1 HTU p0 p1 p2 HB2 HOP2
            go_wp2
            go_roundg g
            case measure => omega
            case rel => exact ⟨k + 1, _, _, by omega, by go_num, HAN, HO3, HE, HAL, HB3⟩
          · by_cases hC0 : C = 0
            · have HE := Lib.hid (show R = (U ++ [(y, n, ds)]) ++ CM.un A' (ys.drop (k + 1)) by rw [hun2.out, if_neg (by omega), if_pos hC0, List.append_assoc]; rfl)
              have HAL := Lib.hid (show A'.length + (U ++ [(y, n, ds)]).length ≤ 1000 + (k + 1) by have := hal.out; rw [HN.out] at this; rw [List.length_append]; simp only [List.length_cons, List.length_nil] at *; omega)
              have hCt : (C == 0) = true := beq_t hC0
              clear hun2 hal hP2 hC0
              go_wp2_with (at_builtin; refine wp_appG1' proE (y, n, ea, el, ec) _ rfl rfl _ _ rfl rfl hu1 rfl hlu hsz ?_)
              intro v3 w3 ho3 hb3 _
              have HO3 := Lib.hid (OwnF.snoc ho3 HTU.out HT2.out)
              have HB3 := Lib.hid (HB2.out.trans hb3)
              clear ho3 hb3 hu1 HTU d0 d1 d2 HB2 HOP2
              go_wp2
              go_roundg g
              case measure => omega
              case rel => exact ⟨k + 1, _, _, by omega, by go_num, HA2, HO3, HE, HAL, HB3⟩
            · have HE := Lib.hid (show R = (U ++ [(y, n, ds)]) ++ CM.un A' ((x, m, cs) :: ys.drop (k + 1)) by rw [hun2.out, if_pos (by omega), List.append_assoc]; rfl)
              have HAL := Lib.hid (show A'.length + (U ++ [(y, n, ds)]).length ≤ 1000 + k by have := hal.out; rw [HN.out] at this; rw [List.length_append]; simp only [List.length_cons, List.length_nil] at *; omega)
              have hCt : (C == 0) = false := beq_f hC0
              clear hun2 hal hP2 hC0
              go_wp2_with (at_builtin; refine wp_appG1B proE (y, n, ea, el, ec) B hBs hub.out rfl _ _ rfl rfl hu1 rfl hlu hsz ?_)
              intro v3 w3 ho3 hb3 hB3 hub3 _
              have HO3 := Lib.hid (OwnF.snoc ho3 HTU.out HT2.out)
              have HB3 := Lib.hid (HB2.out.trans hb3)
              have HOP3 := Lib.hid (show OP w3 B x m (.slice da dl dc) from hB3.out.trans ((Array.getElem?_eq_getElem hBs).symm.trans HOP2.out))
              have HUB3 := Lib.hid hub3
              clear ho3 hu1 HTU d0 d1 d2 HB2 HOP2 hB3 hub3
              go_wp2
              go_roundg g2
              case measure => omega
              case rel => exact ⟨A', _, by simpa using hg2, HA2, HO3, HE, HAL, HB3, HUB3, HOP3⟩
    | zero =>
      have hk' : k = ys.length := by omega
      have hq : ¬ ((k : Int) < (ys.length : Int)) := by omega
      have hfin := he.out
      rw [List.drop_of_length_le (by omega), CM.un_nil] at hfin
      obtain ⟨aq, ha1, ha2⟩ := hA.out
      obtain ⟨uq, hu1, hu2⟩ := hU.out
      have hlu := hu2.len
      have hla := ha2.len
      have hl2 := hal.out
      have hly := HLY.out
      have hs1 := hbl.out.size
      have hra := ha1.below hbl.out
      have HFIN := Lib.hid hfin
      have HTT := Lib.hid (Tel.app hu2 ha2)
      have hlu2 : uq.length ≤ 1073741824 := by omega
      have hla2 : aq.length ≤ 1073741824 := by omega
      have HHB := Lib.hid hbl.out
      clear he hfin hA hU hal hu2 ha2 hl2 hlu hla hbl ha1 hk'
      go_wp2_with (at_builtin; refine wp_appGS proE rfl _ _ rfl rfl hu1 rfl hra hlu2 hla2 hs1 ?_)
      intro v2 w2 ho2 hb2 _
      have hB2 := HHB.out.trans hb2
      have hrf : RdF w2 v2 R := by rw [HFIN.out]; exact ⟨_, ho2.rd, HTT.out.below hB2⟩
      have HCO := Lib.hid (gCopiedO v2 R w2 hrf HLR.out HCR.out)
      have HB2 := Lib.hid hB2
      clear ho2 hb2 hrf hB2 hra hu1
      go_wp2_with fail
      refine HCO.out.mono ?_
      rintro e w3 ⟨v3, rfl, hr3, hb3⟩
      have HR3 := Lib.hid hr3
      clear hr3 HCO
      go_wp2
      (try rw [Exit.noGoto_ret])
      go_ret
      exact ⟨_, rfl, OwnD.mono HR3.out HB2.out.size, bnext HB2.out hb3⟩


end Go.Proofs.YtbhpemdlhgdibaaGreat
