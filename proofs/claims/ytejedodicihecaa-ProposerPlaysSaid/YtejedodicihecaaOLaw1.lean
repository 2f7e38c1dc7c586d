/-
  The call of the law ProposerPlays: it returns true. Conditions: what comes in reads; the contracts of package proposer hold. (Written by mk_olaw.py.)
-/
import Derived.Deep.RegionHeld3
import Derived.Test.YtejedodicihecaaOAwk
import Derived.Test.YtejedodicihecaaReg
namespace Go.Proofs.Ytejedodicihecaa
open Go.RowKit
open VM (Ent)

set_option maxRecDepth 100000 in
set_option maxHeartbeats 4000000 in
theorem lProposerPlays (ct : PT) (n : Int) (v u : Value) (xs : List Ent) (l : List Rq) (w : World) (hn0 : 0 ≤ n) (hn1 : n ≤ 255) (hv : VX.RdV w v xs) (hl : RdRp w u l) :
    Calls Try.prog 3 #[.int .u8 n, v, u] w fun e w' => e = .returned (.bool true) ∧ Below w.heap.size w w' := by
  obtain ⟨va, vc, rfl, _, _⟩ := hv.shape
  obtain ⟨la, lc, rfl, _, _⟩ := hl.shape
  have HV := Lib.hid hv
  have HL := Lib.hid hl
  have HB := Lib.hid (Below.refl w.heap.size w)
  have hE := VX.rValidate _ xs w hv
  obtain ⟨E, hEE⟩ : ∃ E, E = VM.err 0 xs := ⟨_, rfl⟩
  rw [← hEE] at hE
  have HE := Lib.hid hE
  have HEE := Lib.hid hEE
  clear hv hl hE hEE
  go_enter Try.func3, Try.ntmps3
  by_cases h20 : 20 < xs.length
  · have h20i : (20 : Int) < (xs.length : Int) := by omega
    have HQ := Lib.hid (cAwake16 ct w)
    go_wp2_with fail
    refine HQ.out.mono ?_
    rintro e w9 ⟨rfl, hb9⟩
    replace HB := Lib.hid (bnext HB.out hb9)
    clear hb9 HQ
    go_wp2
    go_ret
    exact ⟨rfl, HB.out⟩
  have h20i : ¬ ((20 : Int) < (xs.length : Int)) := by omega
  by_cases h0 : E = 0
  case neg =>
    have hne : (E != 0) = true := bneT h0
    go_wp2_with fail
    refine HE.out.mono ?_
    rintro e w1 ⟨rfl, hb1⟩
    replace HB := Lib.hid (bnext HB.out hb1)
    clear HE hb1
    have HQ := Lib.hid (cAwake16 ct w1)
    go_wp2_with fail
    refine HQ.out.mono ?_
    rintro e w9 ⟨rfl, hb9⟩
    replace HB := Lib.hid (bnext HB.out hb9)
    clear hb9 HQ
    go_wp2
    go_ret
    exact ⟨rfl, HB.out⟩
  subst h0
  have hx : VM.Val 0 xs := (VM.err_val (Int.le_refl 0)).1 HEE.out.symm
  have HX := Lib.hid hx
  have HXL := Lib.hid (show xs.length ≤ 20 by omega)
  go_wp2_with fail
  refine HE.out.mono ?_
  rintro e w1 ⟨rfl, hb1⟩
  replace HB := Lib.hid (bnext HB.out hb1)
  replace HV := Lib.hid (HV.out.below hb1)
  replace HL := Lib.hid (HL.out.below hb1)
  clear HE hb1 hx HEE
  have HQ := Lib.hid (kSmall _ l w1 HL.out)
  go_wp2_with fail
  refine HQ.out.mono ?_
  rintro e w2 ⟨⟨R, rfl, hR⟩, hb2⟩
  replace HB := Lib.hid (bnext HB.out hb2)
  replace HV := Lib.hid (HV.out.below hb2)
  replace HL := Lib.hid (HL.out.below hb2)
  clear hb2 HQ
  cases R
  · clear hR
    have HQ := Lib.hid (cAwake16 ct w2)
    go_wp2_with fail
    refine HQ.out.mono ?_
    rintro e w9 ⟨rfl, hb9⟩
    replace HB := Lib.hid (bnext HB.out hb9)
    clear hb9 HQ
    go_wp2
    go_ret
    exact ⟨rfl, HB.out⟩
  have HF := Lib.hid (hR rfl)
  clear hR
  have hN : 1 ≤ 1 + n % 12 ∧ 1 + n % 12 ≤ 12 := by omega
  have HQ := Lib.hid (ct.new _ (1 + n % 12) _ _ w2 (fun _ h => h.elim) (offNV HV.out) HX.out (by have := HXL.out; omega) hN.1 hN.2)
  go_wp2_with fail
  refine HQ.out.mono ?_
  rintro e w3 ⟨p3, rfl, hp3, hb3⟩
  obtain ⟨ua, uc, ka, kc, rfl, _, _⟩ := hp3.rd.shape
  replace HB := Lib.hid (bnext HB.out hb3)
  replace HV := Lib.hid (HV.out.below hb3)
  replace HL := Lib.hid (HL.out.below hb3)
  have HP3 := Lib.hid hp3.rd
  clear hp3 hb3 HQ
  simp only at HP3
  obtain ⟨ws, hws, hA, hbs, hss⟩ := oneP 31 w3 (.int .i64 (1 + n % 12)) (.slice ua xs.length uc) (.int .i64 1) (.slice ka 0 kc) (.bool false)
  obtain ⟨wt, hwt, hZ, hbt, hst⟩ := oneP 33 ws (.int .i64 (1 + n % 12)) (.slice va xs.length vc) (.int .i64 1) (.slice none 0 0) (.bool false)
  rw [hss] at hZ
  have hb4 := bnext hbs hbt
  have HBt := Lib.hid hb4
  have HW := Lib.hid (show (w3.alloc (.cells #[.int .i64 (1 + n % 12), .slice ua xs.length uc, .int .i64 1, .slice ka 0 kc, .bool false] 31)).alloc (.cells #[.int .i64 (1 + n % 12), .slice va xs.length vc, .int .i64 1, .slice none 0 0, .bool false] 33) = wt by rw [hws, hwt])
  have HX8 := Lib.hid (show PrB 31 wt w3.heap.size (.agg #[.int .i64 (1 + n % 12), .slice ua xs.length uc, .int .i64 1, .slice ka 0 kc, .bool false]) from ⟨_, _, _, _, _, rfl, below_blk hA hbt⟩)
  have HX9 := Lib.hid (show PrB 33 wt (w3.heap.size + 1) (.agg #[.int .i64 (1 + n % 12), .slice va xs.length vc, .int .i64 1, .slice none 0 0, .bool false]) from ⟨_, _, _, _, _, rfl, hZ⟩)
  have HP8 := Lib.hid (prO_old (G := Two w3.heap.size) HP3.out hb4 Two.ge)
  have HP9 := Lib.hid (prO (s := ⟨1 + n % 12, xs, 1, [], false⟩) (off_oldV (G := Two w3.heap.size) HV.out hb4 Two.ge) (fun _ _ => RdG.nil hlI _))
  have HTK := Lib.hid (PM.Ok.new hN.1 hN.2 HX.out 1 false)
  have HTB := Lib.hid (show (PM.Ps.mk (1 + n % 12) xs 1 [] false).val.length ≤ 20 * (0 + 1) ∧ 1 ≤ (PM.Ps.mk (1 + n % 12) xs 1 [] false).round ∧ (PM.Ps.mk (1 + n % 12) xs 1 [] false).round ≤ ((0 : Nat) : Int) + 1 from ⟨HXL.out, by show (1 : Int) ≤ 1; decide, by show (1 : Int) ≤ ((0 : Nat) : Int) + 1; decide⟩)
  clear hws hA hbs hss hwt hZ hbt hst hb4 HP3 HXL
  go_upto_region 5 with fail
  rw [HW.out]
  clear HW
  go_wp2
  go_loopw [10] (fun i wr => ∃ (k : Nat) (s : PM.Ps) (pv qv : Value), k ≤ l.length ∧ i = .int .i64 k ∧ Hid (Below w3.heap.size w3 wr) ∧ Hid (PrB 31 wr w3.heap.size pv) ∧ Hid (PrB 33 wr (w3.heap.size + 1) qv) ∧ Hid (PrO (Two w3.heap.size) wr pv s) ∧ Hid (PrO (Two w3.heap.size) wr qv s) ∧ Hid (PM.Ok s) ∧ Hid (s.val.length ≤ 20 * (k + 1) ∧ 1 ≤ s.round ∧ s.round ≤ (k : Int) + 1)) (fun i _ => l.length - (intOf i).toNat)
  case atStart => exact ⟨0, _, _, _, Nat.zero_le _, rfl, HBt, HX8, HX9, HP8, HP9, HTK, HTB⟩
  case round =>
    obtain ⟨k, s, pv, qv, hk, rfl, hbl, hpb, hqb, hpo, hqo, hok, hbd⟩ := hrel
    clear HX8 HX9 HP8 HP9 HTK HTB HBt
    obtain ⟨pa, pb, pc, pd, rfl, _, _⟩ := hpo.out.parts
    obtain ⟨qa, qb, qc, qd, rfl, _, _⟩ := hqo.out.parts
    have hA := hpb.out.cells
    have hQ := hqb.out.cells
    have HS := Lib.hid (kSame _ _ s wr hpo.out.rd hqo.out.rd)
    by_cases hlt : k < l.length
    · have hq : (k : Int) < (l.length : Int) := by omega
      have hk2 := List.getElem?_eq_getElem hlt
      generalize l[k] = y at hk2
      obtain ⟨ri, rj, x, rb⟩ := y
      have hxf := HF.out.each _ (List.mem_of_getElem? hk2)
      have hk60 := HF.out.len
      obtain ⟨b, o, xa, xc, hi, hbw, e0, e1, f2o, e3, hrx⟩ := HL.out.at_ rfl k ri rj x rb hk2
      have HXO := Lib.hid (off_oldV (G := Two w3.heap.size) hrx hbl.out Two.ge)
      have hsz : w3.heap.size + 2 ≤ wr.heap.size := by have := (Array.getElem?_eq_some_iff.1 hQ).1; omega
      obtain ⟨c0, c1, c2, c3, c4⟩ := five hA
      obtain ⟨d0, d1, d2, d3, d4⟩ := five hQ
      clear hk2 hrx
      go_wp2_with fail
      refine HS.out.mono ?_
      rintro e w4 ⟨rfl, hb4⟩
      have HB4 := Lib.hid (bnext hbl.out hb4)
      have HA4 := Lib.hid (below_blk hA hb4)
      have HQ4 := Lib.hid (below_blk hQ hb4)
      have HPO := Lib.hid (hpo.out.below hb4)
      have HQO := Lib.hid (hqo.out.below hb4)
      have HXO4 := Lib.hid (HXO.out.below hb4)
      have HSZ := Lib.hid (Nat.le_trans hsz hb4.size)
      have e30 := VX.below_cell HB4.out e3
      have f2 := VX.below_cell HB4.out f2o
      have hv20 : x.length ≤ 20 := hxf.1
      have HVX := Lib.hid (show VM.Val 0 x from hxf.2)
      clear c0 c1 c2 c3 c4 d0 d1 d2 d3 d4 hA hQ hpb hqb hpo hqo HXO hsz hb4 HS
      cases rb
      case true =>
        obtain ⟨T, HT⟩ : ∃ T, Hid (PM.prp s x = T) := ⟨_, Lib.hid rfl⟩
        have HTK := Lib.hid (show PM.Ok T by rw [← HT.out]; exact hok.out.prp HVX.out)
        have HTB := Lib.hid (show T.val.length ≤ 20 * (k + 1 + 1) ∧ 1 ≤ T.round ∧ T.round ≤ ((k + 1 : Nat) : Int) + 1 by
          rw [← HT.out]
          have h1 := PM.prp_vlen s x
          have h2 := PM.prp_round s x
          have h3 := hbd.out
          omega)
        have HC6 := Lib.hid (fun w' (hb : Below w4.heap.size w4 w') => show PropAt 11 (Two w3.heap.size) _ (.slice xa x.length xc) T w' by
          rw [← HT.out]
          have h3 := hbd.out
          have h4 := HSZ.out
          have h5 := hb.size
          exact ct.prop _ _ _ s x w' (Two.lt (by omega)) (HPO.out.below hb) (HXO4.out.below hb) hok.out HVX.out (by omega) (by omega) (by omega) (by omega))
        have HC13 := Lib.hid (fun w' (hb : Below w4.heap.size w4 w') => show PropAt 12 (Two w3.heap.size) _ (.slice xa x.length xc) T w' by
          rw [← HT.out]
          have h3 := hbd.out
          have h4 := HSZ.out
          have h5 := hb.size
          exact rProp _ _ _ s x w' (Two.lt (by omega)) (HQO.out.below hb) (HXO4.out.below hb) hok.out HVX.out (by omega) (by omega) (by omega) (by omega))
        clear hbd HT
        go_upto_region 11 with fail
        refine wp_region_held_drew (S := fun w' => w'.cell? ⟨b, o + 2, none⟩ = some (.slice xa x.length xc)) (by kernel_rfl) (VX.below_cell (Below.refl _ _).drew f2) (fun _ => ?_)
        have ha : Below w4.heap.size w4 w4.drew := (Below.refl _ _).drew
        generalize w4.drew = wa at ha ⊢
        have hS0 := VX.below_cell ha f2
        refine takeH (i := 1) (v := ?_) rfl (by kernel_rfl) (by kernel_rfl) (by kernel_rfl) (fun _ _ _ h => h) (Or.inl ⟨by rfl, ?_⟩) (by assumption) ?_
        rotate_left
        · (intro w hSw; (try dsimp only at hSw); go_simp; first | done | with_reducible rfl)
        (try simp only [Act.put, List.setIfInBounds_toArray, List.set_cons_zero, List.set_cons_succ])
        refine takeH (i := 2) (v := ?_) rfl (by kernel_rfl) (by kernel_rfl) (by kernel_rfl) (fun _ _ _ h => h) (Or.inl ⟨by rfl, ?_⟩) (by assumption) ?_
        rotate_left
        · (intro w hSw; (try dsimp only at hSw); go_simp; first | done | with_reducible rfl)
        (try simp only [Act.put, List.setIfInBounds_toArray, List.set_cons_zero, List.set_cons_succ])
        refine takeH (i := 3) (v := ?_) rfl (by kernel_rfl) (by kernel_rfl) (by kernel_rfl) (fun _ _ _ h => h) (Or.inl ⟨by rfl, ?_⟩) (by assumption) ?_
        rotate_left
        · (intro w hSw; (try dsimp only at hSw); go_simp; first | done | with_reducible rfl)
        (try simp only [Act.put, List.setIfInBounds_toArray, List.set_cons_zero, List.set_cons_succ])
        refine takeH (i := 4) (v := ?_) rfl (by kernel_rfl) (by kernel_rfl) (by kernel_rfl) (fun _ _ _ h => h) (Or.inl ⟨by rfl, ?_⟩) (by assumption) ?_
        rotate_left
        · (intro w hSw; (try dsimp only at hSw); go_simp; first | done | with_reducible rfl)
        (try simp only [Act.put, List.setIfInBounds_toArray, List.set_cons_zero, List.set_cons_succ])
        refine takeH (i := 5) (v := ?_) rfl (by kernel_rfl) (by kernel_rfl) (by kernel_rfl) (fun _ _ _ h => h) (Or.inl ⟨by rfl, ?_⟩) (by assumption) ?_
        rotate_left
        · (intro w hSw; (try dsimp only at hSw); have hcx := hSw; go_simp; first | done | with_reducible rfl)
        (try simp only [Act.put, List.setIfInBounds_toArray, List.set_cons_zero, List.set_cons_succ])
        refine takeH (i := 8) (v := ?_) rfl (by kernel_rfl) (by kernel_rfl) (by kernel_rfl) (fun _ _ _ h => h) (Or.inl ⟨by rfl, ?_⟩) (by assumption) ?_
        rotate_left
        · (intro w hSw; (try dsimp only at hSw); go_simp; first | done | with_reducible rfl)
        (try simp only [Act.put, List.setIfInBounds_toArray, List.set_cons_zero, List.set_cons_succ])
        refine takeH (i := 9) (v := ?_) rfl (by kernel_rfl) (by kernel_rfl) (by kernel_rfl) (fun _ _ _ h => h) (Or.inl ⟨by rfl, ?_⟩) (by assumption) ?_
        rotate_left
        · (intro w hSw; (try dsimp only at hSw); go_simp; first | done | with_reducible rfl)
        (try simp only [Act.put, List.setIfInBounds_toArray, List.set_cons_zero, List.set_cons_succ])
        refine takeH (i := 10) (v := ?_) rfl (by kernel_rfl) (by kernel_rfl) (by kernel_rfl) (fun _ _ _ h => h) (Or.inl ⟨by rfl, ?_⟩) (by assumption) ?_
        rotate_left
        · (intro w hSw; (try dsimp only at hSw); go_simp; first | done | with_reducible rfl)
        (try simp only [Act.put, List.setIfInBounds_toArray, List.set_cons_zero, List.set_cons_succ])
        refine takeH (i := 11) (v := ?_) rfl (by kernel_rfl) (by kernel_rfl) (by kernel_rfl) (fun _ _ _ h => h) (Or.inl ⟨by rfl, ?_⟩) (by assumption) ?_
        rotate_left
        · (intro w hSw; (try dsimp only at hSw); go_simp; first | done | with_reducible rfl)
        (try simp only [Act.put, List.setIfInBounds_toArray, List.set_cons_zero, List.set_cons_succ])
        refine takeH (i := 12) (v := ?_) rfl (by kernel_rfl) (by kernel_rfl) (by kernel_rfl) (fun _ _ _ h => h) (Or.inl ⟨by rfl, ?_⟩) (by assumption) ?_
        rotate_left
        · (intro w hSw; (try dsimp only at hSw); have hcx := hSw; go_simp; first | done | with_reducible rfl)
        (try simp only [Act.put, List.setIfInBounds_toArray, List.set_cons_zero, List.set_cons_succ])
        refine wpAnyH_ready (rs := [0, 7]) (by kernel_rfl) (by simp) ?_
        refine stepH rfl (fun K hK => ?_) (stepH rfl (fun K hK => ?_) AllReadyH.nil)
        focus
          obtain ⟨z0, z1, z2, z3, z4⟩ := five (below_blk HA4.out ha)
          go_simp
          refine hK.out _ _ (hS0) (fun _ => ?_)
          clear hK K
          (try simp only [Act.put, List.setIfInBounds_toArray, List.set_cons_zero, List.set_cons_succ])
          refine wpAnyH_ready (rs := [6, 7]) (by kernel_rfl) (by simp) ?_
          refine stepH rfl (fun K hK => ?_) (stepH rfl (fun K hK => ?_) AllReadyH.nil)
          focus
            go_simp
            refine (HC6.out wa ha).mono ?_
            rintro e wb ⟨p6, rfl, hp6, hq⟩
            have hb := bnext ha hq
            have hS1 := VX.below_cell hb f2
            go_wp2_with fail
            refine hK.out _ _ (hS1) (fun _ => ?_)
            clear hK K
            (try simp only [Act.put, List.setIfInBounds_toArray, List.set_cons_zero, List.set_cons_succ])
            refine wpAnyH_ready (rs := [7]) (by kernel_rfl) (by simp) ?_
            refine stepH rfl (fun K hK => ?_) AllReadyH.nil
            obtain ⟨z0, z1, z2, z3, z4⟩ := five (below_blk HQ4.out hb)
            go_simp
            refine hK.out _ _ (hS1) (fun _ => ?_)
            clear hK K
            (try simp only [Act.put, List.setIfInBounds_toArray, List.set_cons_zero, List.set_cons_succ])
          rotate_left
          focus
            obtain ⟨z0, z1, z2, z3, z4⟩ := five (below_blk HQ4.out ha)
            go_simp
            refine hK.out _ _ (hS0) (fun _ => ?_)
            clear hK K
            (try simp only [Act.put, List.setIfInBounds_toArray, List.set_cons_zero, List.set_cons_succ])
            refine wpAnyH_ready (rs := [6]) (by kernel_rfl) (by simp) ?_
            refine stepH rfl (fun K hK => ?_) AllReadyH.nil
            go_simp
            refine (HC6.out wa ha).mono ?_
            rintro e wb ⟨p6, rfl, hp6, hq⟩
            have hb := bnext ha hq
            have hS1 := VX.below_cell hb f2
            go_wp2_with fail
            refine hK.out _ _ (hS1) (fun _ => ?_)
            clear hK K
            (try simp only [Act.put, List.setIfInBounds_toArray, List.set_cons_zero, List.set_cons_succ])
        rotate_left 2
        focus
          obtain ⟨z0, z1, z2, z3, z4⟩ := five (below_blk HQ4.out ha)
          go_simp
          refine hK.out _ _ (hS0) (fun _ => ?_)
          clear hK K
          (try simp only [Act.put, List.setIfInBounds_toArray, List.set_cons_zero, List.set_cons_succ])
          refine wpAnyH_ready (rs := [0]) (by kernel_rfl) (by simp) ?_
          refine stepH rfl (fun K hK => ?_) AllReadyH.nil
          obtain ⟨z0, z1, z2, z3, z4⟩ := five (below_blk HA4.out ha)
          go_simp
          refine hK.out _ _ (hS0) (fun _ => ?_)
          clear hK K
          (try simp only [Act.put, List.setIfInBounds_toArray, List.set_cons_zero, List.set_cons_succ])
          refine wpAnyH_ready (rs := [6]) (by kernel_rfl) (by simp) ?_
          refine stepH rfl (fun K hK => ?_) AllReadyH.nil
          go_simp
          refine (HC6.out wa ha).mono ?_
          rintro e wb ⟨p6, rfl, hp6, hq⟩
          have hb := bnext ha hq
          have hS1 := VX.below_cell hb f2
          go_wp2_with fail
          refine hK.out _ _ (hS1) (fun _ => ?_)
          clear hK K
          (try simp only [Act.put, List.setIfInBounds_toArray, List.set_cons_zero, List.set_cons_succ])
        all_goals
          have hC := HC13.out wb hb
          refine wpAnyH_ready (rs := [13]) (by kernel_rfl) (by simp) ?_
          refine stepH rfl (fun K hK => ?_) AllReadyH.nil
          go_simp
          refine hC.mono ?_
          rintro e wc ⟨q6, rfl, hq6, hq2⟩
          have hc := bnext hb hq2
          have hS2 := VX.below_cell hc f2
          go_wp2_with fail
          refine hK.out _ _ (hS2) (fun _ => ?_)
          clear hK K
          (try simp only [Act.put, List.setIfInBounds_toArray, List.set_cons_zero, List.set_cons_succ])
          obtain ⟨pa, pb, pc, pd, rfl, _, _⟩ := hp6.parts
          obtain ⟨qa, qb, qc, qd, rfl, _, _⟩ := hq6.parts
          have hA5 := below_blk HA4.out hc
          have hQ5 := below_blk HQ4.out hc
          have HB5 := Lib.hid (bnext HB4.out hc)
          obtain ⟨w5, hw5⟩ : ∃ w5, wc.setRow w3.heap.size #[.int .i64 T.acc, .slice pa T.val.length pb, .int .i64 T.round, .slice pc T.acks.length pd, .bool T.dec] = w5 := ⟨_, rfl⟩
          have ho5 : Only w3.heap.size wc w5 := by rw [← hw5]; exact onlyR _ _ _
          have hB6 := seen HB5.out (Nat.le_refl _) ho5
          have hQ6 := ho5.at hQ5 (by omega)
          have hS3 := VX.below_cell hB6 f2o
          refine wpAnyH_ready (rs := [14]) (by kernel_rfl) (by simp) ?_
          refine stepH rfl (fun K hK => ?_) AllReadyH.nil
          rw [if_pos (by rfl)]
          refine wp_store_row 31 _ _ rfl w3.heap.size #[.int .i64 T.acc, .slice pa T.val.length pb, .int .i64 T.round, .slice pc T.acks.length pd, .bool T.dec] rfl rfl 31 _ hA5 (by kernel_rfl) rfl (cells5 _ _ _ _ _ _ _ _ _) ?_
          rw [hw5]
          refine hK.out _ _ (hS3) (fun _ => ?_)
          clear hK K
          obtain ⟨w6, hw6⟩ : ∃ w6, w5.setRow (w3.heap.size + 1) #[.int .i64 T.acc, .slice qa T.val.length qb, .int .i64 T.round, .slice qc T.acks.length qd, .bool T.dec] = w6 := ⟨_, rfl⟩
          have ho6 : Only (w3.heap.size + 1) w5 w6 := by rw [← hw6]; exact onlyR _ _ _
          have hB7 := seen hB6 (by omega) ho6
          have hS4 := VX.below_cell hB7 f2o
          refine wpAnyH_ready (rs := [15]) (by kernel_rfl) (by simp) ?_
          refine stepH rfl (fun K hK => ?_) AllReadyH.nil
          rw [if_pos (by rfl)]
          refine wp_store_row 33 _ _ rfl (w3.heap.size + 1) #[.int .i64 T.acc, .slice qa T.val.length qb, .int .i64 T.round, .slice qc T.acks.length qd, .bool T.dec] rfl rfl 33 _ hQ6 (by kernel_rfl) rfl (cells5 _ _ _ _ _ _ _ _ _) ?_
          rw [hw6]
          refine hK.out _ _ (hS4) (fun _ => ?_)
          clear hK K
          refine wpAnyH_done (by kernel_rfl) ?_ _
          have HX8 := Lib.hid (show PrB 31 w6 w3.heap.size _ from ⟨_, _, _, _, _, rfl, ho6.at (by rw [← hw5]; exact setRow_heap _ _ _ _ _ _ hA5) (by omega)⟩)
          have HX9 := Lib.hid (show PrB 33 w6 (w3.heap.size + 1) _ from ⟨_, _, _, _, _, rfl, by rw [← hw6]; exact setRow_heap _ _ _ _ _ _ hQ6⟩)
          have HP8 := Lib.hid (((hp6.below hq2).only ho5 (.inl rfl)).only ho6 (.inr rfl))
          have HP9 := Lib.hid ((hq6.only ho5 (.inl rfl)).only ho6 (.inr rfl))
          have HB8 := Lib.hid hB7
          clear hC hp6 hq6 hq hq2 hA5 hQ5 HB5 hw5 ho5 hB6 hQ6 hw6 ho6 hB7 hS0 hS1 hS2 hS3 hS4 ha hb hc HA4 HQ4 HC6 HC13 f2
          go_wp2
          go_roundw
          case rel => exact ⟨k + 1, T, _, _, by omega, by go_num, HB8, HX8, HX9, HP8, HP9, HTK, HTB⟩
          case measure => simp [intOf]; omega
      case false =>
        obtain ⟨c0, c1, c2, c3, c4⟩ := five HA4.out
        obtain ⟨d0, d1, d2, d3, d4⟩ := five HQ4.out
        have f1w := VX.below_cell HB4.out e1
        have f04 := VX.below_cell HB4.out e0
        have f24 := f2
        have hrd := hbd.out.2
        go_upto_region 13 with fail
        go_cut [84] from 71 to 84 (fun p84 wx => ∃ B : Bool, p84 = .bool B ∧ wx = w4)
        case first =>
          by_cases h5 : 0 < rj
          · by_cases h6 : rj < 5
            · go_wp2
              go_meet
              exact ⟨_, rfl, rfl⟩
            · go_wp2
              go_meet
              exact ⟨_, rfl, rfl⟩
          · have h6 : ¬ rj > 0 := h5
            go_wp2
            go_meet
            exact ⟨_, rfl, rfl⟩
        case rest =>
          obtain ⟨B, rfl, hwx⟩ := hcut
          obtain rfl : w4 = _ := hwx.symm
          go_upto_if 84 with fail
          go_cut [11] from 85 to 91 (fun p11 wx => ∃ RR : Int, p11 = .int .i64 RR ∧ wx = w4)
          case first =>
            cases B
            · go_wp2
              go_meet
              exact ⟨_, rfl, rfl⟩
            · go_wp2
              go_meet
              exact ⟨_, rfl, rfl⟩
          case rest =>
            obtain ⟨RR, rfl, hwx⟩ := hcut
            obtain rfl : w4 = _ := hwx.symm
            obtain ⟨T, HT⟩ : ∃ T, Hid (PM.rcv s ri RR x = T) := ⟨_, Lib.hid rfl⟩
            have HTK := Lib.hid (show PM.Ok T.1 by rw [← HT.out]; exact hok.out.rcv HVX.out _ _)
            have HTB := Lib.hid (show T.1.val.length ≤ 20 * (k + 1 + 1) ∧ 1 ≤ T.1.round ∧ T.1.round ≤ ((k + 1 : Nat) : Int) + 1 by
              rw [← HT.out]
              have h1 := PM.rcv_vlen s ri RR x
              have h2 := PM.rcv_round s ri RR x
              have h3 := hbd.out
              omega)
            have HCA := Lib.hid (fun (H : Nat → Prop) w' (hb : Below w4.heap.size w4 w') (h6 : ∀ k, H k → k < w'.heap.size) (h7 : ∀ k, H k → Two w3.heap.size k ∨ w4.heap.size ≤ k) => show RecvAt 13 H _ (.slice xa x.length xc) ri RR T w' by
              rw [← HT.out]
              have h3 := hbd.out
              exact ct.recv _ _ _ s ri RR x w' h6 (HPO.out.ext hb h7) (HXO4.out.ext hb h7) hok.out HVX.out (by omega) (by omega) (by omega) (by omega))
            have HCB := Lib.hid (fun (H : Nat → Prop) w' (hb : Below w4.heap.size w4 w') (h6 : ∀ k, H k → k < w'.heap.size) (h7 : ∀ k, H k → Two w3.heap.size k ∨ w4.heap.size ≤ k) => show RecvAt 14 H _ (.slice xa x.length xc) ri RR T w' by
              rw [← HT.out]
              have h3 := hbd.out
              exact rRecv _ _ _ s ri RR x w' h6 (HQO.out.ext hb h7) (HXO4.out.ext hb h7) hok.out HVX.out (by omega) (by omega) (by omega) (by omega))
            clear c0 c1 c2 c3 c4 d0 d1 d2 d3 d4 f1w hrd
            go_upto_region 15 with fail
            refine wp_region_held_drew (S := fun w' => Below w4.heap.size w4 w') (by kernel_rfl) ((Below.refl _ _).drew) (fun ha => ?_)
            replace ha : Below w4.heap.size w4 w4.drew := (Below.refl _ _).drew
            generalize w4.drew = wa at ha ⊢
            refine takeH (i := 1) (v := ?_) rfl (by kernel_rfl) (by kernel_rfl) (by kernel_rfl) (fun _ _ _ h => h) (Or.inl ⟨by rfl, ?_⟩) (by assumption) ?_
            rotate_left
            · (intro w hSw; (try dsimp only at hSw); go_simp; first | done | with_reducible rfl)
            (try simp only [Act.put, List.setIfInBounds_toArray, List.set_cons_zero, List.set_cons_succ])
            refine takeH (i := 2) (v := ?_) rfl (by kernel_rfl) (by kernel_rfl) (by kernel_rfl) (fun _ _ _ h => h) (Or.inl ⟨by rfl, ?_⟩) (by assumption) ?_
            rotate_left
            · (intro w hSw; (try dsimp only at hSw); go_simp; first | done | with_reducible rfl)
            (try simp only [Act.put, List.setIfInBounds_toArray, List.set_cons_zero, List.set_cons_succ])
            refine takeH (i := 3) (v := ?_) rfl (by kernel_rfl) (by kernel_rfl) (by kernel_rfl) (fun _ _ _ h => h) (Or.inl ⟨by rfl, ?_⟩) (by assumption) ?_
            rotate_left
            · (intro w hSw; (try dsimp only at hSw); go_simp; first | done | with_reducible rfl)
            (try simp only [Act.put, List.setIfInBounds_toArray, List.set_cons_zero, List.set_cons_succ])
            refine takeH (i := 4) (v := ?_) rfl (by kernel_rfl) (by kernel_rfl) (by kernel_rfl) (fun _ _ _ h => h) (Or.inl ⟨by rfl, ?_⟩) (by assumption) ?_
            rotate_left
            · (intro w hSw; (try dsimp only at hSw); go_simp; first | done | with_reducible rfl)
            (try simp only [Act.put, List.setIfInBounds_toArray, List.set_cons_zero, List.set_cons_succ])
            refine takeH (i := 6) (v := ?_) rfl (by kernel_rfl) (by kernel_rfl) (by kernel_rfl) (fun _ _ _ h => h) (Or.inl ⟨by rfl, ?_⟩) (by assumption) ?_
            rotate_left
            · (intro w hSw; (try dsimp only at hSw); go_simp; first | done | with_reducible rfl)
            (try simp only [Act.put, List.setIfInBounds_toArray, List.set_cons_zero, List.set_cons_succ])
            refine takeH (i := 7) (v := ?_) rfl (by kernel_rfl) (by kernel_rfl) (by kernel_rfl) (fun _ _ _ h => h) (Or.inl ⟨by rfl, ?_⟩) (by assumption) ?_
            rotate_left
            · (intro w hSw; (try dsimp only at hSw); go_simp; first | done | with_reducible rfl)
            (try simp only [Act.put, List.setIfInBounds_toArray, List.set_cons_zero, List.set_cons_succ])
            refine takeH (i := 8) (v := ?_) rfl (by kernel_rfl) (by kernel_rfl) (by kernel_rfl) (fun _ _ _ h => h) (Or.inl ⟨by rfl, ?_⟩) (by assumption) ?_
            rotate_left
            · (intro w hSw; (try dsimp only at hSw); go_simp; first | done | with_reducible rfl)
            (try simp only [Act.put, List.setIfInBounds_toArray, List.set_cons_zero, List.set_cons_succ])
            refine takeH (i := 9) (v := ?_) rfl (by kernel_rfl) (by kernel_rfl) (by kernel_rfl) (fun _ _ _ h => h) (Or.inl ⟨by rfl, ?_⟩) (by assumption) ?_
            rotate_left
            · (intro w hSw; (try dsimp only at hSw); go_simp; first | done | with_reducible rfl)
            (try simp only [Act.put, List.setIfInBounds_toArray, List.set_cons_zero, List.set_cons_succ])
            refine takeH (i := 10) (v := ?_) rfl (by kernel_rfl) (by kernel_rfl) (by kernel_rfl) (fun _ _ _ h => h) (Or.inl ⟨by rfl, ?_⟩) (by assumption) ?_
            rotate_left
            · (intro w hSw; (try dsimp only at hSw); go_simp; first | done | with_reducible rfl)
            (try simp only [Act.put, List.setIfInBounds_toArray, List.set_cons_zero, List.set_cons_succ])
            refine takeH (i := 0) (v := ?_) rfl (by kernel_rfl) (by kernel_rfl) (by kernel_rfl) (fun _ _ _ h => h) (Or.inl ⟨by rfl, ?_⟩) (by assumption) ?_
            rotate_left
            · (intro w hSw; (try dsimp only at hSw); obtain ⟨z0, z1, z2, z3, z4⟩ := five (below_blk HA4.out hSw); go_simp; first | done | with_reducible rfl)
            (try simp only [Act.put, List.setIfInBounds_toArray, List.set_cons_zero, List.set_cons_succ])
            refine takeH (i := 5) (v := ?_) rfl (by kernel_rfl) (by kernel_rfl) (by kernel_rfl) (fun _ _ _ h => h) (Or.inl ⟨by rfl, ?_⟩) (by assumption) ?_
            rotate_left
            · (intro w hSw; (try dsimp only at hSw); have hcx := VX.below_cell hSw f04; go_simp; first | done | with_reducible rfl)
            (try simp only [Act.put, List.setIfInBounds_toArray, List.set_cons_zero, List.set_cons_succ])
            refine takeH (i := 11) (v := ?_) rfl (by kernel_rfl) (by kernel_rfl) (by kernel_rfl) (fun _ _ _ h => h) (Or.inl ⟨by rfl, ?_⟩) (by assumption) ?_
            rotate_left
            · (intro w hSw; (try dsimp only at hSw); have hcx := VX.below_cell hSw f24; go_simp; first | done | with_reducible rfl)
            (try simp only [Act.put, List.setIfInBounds_toArray, List.set_cons_zero, List.set_cons_succ])
            refine wpAnyH_ready (rs := [12, 16]) (by kernel_rfl) (by simp) ?_
            refine stepH rfl (fun K hK => ?_) (stepH rfl (fun K hK => ?_) AllReadyH.nil)
            focus
              go_simp
              refine (HCA.out (Two w3.heap.size) wa ha (Two.lt (Nat.le_trans HSZ.out ha.size)) (fun _ h => .inl h)).mono ?_
              rintro e wb ⟨p6, rfl, hp6, hq⟩
              have hb := bnext ha hq
              go_wp2_with fail
              refine hK.out _ _ (hb) (fun _ => ?_)
              clear hK K
              (try simp only [Act.put, List.setIfInBounds_toArray, List.set_cons_zero, List.set_cons_succ])
              refine takeH (i := 13) (v := ?_) rfl (by kernel_rfl) (by kernel_rfl) (by kernel_rfl) (fun _ _ _ h => h) (Or.inl ⟨by rfl, ?_⟩) (by assumption) ?_
              rotate_left
              · (intro w hSw; (try dsimp only at hSw); go_simp; first | done | with_reducible rfl)
              (try simp only [Act.put, List.setIfInBounds_toArray, List.set_cons_zero, List.set_cons_succ])
              refine takeH (i := 14) (v := ?_) rfl (by kernel_rfl) (by kernel_rfl) (by kernel_rfl) (fun _ _ _ h => h) (Or.inl ⟨by rfl, ?_⟩) (by assumption) ?_
              rotate_left
              · (intro w hSw; (try dsimp only at hSw); go_simp; first | done | with_reducible rfl)
              (try simp only [Act.put, List.setIfInBounds_toArray, List.set_cons_zero, List.set_cons_succ])
              refine takeH (i := 15) (v := ?_) rfl (by kernel_rfl) (by kernel_rfl) (by kernel_rfl) (fun _ _ _ h => h) (Or.inl ⟨by rfl, ?_⟩) (by assumption) ?_
              rotate_left
              · (intro w hSw; (try dsimp only at hSw); go_simp; first | done | with_reducible rfl)
              (try simp only [Act.put, List.setIfInBounds_toArray, List.set_cons_zero, List.set_cons_succ])
              refine wpAnyH_ready (rs := [16]) (by kernel_rfl) (by simp) ?_
              refine stepH rfl (fun K hK => ?_) AllReadyH.nil
              go_simp
              have hc := bnext hb (below_fresh _ (.cells #[.int .i64 0, .slice none 0 0, .int .i64 0, .slice none 0 0, .bool false] 31))
              have hz := heap_alloc_new wb (.cells #[.int .i64 0, .slice none 0 0, .int .i64 0, .slice none 0 0, .bool false] 31)
              refine hK.out _ _ (hc) (fun _ => ?_)
              clear hK K
              (try simp only [Act.put, List.setIfInBounds_toArray, List.set_cons_zero, List.set_cons_succ])
              obtain ⟨wc, hwn⟩ : ∃ w', (wb).alloc (.cells #[.int .i64 0, .slice none 0 0, .int .i64 0, .slice none 0 0, .bool false] 31) = w' := ⟨_, rfl⟩
              have hp7 : PrO (Thr w3.heap.size wb.heap.size) _ _ T.1 := hp6.ext (below_fresh wb (.cells #[.int .i64 0, .slice none 0 0, .int .i64 0, .slice none 0 0, .bool false] 31)) (fun k hk => hk.elim .inl (fun h => .inr (by omega)))
              rw [hwn] at hc hz hp7 ⊢
              have hgl := hb.size
              generalize wb.heap.size = gx at hz hgl hp7 ⊢
              clear hwn hb hq hp6
            rotate_left
            focus
              go_simp
              have hb := bnext ha (below_fresh _ (.cells #[.int .i64 0, .slice none 0 0, .int .i64 0, .slice none 0 0, .bool false] 31))
              have hz := heap_alloc_new wa (.cells #[.int .i64 0, .slice none 0 0, .int .i64 0, .slice none 0 0, .bool false] 31)
              refine hK.out _ _ (hb) (fun _ => ?_)
              clear hK K
              (try simp only [Act.put, List.setIfInBounds_toArray, List.set_cons_zero, List.set_cons_succ])
              obtain ⟨wb, hwn⟩ : ∃ w', (wa).alloc (.cells #[.int .i64 0, .slice none 0 0, .int .i64 0, .slice none 0 0, .bool false] 31) = w' := ⟨_, rfl⟩
              rw [hwn] at hb hz ⊢
              have hgl := ha.size
              generalize wa.heap.size = gx at hz hgl ⊢
              clear hwn
              refine wpAnyH_ready (rs := [12]) (by kernel_rfl) (by simp) ?_
              refine stepH rfl (fun K hK => ?_) AllReadyH.nil
              go_simp
              refine (HCA.out (Thr w3.heap.size gx) wb hb (Thr.lt (Nat.le_trans HSZ.out hb.size) (Array.getElem?_eq_some_iff.1 hz).1) (fun _ h => h.imp id (fun h => by omega))).mono ?_
              rintro e wc ⟨p6, rfl, hp7, hq⟩
              have hc := bnext hb hq
              replace hz := below_blk hz hq
              go_wp2_with fail
              refine hK.out _ _ (hc) (fun _ => ?_)
              clear hK K
              (try simp only [Act.put, List.setIfInBounds_toArray, List.set_cons_zero, List.set_cons_succ])
              clear hb hq
              refine takeH (i := 13) (v := ?_) rfl (by kernel_rfl) (by kernel_rfl) (by kernel_rfl) (fun _ _ _ h => h) (Or.inl ⟨by rfl, ?_⟩) (by assumption) ?_
              rotate_left
              · (intro w hSw; (try dsimp only at hSw); go_simp; first | done | with_reducible rfl)
              (try simp only [Act.put, List.setIfInBounds_toArray, List.set_cons_zero, List.set_cons_succ])
              refine takeH (i := 14) (v := ?_) rfl (by kernel_rfl) (by kernel_rfl) (by kernel_rfl) (fun _ _ _ h => h) (Or.inl ⟨by rfl, ?_⟩) (by assumption) ?_
              rotate_left
              · (intro w hSw; (try dsimp only at hSw); go_simp; first | done | with_reducible rfl)
              (try simp only [Act.put, List.setIfInBounds_toArray, List.set_cons_zero, List.set_cons_succ])
              refine takeH (i := 15) (v := ?_) rfl (by kernel_rfl) (by kernel_rfl) (by kernel_rfl) (fun _ _ _ h => h) (Or.inl ⟨by rfl, ?_⟩) (by assumption) ?_
              rotate_left
              · (intro w hSw; (try dsimp only at hSw); go_simp; first | done | with_reducible rfl)
              (try simp only [Act.put, List.setIfInBounds_toArray, List.set_cons_zero, List.set_cons_succ])
            all_goals
              obtain ⟨ma, mb, mc, md, rfl, _, _⟩ := hp7.parts
              obtain ⟨w5, hwn⟩ : ∃ w', wc.setRow gx #[.int .i64 T.1.acc, .slice ma T.1.val.length mb, .int .i64 T.1.round, .slice mc T.1.acks.length md, .bool T.1.dec] = w' := ⟨_, rfl⟩
              have hon : Only gx wc w5 := by rw [← hwn]; exact onlyR _ _ _
              have hd := seen hc hgl hon
              have hzz : w5.heap[gx]? = some (.cells #[.int .i64 T.1.acc, .slice ma T.1.val.length mb, .int .i64 T.1.round, .slice mc T.1.acks.length md, .bool T.1.dec] 31 (0, 0)) := by rw [← hwn]; exact setRow_heap _ _ _ _ _ _ hz
              refine wpAnyH_ready (rs := [17]) (by kernel_rfl) (by simp) ?_
              refine stepH rfl (fun K hK => ?_) AllReadyH.nil
              rw [if_pos (by rfl)]
              refine wp_store_row 31 _ _ rfl gx #[.int .i64 T.1.acc, .slice ma T.1.val.length mb, .int .i64 T.1.round, .slice mc T.1.acks.length md, .bool T.1.dec] rfl rfl 31 _ hz (by kernel_rfl) rfl (cells5 _ _ _ _ _ _ _ _ _) ?_
              rw [hwn]
              refine hK.out _ _ (hd) (fun _ => ?_)
              clear hK K
              refine takeH (i := 18) (v := ?_) rfl (by kernel_rfl) (by kernel_rfl) (by kernel_rfl) (fun _ _ _ h => h) (Or.inl ⟨by rfl, ?_⟩) (by assumption) ?_
              rotate_left
              · (intro w hSw; (try dsimp only at hSw); go_simp; first | done | with_reducible rfl)
              (try simp only [Act.put, List.setIfInBounds_toArray, List.set_cons_zero, List.set_cons_succ])
              refine wpAnyH_done (by kernel_rfl) ?_ _
              have HB5 := Lib.hid (bnext HB4.out hd)
              have HA5 := Lib.hid (below_blk HA4.out hd)
              have HQ5 := Lib.hid (below_blk HQ4.out hd)
              have HZ5 := Lib.hid hzz
              have HG5 := Lib.hid (show w3.heap.size + 2 ≤ gx from Nat.le_trans HSZ.out hgl)
              have HGS := Lib.hid (show gx < w5.heap.size from (Array.getElem?_eq_some_iff.1 hzz).1)
              have HP5 := Lib.hid ((hp7.only hon (.inr rfl)).weak fun _ h => .inl h)
              have HC5 := Lib.hid (fun (H : Nat → Prop) w' (hb : Below w5.heap.size w5 w') (h6 : ∀ k, H k → k < w'.heap.size) (h7 : ∀ k, H k → Two w3.heap.size k ∨ w5.heap.size ≤ k) => HCB.out H w' (bnext hd hb) h6 (fun k hk => (h7 k hk).imp id (fun h => Nat.le_trans hd.size h)))
              have f05 := VX.below_cell hd f04
              have f25 := VX.below_cell hd f24
              have HS5 := Lib.hid (Nat.le_trans HSZ.out hd.size)
              clear hp7 hc hz hgl hwn hon hd hzz ha HCA HCB f04 f24 HA4 HB4 HPO
              go_upto_region 16 with fail
              refine wp_region_held_drew (S := fun w' => Below w5.heap.size w5 w') (by kernel_rfl) ((Below.refl _ _).drew) (fun ha => ?_)
              replace ha : Below w5.heap.size w5 w5.drew := (Below.refl _ _).drew
              generalize w5.drew = wa at ha ⊢
              refine takeH (i := 1) (v := ?_) rfl (by kernel_rfl) (by kernel_rfl) (by kernel_rfl) (fun _ _ _ h => h) (Or.inl ⟨by rfl, ?_⟩) (by assumption) ?_
              rotate_left
              · (intro w hSw; (try dsimp only at hSw); go_simp; first | done | with_reducible rfl)
              (try simp only [Act.put, List.setIfInBounds_toArray, List.set_cons_zero, List.set_cons_succ])
              refine takeH (i := 2) (v := ?_) rfl (by kernel_rfl) (by kernel_rfl) (by kernel_rfl) (fun _ _ _ h => h) (Or.inl ⟨by rfl, ?_⟩) (by assumption) ?_
              rotate_left
              · (intro w hSw; (try dsimp only at hSw); go_simp; first | done | with_reducible rfl)
              (try simp only [Act.put, List.setIfInBounds_toArray, List.set_cons_zero, List.set_cons_succ])
              refine takeH (i := 3) (v := ?_) rfl (by kernel_rfl) (by kernel_rfl) (by kernel_rfl) (fun _ _ _ h => h) (Or.inl ⟨by rfl, ?_⟩) (by assumption) ?_
              rotate_left
              · (intro w hSw; (try dsimp only at hSw); go_simp; first | done | with_reducible rfl)
              (try simp only [Act.put, List.setIfInBounds_toArray, List.set_cons_zero, List.set_cons_succ])
              refine takeH (i := 4) (v := ?_) rfl (by kernel_rfl) (by kernel_rfl) (by kernel_rfl) (fun _ _ _ h => h) (Or.inl ⟨by rfl, ?_⟩) (by assumption) ?_
              rotate_left
              · (intro w hSw; (try dsimp only at hSw); go_simp; first | done | with_reducible rfl)
              (try simp only [Act.put, List.setIfInBounds_toArray, List.set_cons_zero, List.set_cons_succ])
              refine takeH (i := 6) (v := ?_) rfl (by kernel_rfl) (by kernel_rfl) (by kernel_rfl) (fun _ _ _ h => h) (Or.inl ⟨by rfl, ?_⟩) (by assumption) ?_
              rotate_left
              · (intro w hSw; (try dsimp only at hSw); go_simp; first | done | with_reducible rfl)
              (try simp only [Act.put, List.setIfInBounds_toArray, List.set_cons_zero, List.set_cons_succ])
              refine takeH (i := 7) (v := ?_) rfl (by kernel_rfl) (by kernel_rfl) (by kernel_rfl) (fun _ _ _ h => h) (Or.inl ⟨by rfl, ?_⟩) (by assumption) ?_
              rotate_left
              · (intro w hSw; (try dsimp only at hSw); go_simp; first | done | with_reducible rfl)
              (try simp only [Act.put, List.setIfInBounds_toArray, List.set_cons_zero, List.set_cons_succ])
              refine takeH (i := 8) (v := ?_) rfl (by kernel_rfl) (by kernel_rfl) (by kernel_rfl) (fun _ _ _ h => h) (Or.inl ⟨by rfl, ?_⟩) (by assumption) ?_
              rotate_left
              · (intro w hSw; (try dsimp only at hSw); go_simp; first | done | with_reducible rfl)
              (try simp only [Act.put, List.setIfInBounds_toArray, List.set_cons_zero, List.set_cons_succ])
              refine takeH (i := 9) (v := ?_) rfl (by kernel_rfl) (by kernel_rfl) (by kernel_rfl) (fun _ _ _ h => h) (Or.inl ⟨by rfl, ?_⟩) (by assumption) ?_
              rotate_left
              · (intro w hSw; (try dsimp only at hSw); go_simp; first | done | with_reducible rfl)
              (try simp only [Act.put, List.setIfInBounds_toArray, List.set_cons_zero, List.set_cons_succ])
              refine takeH (i := 10) (v := ?_) rfl (by kernel_rfl) (by kernel_rfl) (by kernel_rfl) (fun _ _ _ h => h) (Or.inl ⟨by rfl, ?_⟩) (by assumption) ?_
              rotate_left
              · (intro w hSw; (try dsimp only at hSw); go_simp; first | done | with_reducible rfl)
              (try simp only [Act.put, List.setIfInBounds_toArray, List.set_cons_zero, List.set_cons_succ])
              refine takeH (i := 0) (v := ?_) rfl (by kernel_rfl) (by kernel_rfl) (by kernel_rfl) (fun _ _ _ h => h) (Or.inl ⟨by rfl, ?_⟩) (by assumption) ?_
              rotate_left
              · (intro w hSw; (try dsimp only at hSw); obtain ⟨z0, z1, z2, z3, z4⟩ := five (below_blk HQ5.out hSw); go_simp; first | done | with_reducible rfl)
              (try simp only [Act.put, List.setIfInBounds_toArray, List.set_cons_zero, List.set_cons_succ])
              refine takeH (i := 5) (v := ?_) rfl (by kernel_rfl) (by kernel_rfl) (by kernel_rfl) (fun _ _ _ h => h) (Or.inl ⟨by rfl, ?_⟩) (by assumption) ?_
              rotate_left
              · (intro w hSw; (try dsimp only at hSw); have hcx := VX.below_cell hSw f05; go_simp; first | done | with_reducible rfl)
              (try simp only [Act.put, List.setIfInBounds_toArray, List.set_cons_zero, List.set_cons_succ])
              refine takeH (i := 11) (v := ?_) rfl (by kernel_rfl) (by kernel_rfl) (by kernel_rfl) (fun _ _ _ h => h) (Or.inl ⟨by rfl, ?_⟩) (by assumption) ?_
              rotate_left
              · (intro w hSw; (try dsimp only at hSw); have hcx := VX.below_cell hSw f25; go_simp; first | done | with_reducible rfl)
              (try simp only [Act.put, List.setIfInBounds_toArray, List.set_cons_zero, List.set_cons_succ])
              refine wpAnyH_ready (rs := [12, 16]) (by kernel_rfl) (by simp) ?_
              refine stepH rfl (fun K hK => ?_) (stepH rfl (fun K hK => ?_) AllReadyH.nil)
              focus
                go_simp
                refine (HC5.out (Two w3.heap.size) wa ha (Two.lt (Nat.le_trans HS5.out ha.size)) (fun _ h => .inl h)).mono ?_
                rintro e wb ⟨p6, rfl, hp6, hq⟩
                have hb := bnext ha hq
                go_wp2_with fail
                refine hK.out _ _ (hb) (fun _ => ?_)
                clear hK K
                (try simp only [Act.put, List.setIfInBounds_toArray, List.set_cons_zero, List.set_cons_succ])
                refine takeH (i := 13) (v := ?_) rfl (by kernel_rfl) (by kernel_rfl) (by kernel_rfl) (fun _ _ _ h => h) (Or.inl ⟨by rfl, ?_⟩) (by assumption) ?_
                rotate_left
                · (intro w hSw; (try dsimp only at hSw); go_simp; first | done | with_reducible rfl)
                (try simp only [Act.put, List.setIfInBounds_toArray, List.set_cons_zero, List.set_cons_succ])
                refine takeH (i := 14) (v := ?_) rfl (by kernel_rfl) (by kernel_rfl) (by kernel_rfl) (fun _ _ _ h => h) (Or.inl ⟨by rfl, ?_⟩) (by assumption) ?_
                rotate_left
                · (intro w hSw; (try dsimp only at hSw); go_simp; first | done | with_reducible rfl)
                (try simp only [Act.put, List.setIfInBounds_toArray, List.set_cons_zero, List.set_cons_succ])
                refine takeH (i := 15) (v := ?_) rfl (by kernel_rfl) (by kernel_rfl) (by kernel_rfl) (fun _ _ _ h => h) (Or.inl ⟨by rfl, ?_⟩) (by assumption) ?_
                rotate_left
                · (intro w hSw; (try dsimp only at hSw); go_simp; first | done | with_reducible rfl)
                (try simp only [Act.put, List.setIfInBounds_toArray, List.set_cons_zero, List.set_cons_succ])
                refine wpAnyH_ready (rs := [16]) (by kernel_rfl) (by simp) ?_
                refine stepH rfl (fun K hK => ?_) AllReadyH.nil
                go_simp
                have hc := bnext hb (below_fresh _ (.cells #[.int .i64 0, .slice none 0 0, .int .i64 0, .slice none 0 0, .bool false] 33))
                have hz := heap_alloc_new wb (.cells #[.int .i64 0, .slice none 0 0, .int .i64 0, .slice none 0 0, .bool false] 33)
                refine hK.out _ _ (hc) (fun _ => ?_)
                clear hK K
                (try simp only [Act.put, List.setIfInBounds_toArray, List.set_cons_zero, List.set_cons_succ])
                obtain ⟨wc, hwn⟩ : ∃ w', (wb).alloc (.cells #[.int .i64 0, .slice none 0 0, .int .i64 0, .slice none 0 0, .bool false] 33) = w' := ⟨_, rfl⟩
                have hp7 : PrO (Thr w3.heap.size wb.heap.size) _ _ T.1 := hp6.ext (below_fresh wb (.cells #[.int .i64 0, .slice none 0 0, .int .i64 0, .slice none 0 0, .bool false] 33)) (fun k hk => hk.elim .inl (fun h => .inr (by omega)))
                rw [hwn] at hc hz hp7 ⊢
                have hgl := hb.size
                generalize wb.heap.size = gy at hz hgl hp7 ⊢
                clear hwn hb hq hp6
              rotate_left
              focus
                go_simp
                have hb := bnext ha (below_fresh _ (.cells #[.int .i64 0, .slice none 0 0, .int .i64 0, .slice none 0 0, .bool false] 33))
                have hz := heap_alloc_new wa (.cells #[.int .i64 0, .slice none 0 0, .int .i64 0, .slice none 0 0, .bool false] 33)
                refine hK.out _ _ (hb) (fun _ => ?_)
                clear hK K
                (try simp only [Act.put, List.setIfInBounds_toArray, List.set_cons_zero, List.set_cons_succ])
                obtain ⟨wb, hwn⟩ : ∃ w', (wa).alloc (.cells #[.int .i64 0, .slice none 0 0, .int .i64 0, .slice none 0 0, .bool false] 33) = w' := ⟨_, rfl⟩
                rw [hwn] at hb hz ⊢
                have hgl := ha.size
                generalize wa.heap.size = gy at hz hgl ⊢
                clear hwn
                refine wpAnyH_ready (rs := [12]) (by kernel_rfl) (by simp) ?_
                refine stepH rfl (fun K hK => ?_) AllReadyH.nil
                go_simp
                refine (HC5.out (Thr w3.heap.size gy) wb hb (Thr.lt (Nat.le_trans HS5.out hb.size) (Array.getElem?_eq_some_iff.1 hz).1) (fun _ h => h.imp id (fun h => by omega))).mono ?_
                rintro e wc ⟨p6, rfl, hp7, hq⟩
                have hc := bnext hb hq
                replace hz := below_blk hz hq
                go_wp2_with fail
                refine hK.out _ _ (hc) (fun _ => ?_)
                clear hK K
                (try simp only [Act.put, List.setIfInBounds_toArray, List.set_cons_zero, List.set_cons_succ])
                clear hb hq
                refine takeH (i := 13) (v := ?_) rfl (by kernel_rfl) (by kernel_rfl) (by kernel_rfl) (fun _ _ _ h => h) (Or.inl ⟨by rfl, ?_⟩) (by assumption) ?_
                rotate_left
                · (intro w hSw; (try dsimp only at hSw); go_simp; first | done | with_reducible rfl)
                (try simp only [Act.put, List.setIfInBounds_toArray, List.set_cons_zero, List.set_cons_succ])
                refine takeH (i := 14) (v := ?_) rfl (by kernel_rfl) (by kernel_rfl) (by kernel_rfl) (fun _ _ _ h => h) (Or.inl ⟨by rfl, ?_⟩) (by assumption) ?_
                rotate_left
                · (intro w hSw; (try dsimp only at hSw); go_simp; first | done | with_reducible rfl)
                (try simp only [Act.put, List.setIfInBounds_toArray, List.set_cons_zero, List.set_cons_succ])
                refine takeH (i := 15) (v := ?_) rfl (by kernel_rfl) (by kernel_rfl) (by kernel_rfl) (fun _ _ _ h => h) (Or.inl ⟨by rfl, ?_⟩) (by assumption) ?_
                rotate_left
                · (intro w hSw; (try dsimp only at hSw); go_simp; first | done | with_reducible rfl)
                (try simp only [Act.put, List.setIfInBounds_toArray, List.set_cons_zero, List.set_cons_succ])
            all_goals
              obtain ⟨na, nb, nc, nd, rfl, _, _⟩ := hp7.parts
              obtain ⟨w6, hwn⟩ : ∃ w', wc.setRow gy #[.int .i64 T.1.acc, .slice na T.1.val.length nb, .int .i64 T.1.round, .slice nc T.1.acks.length nd, .bool T.1.dec] = w' := ⟨_, rfl⟩
              have hon : Only gy wc w6 := by rw [← hwn]; exact onlyR _ _ _
              have hd := seen hc hgl hon
              have hzz : w6.heap[gy]? = some (.cells #[.int .i64 T.1.acc, .slice na T.1.val.length nb, .int .i64 T.1.round, .slice nc T.1.acks.length nd, .bool T.1.dec] 33 (0, 0)) := by rw [← hwn]; exact setRow_heap _ _ _ _ _ _ hz
              refine wpAnyH_ready (rs := [17]) (by kernel_rfl) (by simp) ?_
              refine stepH rfl (fun K hK => ?_) AllReadyH.nil
              rw [if_pos (by rfl)]
              refine wp_store_row 33 _ _ rfl gy #[.int .i64 T.1.acc, .slice na T.1.val.length nb, .int .i64 T.1.round, .slice nc T.1.acks.length nd, .bool T.1.dec] rfl rfl 33 _ hz (by kernel_rfl) rfl (cells5 _ _ _ _ _ _ _ _ _) ?_
              rw [hwn]
              refine hK.out _ _ (hd) (fun _ => ?_)
              clear hK K
              refine takeH (i := 18) (v := ?_) rfl (by kernel_rfl) (by kernel_rfl) (by kernel_rfl) (fun _ _ _ h => h) (Or.inl ⟨by rfl, ?_⟩) (by assumption) ?_
              rotate_left
              · (intro w hSw; (try dsimp only at hSw); go_simp; first | done | with_reducible rfl)
              (try simp only [Act.put, List.setIfInBounds_toArray, List.set_cons_zero, List.set_cons_succ])
              refine wpAnyH_done (by kernel_rfl) ?_ _
              have HB6 := Lib.hid (bnext HB5.out hd)
              have HA6 := Lib.hid (below_blk HA5.out hd)
              have HQ6 := Lib.hid (below_blk HQ5.out hd)
              have HZ6 := Lib.hid (below_blk HZ5.out hd)
              have HY6 := Lib.hid hzz
              have HP6 := Lib.hid (HP5.out.below hd)
              have HR6 := Lib.hid ((hp7.only hon (.inr rfl)).weak fun _ h => .inl h)
              have HG6 := Lib.hid (show w3.heap.size + 2 ≤ gy from Nat.le_trans HS5.out hgl)
              have HGE := Lib.hid HG5.out
              clear hp7 hc hz hgl hwn hon hd hzz ha HC5 f05 f25 HB5 HA5 HQ5 HZ5 HP5 HG5 HGS HS5
              have hbb : (T.2 != T.2) = false := by simp
              go_upto_region 19 with fail
              clear hbb
              refine wp_region_held_drew (S := fun w' => w'.heap[gx]? = some (.cells #[.int .i64 T.1.acc, .slice ma T.1.val.length mb, .int .i64 T.1.round, .slice mc T.1.acks.length md, .bool T.1.dec] 31 (0, 0)) ∧ w'.heap[gy]? = some (.cells #[.int .i64 T.1.acc, .slice na T.1.val.length nb, .int .i64 T.1.round, .slice nc T.1.acks.length nd, .bool T.1.dec] 33 (0, 0))) (by kernel_rfl) ⟨HZ6.out, HY6.out⟩ (fun _ => ?_)
              have ha : Below w6.heap.size w6 w6.drew := (Below.refl _ _).drew
              generalize w6.drew = wa at ha ⊢
              have hS0 : wa.heap[gx]? = some (.cells #[.int .i64 T.1.acc, .slice ma T.1.val.length mb, .int .i64 T.1.round, .slice mc T.1.acks.length md, .bool T.1.dec] 31 (0, 0)) ∧ wa.heap[gy]? = some (.cells #[.int .i64 T.1.acc, .slice na T.1.val.length nb, .int .i64 T.1.round, .slice nc T.1.acks.length nd, .bool T.1.dec] 33 (0, 0)) := ⟨below_blk HZ6.out ha, below_blk HY6.out ha⟩
              refine takeH (i := 0) (v := ?_) rfl (by kernel_rfl) (by kernel_rfl) (by kernel_rfl) (fun _ _ _ h => h) (Or.inl ⟨by rfl, ?_⟩) (by assumption) ?_
              rotate_left
              · (intro w hSw; (try dsimp only at hSw); obtain ⟨z0, z1, z2, z3, z4⟩ := five hSw.1; go_simp; first | done | with_reducible rfl)
              (try simp only [Act.put, List.setIfInBounds_toArray, List.set_cons_zero, List.set_cons_succ])
              refine takeH (i := 1) (v := ?_) rfl (by kernel_rfl) (by kernel_rfl) (by kernel_rfl) (fun _ _ _ h => h) (Or.inl ⟨by rfl, ?_⟩) (by assumption) ?_
              rotate_left
              · (intro w hSw; (try dsimp only at hSw); obtain ⟨z0, z1, z2, z3, z4⟩ := five hSw.2; go_simp; first | done | with_reducible rfl)
              (try simp only [Act.put, List.setIfInBounds_toArray, List.set_cons_zero, List.set_cons_succ])
              have hA7 := below_blk HA6.out ha
              have hQ7 := below_blk HQ6.out ha
              obtain ⟨w7, hw7⟩ : ∃ w7, wa.setRow w3.heap.size #[.int .i64 T.1.acc, .slice ma T.1.val.length mb, .int .i64 T.1.round, .slice mc T.1.acks.length md, .bool T.1.dec] = w7 := ⟨_, rfl⟩
              have ho7 : Only w3.heap.size wa w7 := by rw [← hw7]; exact onlyR _ _ _
              have hS1 : w7.heap[gx]? = some (.cells #[.int .i64 T.1.acc, .slice ma T.1.val.length mb, .int .i64 T.1.round, .slice mc T.1.acks.length md, .bool T.1.dec] 31 (0, 0)) ∧ w7.heap[gy]? = some (.cells #[.int .i64 T.1.acc, .slice na T.1.val.length nb, .int .i64 T.1.round, .slice nc T.1.acks.length nd, .bool T.1.dec] 33 (0, 0)) := ⟨ho7.at hS0.1 (by have := HGE.out; omega), ho7.at hS0.2 (by have := HG6.out; omega)⟩
              refine wpAnyH_ready (rs := [2]) (by kernel_rfl) (by simp) ?_
              refine stepH rfl (fun K hK => ?_) AllReadyH.nil
              rw [if_pos (by rfl)]
              refine wp_store_row 31 _ _ rfl w3.heap.size #[.int .i64 T.1.acc, .slice ma T.1.val.length mb, .int .i64 T.1.round, .slice mc T.1.acks.length md, .bool T.1.dec] rfl rfl 31 _ hA7 (by kernel_rfl) rfl (cells5 _ _ _ _ _ _ _ _ _) ?_
              rw [hw7]
              refine hK.out _ _ (hS1) (fun _ => ?_)
              clear hK K
              have hQ8 := ho7.at hQ7 (by omega)
              obtain ⟨w8, hw8⟩ : ∃ w8, w7.setRow (w3.heap.size + 1) #[.int .i64 T.1.acc, .slice na T.1.val.length nb, .int .i64 T.1.round, .slice nc T.1.acks.length nd, .bool T.1.dec] = w8 := ⟨_, rfl⟩
              have ho8 : Only (w3.heap.size + 1) w7 w8 := by rw [← hw8]; exact onlyR _ _ _
              have hS2 : w8.heap[gx]? = some (.cells #[.int .i64 T.1.acc, .slice ma T.1.val.length mb, .int .i64 T.1.round, .slice mc T.1.acks.length md, .bool T.1.dec] 31 (0, 0)) ∧ w8.heap[gy]? = some (.cells #[.int .i64 T.1.acc, .slice na T.1.val.length nb, .int .i64 T.1.round, .slice nc T.1.acks.length nd, .bool T.1.dec] 33 (0, 0)) := ⟨ho8.at hS1.1 (by have := HGE.out; omega), ho8.at hS1.2 (by have := HG6.out; omega)⟩
              refine wpAnyH_ready (rs := [3]) (by kernel_rfl) (by simp) ?_
              refine stepH rfl (fun K hK => ?_) AllReadyH.nil
              rw [if_pos (by rfl)]
              refine wp_store_row 33 _ _ rfl (w3.heap.size + 1) #[.int .i64 T.1.acc, .slice na T.1.val.length nb, .int .i64 T.1.round, .slice nc T.1.acks.length nd, .bool T.1.dec] rfl rfl 33 _ hQ8 (by kernel_rfl) rfl (cells5 _ _ _ _ _ _ _ _ _) ?_
              rw [hw8]
              refine hK.out _ _ (hS2) (fun _ => ?_)
              clear hK K
              refine wpAnyH_done (by kernel_rfl) ?_ _
              have HB8 := Lib.hid (seen (seen (bnext HB6.out ha) (Nat.le_refl _) ho7) (by omega) ho8)
              have HX8 := Lib.hid (show PrB 31 w8 w3.heap.size _ from ⟨_, _, _, _, _, rfl, ho8.at (by rw [← hw7]; exact setRow_heap _ _ _ _ _ _ hA7) (by omega)⟩)
              have HX9 := Lib.hid (show PrB 33 w8 (w3.heap.size + 1) _ from ⟨_, _, _, _, _, rfl, by rw [← hw8]; exact setRow_heap _ _ _ _ _ _ hQ8⟩)
              have HP8 := Lib.hid (((HP6.out.below ha).only ho7 (.inl rfl)).only ho8 (.inr rfl))
              have HP9 := Lib.hid (((HR6.out.below ha).only ho7 (.inl rfl)).only ho8 (.inr rfl))
              clear ha hS0 hS1 hS2 hA7 hQ7 hw7 ho7 hQ8 hw8 ho8 HB6 HA6 HQ6 HZ6 HY6 HP6 HR6 HG6 HGE
              go_wp2
              go_roundw
              case rel => exact ⟨k + 1, T.1, _, _, by omega, by go_num, HB8, HX8, HX9, HP8, HP9, HTK, HTB⟩
              case measure => simp [intOf]; omega
    · have hq : ¬ ((k : Int) < (l.length : Int)) := by omega
      obtain rfl : k = l.length := by omega
      obtain ⟨c0, c1, c2, c3, c4⟩ := five hA
      obtain ⟨d0, d1, d2, d3, d4⟩ := five hQ
      go_wp2_with fail
      refine HS.out.mono ?_
      rintro e w4 ⟨rfl, hb4⟩
      have HQ := Lib.hid (cAwake16 ct w4)
      replace HB := Lib.hid (bnext (bnext HB.out hbl.out) hb4)
      clear c0 c1 c2 c3 c4 d0 d1 d2 d3 d4 hA hQ hpb hqb hpo hqo HS hb4 hbl
      go_wp2_with fail
      refine HQ.out.mono ?_
      rintro e w5 ⟨rfl, hb5⟩
      replace HB := Lib.hid (bnext HB.out hb5)
      clear HQ hb5
      go_wp2
      go_ret
      exact ⟨rfl, HB.out⟩
end Go.Proofs.Ytejedodicihecaa
