/-
  The call of sets.Decode. Conditions: the bytes read. (Written by mk_sets.py.)
-/
import Derived.Deep.RegionHeld3
import Derived.Test.YteeegpojfbgkfaaTVal
import Derived.Test.YteeegpojfbgkfaaTEnc
import Derived.Test.YteeegpojfbgkfaaCDec
namespace Go.Proofs.Yteeegpojfbgkfaa
open Go.RowKit
open JM (Chg)
open CM (Fp)
open WM (enc dec Bytes)

set_option maxRecDepth 100000 in
set_option maxHeartbeats 4000000 in
theorem sDecode (v : Value) (xs : List Int) (w : World) (h : Rd w v xs) :
    Calls Try.prog 64 #[(.agg #[.func (.func 70) #[] #[], .func (.func 71) #[] #[], .func (.func 72) #[] #[], .func (.func 73) #[] #[], .func (.func 55) #[] #[], .func (.func 74) #[] #[], .func (.func 75) #[] #[], .func (.func 76) #[] #[], .int .i64 9]), v] w fun e w' => ∃ v', e = .returned (.tuple #[v', .int .i64 ((CM.decL xs).2.1 : Int), .int .i64 (CM.decL xs).1]) ∧ RdF w' v' (CM.decL xs).2.2 ∧ Below w.heap.size w w' := by
  obtain ⟨va, vc, rfl, hvc⟩ := h.shape
  have hby := h.bytes
  obtain ⟨w0, HX⟩ := kone w
  have HW := Lib.hid HX.eq
  have HB0 := Lib.hid HX.below
  have HK0 := Lib.hid HX.k
  obtain ⟨K, hK⟩ : ∃ K, w.heap.size = K := ⟨_, rfl⟩
  rw [hK] at HK0
  have HKE := Lib.hid hK
  have hU := wUint (.slice va xs.length vc) xs w0 (h.below HX.below)
  obtain ⟨R, hR⟩ : ∃ R, R = CM.decL xs := ⟨_, rfl⟩
  rw [← hR]
  have H := Lib.hid h
  clear h HX hK
  rcases CM.dec_num hby with ⟨e, he, hd⟩ | ⟨N, hN, hd, hl⟩
  · rw [hd] at hU
    have HR := Lib.hid (show R = (e, 0, []) by rw [hR, CM.decL, hd, if_pos he])
    have hne : (e != 0) = true := bne_t he
    have HU := Lib.hid hU
    clear hd hU hR he
    go_enter Try.func64, Try.ntmps64
    go_upto_region 1 with fail
    rw [HW.out, HKE.out]
    go_wp2_with fail
    refine HU.out.mono ?_
    rintro e' w1 ⟨rfl, rfl⟩
    go_wp2
    go_ret3
    exact ⟨_, by rw [HR.out]; rfl, by rw [HR.out]; exact RdF.nil _, HB0.out⟩
  rw [hd] at hU
  have HU := Lib.hid hU
  clear hU
  obtain ⟨_, _, _, _, _, _, _, _, k8⟩ := HK0.out.cells
  by_cases h9 : 9 < N
  · have HR := Lib.hid (show R = (3, 0, []) by rw [hR, CM.decL, hd, if_neg (by simp), if_pos (by simp only; omega)])
    have hq9 : (9 : Int) < (N : Int) := by omega
    clear hd hR
    go_enter Try.func64, Try.ntmps64
    go_upto_region 1 with fail
    rw [HW.out, HKE.out]
    go_wp2_with fail
    refine HU.out.mono ?_
    rintro e' w1 ⟨rfl, rfl⟩
    go_wp2
    go_ret3
    exact ⟨_, by rw [HR.out]; rfl, by rw [HR.out]; exact RdF.nil _, HB0.out⟩
  have HR := Lib.hid (show R = CM.finL (CM.rest xs N [] (enc N).length) by rw [hR, CM.decL, hd, if_neg (by simp), if_neg (by simp only; omega)]; rfl)
  have hq9 : ¬ (9 : Int) < (N : Int) := by omega
  generalize (enc N).length = u0 at HU HR hl
  have HL := Lib.hid hl
  have HBY := Lib.hid hby
  clear hd hR hl hN hby
  go_enter Try.func64, Try.ntmps64
  go_upto_region 1 with fail
  rw [HW.out, HKE.out]
  go_wp2_with fail
  refine HU.out.mono ?_
  rintro e' w1 ⟨rfl, rfl⟩
  clear HU
  go_wp2
  clear k8
  go_loopw [8, 10, 30] (fun us c i wr => ∃ (k uu : Nat) (qs : List Pro) (U : List Fp), k ≤ N ∧ i = .int .u64 k ∧ us = .int .i64 uu ∧ Hid (uu ≤ xs.length) ∧ Hid (U.length ≤ k) ∧ Hid (OwnQ w.heap.size wr c qs) ∧ Hid (TelO w.heap.size wr qs U) ∧ Hid (KB wr K) ∧ Hid (Below w.heap.size w wr) ∧ Hid (R = CM.finL (CM.rest xs (N - k) U uu))) (fun _ _ i _ => N - (intOf i).toNat)
  case atStart => exact ⟨0, u0, [], [], Nat.zero_le _, rfl, rfl, HL.out, Nat.le_refl _, OwnG.nil hlQ _ _ _, trivial, HK0.out, HB0.out, HR.out⟩
  case round =>
    obtain ⟨k, uu, qs, U, hk, rfl, rfl, huu, hul, ho, ht, hkb, hbl, he⟩ := hrel
    clear HR HL HB0 HK0
    obtain ⟨c1, c2, rfl, hc2, _⟩ := ho.out.rd.shape
    have HQF := Lib.hid ht.out.rd.len
    by_cases hlt : k < N
    · have hq : (k : Int) < (N : Int) := by omega
      obtain ⟨v2, hcut, hrd⟩ := (H.out.below hbl.out).cutL uu huu.out
      have hus := JM.decP_used (xs.drop uu) (fun c hc => HBY.out c (List.mem_of_mem_drop hc))
      have hrs := CM.rest_succ xs (N - (k + 1)) U uu
      rw [show N - (k + 1) + 1 = N - k by omega] at hrs
      have e1 := he.out
      rw [hrs] at e1
      rw [List.length_drop] at hus
      have hD := fun w' (hb : Below wr.heap.size wr w') => CO.cDecode v2 _ w' (hrd.below hb)
      generalize JM.decP (xs.drop uu) = d at hD hus e1
      obtain ⟨er, used, a, n, cs⟩ := d
      simp only at hD hus e1
      have HD := Lib.hid hD
      have HUS := Lib.hid hus
      have hxl : xs.length ≤ 9223372036854775807 := by
        obtain ⟨_, n', _, hv, h1, h2, h3, _⟩ := H.out
        unfold maxLen at h3
        omega
      have hw1 : (uu : Int) + (used : Int) ≤ 9223372036854775807 := by have := huu.out; omega
      have HE1 := Lib.hid e1
      obtain ⟨a2, l2, c2', rfl⟩ : ∃ a l c, v2 = .slice a l c := by obtain ⟨a, c, h, _⟩ := hrd.shape; exact ⟨a, _, c, h⟩
      have HO0 := Lib.hid (fun w' (hb : Below wr.heap.size wr w') => ho.out.below hb)
      have HT0 := Lib.hid (fun w' (hb : Below wr.heap.size wr w') => ht.out.below hb)
      have hsl := hbl.out.size
      clear he hrs hD hus hrd e1 ho ht
      go_wp2
      refine wp_region_held_drew (S := fun w' => Below wr.heap.size wr w') (by kernel_rfl) ((Below.refl _ _).drew) (fun ha => ?_)
      replace ha : Below wr.heap.size wr wr.drew := (Below.refl _ _).drew
      generalize wr.drew = wa at ha ⊢
      refine takeH (i := 0) (v := ?_) rfl (by kernel_rfl) (by kernel_rfl) (by kernel_rfl) (fun _ _ _ h => h) (Or.inl ⟨by rfl, ?_⟩) (by assumption) ?_
      rotate_left
      · (intro w hSw; (try dsimp only at hSw); go_simp; first | done | with_reducible rfl)
      (try simp only [Act.put, List.setIfInBounds_toArray, List.set_cons_zero, List.set_cons_succ])
      refine takeH (i := 1) (v := ?_) rfl (by kernel_rfl) (by kernel_rfl) (by kernel_rfl) (fun _ _ _ h => h) (Or.inl ⟨by rfl, ?_⟩) (by assumption) ?_
      rotate_left
      · (intro w hSw; (try dsimp only at hSw); obtain ⟨_, _, _, _, _, _, _, q7, _⟩ := (hkb.out.below hSw).cells; go_simp; first | done | with_reducible rfl)
      (try simp only [Act.put, List.setIfInBounds_toArray, List.set_cons_zero, List.set_cons_succ])
      refine takeH (i := 2) (v := ?_) rfl (by kernel_rfl) (by kernel_rfl) (by kernel_rfl) (fun _ _ _ h => h) (Or.inl ⟨by rfl, ?_⟩) (by assumption) ?_
      rotate_left
      · (intro w hSw; (try dsimp only at hSw); go_simp; first | done | with_reducible rfl)
      (try simp only [Act.put, List.setIfInBounds_toArray, List.set_cons_zero, List.set_cons_succ])
      refine takeH (i := 3) (v := ?_) rfl (by kernel_rfl) (by kernel_rfl) (by kernel_rfl) (fun _ _ _ h => h) (Or.inl ⟨by rfl, ?_⟩) (by assumption) ?_
      rotate_left
      · (intro w hSw; (try dsimp only at hSw); go_simp; first | done | with_reducible rfl)
      (try simp only [Act.put, List.setIfInBounds_toArray, List.set_cons_zero, List.set_cons_succ])
      refine takeH (i := 4) (v := ?_) rfl (by kernel_rfl) (by kernel_rfl) (by kernel_rfl) (fun _ _ _ h => h) (Or.inl ⟨by rfl, ?_⟩) (by assumption) ?_
      rotate_left
      · (intro w hSw; (try dsimp only at hSw); go_simp; first | done | with_reducible rfl)
      (try simp only [Act.put, List.setIfInBounds_toArray, List.set_cons_zero, List.set_cons_succ])
      refine wpAnyH_ready (rs := [5, 10]) (by kernel_rfl) (by simp) ?_
      refine stepH rfl (fun K hK => ?_) (stepH rfl (fun K hK => ?_) AllReadyH.nil)
      focus
        go_simp
        refine (HD.out wa ha).mono ?_
        rintro e wb ⟨sv, rfl, hos, hq⟩
        have hb := bnext ha hq
        go_wp2_with fail
        refine hK.out _ _ (hb) (fun _ => ?_)
        clear hK K
        (try simp only [Act.put, List.setIfInBounds_toArray, List.set_cons_zero, List.set_cons_succ])
        refine takeH (i := 6) (v := ?_) rfl (by kernel_rfl) (by kernel_rfl) (by kernel_rfl) (fun _ _ _ h => h) (Or.inl ⟨by rfl, ?_⟩) (by assumption) ?_
        rotate_left
        · (intro w hSw; (try dsimp only at hSw); go_simp; first | done | with_reducible rfl)
        (try simp only [Act.put, List.setIfInBounds_toArray, List.set_cons_zero, List.set_cons_succ])
        refine takeH (i := 7) (v := ?_) rfl (by kernel_rfl) (by kernel_rfl) (by kernel_rfl) (fun _ _ _ h => h) (Or.inl ⟨by rfl, ?_⟩) (by assumption) ?_
        rotate_left
        · (intro w hSw; (try dsimp only at hSw); go_simp; first | done | with_reducible rfl)
        (try simp only [Act.put, List.setIfInBounds_toArray, List.set_cons_zero, List.set_cons_succ])
        refine takeH (i := 8) (v := ?_) rfl (by kernel_rfl) (by kernel_rfl) (by kernel_rfl) (fun _ _ _ h => h) (Or.inl ⟨by rfl, ?_⟩) (by assumption) ?_
        rotate_left
        · (intro w hSw; (try dsimp only at hSw); go_simp; first | done | with_reducible rfl)
        (try simp only [Act.put, List.setIfInBounds_toArray, List.set_cons_zero, List.set_cons_succ])
        refine takeH (i := 9) (v := ?_) rfl (by kernel_rfl) (by kernel_rfl) (by kernel_rfl) (fun _ _ _ h => h) (Or.inl ⟨by rfl, ?_⟩) (by assumption) ?_
        rotate_left
        · (intro w hSw; (try dsimp only at hSw); go_simp; first | done | with_reducible rfl)
        (try simp only [Act.put, List.setIfInBounds_toArray, List.set_cons_zero, List.set_cons_succ])
        refine wpAnyH_ready (rs := [10]) (by kernel_rfl) (by simp) ?_
        refine stepH rfl (fun K hK => ?_) AllReadyH.nil
        go_simp
        have hc := bnext hb (below_fresh _ (.cells #[.int .i64 0, .int .i64 0, .slice none 0 0] 45))
        have hz := OP.fresh wb 0 0 (.slice none 0 0)
        have hos := (hos.mono ha.size).below (below_fresh wb (.cells #[.int .i64 0, .int .i64 0, .slice none 0 0] 45))
        refine hK.out _ _ (hc) (fun _ => ?_)
        clear hK K
        (try simp only [Act.put, List.setIfInBounds_toArray, List.set_cons_zero, List.set_cons_succ])
        obtain ⟨wc , hwc ⟩ : ∃ wc , (wb).alloc (.cells #[.int .i64 0, .int .i64 0, .slice none 0 0] 45) = wc  := ⟨_, rfl⟩
        rw [hwc ] at hc hz hos ⊢
        clear hwc 
        have hgl := hb.size
        generalize wb.heap.size = g at hz hgl ⊢
        clear hq hb
      rotate_left
      focus
        go_simp
        have hb := bnext ha (below_fresh _ (.cells #[.int .i64 0, .int .i64 0, .slice none 0 0] 45))
        have hz := OP.fresh wa 0 0 (.slice none 0 0)
        refine hK.out _ _ (hb) (fun _ => ?_)
        clear hK K
        (try simp only [Act.put, List.setIfInBounds_toArray, List.set_cons_zero, List.set_cons_succ])
        obtain ⟨wb , hwb ⟩ : ∃ wb , (wa).alloc (.cells #[.int .i64 0, .int .i64 0, .slice none 0 0] 45) = wb  := ⟨_, rfl⟩
        rw [hwb ] at hb hz ⊢
        clear hwb 
        have hgl := ha.size
        refine wpAnyH_ready (rs := [5]) (by kernel_rfl) (by simp) ?_
        refine stepH rfl (fun K hK => ?_) AllReadyH.nil
        go_simp
        refine (HD.out wb hb).mono ?_
        rintro e wc ⟨sv, rfl, hos, hq⟩
        have hc := bnext hb hq
        go_wp2_with fail
        refine hK.out _ _ (hc) (fun _ => ?_)
        clear hK K
        (try simp only [Act.put, List.setIfInBounds_toArray, List.set_cons_zero, List.set_cons_succ])
        refine takeH (i := 6) (v := ?_) rfl (by kernel_rfl) (by kernel_rfl) (by kernel_rfl) (fun _ _ _ h => h) (Or.inl ⟨by rfl, ?_⟩) (by assumption) ?_
        rotate_left
        · (intro w hSw; (try dsimp only at hSw); go_simp; first | done | with_reducible rfl)
        (try simp only [Act.put, List.setIfInBounds_toArray, List.set_cons_zero, List.set_cons_succ])
        refine takeH (i := 7) (v := ?_) rfl (by kernel_rfl) (by kernel_rfl) (by kernel_rfl) (fun _ _ _ h => h) (Or.inl ⟨by rfl, ?_⟩) (by assumption) ?_
        rotate_left
        · (intro w hSw; (try dsimp only at hSw); go_simp; first | done | with_reducible rfl)
        (try simp only [Act.put, List.setIfInBounds_toArray, List.set_cons_zero, List.set_cons_succ])
        refine takeH (i := 8) (v := ?_) rfl (by kernel_rfl) (by kernel_rfl) (by kernel_rfl) (fun _ _ _ h => h) (Or.inl ⟨by rfl, ?_⟩) (by assumption) ?_
        rotate_left
        · (intro w hSw; (try dsimp only at hSw); go_simp; first | done | with_reducible rfl)
        (try simp only [Act.put, List.setIfInBounds_toArray, List.set_cons_zero, List.set_cons_succ])
        refine takeH (i := 9) (v := ?_) rfl (by kernel_rfl) (by kernel_rfl) (by kernel_rfl) (fun _ _ _ h => h) (Or.inl ⟨by rfl, ?_⟩) (by assumption) ?_
        rotate_left
        · (intro w hSw; (try dsimp only at hSw); go_simp; first | done | with_reducible rfl)
        (try simp only [Act.put, List.setIfInBounds_toArray, List.set_cons_zero, List.set_cons_succ])
        replace hz := hz.below hq
        replace hos := hos.mono hb.size
        generalize wa.heap.size = g at hz hgl ⊢
        clear hq hb
      all_goals
        obtain ⟨sa, sc, rfl, _, _⟩ := hos.rd.shape
        obtain ⟨z0, z1, z2, f0, f1, f2⟩ := hz.cells
        have hon := only3 (w := wc) (B := g) (.int .i64 a) (.int .i64 n) (.slice sa cs.length sc)
        have hd := hc.trans (hon.below hgl hc.size)
        have hox := hz.put3 a n (.slice sa cs.length sc)
        have hosx := ownC_only hos hz (by decide) hon
        refine wpAnyH_ready (rs := [11]) (by kernel_rfl) (by simp) ?_
        refine stepH rfl (fun K hK => ?_) AllReadyH.nil
        go_simp
        skip
        refine hK.out _ _ (hd) (fun _ => ?_)
        clear hK K
        (try simp only [Act.put, List.setIfInBounds_toArray, List.set_cons_zero, List.set_cons_succ])
        generalize ((wc.setCell ⟨g, 0, none⟩ (.int .i64 a)).setCell ⟨g, 1, none⟩ (.int .i64 n)).setCell ⟨g, 2, none⟩ (.slice sa cs.length sc) = wd at hd hox hosx hon ⊢
        clear z0 z1 z2 f0 f1 f2 hz hos hon
        refine takeH (i := 12) (v := ?_) rfl (by kernel_rfl) (by kernel_rfl) (by kernel_rfl) (fun _ _ _ h => h) (Or.inl ⟨by rfl, ?_⟩) (by assumption) ?_
        rotate_left
        · (intro w hSw; (try dsimp only at hSw); go_simp; first | done | with_reducible rfl)
        (try simp only [Act.put, List.setIfInBounds_toArray, List.set_cons_zero, List.set_cons_succ])
        refine takeH (i := 13) (v := ?_) rfl (by kernel_rfl) (by kernel_rfl) (by kernel_rfl) (fun _ _ _ h => h) (Or.inl ⟨by rfl, ?_⟩) (by assumption) ?_
        rotate_left
        · (intro w hSw; (try dsimp only at hSw); go_simp; first | done | with_reducible rfl)
        (try simp only [Act.put, List.setIfInBounds_toArray, List.set_cons_zero, List.set_cons_succ])
        refine wpAnyH_done (by kernel_rfl) ?_ _
        have HOX := Lib.hid (HO0.out wd hd)
        have HTX := Lib.hid (HT0.out wd hd)
        have HKX := Lib.hid (hkb.out.below hd)
        have HBX := Lib.hid (bnext hbl.out hd)
        have HEX := Lib.hid hox
        have HSX := Lib.hid (OwnG.mono hosx hsl)
        clear hd hox hosx hc ha
        by_cases hE : er = 0
        · subst hE
          have E1 := Lib.hid (show R = CM.finL (CM.rest xs (N - (k + 1)) (U ++ [(a, n, cs)]) (uu + used)) by rw [HE1.out, if_neg (by simp)])
          have HTY := Lib.hid (TelO.snoc (f := (a, n, cs)) (q := (a, n, sa, cs.length, sc)) ⟨rfl, rfl, HSX.out⟩ HTX.out)
          have hsx := HBX.out.size
          have hlq : qs.length ≤ 1073741824 := by have := hul.out; have := HQF.out; omega
          have HUL := Lib.hid (show (U ++ [(a, n, cs)]).length ≤ k + 1 by rw [List.length_append]; have := hul.out; simp; omega)
          have HUU := Lib.hid (show uu + used ≤ xs.length by have := HUS.out; have := huu.out; omega)
          obtain ⟨p0, p1, p2, _⟩ := HEX.out.cells
          clear HE1 HTX HSX HUS hul HEX HD
          go_wp2_with (at_builtin; refine wp_appG1' setE (a, n, sa, cs.length, sc) _ rfl rfl _ _ rfl rfl HOX.out rfl hlq hsx ?_)
          intro v3 w3 ho3 hb3 hk3
          have HO3 := Lib.hid ho3
          have HB3 := Lib.hid (HBX.out.trans hb3)
          have HT3 := Lib.hid (HTY.out.keep hk3)
          have HK3 := Lib.hid (HKX.out.keep hk3)
          clear ho3 hb3 hk3 HOX HTY HKX HBX hsx hlq p0 p1 p2
          go_wp2
          go_roundw
          case rel => exact ⟨k + 1, uu + used, _, _, by omega, by go_num, by go_num, HUU, HUL, HO3, HT3, HK3, HB3, E1⟩
          case measure => simp [intOf]; omega
        · have E1 := Lib.hid (show R = (er, 0, []) by rw [HE1.out, if_pos hE, CM.finL, if_pos hE])
          have hne : (er != 0) = true := bne_t hE
          clear HE1 hE HOX HTX HKX HEX HSX HD
          go_wp2
          go_ret3
          exact ⟨_, by rw [E1.out]; rfl, by rw [E1.out]; exact RdF.nil _, HBX.out⟩
    · have hq : ¬ ((k : Int) < (N : Int)) := by omega
      obtain rfl : k = N := by omega
      have e1 : R = CM.finL (0, uu, U) := by rw [he.out, Nat.sub_self, CM.rest]
      have e2 : R = if CM.errL (0, 0) U ≠ 0 then (CM.errL (0, 0) U, 0, []) else (0, uu, U) := by rw [e1, CM.finL, if_neg (by simp)]
      have HF := Lib.hid (show RdF wr (.slice c1 qs.length c2) U from ⟨qs, ho.out.rd, ht.out.rd⟩)
      have hV := sValidate _ U wr HF.out
      obtain ⟨j0, j1, j2, j3, j4, j5, j6, j7, j8⟩ := hkb.out.cells
      generalize CM.errL (0, 0) U = E at hV e2
      have HV := Lib.hid hV
      clear he e1 hV ho ht
      by_cases hE : E = 0
      · subst hE
        have E1 := Lib.hid (show R = (0, uu, U) by rw [e2, if_neg (by simp)])
        clear e2
        go_wp2_with fail
        refine HV.out.mono ?_
        rintro e w2 ⟨rfl, hb2⟩
        have HB2 := Lib.hid (bnext hbl.out hb2)
        have HF2 := Lib.hid (HF.out.below hb2)
        clear HV HF hb2 hbl
        go_wp2
        go_ret3
        exact ⟨_, by rw [E1.out]; rfl, by rw [E1.out]; exact HF2.out, HB2.out⟩
      · have E1 := Lib.hid (show R = (E, 0, []) by rw [e2, if_pos hE])
        have hne : (E != 0) = true := bne_t hE
        clear e2 hE
        go_wp2_with fail
        refine HV.out.mono ?_
        rintro e w2 ⟨rfl, hb2⟩
        have HB2 := Lib.hid (bnext hbl.out hb2)
        clear HV HF hb2 hbl
        go_wp2
        go_ret3
        exact ⟨_, by rw [E1.out]; rfl, by rw [E1.out]; exact RdF.nil _, HB2.out⟩

end Go.Proofs.Yteeegpojfbgkfaa
