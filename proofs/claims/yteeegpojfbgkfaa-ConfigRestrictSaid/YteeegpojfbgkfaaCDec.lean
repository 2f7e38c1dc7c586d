/-
  The calls of config.Decode and the reference's DecodeConfig. Conditions: the bytes read.
-/
import Derived.Test.YteeegpojfbgkfaaCEnc
import Derived.Test.YteeegpojfbgkfaaKB
import Derived.Test.YteeegpojfbgkfaaKG
namespace Go.Proofs.Yteeegpojfbgkfaa
open Go.RowKit
open JM (Chg)
open CM (Fp)
open WM (enc dec Bytes)

set_option maxRecDepth 100000 in
set_option maxHeartbeats 4000000 in
theorem rDecodeC (v : Value) (xs : List Int) (w : World) (h : Rd w v xs) :
    Calls Try.prog 43 #[v] w fun e w' => ∃ v', e = .returned (.tuple #[v', .int .i64 ((CM.decL xs).2.1 : Int), .int .i64 (CM.decL xs).1]) ∧ RdF w' v' (CM.decL xs).2.2 ∧ Below w.heap.size w w' := by
  obtain ⟨va, vc, rfl, hvc⟩ := h.shape
  have hby := h.bytes
  have hU := rUint (.slice va xs.length vc) xs w h
  obtain ⟨R, hR⟩ : ∃ R, R = CM.decL xs := ⟨_, rfl⟩
  rw [← hR]
  have H := Lib.hid h
  clear h
  rcases CM.dec_num hby with ⟨e, he, hd⟩ | ⟨N, hN, hd, hl⟩
  · rw [hd] at hU
    have HR := Lib.hid (show R = (e, 0, []) by rw [hR, CM.decL, hd, if_pos he])
    have hne : (e != 0) = true := bne_t he
    have HU := Lib.hid hU
    clear hd hU hR he
    go_enter Try.func43, Try.ntmps43
    go_wp2_with fail
    refine HU.out.mono ?_
    rintro e' w1 ⟨rfl, rfl⟩
    go_wp2
    go_ret3
    exact ⟨_, by rw [HR.out]; rfl, by rw [HR.out]; exact RdF.nil _, Below.refl _ _⟩
  rw [hd] at hU
  have HU := Lib.hid hU
  clear hU
  by_cases h9 : 9 < N
  · have HR := Lib.hid (show R = (3, 0, []) by rw [hR, CM.decL, hd, if_neg (by simp), if_pos (by simp only; omega)])
    have hq9 : (9 : Int) < (N : Int) := by omega
    clear hd hR
    go_enter Try.func43, Try.ntmps43
    go_wp2_with fail
    refine HU.out.mono ?_
    rintro e' w1 ⟨rfl, rfl⟩
    go_wp2
    go_ret3
    exact ⟨_, by rw [HR.out]; rfl, by rw [HR.out]; exact RdF.nil _, Below.refl _ _⟩
  have HR := Lib.hid (show R = CM.finL (CM.rest xs N [] (enc N).length) by rw [hR, CM.decL, hd, if_neg (by simp), if_neg (by simp only; omega)]; rfl)
  have hq9 : ¬ (9 : Int) < (N : Int) := by omega
  generalize (enc N).length = u0 at HU HR hl
  have HL := Lib.hid hl
  have HBY := Lib.hid hby
  clear hd hR hl hN hby
  go_enter Try.func43, Try.ntmps43
  go_wp2_with fail
  refine HU.out.mono ?_
  rintro e' w1 ⟨rfl, rfl⟩
  clear HU
  go_wp2
  go_loopw [6, 8, 9] (fun us c i wr => ∃ (k uu : Nat) (qs : List Pro) (U : List Fp), k ≤ N ∧ i = .int .i64 k ∧ us = .int .i64 uu ∧ Hid (uu ≤ xs.length) ∧ Hid (U.length ≤ k) ∧ Hid (OwnQ w.heap.size wr c qs) ∧ Hid (TelO w.heap.size wr qs U) ∧ Hid (Below w.heap.size w wr) ∧ Hid (R = CM.finL (CM.rest xs (N - k) U uu))) (fun _ _ i _ => N - (intOf i).toNat)
  case atStart => exact ⟨0, u0, [], [], Nat.zero_le _, rfl, rfl, HL.out, Nat.le_refl _, OwnG.nil hlQ _ _ _, trivial, Below.refl _ _, HR.out⟩
  case round =>
    obtain ⟨k, uu, qs, U, hk, rfl, rfl, huu, hul, ho, ht, hbl, he⟩ := hrel
    clear HR HL
    obtain ⟨c1, c2, rfl, hc2, _⟩ := ho.out.rd.shape
    have HQF := Lib.hid ht.out.rd.len
    by_cases hlt : k < N
    · have hq : (k : Int) < (N : Int) := by omega
      obtain ⟨v2, hcut, hrd⟩ := (H.out.below hbl.out).cutL uu huu.out
      have hD := CO.rDecode v2 _ wr hrd
      have hus := JM.decP_used (xs.drop uu) (fun c hc => HBY.out c (List.mem_of_mem_drop hc))
      have hrs := CM.rest_succ xs (N - (k + 1)) U uu
      rw [show N - (k + 1) + 1 = N - k by omega] at hrs
      have e1 := he.out
      rw [hrs] at e1
      rw [List.length_drop] at hus
      generalize JM.decP (xs.drop uu) = d at hD hus e1
      obtain ⟨er, used, a, n, cs⟩ := d
      simp only at hD hus e1
      have HD := Lib.hid hD
      have HUS := Lib.hid hus
      have hxl : xs.length ≤ 9223372036854775807 := by
        obtain ⟨_, n', _, hv, h1, h2, h3, _⟩ := H.out
        unfold maxLen at h3
        omega
      have hw1 : (uu : Int) + (used : Int) ≤ 9223372036854775807 := by have := huu.out; omega
      clear he hrs hD hus hrd
      by_cases hE : er = 0
      · subst hE
        have E1 := Lib.hid (show R = CM.finL (CM.rest xs (N - (k + 1)) (U ++ [(a, n, cs)]) (uu + used)) by rw [e1, if_neg (by simp)])
        clear e1
        go_wp2_with fail
        refine HD.out.mono ?_
        rintro e w2 ⟨sv, rfl, hos, hb2⟩
        obtain ⟨sa, sc, rfl, _, _⟩ := hos.rd.shape
        have hbx := below_fresh w2 (.cells #[.int .i64 a, .int .i64 n, .slice sa cs.length sc] 45)
        have hpx := PBox.fresh w2 a n (.slice sa cs.length sc)
        have HWS := Lib.hid (World.size_alloc w2 (.cells #[.int .i64 a, .int .i64 n, .slice sa cs.length sc] 45))
        have hox := (ho.out.below hb2).below hbx
        have HTX := Lib.hid (TelO.snoc (f := (a, n, cs)) (q := (a, n, sa, cs.length, sc)) ⟨rfl, rfl, (OwnG.below (OwnG.mono hos hbl.out.size) hbx)⟩ ((ht.out.below hb2).below hbx))
        have HBX := Lib.hid (bnext (bnext hbl.out hb2) hbx)
        have hsx := HBX.out.size
        have hlq : qs.length ≤ 1073741824 := by have := hul.out; have := HQF.out; omega
        have HUL := Lib.hid (show (U ++ [(a, n, cs)]).length ≤ k + 1 by rw [List.length_append]; have := hul.out; simp; omega)
        have HUU := Lib.hid (show uu + used ≤ xs.length by have := HUS.out; have := huu.out; omega)
        clear hbx hpx hos hb2 ho ht hbl HD HUS hul
        go_wp2_with (at_builtin; refine wp_appG1' proE (a, n, sa, cs.length, sc) _ HWS.out rfl _ _ rfl rfl hox rfl hlq hsx ?_)
        intro v3 w3 ho3 hb3 hk3
        have HO3 := Lib.hid ho3
        have HB3 := Lib.hid (HBX.out.trans hb3)
        have HT3 := Lib.hid (HTX.out.keep hk3)
        clear ho3 hb3 hk3 hox HTX HBX hsx hlq HWS
        go_wp2
        go_roundw
        case rel => exact ⟨k + 1, uu + used, _, _, by omega, by go_num, by go_num, HUU, HUL, HO3, HT3, HB3, E1⟩
        case measure => simp [intOf]; omega
      · have E1 := Lib.hid (show R = (er, 0, []) by rw [e1, if_pos hE, CM.finL, if_pos hE])
        have hne : (er != 0) = true := bne_t hE
        clear e1 hE
        go_wp2_with fail
        refine HD.out.mono ?_
        rintro e w2 ⟨sv, rfl, hos, hb2⟩
        obtain ⟨sa, sc, rfl, _, _⟩ := hos.rd.shape
        have HB2 := Lib.hid (bnext (bnext hbl.out hb2) (below_fresh w2 (.cells #[.int .i64 a, .int .i64 n, .slice sa cs.length sc] 45)))
        clear hos hb2 HD ho ht hbl
        go_wp2
        go_ret3
        exact ⟨_, by rw [E1.out]; rfl, by rw [E1.out]; exact RdF.nil _, HB2.out⟩
    · have hq : ¬ ((k : Int) < (N : Int)) := by omega
      obtain rfl : k = N := by omega
      have e1 : R = CM.finL (0, uu, U) := by rw [he.out, Nat.sub_self, CM.rest]
      have e2 : R = if CM.errL (0, 0) U ≠ 0 then (CM.errL (0, 0) U, 0, []) else (0, uu, U) := by rw [e1, CM.finL, if_neg (by simp)]
      have HF := Lib.hid (show RdF wr (.slice c1 qs.length c2) U from ⟨qs, ho.out.rd, ht.out.rd⟩)
      have hV := rValidateC _ U wr HF.out
      generalize CM.errL (0, 0) U = E at hV e2
      have HV := Lib.hid hV
      clear he e1 hV ho ht
      by_cases hE : E = 0
      · subst hE
        have E1 := Lib.hid (show R = (0, uu, U) by rw [e2, if_neg (by simp)])
        clear e2
        go_wp2_with fail
        refine HV.out.mono ?_
        rintro e w2 ⟨rfl, hb2⟩
        have HB2 := Lib.hid (bnext hbl.out hb2)
        have HF2 := Lib.hid (HF.out.below hb2)
        clear HV HF hb2 hbl
        go_wp2
        go_ret3
        exact ⟨_, by rw [E1.out]; rfl, by rw [E1.out]; exact HF2.out, HB2.out⟩
      · have E1 := Lib.hid (show R = (E, 0, []) by rw [e2, if_pos hE])
        have hne : (E != 0) = true := bne_t hE
        clear e2 hE
        go_wp2_with fail
        refine HV.out.mono ?_
        rintro e w2 ⟨rfl, hb2⟩
        have HB2 := Lib.hid (bnext hbl.out hb2)
        clear HV HF hb2 hbl
        go_wp2
        go_ret3
        exact ⟨_, by rw [E1.out]; rfl, by rw [E1.out]; exact RdF.nil _, HB2.out⟩

end Go.Proofs.Yteeegpojfbgkfaa
