/-
  The call of the reference's ValidateProposal: it returns the error that the plain mathematics says. Conditions: the changes read.
-/
import Derived.Test.YtacbpphhkkmelaaJChgR
import Derived.Test.YtacbpphhkkmelaaJProp
namespace Go.Proofs.Ytacbpphhkkmelaa
open Go.RowKit
open JM (Chg)

set_option maxRecDepth 100000 in
set_option maxHeartbeats 4000000 in
theorem rValidate (a n : Int) (v : Value) (cs : List Chg) (w : World) (h : RdC w v cs) :
    Calls Try.prog 47 #[pv a n v] w fun e w' => e = .returned (.int .i64 (JM.errP a n cs)) ∧ Below w.heap.size w w' := by
  obtain ⟨ad, cp, rfl, hc, hl⟩ := h.shape
  obtain ⟨R, hR⟩ : ∃ R, R = JM.errP a n cs := ⟨_, rfl⟩
  rw [← hR]
  have ha := fun w => rAdmin a w
  obtain ⟨A, hA⟩ : ∃ A, A = JM.isAdm a := ⟨_, rfl⟩
  rw [← hA] at ha
  have HA := Lib.hid ha
  clear ha
  have hb0 := below_fresh w (.cells #[.int .i64 a, .int .i64 n, .slice ad cs.length cp] 45)
  cases A
  · have HR := Lib.hid (hR.trans (errP_range (.inl hA.symm)))
    clear hR hA h
    go_enter Try.func47, Try.ntmps47
    go_wp2_with (go_at_call 76; refine (HA.out _).mono ?_; rintro e w1 ⟨rfl, rfl⟩)
    go_ret
    rw [HR.out]
    exact ⟨rfl, hb0⟩
  by_cases hn1 : n < 1
  · have HR := Lib.hid (hR.trans (show JM.errP a n cs = 9 by unfold JM.errP; rw [if_pos (.inr (.inl hn1))]))
    clear hR hA h
    go_enter Try.func47, Try.ntmps47
    go_wp2_with (go_at_call 76; refine (HA.out _).mono ?_; rintro e w1 ⟨rfl, rfl⟩)
    go_ret
    rw [HR.out]
    exact ⟨rfl, hb0⟩
  by_cases hn3 : 3 < n
  · have HR := Lib.hid (hR.trans (show JM.errP a n cs = 9 by unfold JM.errP; rw [if_pos (.inr (.inr hn3))]))
    clear hR hA h
    go_enter Try.func47, Try.ntmps47
    go_wp2_with (go_at_call 76; refine (HA.out _).mono ?_; rintro e w1 ⟨rfl, rfl⟩)
    go_ret
    rw [HR.out]
    exact ⟨rfl, hb0⟩
  have hR2 : R = if cs = [] then 2 else if 6 < cs.length then 3 else JM.errS [] cs := by
    rw [hR]; unfold JM.errP; rw [if_neg (by rw [← hA]; simp; omega)]
  clear hR hA
  have HX := Lib.hid h
  clear h
  by_cases h0 : cs = []
  · have HR := Lib.hid (hR2.trans (if_pos h0))
    have hz : ((cs.length : Int) == 0) = true := by rw [h0]; rfl
    clear hR2 h0
    go_enter Try.func47, Try.ntmps47
    go_wp2_with (go_at_call 76; refine (HA.out _).mono ?_; rintro e w1 ⟨rfl, rfl⟩)
    go_ret
    rw [HR.out]
    exact ⟨rfl, hb0⟩
  rw [if_neg h0] at hR2
  have hz : ((cs.length : Int) == 0) = false := beq_f (by have := List.length_pos_iff.2 h0; omega)
  clear h0
  by_cases h6 : 6 < cs.length
  · have HR := Lib.hid (hR2.trans (if_pos h6))
    have hz : (6 : Int) < (cs.length : Int) := by omega
    clear hR2 h6
    go_enter Try.func47, Try.ntmps47
    go_wp2_with (go_at_call 76; refine (HA.out _).mono ?_; rintro e w1 ⟨rfl, rfl⟩)
    go_ret
    rw [HR.out]
    exact ⟨rfl, hb0⟩
  rw [if_neg h6] at hR2
  have h6' : ¬ (6 : Int) < (cs.length : Int) := by omega
  have HR := Lib.hid hR2
  have HX0 := Lib.hid (HX.out.below hb0)
  have HP0 := Lib.hid (PBox.fresh w a n (.slice ad cs.length cp))
  have HB0 := Lib.hid hb0
  clear hR2 h6 hb0 HX
  go_enter Try.func47, Try.ntmps47
  go_wp2_with (go_at_call 76; refine (HA.out _).mono ?_; rintro e w1 ⟨rfl, rfl⟩)
  clear HA
  generalize w.alloc (.cells #[.int .i64 a, .int .i64 n, .slice ad cs.length cp] 45) = w0 at HX0 HP0 HB0 ⊢
  go_loopw [3] (fun i wr => ∃ k : Nat, k ≤ cs.length ∧ i = .int .i64 k ∧ Below w0.heap.size w0 wr ∧ Hid (R = JM.errS (cs.take k) (cs.drop k))) (fun i _ => cs.length - (intOf i).toNat)
  case atStart => exact ⟨0, Nat.zero_le _, rfl, Below.refl _ _, HR.out⟩
  case round =>
    obtain ⟨k, hk, rfl, hbl, he⟩ := hrel
    obtain ⟨wo, rfl⟩ : ∃ wo, wo = wr := ⟨wr, rfl⟩
    have hp2 := (HP0.out.below hbl).2.2
    by_cases hlt : k < cs.length
    · have hq : (k : Int) < (cs.length : Int) := by omega
      have hdx := Lib.hid (drop_get hlt)
      have htk := Lib.hid (List.take_append_getElem hlt)
      have hat := List.getElem?_eq_getElem hlt
      generalize cs[k] = y at hdx hat htk
      obtain ⟨k', s', t', v', a', b', c'⟩ := y
      obtain ⟨b, o, hi, hb, d0, d1, d2, d3, d4, d5, d6⟩ := atC (HX0.out.below hbl) k _ _ _ _ _ _ _ hat
      have e2 := Lib.hid (show R = if JM.errCh (k', s', t', v', a', b', c') ≠ 0 then JM.errCh (k', s', t', v', a', b', c') else if (cs.take k).any (fun y => JM.sim y (k', s', t', v', a', b', c')) = true then 5 else JM.errS (cs.take (k + 1)) (cs.drop (k + 1)) by rw [he.out, hdx.out, errS_cons, htk.out])
      clear he hdx htk
      have HAT := Lib.hid hat
      clear hat
      have HV := Lib.hid (fun w => rValChange k' s' t' v' a' b' c' w)
      have hec : JM.errCh (k', s', t', v', a', b', c') = JM.errC k' s' t' v' a' b' c' := rfl
      rw [hec] at e2
      generalize JM.errC k' s' t' v' a' b' c' = ec at HV e2
      by_cases hec0 : ec = 0
      · subst hec0
        have e2 := Lib.hid (e2.out.trans (if_neg (fun h => h rfl)))
        go_wp2_with (go_at_call 77; refine (HV.out _).mono ?_; rintro e w1 ⟨rfl, hb1⟩)
        have HB1 := Lib.hid (bnext hbl hb1)
        clear hb1 HV d0 d1 d2 d3 d4 d5 d6 hi hb hp2 hbl
        go_loopw [5] (fun i wr => ∃ j : Nat, j ≤ k ∧ i = .int .i64 j ∧ Below w0.heap.size w0 wr ∧ Hid ((cs.take k).any (fun y => JM.sim y (k', s', t', v', a', b', c')) = ((cs.take k).drop j).any (fun y => JM.sim y (k', s', t', v', a', b', c')))) (fun i _ => k - (intOf i).toNat)
        case atStart => exact ⟨0, Nat.zero_le _, rfl, HB1.out, rfl⟩
        case round =>
          obtain ⟨j, hj, rfl, hbl, he⟩ := hrel
          have hp2 := (HP0.out.below hbl).2.2
          by_cases hjk : j < k
          · have hqj : (j : Int) < (k : Int) := by omega
            have hjc : (j : Int) < (cs.length : Int) := by omega
            have hj2 : j < cs.length := by omega
            have hj3 : j < (cs.take k).length := by rw [List.length_take]; omega
            have hdy := Lib.hid (show (cs.take k).drop j = cs[j] :: (cs.take k).drop (j + 1) by rw [drop_get hj3, List.getElem_take])
            have hat2 := List.getElem?_eq_getElem hj2
            obtain ⟨b, o, hi, hb, d0, d1, d2, d3, d4, d5, d6⟩ := atC (HX0.out.below hbl) k _ _ _ _ _ _ _ HAT.out
            generalize cs[j] = z at hdy hat2
            obtain ⟨k2, s2, t2, v2, a2, b2, c2⟩ := z
            obtain ⟨bb, oo, hi2, hb2, f0, f1, f2, f3, f4, f5, f6⟩ := atC (HX0.out.below hbl) j _ _ _ _ _ _ _ hat2
            have e3 := Lib.hid (show (cs.take k).any (fun y => JM.sim y (k', s', t', v', a', b', c')) = ((k2 == k' && s2 == s') || ((cs.take k).drop (j + 1)).any (fun y => JM.sim y (k', s', t', v', a', b', c'))) by rw [he.out, hdy.out]; rfl)
            clear he hdy hat2 d2 d3 d4 d5 d6 f2 f3 f4 f5 f6
            cases hk2 : (k2 == k')
            · have e4 := Lib.hid (show (cs.take k).any (fun y => JM.sim y (k', s', t', v', a', b', c')) = ((cs.take k).drop (j + 1)).any (fun y => JM.sim y (k', s', t', v', a', b', c')) by rw [e3.out, hk2, Bool.false_and, Bool.false_or])
              clear e3
              go_wp2
              go_quiet (fail)
              go_wp2
              go_roundw
              case rel => exact ⟨j + 1, by omega, by go_num, hbl.trans (below_drewN _ _ _), e4⟩
              case measure => simp [intOf]; omega
            · cases hs2 : (s2 == s')
              · have e4 := Lib.hid (show (cs.take k).any (fun y => JM.sim y (k', s', t', v', a', b', c')) = ((cs.take k).drop (j + 1)).any (fun y => JM.sim y (k', s', t', v', a', b', c')) by rw [e3.out, hs2, Bool.and_false, Bool.false_or])
                clear e3
                go_wp2
                go_quiet (fail)
                go_wp2
                go_roundw
                case rel => exact ⟨j + 1, by omega, by go_num, hbl.trans (below_drewN _ _ _), e4⟩
                case measure => simp [intOf]; omega
              · have e4 := Lib.hid (show R = 5 from e2.out.trans (if_pos (by rw [e3.out, hk2, hs2]; rfl)))
                clear e3 e2
                go_wp2
                go_quiet (fail)
                go_wp2
                go_ret
                rw [e4.out]
                exact ⟨rfl, bnext HB0.out (hbl.trans (below_drewN _ _ _))⟩
          · have hqj : ¬ (j : Int) < (k : Int) := by omega
            have e4 := Lib.hid (show R = JM.errS (cs.take (k + 1)) (cs.drop (k + 1)) from e2.out.trans (if_neg (by rw [he.out, List.drop_of_length_le (by rw [List.length_take]; omega)]; simp)))
            clear he e2
            go_wp2
            go_roundw
            case rel => exact ⟨k + 1, by omega, by go_num, hbl, e4⟩
            case measure => simp [intOf]; omega
      · have e2 := Lib.hid (e2.out.trans (if_pos hec0))
        have hne : (ec != 0) = true := bne_t hec0
        clear hec0
        go_wp2_with (go_at_call 77; refine (HV.out _).mono ?_; rintro e w1 ⟨rfl, hb1⟩)
        go_ret
        rw [e2.out]
        exact ⟨rfl, bnext HB0.out (bnext hbl hb1)⟩
    · have hq : ¬ ((k : Int) < (cs.length : Int)) := by omega
      have e2 := Lib.hid (show R = 0 by rw [he.out, List.drop_of_length_le (by omega)]; rfl)
      clear he HR
      go_wp2
      go_ret
      rw [e2.out]
      exact ⟨rfl, bnext HB0.out hbl⟩

end Go.Proofs.Ytacbpphhkkmelaa
