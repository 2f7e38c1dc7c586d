/-
  The call of the law AcceptorOrder: it returns true. Conditions: what comes in reads; the contracts of package acceptor hold.
-/
import Derived.StillTailTactics
import Derived.Test.YtnkeaphfheminaaALaw2
namespace Go.Proofs.Ytnkeaphfheminaa
open Go.RowKit
open VM (Ent)

set_option maxRecDepth 100000 in
set_option maxHeartbeats 4000000 in
theorem lAcceptorOrder (ct : AT) (a v : Value) (xs : List Ent) (ls : List (List Ent)) (w : World) (ha : VX.RdV w a xs) (hv : RdVs w v ls) :
    Calls Try.prog 5 #[acv a, v] w fun e w' => e = .returned (.bool true) ∧ Below w.heap.size w w' := by
  obtain ⟨aa, ac, rfl, _, _⟩ := ha.shape
  obtain ⟨la, lc, rfl, _, _⟩ := hv.shape
  obtain ⟨w0, hw0, hA, hb0⟩ := oneA w (.slice aa xs.length ac)
  have HF := Lib.hid (ha.below hb0)
  have HL := Lib.hid (hv.below hb0)
  have HV := Lib.hid (kValid _ _ w0 HL.out)
  have HX := Lib.hid hA
  have HB := Lib.hid hb0
  have HW := Lib.hid hw0
  clear ha hv hw0 hA hb0
  go_enter Try.func5, Try.ntmps5
  go_upto_region 1 with fail
  rw [HW.out]
  go_wp2_with fail
  refine HV.out.mono ?_
  rintro e w1 ⟨⟨R, rfl, hR⟩, hb1⟩
  replace HF := Lib.hid (HF.out.below hb1)
  replace HL := Lib.hid (HL.out.below hb1)
  replace HX := Lib.hid (HX.out.below hb1)
  replace HB := Lib.hid (bnext HB.out hb1)
  clear hb1 HV HW
  cases R
  · have HQ := Lib.hid (cAwake15 ct w1)
    clear hR
    go_wp2_with fail
    refine HQ.out.mono ?_
    rintro e w3 ⟨rfl, hb3⟩
    replace HB := Lib.hid (bnext HB.out hb3)
    clear hb3 HQ
    go_wp2
    go_ret
    exact ⟨rfl, HB.out⟩
  have HS := Lib.hid (hR rfl)
  clear hR
  have hfr := below_fresh w1 (.cells #[.slice aa xs.length ac] 23)
  have hg := heap_alloc_new w1 (.cells #[.slice aa xs.length ac] 23)
  obtain ⟨w2, hw2⟩ : ∃ w2, w1.alloc (.cells #[.slice aa xs.length ac] 23) = w2 := ⟨_, rfl⟩
  rw [hw2] at hfr hg
  have c0 := HX.out.cell
  have HW := Lib.hid hw2
  replace HF := Lib.hid (HF.out.below hfr)
  replace HL := Lib.hid (HL.out.below hfr)
  replace HX := Lib.hid (HX.out.below hfr)
  replace HB := Lib.hid (bnext HB.out hfr)
  have HV := Lib.hid (kValid _ _ w2 (rdVs_one hg HF.out))
  clear hw2 hfr hg
  go_wp2_with fail
  rw [HW.out]
  refine HV.out.mono ?_
  rintro e w3 ⟨⟨R, rfl, hR⟩, hb3⟩
  replace HF := Lib.hid (HF.out.below hb3)
  replace HL := Lib.hid (HL.out.below hb3)
  replace HX := Lib.hid (HX.out.below hb3)
  replace HB := Lib.hid (bnext HB.out hb3)
  clear hb3 HV HW c0
  cases R
  · have HQ := Lib.hid (cAwake15 ct w3)
    clear hR
    go_wp2_with fail
    refine HQ.out.mono ?_
    rintro e w4 ⟨rfl, hb4⟩
    replace HB := Lib.hid (bnext HB.out hb4)
    clear hb4 HQ
    go_wp2
    go_ret
    exact ⟨rfl, HB.out⟩
  have HSX := Lib.hid ((hR rfl).each xs (by simp))
  clear hR
  have HQ := Lib.hid (ct.all _ _ xs ls w3 HF.out HL.out HSX.out.2 (fun x hx => ⟨by have := (HS.out.each x hx).1; omega, (HS.out.each x hx).2⟩) (by have := HSX.out.1; omega) HS.out.len)
  have c0 := HX.out.cell
  go_wp2_with fail
  refine HQ.out.mono ?_
  rintro e w4 ⟨v4, l4, rfl, hr4, hl4, hb4⟩
  obtain ⟨va, vc, rfl, _, _⟩ := hr4.shape
  obtain ⟨ka, kc, rfl, _, _⟩ := hl4.shape
  clear HQ c0
  replace HF := Lib.hid (HF.out.below hb4)
  replace HL := Lib.hid (HL.out.below hb4)
  replace HX := Lib.hid (HX.out.below hb4)
  replace HB := Lib.hid (bnext HB.out hb4)
  obtain ⟨w5, hw5, hD, hb5⟩ := oneA w4 (.slice va (VM.acF xs ls).length vc)
  replace HF := Lib.hid (HF.out.below hb5)
  replace HL := Lib.hid (HL.out.below hb5)
  replace HX := Lib.hid (HX.out.below hb5)
  replace HB := Lib.hid (bnext HB.out hb5)
  have HR := Lib.hid (hr4.below hb5)
  have HK := Lib.hid (hl4.below hb5)
  have HD := Lib.hid hD
  have HW := Lib.hid hw5
  obtain ⟨g4, hg4⟩ : ∃ g, g = w4.heap.size := ⟨_, rfl⟩
  clear hb4 hr4 hl4 hw5 hD hb5
  go_upto_region 4 with fail
  rw [HW.out]
  rw [← hg4] at HD ⊢
  clear HW hg4
  have hkl := VM.acL_length ls xs
  have HK2 := Lib.hid (show RdBs w5 (.slice ka ls.length kc) (VM.acL xs ls) by have h := HK.out; rw [hkl] at h; exact h)
  rw [hkl]
  clear HK hkl
  have c0 := HX.out.cell
  have hne : ((ls.length : Int) != (ls.length : Int)) = false := by simp
  clear c0
  go_wp2
  go_loopw [7] (fun i wr => ∃ k : Nat, k ≤ ls.length ∧ i = .int .i64 k ∧ Hid (Below w5.heap.size w5 wr)) (fun i _ => ls.length - (intOf i).toNat)
  case atStart => exact ⟨0, Nat.zero_le _, rfl, Below.refl _ _⟩
  case round =>
    obtain ⟨k, hk, rfl, hbl⟩ := hrel
    obtain ⟨wo, rfl⟩ : ∃ wo, wo = wr := ⟨wr, rfl⟩
    by_cases hlt : k < ls.length
    · have hq : (k : Int) < (ls.length : Int) := by omega
      have hk2 := List.getElem?_eq_getElem hlt
      generalize ls[k] = x at hk2
      have hbk : (VM.acL xs ls)[k]? = some (VM.le (VM.acF xs (ls.take k)) x) := by rw [VM.acL_get, hk2]; rfl
      generalize VM.le (VM.acF xs (ls.take k)) x = L at hbk
      have HBK := Lib.hid hbk
      have HK3 := Lib.hid hk2
      clear hbk hk2
      go_wp2
      go_loopw [8] (fun i wr => ∃ j : Nat, j ≤ k ∧ i = .int .i64 j ∧ Hid (Below w5.heap.size w5 wr)) (fun i _ => k - (intOf i).toNat)
      case atStart => exact ⟨0, Nat.zero_le _, rfl, hbl⟩
      case round =>
        obtain ⟨j, hj, rfl, hbl2⟩ := hrel
        by_cases hlt2 : j < k
        · have hq2 : (j : Int) < (k : Int) := by omega
          have hj2 := List.getElem?_eq_getElem (show j < ls.length by omega)
          generalize ls[j] = y at hj2
          have hbj : (VM.acL xs ls)[j]? = some (VM.le (VM.acF xs (ls.take j)) y) := by rw [VM.acL_get, hj2]; rfl
          generalize VM.le (VM.acF xs (ls.take j)) y = M at hbj
          obtain ⟨b, o, xa, xc, hi, _, d0, hrx⟩ := (HL.out.below hbl2.out).at_ k x HK3.out
          obtain ⟨b1, o1, ya, yc, hi1, _, d1, hry⟩ := (HL.out.below hbl2.out).at_ j y hj2
          obtain ⟨b2, o2, hi2, _, f2⟩ := (HK2.out.below hbl2.out).at_ boolE k _ HBK.out
          obtain ⟨b3, o3, hi3, _, f3⟩ := (HK2.out.below hbl2.out).at_ boolE j _ hbj
          have e0 := f2 0 _ rfl
          have e1 := f3 0 _ rfl
          rw [Nat.add_zero] at e0 e1
          have k0 : ∀ p : Later wr, p.val.cell? ⟨b, o, none⟩ = some (.slice xa x.length xc) := fun p => below_cell p.h d0
          have k1 : ∀ p : Later wr, p.val.cell? ⟨b1, o1, none⟩ = some (.slice ya y.length yc) := fun p => below_cell p.h d1
          have k2 : ∀ p : Later wr, p.val.cell? ⟨b2, o2, none⟩ = some (.bool L) := fun p => below_cell p.h e0
          have k3 : ∀ p : Later wr, p.val.cell? ⟨b3, o3, none⟩ = some (.bool M) := fun p => below_cell p.h e1
          have HA := Lib.hid (fun p : Later wr => Calls.later (VX.rLessEqual _ _ y x p.val (hry.below p.h) (hrx.below p.h)))
          have HO := Lib.hid (fun h : L = true => VM.acL_order (a := xs) HSX.out.2 (fun z hz => (HS.out.each z hz).2) hlt2 HK3.out hj2 (by rw [HBK.out, h]))
          clear d0 d1 e0 e1 f2 f3 hrx hry hbj hj2
          cases L
          case true =>
            rw [HO.out rfl] at HA
            clear HO
            cases M
            all_goals
              go_wp2
              refine wp_region_later (by kernel_rfl) (by kernel_rfl) ?_
              repeat (go_big_quiet_step (first | (go_at_call 12; with_reducible exact HA.out _)))
              refine wpQuiet_nil ?_
              rintro _ ⟨p', rfl⟩
              have HB2 := Lib.hid (bnext hbl2.out p'.h)
              generalize p'.val = w6 at HB2 ⊢
              clear k0 k1 k2 k3 HA hbl2
              go_wp2
              go_roundw
              case rel => exact ⟨j + 1, by omega, by go_num, HB2⟩
              case measure => simp [intOf]; omega
          case false =>
            clear HO
            go_wp2
            refine wp_region_later (by kernel_rfl) (by kernel_rfl) ?_
            repeat (go_big_quiet_step (fail))
            refine wpQuiet_nil ?_
            rintro _ ⟨p', rfl⟩
            have HB2 := Lib.hid (bnext hbl2.out p'.h)
            generalize p'.val = w6 at HB2 ⊢
            clear k0 k1 k2 k3 HA hbl2
            go_wp2
            go_roundw
            case rel => exact ⟨j + 1, by omega, by go_num, HB2⟩
            case measure => simp [intOf]; omega
        · have hq2 : ¬ ((j : Int) < (k : Int)) := by omega
          obtain rfl : j = k := by omega
          go_wp2
          go_roundw
          case rel => exact ⟨j + 1, by omega, by go_num, hbl2⟩
          case measure => simp [intOf]; omega
    · have hq : ¬ ((k : Int) < (ls.length : Int)) := by omega
      obtain rfl : k = ls.length := by omega
      have HQ := Lib.hid (cAwake15 ct wo)
      go_wp2_with fail
      refine HQ.out.mono ?_
      rintro e w9 ⟨rfl, hb9⟩
      have HB2 := Lib.hid (bnext hbl.out hb9)
      clear HQ hb9
      go_wp2
      go_ret
      exact ⟨rfl, bnext HB.out HB2.out⟩
end Go.Proofs.Ytnkeaphfheminaa
