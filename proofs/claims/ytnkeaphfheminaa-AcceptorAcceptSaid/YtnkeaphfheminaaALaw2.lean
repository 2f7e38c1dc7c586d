/-
  The call of the law AcceptorAll: it returns true. Conditions: what comes in reads; the contracts of package acceptor hold.
-/
import Derived.StillTailTactics
import Derived.Test.YtnkeaphfheminaaACon
namespace Go.Proofs.Ytnkeaphfheminaa
open Go.RowKit
open VM (Ent)

theorem acF_take {a : List Ent} {ls : List (List Ent)} {k : Nat} {x : List Ent} (h : ls[k]? = some x) : VM.acF a (ls.take (k + 1)) = VM.jn (VM.acF a (ls.take k)) x := by
  obtain ⟨hk, rfl⟩ := List.getElem?_eq_some_iff.1 h
  rw [List.take_succ_eq_append_getElem hk, VM.acF_snoc]
theorem acF_le {xs : List Ent} {ls : List (List Ent)} (hx : xs.length ≤ 30) (hl : ∀ x ∈ ls, x.length ≤ 30) (hn : ls.length ≤ 40) (k : Nat) : (VM.acF xs (ls.take k)).length ≤ 1230 := by
  have h := VM.acF_len (m := 30) (a := xs) (l := ls.take k) fun x hx => hl x (List.mem_of_mem_take hx)
  rw [List.length_take] at h
  omega

set_option maxRecDepth 100000 in
set_option maxHeartbeats 4000000 in
theorem lAcceptorAll (ct : AT) (a v : Value) (xs : List Ent) (ls : List (List Ent)) (w : World) (ha : VX.RdV w a xs) (hv : RdVs w v ls) :
    Calls Try.prog 4 #[acv a, v] w fun e w' => e = .returned (.bool true) ∧ Below w.heap.size w w' := by
  obtain ⟨aa, ac, rfl, _, _⟩ := ha.shape
  obtain ⟨la, lc, rfl, _, _⟩ := hv.shape
  obtain ⟨w0, hw0, hA, hb0⟩ := oneA w (.slice aa xs.length ac)
  have HF := Lib.hid (ha.below hb0)
  have HL := Lib.hid (hv.below hb0)
  have HV := Lib.hid (kValid _ _ w0 HL.out)
  have HX := Lib.hid hA
  have HB := Lib.hid hb0
  have HW := Lib.hid hw0
  clear ha hv hw0 hA hb0
  go_enter Try.func4, Try.ntmps4
  go_upto_region 1 with fail
  rw [HW.out]
  go_wp2_with fail
  refine HV.out.mono ?_
  rintro e w1 ⟨⟨R, rfl, hR⟩, hb1⟩
  replace HF := Lib.hid (HF.out.below hb1)
  replace HL := Lib.hid (HL.out.below hb1)
  replace HX := Lib.hid (HX.out.below hb1)
  replace HB := Lib.hid (bnext HB.out hb1)
  clear hb1 HV HW
  cases R
  · have HQ := Lib.hid (cAwake15 ct w1)
    clear hR
    go_wp2_with fail
    refine HQ.out.mono ?_
    rintro e w3 ⟨rfl, hb3⟩
    replace HB := Lib.hid (bnext HB.out hb3)
    clear hb3 HQ
    go_wp2
    go_ret
    exact ⟨rfl, HB.out⟩
  have HS := Lib.hid (hR rfl)
  clear hR
  have hfr := below_fresh w1 (.cells #[.slice aa xs.length ac] 23)
  have hg := heap_alloc_new w1 (.cells #[.slice aa xs.length ac] 23)
  obtain ⟨w2, hw2⟩ : ∃ w2, w1.alloc (.cells #[.slice aa xs.length ac] 23) = w2 := ⟨_, rfl⟩
  rw [hw2] at hfr hg
  have c0 := HX.out.cell
  have HW := Lib.hid hw2
  replace HF := Lib.hid (HF.out.below hfr)
  replace HL := Lib.hid (HL.out.below hfr)
  replace HX := Lib.hid (HX.out.below hfr)
  replace HB := Lib.hid (bnext HB.out hfr)
  have HV := Lib.hid (kValid _ _ w2 (rdVs_one hg HF.out))
  clear hw2 hfr hg
  go_wp2_with fail
  rw [HW.out]
  refine HV.out.mono ?_
  rintro e w3 ⟨⟨R, rfl, hR⟩, hb3⟩
  replace HF := Lib.hid (HF.out.below hb3)
  replace HL := Lib.hid (HL.out.below hb3)
  replace HX := Lib.hid (HX.out.below hb3)
  replace HB := Lib.hid (bnext HB.out hb3)
  clear hb3 HV HW c0
  cases R
  · have HQ := Lib.hid (cAwake15 ct w3)
    clear hR
    go_wp2_with fail
    refine HQ.out.mono ?_
    rintro e w4 ⟨rfl, hb4⟩
    replace HB := Lib.hid (bnext HB.out hb4)
    clear hb4 HQ
    go_wp2
    go_ret
    exact ⟨rfl, HB.out⟩
  have HSX := Lib.hid ((hR rfl).each xs (by simp))
  clear hR
  have HQ := Lib.hid (ct.all _ _ xs ls w3 HF.out HL.out HSX.out.2 (fun x hx => ⟨by have := (HS.out.each x hx).1; omega, (HS.out.each x hx).2⟩) (by have := HSX.out.1; omega) HS.out.len)
  have c0 := HX.out.cell
  go_wp2_with fail
  refine HQ.out.mono ?_
  rintro e w4 ⟨v4, l4, rfl, hr4, hl4, hb4⟩
  obtain ⟨va, vc, rfl, _, _⟩ := hr4.shape
  obtain ⟨ka, kc, rfl, _, _⟩ := hl4.shape
  clear HQ c0
  replace HF := Lib.hid (HF.out.below hb4)
  replace HL := Lib.hid (HL.out.below hb4)
  replace HX := Lib.hid (HX.out.below hb4)
  replace HB := Lib.hid (bnext HB.out hb4)
  obtain ⟨w5, hw5, hD, hb5⟩ := oneA w4 (.slice va (VM.acF xs ls).length vc)
  replace HF := Lib.hid (HF.out.below hb5)
  replace HL := Lib.hid (HL.out.below hb5)
  replace HX := Lib.hid (HX.out.below hb5)
  replace HB := Lib.hid (bnext HB.out hb5)
  have HR := Lib.hid (hr4.below hb5)
  have HK := Lib.hid (hl4.below hb5)
  have HD := Lib.hid hD
  have HW := Lib.hid hw5
  obtain ⟨g4, hg4⟩ : ∃ g, g = w4.heap.size := ⟨_, rfl⟩
  clear hb4 hr4 hl4 hw5 hD hb5
  go_upto_region 4 with fail
  rw [HW.out]
  rw [← hg4] at HD ⊢
  clear HW hg4
  have hkl := VM.acL_length ls xs
  have HK2 := Lib.hid (show RdBs w5 (.slice ka ls.length kc) (VM.acL xs ls) by have h := HK.out; rw [hkl] at h; exact h)
  rw [hkl]
  clear HK hkl
  have c0 := HX.out.cell
  have hne : ((ls.length : Int) != (ls.length : Int)) = false := by simp
  go_upto_region 7 with fail
  clear hne c0
  go_wp2
  go_loopw [7, 8] (fun z i wr => ∃ k : Nat, k ≤ ls.length ∧ i = .int .i64 k ∧ Hid (Below w5.heap.size w5 wr) ∧ Hid (VX.RdV wr z (VM.acF xs (ls.take k)))) (fun _ i _ => ls.length - (intOf i).toNat)
  case atStart => exact ⟨0, Nat.zero_le _, rfl, Below.refl _ _, HF.out⟩
  case round =>
    obtain ⟨k, hk, rfl, hbl, hz⟩ := hrel
    by_cases hlt : k < ls.length
    · have hq : (k : Int) < (ls.length : Int) := by omega
      have hk2 := List.getElem?_eq_getElem hlt
      generalize ls[k] = x at hk2
      have hbk : (VM.acL xs ls)[k]? = some (VM.le (VM.acF xs (ls.take k)) x) := by rw [VM.acL_get, hk2]; rfl
      have HN := Lib.hid (acF_take (a := xs) hk2)
      have HLE := Lib.hid (acF_le HSX.out.1 (fun x hx => (HS.out.each x hx).1) HS.out.len k)
      have HVX := Lib.hid (HS.out.each x (List.mem_of_getElem? hk2))
      have HVA := Lib.hid (VM.acF_val (l := ls.take k) HSX.out.2 fun y hy => (HS.out.each y (List.mem_of_mem_take hy)).2)
      generalize VM.acF xs (ls.take k) = A at hz hbk HN HLE HVA
      obtain ⟨za, zc, rfl, _, _⟩ := hz.out.shape
      obtain ⟨b, o, xa, xc, hi, _, d0, hrx⟩ := (HL.out.below hbl.out).at_ k x hk2
      obtain ⟨b2, o2, hi2, _, f2⟩ := (HK2.out.below hbl.out).at_ boolE k _ hbk
      have e0 := f2 0 _ rfl
      rw [Nat.add_zero] at e0
      have HA := Lib.hid (fun p : Later wr => Calls.later (VX.rLessEqual _ _ A x p.val (hz.out.below p.h) (hrx.below p.h)))
      have k0 : ∀ p : Later wr, p.val.cell? ⟨b, o, none⟩ = some (.slice xa x.length xc) := fun p => below_cell p.h d0
      have k1 : ∀ p : Later wr, p.val.cell? ⟨b2, o2, none⟩ = some (.bool (VM.le A x)) := fun p => below_cell p.h e0
      have HRX := Lib.hid hrx
      have D0 := Lib.hid d0
      generalize VM.le A x = L at HA k1
      have hnl : (L != L) = false := by simp
      clear hk2 hbk d0 e0 f2 hrx
      go_wp2
      refine wp_region_later (by kernel_rfl) (by kernel_rfl) ?_
      repeat (go_big_quiet_step (first | (go_at_call 12; with_reducible exact HA.out _)))
      refine wpQuiet_nil ?_
      rintro _ ⟨p', rfl⟩
      have HB2 := Lib.hid (bnext hbl.out p'.h)
      have d0 := below_cell p'.h D0.out
      have hz2 := hz.out.below p'.h
      have hr2 := HRX.out.below p'.h
      generalize p'.val = w6 at HB2 d0 hz2 hr2 ⊢
      have HQ := Lib.hid (VX.rJoin _ _ A x w6 hz2 hr2 HVX.out.2 (by have := HLE.out; omega) (by have := HVX.out.1; omega))
      rw [VM.rj_jn HVA.out HVX.out.2] at HQ
      clear k0 k1 HA hz2 hr2 hbl hz HRX D0
      go_wp2_with fail
      refine HQ.out.mono ?_
      rintro e w7 ⟨v7, rfl, hr7, hb7⟩
      have HR7 := Lib.hid (show VX.RdV w7 v7 (VM.acF xs (ls.take (k + 1))) by rw [HN.out]; exact hr7.rd)
      replace HB2 := Lib.hid (bnext HB2.out hb7)
      clear HQ hr7 hb7 d0
      go_wp2
      go_roundw
      case rel => exact ⟨k + 1, by omega, by go_num, HB2, HR7⟩
      case measure => simp [intOf]; omega
    · have hq : ¬ ((k : Int) < (ls.length : Int)) := by omega
      obtain rfl : k = ls.length := by omega
      rw [List.take_length] at hz
      have HQ := Lib.hid (VX.rEqual _ _ _ _ wr (HR.out.below hbl.out) hz.out)
      rw [decide_eq_true rfl] at HQ
      have d0 := (HD.out.below hbl.out).cell
      generalize VM.acF xs ls = J at HQ d0 hz
      obtain ⟨za, zc, rfl, _, _⟩ := hz.out.shape
      go_wp2_with fail
      refine HQ.out.mono ?_
      rintro e w8 ⟨rfl, hb8⟩
      have HB2 := Lib.hid (bnext hbl.out hb8)
      clear HQ hb8 hbl d0
      have HQ := Lib.hid (cAwake15 ct w8)
      go_wp2_with fail
      refine HQ.out.mono ?_
      rintro e w9 ⟨rfl, hb9⟩
      replace HB2 := Lib.hid (bnext HB2.out hb9)
      clear HQ hb9
      go_wp2
      go_ret
      exact ⟨rfl, bnext HB.out HB2.out⟩
end Go.Proofs.Ytnkeaphfheminaa
