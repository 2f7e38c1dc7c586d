/-
  The law QuorumMinimal of layer 4, walked: true, and memory of others as it was. Conditions: what came in reads.
-/
import Derived.Deep.RegionLaw
import Derived.Deep.CutRange
import Derived.Test.YtbbgjckiooejhaaQAwake
import Derived.Test.YtbbgjckiooejhaaQRMin
namespace Go.Proofs.Ytbbgjckiooejhaa
open Go.RowKit
open QM (Mem)

set_option maxRecDepth 100000 in
set_option maxHeartbeats 4000000 in
theorem lQuorumMinimal (sv : Value) (k c f : Int) (ms : List Mem) (w : World) (hr : RdM w sv ms) :
    Calls Try.prog 5 #[vw sv k c f] w fun e w' => e = .returned (.bool true) ∧ Below w.heap.size w w' := by
  have HA := Lib.hid cAwake
  have hv := VBox.fresh w sv k c f
  have hB := below_fresh w (.cells #[sv, .int .i64 k, .int .i64 c, .int .i64 f] 26)
  have h0 := hr.below hB
  have hsm := fun w hw => rSmall sv k c f 8 ms w hw
  have hm1 := fun (he : QM.errV k c f ms = 0) w hw => cMinimal sv k c f ms w hw he
  have hm2 := fun (he : QM.errV k c f ms = 0) w hw => rMinimal sv k c f ms w hw he
  obtain ⟨ad, cp, rfl, hcp, hl⟩ := hr.shape
  clear hr
  generalize hw0 : w.alloc (.cells #[.slice ad ms.length cp, .int .i64 k, .int .i64 c, .int .i64 f] 26) = w0 at h0 hv hB
  have HW0 := Lib.hid hw0
  have H0 := Lib.hid h0
  have HV := Lib.hid hv
  have HB := Lib.hid hB
  clear hw0 h0 hv hB
  obtain ⟨v0, v1, v2, v3, v4⟩ := HV.out
  have HM1 := Lib.hid hm1
  have HM2 := Lib.hid hm2
  clear hm1 hm2
  obtain ⟨b, hb⟩ : ∃ b, b = (decide ((ms.length : Int) ≤ 8) && decide (QM.errV k c f ms = 0)) := ⟨_, rfl⟩
  rw [← hb] at hsm
  have HS := Lib.hid hsm
  have HE := Lib.hid hb
  clear hsm hb
  go_enter Try.func5, Try.ntmps5
  go_wp2_with fail
  rw [HW0.out]
  refine (HS.out _ H0.out).mono ?_
  rintro e w1 ⟨rfl, hb1⟩
  have HB1 := Lib.hid (bnext HB.out hb1)
  have HR1 := Lib.hid (H0.out.below hb1)
  have HV1 := Lib.hid (HV.out.below hb1)
  clear hb1 HB H0 HV HW0 v0 v1 v2 v3 v4 HS
  cases b
  · clear HE HM1 HM2
    go_wp2_with fail
    refine (HA.out _).mono ?_
    rintro e w2 ⟨rfl, hb2⟩
    have HB2 := Lib.hid (bnext HB1.out hb2)
    clear hb2 HB1
    go_wp2
    go_ret
    exact ⟨rfl, HB2.out⟩
  · have he : QM.errV k c f ms = 0 := by
      have := HE.out.symm
      rw [Bool.and_eq_true, decide_eq_true_iff, decide_eq_true_iff] at this
      exact this.2
    have HC := Lib.hid (HM1.out he)
    have HD := Lib.hid (HM2.out he)
    clear he HE HM1 HM2
    have HRW := Lib.hid (show RdM w1.drew (.slice ad ms.length cp) ms from HR1.out)
    have HVW := Lib.hid (show VBox w1.drew w.heap.size (.slice ad ms.length cp) k c f from HV1.out)
    obtain ⟨z0, z1, z2, z3, z4⟩ := HVW.out
    go_upto_region 3 with fail
    go_cut [3, 4] from 11 to 14 (fun p3 p4 wx => ∃ ls : List (List Int), Hid (RdLL wx p3 ls) ∧ Hid (RdLL wx p4 ls) ∧ Hid (Below w1.heap.size w1 wx))
    case first =>
      have tok1 : True := trivial
      have tok2 : True := trivial
      go_region_law (first
        | (go_simp; go_at_call 20; have _t := tok1; clear _t tok1; refine (HC.out w1.drew HRW.out).mono ?_; rintro e wA ⟨vC, ls1, rfl, hrC, hlC, hbA⟩; obtain ⟨n0, n1, n2, n3, n4⟩ := HVW.out.below hbA; have HRA := Lib.hid (HRW.out.below hbA))
        | (go_simp; go_at_call 21; have _t := tok2; clear _t tok2; refine (HD.out w1.drew HRW.out).mono ?_; rintro e wA ⟨vR, ls2, rfl, hrR, hlR, hbA⟩; obtain ⟨n0, n1, n2, n3, n4⟩ := HVW.out.below hbA; have HRA := Lib.hid (HRW.out.below hbA))
        | (go_simp; go_at_call 20; refine (HC.out wA HRA.out).mono ?_; rintro e wB ⟨vC, ls1, rfl, hrC, hlC, hbB⟩; have hrR := hrR.below hbB)
        | (go_simp; go_at_call 21; refine (HD.out wA HRA.out).mono ?_; rintro e wB ⟨vR, ls2, rfl, hrR, hlR, hbB⟩; have hrC := hrC.below hbB))
      all_goals
        obtain rfl := hlC.unique hlR
        go_wp2
        go_meet
        exact ⟨ls1, hrC, hrR, bnext (Below.trans (b := w1.drew) (below_drewN _ w1 1) hbA) hbB⟩
    case rest =>
      obtain ⟨ls, hp3, hp4, hbx⟩ := hcut
      obtain ⟨ac, cc, rfl, hcc, hlc⟩ := hp3.out.shape
      obtain ⟨ar, cr, rfl, hcr, hlr⟩ := hp4.out.shape
      have HBC := Lib.hid (bnext HB1.out hbx.out)
      have HLEN := Lib.hid (fun l (h : l ∈ ls) => h)
      have hne : ((ls.length : Int) != (ls.length : Int)) = false := by simp
      clear HC HD HRW HVW HB1 HR1 HV1 hbx z0 z1 z2 z3 z4
      obtain ⟨wo, rfl⟩ : ∃ wo, wo = wc := ⟨wc, rfl⟩
      go_wp2
      go_loopw [5] (fun i wr => ∃ j : Nat, j ≤ ls.length ∧ i = .int .i64 j ∧ Hid (Below wo.heap.size wo wr)) (fun i _ => ls.length - (intOf i).toNat)
      case atStart => exact ⟨0, Nat.zero_le _, rfl, Below.refl _ _⟩
      case round =>
        obtain ⟨j, hj, rfl, hb⟩ := hrel
        by_cases hlt : j < ls.length
        · have hq : (j : Int) < (ls.length : Int) := by omega
          obtain ⟨l, hg⟩ : ∃ l, ls[j]? = some l := ⟨_, List.getElem?_eq_getElem hlt⟩
          obtain ⟨b1, o1, u1, hi1, hb1, c1, hr1⟩ := (hp3.out.below hb.out).at_ j l hg
          obtain ⟨b2, o2, u2, hi2, hb2, c2, hr2⟩ := (hp4.out.below hb.out).at_ j l hg
          obtain ⟨a1, k1, rfl, hk1, hl1⟩ := hr1.shape
          obtain ⟨a2, k2, rfl, hk2, hl2⟩ := hr2.shape
          have hne2 : ((l.length : Int) != (l.length : Int)) = false := by simp
          have HB := Lib.hid hb.out
          have HG := Lib.hid hg
          clear hr1 hr2 hb hg
          go_wp2
          go_quiet (fail)
          clear hi1 hb1 c1 hi2 hb2 c2 hk1 hl1 hk2 hl2
          go_wp2
          generalize hwq : World.drewN _ _ = wq
          have HBQ := Lib.hid (show Below wo.heap.size wo wq from hwq ▸ HB.out.trans (below_drewN _ _ _))
          clear hwq HB
          go_loopw [6] (fun i wr => ∃ k : Nat, k ≤ l.length ∧ i = .int .i64 k ∧ Hid (Below wo.heap.size wo wr)) (fun i _ => l.length - (intOf i).toNat)
          case atStart => exact ⟨0, Nat.zero_le _, rfl, HBQ.out⟩
          case round =>
            obtain ⟨k, hk, rfl, hb⟩ := hrel
            obtain ⟨b1, o1, u1, hi1, hb1, c1, hr1⟩ := (hp3.out.below hb.out).at_ j l HG.out
            obtain ⟨b2, o2, u2, hi2, hb2, c2, hr2⟩ := (hp4.out.below hb.out).at_ j l HG.out
            obtain ⟨a1, k1, rfl, hk1, hl1⟩ := hr1.shape
            obtain ⟨a2, k2, rfl, hk2, hl2⟩ := hr2.shape
            by_cases hlt2 : k < l.length
            · have hq2 : (k : Int) < (l.length : Int) := by omega
              obtain ⟨b3, o3, hi3, hb3, c3⟩ := atI hr1 k l[k] (List.getElem?_eq_getElem hlt2)
              obtain ⟨b4, o4, hi4, hb4, c4⟩ := atI hr2 k l[k] (List.getElem?_eq_getElem hlt2)
              have HBK := Lib.hid hb.out
              clear hr1 hr2 hb
              generalize l[k] = x at c3 c4
              have hxx : (x != x) = false := by simp
              go_wp2
              go_quiet (fail)
              go_wp2
              go_round
              case rel => exact ⟨k + 1, by omega, by go_num, HBK.out.trans (below_drewN _ _ _)⟩
              case measure => simp [intOf]; omega
            · have hq2 : ¬ (k : Int) < (l.length : Int) := by omega
              have HBK := Lib.hid hb.out
              clear hr1 hr2 hb
              go_wp2
              go_round
              case rel => exact ⟨j + 1, by omega, by go_num, HBK.out⟩
              case measure => simp [intOf]; omega
        · have hq : ¬ (j : Int) < (ls.length : Int) := by omega
          go_wp2_with fail
          refine (HA.out _).mono ?_
          rintro e w5 ⟨rfl, hb5⟩
          have HB5 := Lib.hid (bnext (bnext HBC.out hb.out) hb5)
          clear hb5
          go_wp2
          go_ret
          exact ⟨rfl, HB5.out⟩

end Go.Proofs.Ytbbgjckiooejhaa
