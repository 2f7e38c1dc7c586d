/-
  The call of the reference's Minimal. Conditions: the members read and the view is valid.
-/
import Derived.Deep.RegionLaw
import Derived.Deep.CutRange
import Derived.Test.YtbbgjckiooejhaaQRMinM
import Derived.Test.YtbbgjckiooejhaaQStep
import Derived.Test.YtbbgjckiooejhaaQLess
import Derived.Test.YtbbgjckiooejhaaQLL
namespace Go.Proofs.Ytbbgjckiooejhaa
open Go.RowKit
open QM (Mem)

set_option maxRecDepth 100000 in
set_option maxHeartbeats 4000000 in
theorem rMinimal (sv : Value) (k c f : Int) (ms : List Mem) (w : World) (hr : RdM w sv ms) (he : QM.errV k c f ms = 0) :
    Calls Try.prog 21 #[vw sv k c f] w fun e w' => ∃ v ls, e = .returned v ∧ RdLL w' v ls ∧ QM.MinL (QM.isQ k c f ms) ms ls ∧ Below w.heap.size w w' := by
  obtain ⟨her, hval⟩ := QM.errV_zero.1 he
  have hml := hval.length (Int.le_refl 0) (by decide)
  have hv := VBox.fresh w sv k c f
  have hB := below_fresh w (.cells #[sv, .int .i64 k, .int .i64 c, .int .i64 f] 26)
  have h0 := hr.below hB
  obtain ⟨ad, cp, rfl, hcp, hl⟩ := hr.shape
  have HSB := Lib.hid (fun m w hw => rSubset (.slice ad ms.length cp) k c f ms m w hw (by omega))
  have HIS := Lib.hid (fun u xs w (hw : RdM w (.slice ad ms.length cp) ms) (hu : RdI w u xs) => rIsQuorum (.slice ad ms.length cp) u k c f ms xs w hw hu he)
  obtain ⟨P, hP⟩ : ∃ P, P = 2 ^ ms.length := ⟨_, rfl⟩
  have hPl : P ≤ 4096 := by rw [hP]; exact Nat.le_trans (Nat.pow_le_pow_right (by decide) (show ms.length ≤ 12 by omega)) (by decide)
  have hP1 : 1 ≤ P := by rw [hP]; exact Nat.two_pow_pos _
  have HFIN := Lib.hid (fun ls (h : RMin k c f ms P ls) => RMin.done hval (hP ▸ h))
  have HST := Lib.hid (RMin.start her hval)
  have HPASS := Lib.hid (fun M ls (h : RMin k c f ms M ls) => h.pass)
  have HFR := Lib.hid (fun M ls (hM : M < P) (h : RMin k c f ms M ls) => h.fresh hval (hP ▸ hM))
  have HMI := Lib.hid (fun M => isMin_iff (k := k) (c := c) (f := f) hval M)
  have hw : IntKind.i64.wrap ((2 : Int) ^ ms.length) = (P : Int) := by
    rw [hP, show (2 : Int) ^ ms.length = ((2 ^ ms.length : Nat) : Int) by push_cast; rfl, ← hP]
    exact IntWalk.i64_in _ (by omega)
  have hn64 : (ms.length : Int) ≤ 12 := by omega
  clear hP
  generalize hw0 : w.alloc (.cells #[.slice ad ms.length cp, .int .i64 k, .int .i64 c, .int .i64 f] 26) = w0 at h0 hv hB
  have HW0 := Lib.hid hw0
  have H := Lib.hid h0
  have HV := Lib.hid hv
  have HB := Lib.hid hB
  obtain ⟨v0, v1, v2, v3, v4⟩ := HV.out
  clear hw0 h0 hv hB hr he her hval
  go_enter Try.func21, Try.ntmps21
  go_wp2
  rw [HW0.out]
  go_loopw [3, 4] (fun u i wr => ∃ (m : Nat) (ls : List (List Int)), 1 ≤ m ∧ m ≤ P ∧ ls.length ≤ m ∧ i = .int .i64 m ∧ Hid (OwnLL w0.heap.size wr u ls) ∧ Hid (RMin k c f ms m ls) ∧ Hid (Below w0.heap.size w0 wr)) (fun _ i _ => P - (intOf i).toNat)
  case atStart => exact ⟨1, [], Nat.le_refl _, hP1, Nat.zero_le _, rfl, OwnLL.nil _ _, HST.out, Below.refl _ _⟩
  case round =>
    obtain ⟨m, ls, hm1, hm, hll, rfl, ho, hrm, hb⟩ := hrel
    obtain ⟨z0, z1, z2, z3, z4⟩ := HV.out.below hb.out
    by_cases hlt : m < P
    · have hq : (m : Int) < (P : Int) := by omega
      have hcs := fun w hw => HSB.out m w hw
      have hpass := HPASS.out m ls hrm.out
      have hfr := HFR.out m ls hlt hrm.out
      have hmi := HMI.out m
      have hput := fun hn j => hrm.out.put hn (j := j)
      have hxl := sbs_length ms m ms.length
      have hxi := sbs_in (ms := ms) m
      generalize sbs ms m ms.length = xs at hcs hpass hfr hmi hput hxl hxi
      have hxl12 : xs.length ≤ 12 := by omega
      have HCS := Lib.hid hcs
      have HPA := Lib.hid hpass
      have HF := Lib.hid hfr
      have HM := Lib.hid hmi
      have HPU := Lib.hid hput
      have HXI := Lib.hid hxi
      clear hcs hpass hfr hmi hput hxi hxl HST HPASS HFR HMI HSB
      go_wp2_with fail
      have HRR := Lib.hid (H.out.below hb.out)
      refine (HCS.out wr HRR.out).mono ?_
      rintro e wa ⟨va, rfl, hoa, hba⟩
      obtain ⟨aa, ca, rfl, _, _⟩ := hoa.rd.shape
      have HOA := Lib.hid (hoa.mono hb.out.size)
      have HBA := Lib.hid (bnext hb.out hba)
      have HLA := Lib.hid (ho.out.below hba)
      obtain ⟨y0, y1, y2, y3, y4⟩ := HV.out.below HBA.out
      obtain ⟨q, hqe⟩ : ∃ q, q = QM.isQ k c f ms (fun x => decide (x ∈ xs)) := ⟨_, rfl⟩
      have hci := fun u w hw hu => HIS.out u xs w hw hu
      have hmi := HM.out
      rw [← hqe] at hci hmi
      have HCI := Lib.hid hci
      have HM2 := Lib.hid hmi
      have HQE := Lib.hid hqe
      clear hci hmi hqe HM hoa hba ho hb z0 z1 z2 z3 z4 HRR HCS
      have HRA := Lib.hid (H.out.below HBA.out)
      go_wp2_with fail
      refine (HCI.out _ wa HRA.out HOA.out.rd).mono ?_
      rintro e wb ⟨rfl, hbb⟩
      have HOB := Lib.hid (HOA.out.below hbb)
      have HBB := Lib.hid (bnext HBA.out hbb)
      have HLB := Lib.hid (HLA.out.below hbb)
      clear hbb HOA HBA HLA HRA y0 y1 y2 y3 y4 HCI
      cases q
      · have HN := Lib.hid (HPA.out (fun h => by have h2 := h.2.2.1; rw [← HQE.out] at h2; cases h2))
        clear HPA HM2 HQE HPU HF
        go_wp2
        go_round
        case rel => exact ⟨m + 1, ls, by omega, by omega, by omega, by go_num, HLB, HN, HBB⟩
        case measure => simp [intOf]; omega
      · have HMI := Lib.hid (HM2.out rfl)
        clear HM2 HQE
        go_wp2
        go_loopw [6, 7] (fun u i wr => ∃ (j : Nat) (b : Bool), j ≤ xs.length ∧ i = .int .i64 j ∧ u = .bool b ∧ Hid (b = true ↔ ∀ j', j' < j → QM.isQ k c f ms (fun x => decide (x ∈ xs.take j' ++ xs.drop (j' + 1))) = false) ∧ Hid (Below wb.heap.size wb wr)) (fun _ i _ => xs.length - (intOf i).toNat)
        case atStart => exact ⟨0, true, Nat.zero_le _, rfl, rfl, ⟨fun _ j' h => absurd h (Nat.not_lt_zero j'), fun _ => rfl⟩, Below.refl _ _⟩
        case round =>
          obtain ⟨j, b, hj, rfl, rfl, hbt, hbr⟩ := hrel
          have HBR := Lib.hid (HBB.out.trans (hbr.out.mono HBB.out.size))
          by_cases hlt2 : j < xs.length
          · have hq2 : (j : Int) < (xs.length : Int) := by omega
            cases b
            · have HN := Lib.hid (show false = true ↔ ∀ j', j' < j + 1 → QM.isQ k c f ms (fun x => decide (x ∈ xs.take j' ++ xs.drop (j' + 1))) = false from
                ⟨(fun h => by cases h), fun h => hbt.out.2 fun j' hj' => h j' (by omega)⟩)
              clear hbt
              go_wp2
              go_quiet (fail)
              go_wp2
              go_round
              case rel => exact ⟨j + 1, false, by omega, by go_num, rfl, HN, hbr.out.trans (below_drewN _ _ _)⟩
              case measure => simp [intOf]; omega
            · obtain ⟨q2, hqe2⟩ : ∃ q2, q2 = QM.isQ k c f ms (fun x => decide (x ∈ xs.take j ++ xs.drop (j + 1))) := ⟨_, rfl⟩
              have hci := fun u w hw hu => HIS.out u (xs.take j ++ xs.drop (j + 1)) w hw hu
              rw [← hqe2] at hci
              have hwo := fun w h => rWithout (.slice aa xs.length ca) xs j w h hlt2 (by omega)
              have HN := Lib.hid (show (!q2) = true ↔ ∀ j', j' < j + 1 → QM.isQ k c f ms (fun x => decide (x ∈ xs.take j' ++ xs.drop (j' + 1))) = false by
                constructor
                · intro h j' hj'
                  by_cases e : j' = j
                  · rw [e, ← hqe2]; simpa using h
                  · exact hbt.out.1 rfl j' (by omega)
                · intro h
                  rw [hqe2, h j (by omega)]; rfl)
              have HCI := Lib.hid hci
              have HWO := Lib.hid hwo
              clear hbt hqe2 hci hwo
              generalize xs.take j ++ xs.drop (j + 1) = zs at HCI HWO
              have HRW := Lib.hid (show RdM wr.drew (.slice ad ms.length cp) ms from H.out.below HBR.out.drew)
              have HVW := Lib.hid (show VBox wr.drew w.heap.size (.slice ad ms.length cp) k c f from HV.out.below HBR.out.drew)
              have HXW := Lib.hid (show RdI wr.drew (.slice aa xs.length ca) xs from HOB.out.rd.below hbr.out.drew)
              obtain ⟨z0, z1, z2, z3, z4⟩ := HVW.out
              have tok : True := trivial
              go_wp2
              go_region_law (first
                | (go_simp; go_at_call 42; have _t := tok; clear _t tok; refine (HWO.out wr.drew HXW.out).mono ?_; rintro e w3 ⟨v3, rfl, ho3, hb3⟩; obtain ⟨a3, c3, rfl, _, _⟩ := ho3.rd.shape; obtain ⟨n0, n1, n2, n3, n4⟩ := HVW.out.below hb3)
                | (go_simp; go_at_call 19; refine (HCI.out _ w3 (HRW.out.below hb3) ho3.rd).mono ?_; rintro e w4 ⟨rfl, hb4⟩))
              all_goals
                go_wp2
                go_round
                case rel => exact ⟨j + 1, !q2, by omega, by go_num, rfl, HN, bnext (bnext hbr.out.drew hb3) hb4⟩
                case measure => simp [intOf]; omega
          · have hq2 : ¬ (j : Int) < (xs.length : Int) := by omega
            obtain rfl : j = xs.length := by omega
            have HLR := Lib.hid (HLB.out.below hbr.out)
            have HXR := Lib.hid (HOB.out.below hbr.out)
            cases b
            · have HN := Lib.hid (HPA.out (fun h => by
                have h2 := hbt.out.2 (HMI.out.1 h)
                cases h2))
              clear HPA HMI HPU HF hbt
              go_wp2
              go_round
              case rel => exact ⟨m + 1, ls, by omega, by omega, by omega, by go_num, HLR, HN, HBR⟩
              case measure => simp [intOf]; omega
            · have HPU2 := Lib.hid (HPU.out (HMI.out.2 (hbt.out.1 rfl)))
              have HPW := Lib.hid hrm.out.1
              clear HPA HMI HPU hbt hrm HLB HOB hbr
              obtain ⟨au, cu, rfl, hcu, hlu⟩ := HLR.out.rd.shape
              obtain ⟨wo, rfl⟩ : ∃ wo, wo = wr := ⟨wr, rfl⟩
              go_wp2
              go_loopw [8] (fun i wr => ∃ j : Nat, j ≤ ls.length ∧ i = .int .i64 j ∧ Hid (∀ x ∈ ls.drop j, QM.lex xs x = true) ∧ Hid (Below wo.heap.size wo wr)) (fun i _ => (intOf i).toNat)
              case atStart => exact ⟨ls.length, Nat.le_refl _, rfl, (fun x hx => by simp at hx), Below.refl _ _⟩
              case round =>
                obtain ⟨j, hj, rfl, hdr, hbx⟩ := hrel
                obtain ⟨b, hbe⟩ : ∃ b, b = (decide (0 < j) && QM.lex xs (ls.getD (j - 1) [])) := ⟨_, rfl⟩
                have HBE := Lib.hid hbe
                clear hbe
                go_upto_region 14 with fail
                go_cut [55] from 45 to 54 (fun p55 wy => p55 = .bool b ∧ Hid (Below wo.heap.size wo wy))
                case first =>
                  by_cases hj0 : 0 < j
                  · have hq3 : (0 : Int) < (j : Int) := by omega
                    have hlt3 : j - 1 < ls.length := by omega
                    have hsub : IntKind.i64.wrap ((j : Int) - 1) = ((j - 1 : Nat) : Int) := by
                      rw [show (j : Int) - 1 = ((j - 1 : Nat) : Int) by omega]
                      exact IntWalk.i64_in _ (by omega)
                    obtain ⟨b0, o0, u0, hi0, hb0, c0, hr0⟩ := (HLR.out.rd.below hbx.out).at_ (j - 1) ls[j - 1] (List.getElem?_eq_getElem hlt3)
                    have HE := Lib.hid (show b = QM.lex xs ls[j - 1] by
                      rw [HBE.out, decide_eq_true hj0]
                      simp [List.getD, hlt3])
                    have HLE := Lib.hid (rLess (.slice aa xs.length ca) u0 xs ls[j - 1] wr (HXR.out.rd.below hbx.out) hr0)
                    rw [← HE.out] at HLE
                    clear HE HBE hr0
                    generalize j - 1 = j1 at hsub hi0
                    go_wp2_with fail
                    refine HLE.out.mono ?_
                    rintro e wl ⟨rfl, hbl⟩
                    go_wp2
                    go_meet
                    exact ⟨rfl, bnext hbx.out hbl⟩
                  · have hq3 : ¬ (0 : Int) < (j : Int) := by omega
                    have HE := Lib.hid (show b = false by rw [HBE.out, decide_eq_false hj0]; rfl)
                    clear HBE
                    go_wp2
                    go_meet
                    exact ⟨by rw [HE.out], hbx.out⟩
                case rest =>
                  obtain ⟨rfl, hby⟩ := hcut
                  clear hbx
                  cases b
                  · have hz : j = 0 ∨ ∃ x, ls[j - 1]? = some x ∧ QM.lex xs x = false := by
                      by_cases hj0 : j = 0
                      · exact .inl hj0
                      · have hlt3 : j - 1 < ls.length := by omega
                        refine .inr ⟨ls[j - 1], List.getElem?_eq_getElem hlt3, ?_⟩
                        have h := HBE.out
                        rw [decide_eq_true (show 0 < j by omega)] at h
                        simpa [List.getD, hlt3] using h.symm
                    have HN := Lib.hid (HPU2.out j (ahead_less HPW.out HF.out hj hz) hdr.out)
                    have HBW := Lib.hid (bnext HBR.out hby.out)
                    have HXC := Lib.hid (HXR.out.below hby.out)
                    obtain ⟨ps, hps, hin, hmap⟩ := HLR.out.below hby.out
                    have hpl : ps.length = ls.length := by rw [← hmap, List.length_map]
                    obtain ⟨v1, hv1, hr1⟩ := hps.rd.cutL pairE j (by omega)
                    have hcf := hps.rd.cutF pairE j (by omega)
                    obtain ⟨hv2, hr2⟩ := hcf
                    have hfE := below_fresh wc (.cells #[] 33)
                    have HE := Lib.hid (show OwnG encP 33 1 wc.heap.size (wc.alloc (.cells #[] 33)) (.slice (some ⟨wc.heap.size, 0, none⟩) 0 0) [] from ownG_fresh hlP 33 wc [] (by decide))
                    have HR1 := Lib.hid (hr1.below hfE)
                    have HR2 := Lib.hid hr2
                    have HFE := Lib.hid hfE
                    have HSE := Lib.hid hfE.size
                    have HIN := Lib.hid hin
                    have HMAP := Lib.hid hmap
                    have hd1 : (ps.drop j).length ≤ 1073741824 := by rw [List.length_drop]; omega
                    have hd2 : (ps.take j).length ≤ 1073741824 := by rw [List.length_take]; omega
                    clear hps hin hmap hr1 hr2 hfE hz HPU2 HPW HF hdr HBE
                    go_wp2_with (at_builtin; first
                      | (refine wp_appGS pairE rfl _ _ rfl rfl HE.out rfl HR1.out (by simp) hd1 HSE.out ?_; intro v9 w9 ho9 hb9 _; have hb9' : Below wc.heap.size wc w9 := HFE.out.trans hb9; have HR9 := Lib.hid ho9.rd; have hfQ := below_fresh w9 (.cells #[.slice aa xs.length ca] 33); have HRQ := Lib.hid ((HR2.out.below hb9').below hfQ); have HU := Lib.hid (show RdG encP 1 (w9.alloc (.cells #[.slice aa xs.length ca] 33)) (.slice (some ⟨w9.heap.size, 0, none⟩) 1 1) [((aa, xs.length, ca), xs)] from (ownG_fresh hlP 33 w9 [((aa, xs.length, ca), xs)] (by unfold maxLen; simp)).rd); have HBQ := Lib.hid (bnext hb9' hfQ); have HR9Q := Lib.hid (HR9.out.below hfQ); clear hfQ hb9 hb9' ho9)
                      | (refine wp_appFull pairE rfl _ _ rfl rfl HRQ.out rfl HU.out (by simp) hd2 (by simp) ?_; intro vF wF hoF hbF; have hr9F := HR9Q.out.below hbF; have hsF := hbF.size; have hlF : (ps.take j ++ [((aa, xs.length, ca), xs)]).length ≤ 1073741824 := (by rw [List.length_append, List.length_take]; simp; omega))
                      | (refine wp_appGS pairE rfl _ _ rfl rfl hoF rfl hr9F hlF (by simpa using hd1) hsF ?_; intro vZ wZ hoZ hbZ _))
                    have HBZ := Lib.hid (bnext HBQ.out (hbF.trans hbZ))
                    have HOZ := Lib.hid (show OwnLL w0.heap.size wZ vZ (ls.take j ++ [xs] ++ ls.drop j) from by
                      refine ⟨_, hoZ.mono (Nat.le_trans HBW.out.size HBQ.out.size), fun p hp => ?_, ?_⟩
                      · simp only [List.nil_append, List.mem_append, List.mem_singleton] at hp
                        rcases hp with (hp | hp) | hp
                        · exact (HIN.out p (List.mem_of_mem_take hp)).below HBZ.out
                        · subst hp; exact HXC.out.below HBZ.out
                        · exact (HIN.out p (List.mem_of_mem_drop hp)).below HBZ.out
                      · simp only [List.nil_append, List.map_append, List.map_take, List.map_drop, HMAP.out, List.map_cons, List.map_nil])
                    have HBT := Lib.hid (bnext HBW.out HBZ.out)
                    have hln : (ls.take j ++ [xs] ++ ls.drop j).length = ls.length + 1 := by
                      rw [List.length_append, List.length_append, List.length_take, List.length_drop]; simp; omega
                    clear hbF hbZ hoF hoZ hr9F hsF hlF HIN HMAP HR9 HRQ HU HBQ HR9Q HBZ
                    generalize ls.take j ++ [xs] ++ ls.drop j = ls2 at HN HOZ hln
                    go_wp2
                    go_round
                    case rel => exact ⟨m + 1, ls2, by omega, by omega, by omega, by go_num, HOZ, HN, HBT⟩
                    case measure => simp [intOf]; omega
                  · have hb2 := HBE.out.symm
                    rw [Bool.and_eq_true, decide_eq_true_iff] at hb2
                    obtain ⟨hj0, hl2⟩ := hb2
                    have hlt3 : j - 1 < ls.length := by omega
                    have hsub : IntKind.i64.wrap ((j : Int) - 1) = ((j - 1 : Nat) : Int) := by
                      rw [show (j : Int) - 1 = ((j - 1 : Nat) : Int) by omega]
                      exact IntWalk.i64_in _ (by omega)
                    have HN := Lib.hid (show ∀ x ∈ ls.drop (j - 1), QM.lex xs x = true from fun x hx => by
                      rw [drop_get hlt3, show j - 1 + 1 = j by omega] at hx
                      rcases List.mem_cons.1 hx with rfl | hx
                      · simpa [List.getD, hlt3] using hl2
                      · exact hdr.out x hx)
                    clear HBE hl2 hdr
                    go_wp2
                    go_round
                    case rel => exact ⟨j - 1, by omega, rfl, HN, hby⟩
                    case measure => simp [intOf]; omega
    · have hq : ¬ (m : Int) < (P : Int) := by omega
      obtain rfl : m = P := by omega
      have HF := Lib.hid (HFIN.out ls hrm.out)
      have HO := Lib.hid ho.out.rd
      go_wp2
      go_ret
      exact ⟨_, rfl, ls, HO.out, HF.out, bnext HB.out hb.out⟩

end Go.Proofs.Ytbbgjckiooejhaa
