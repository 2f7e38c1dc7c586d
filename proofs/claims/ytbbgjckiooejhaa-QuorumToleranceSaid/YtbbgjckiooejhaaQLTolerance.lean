/-
  The law QuorumTolerance of layer 4, walked: true, and memory of others as it was. No conditions.
-/
import Derived.Test.YtbbgjckiooejhaaQTol
import Derived.Test.YtbbgjckiooejhaaQViewK
namespace Go.Proofs.Ytbbgjckiooejhaa
open Go.RowKit
open QM (Mem)

theorem count_succ (m j : Nat) : ((List.range (j + 1)).countP fun i => m.testBit i) = ((List.range j).countP fun i => m.testBit i) + if m.testBit j = true then 1 else 0 := by
  rw [List.range_succ, List.countP_append]
  simp [List.countP_cons]

set_option maxRecDepth 100000 in
set_option maxHeartbeats 4000000 in
theorem lQuorumTolerance (n m g : Int) (w : World) :
    Calls Try.prog 9 #[.int .i64 n, .int .i64 m, .int .i64 g] w fun e w' => e = .returned (.bool true) ∧ Below w.heap.size w w' := by
  have HA := Lib.hid cAwake
  have HK := Lib.hid (kView n m)
  go_enter Try.func9, Try.ntmps9
  go_wp2_with fail
  refine (HK.out _).mono ?_
  rintro e w1 ⟨sv, k, c, f, ms, rfl, ho1, he, hml, hb1⟩
  obtain ⟨ad, cp, rfl, hcp, _⟩ := ho1.rd.shape
  have hX := VBox.fresh w1 (.slice ad ms.length cp) k c f
  have hf2 := below_fresh w1 (.cells #[.slice ad ms.length cp, .int .i64 k, .int .i64 c, .int .i64 f] 26)
  have HR2 := Lib.hid (ho1.rd.below hf2)
  have HX2 := Lib.hid hX
  have HB2 := Lib.hid (bnext hb1 hf2)
  obtain ⟨her, hval⟩ := QM.errV_zero.1 he
  have HIS := Lib.hid (fun u zs w (hw : RdM w (.slice ad ms.length cp) ms) (hu : RdI w u zs) => cIsQuorum (.slice ad ms.length cp) u k c f ms zs w hw hu he)
  have HT1 := Lib.hid (fun w (hw : RdM w (.slice ad ms.length cp) ms) => cTolerance (.slice ad ms.length cp) k c f ms w hw he)
  have HT2 := Lib.hid (fun w (hw : RdM w (.slice ad ms.length cp) ms) => rTolerance (.slice ad ms.length cp) k c f ms w hw he)
  obtain ⟨mg, hmg, hbg⟩ := mask_exists (fun i => decide (dg g 2 i = 1)) ms.length
  obtain ⟨ml, _, hbl⟩ := mask_exists (fun i => decide (¬ dg g 2 i = 1)) ms.length
  have HBG := Lib.hid hbg
  have HBL := Lib.hid hbl
  have HFIN := Lib.hid (show ∀ T, QM.Tol k c f ms T → QM.isQ k c f ms (fun x => decide (x ∈ sbs ms ml ms.length)) = false → T ≤ ((List.range ms.length).countP fun i => mg.testBit i : Nat) from fun T hT hq => by
    have hp : ∀ i, i < ms.length → (fun x => decide (x ∈ sbs ms mg ms.length)) (ms.getD i (0, 0)).1 = mg.testBit i := fun i hi => sbs_mem hval mg hi
    rw [← bc_count, ← cnt_bits (p := fun x => decide (x ∈ sbs ms mg ms.length)) hp]
    refine hT.2 _ ?_
    rw [← hq]
    refine isQ_places fun i hi => ?_
    rw [sbs_mem hval mg hi, sbs_mem hval ml hi, hbg i hi, hbl i hi]
    simp)
  clear HK ho1 hb1 hX hf2 he her hval hbg hbl
  go_wp2_with fail
  generalize w1.alloc (.cells #[.slice ad ms.length cp, .int .i64 k, .int .i64 c, .int .i64 f] 26) = w2 at HR2 HX2 HB2 ⊢
  generalize w1.heap.size = B at HX2 ⊢
  refine (HT1.out _ HR2.out).mono ?_
  rintro e w3 ⟨T, rfl, hT, hb3⟩
  have HR3 := Lib.hid (HR2.out.below hb3)
  have HX3 := Lib.hid (HX2.out.below hb3)
  have HB3 := Lib.hid (bnext HB2.out hb3)
  have HTL := Lib.hid hT
  clear HR2 HX2 HB2 hb3 HT1 hT
  obtain ⟨x0, x1, x2, x3, x4⟩ := HX3.out
  go_wp2_with fail
  refine (HT2.out _ HR3.out).mono ?_
  rintro e w4 ⟨T2, rfl, hT2, hb4⟩
  obtain rfl := HTL.out.unique hT2
  have HR4 := Lib.hid (HR3.out.below hb4)
  have HX4 := Lib.hid (HX3.out.below hb4)
  have HB4 := Lib.hid (bnext HB3.out hb4)
  have HF := Lib.hid (HFIN.out _ HTL.out)
  clear HR3 HX3 HB3 hb4 HT2 hT2 x0 x1 x2 x3 x4 HTL HFIN
  go_wp2
  go_loopw [9, 10, 11] (fun u c i wr => ∃ (j s : Nat), j ≤ ms.length ∧ s ≤ j ∧ i = .int .i64 j ∧ c = .int .i64 s ∧ Hid (OwnI w4.heap.size wr u (sbs ms ml j)) ∧ Hid (s = (List.range j).countP fun i => mg.testBit i) ∧ Hid (Below w4.heap.size w4 wr)) (fun _ _ i _ => ms.length - (intOf i).toNat)
  case atStart => exact ⟨0, 0, Nat.zero_le _, Nat.le_refl _, rfl, rfl, OwnG.nil hlI _ _ _, rfl, Below.refl _ _⟩
  case round =>
    obtain ⟨j, s, hj, hs, rfl, rfl, ho, hc, hb⟩ := hrel
    obtain ⟨x0, x1, x2, x3, x4⟩ := HX4.out.below hb.out
    by_cases hlt : j < ms.length
    · have hq : (j : Int) < (ms.length : Int) := by omega
      have hcs := count_succ mg j
      have hsu := sbs_succ ms ml j
      have hsl := sbs_length ms ml j
      rw [HBG.out j hlt, ← hc.out] at hcs
      rw [HBL.out j hlt, getD_mem hlt] at hsu
      have hd := fun w => kDigit g 2 j w (by decide) (by decide) (by omega)
      have hdl := dg_lt g j (show 0 < 2 by decide)
      obtain ⟨b1, o1, hi1, hb1, c0, c1⟩ := atM (HR4.out.below hb.out) j ms[j] (List.getElem?_eq_getElem hlt)
      generalize ms[j] = en at c0 c1 hsu
      obtain ⟨x, y⟩ := en
      simp only at c0 c1 hsu
      generalize dg g 2 j = d at hcs hsu hd hdl
      have HD := Lib.hid hd
      have hsz := hb.out.size
      by_cases h1 : d = 1
      · subst h1
        have HC := Lib.hid (show s + 1 = (List.range (j + 1)).countP fun i => mg.testBit i by rw [hcs]; simp)
        have hsame : sbs ms ml j = sbs ms ml (j + 1) := by rw [hsu]; simp
        rw [hsame] at ho
        clear hcs hsu hd hc hsame
        go_wp2_with fail
        refine (HD.out _).mono ?_
        rintro e w5 ⟨rfl, rfl⟩
        go_wp2
        go_round
        case rel => exact ⟨j + 1, s + 1, by omega, by omega, by go_num, by go_num, ho, HC, hb⟩
        case measure => simp [intOf]; omega
      · have hd0 : d = 0 := by omega
        subst hd0
        have HC := Lib.hid (show s = (List.range (j + 1)).countP fun i => mg.testBit i by rw [hcs]; simp)
        have HSU := Lib.hid hsu
        clear hcs hsu hd hc
        go_wp2_with (first | (go_at_call 29; refine (HD.out _).mono ?_; rintro e w5 ⟨rfl, rfl⟩) | (at_builtin; refine wp_appG1 intE x rfl _ _ rfl rfl ho.out rfl (by omega) hsz ?_; intro v1 w6 ho1 hb6 _ _))
        have HO := Lib.hid (show OwnI w4.heap.size w6 v1 (sbs ms ml (j + 1)) by rw [HSU.out]; exact ho1)
        have HB6 := Lib.hid (hb.out.trans hb6)
        clear ho1 hb6 ho hb HSU
        go_wp2
        go_round
        case rel => exact ⟨j + 1, s, by omega, by omega, by go_num, rfl, HO, HC, HB6⟩
        case measure => simp [intOf]; omega
    · have hq : ¬ (j : Int) < (ms.length : Int) := by omega
      obtain rfl : j = ms.length := by omega
      have hrq := HR4.out.below hb.out
      have hio := ho.out.rd
      have hcall := fun u w hw hu => HIS.out u (sbs ms ml ms.length) w hw hu
      have hfin := HF.out
      rw [← hc.out] at hfin
      have HBW := Lib.hid (bnext HB4.out hb.out)
      have HRQ := Lib.hid hrq
      have HIO := Lib.hid hio
      clear hrq hio hc ho hb
      by_cases hmt : T - 1 < (s : Int)
      · clear hfin hcall
        go_wp2_with fail
        refine (HA.out _).mono ?_
        rintro e w5 ⟨rfl, hb5⟩
        have HB5 := Lib.hid (bnext HBW.out hb5)
        clear hb5
        go_wp2
        go_ret
        exact ⟨rfl, HB5.out⟩
      · have hqt : QM.isQ k c f ms (fun x => decide (x ∈ sbs ms ml ms.length)) = true := by
          cases hqq : QM.isQ k c f ms (fun x => decide (x ∈ sbs ms ml ms.length)) with
          | true => rfl
          | false => have := hfin hqq; omega
        rw [hqt] at hcall
        have HCALL := Lib.hid hcall
        clear hfin hcall hqt
        go_wp2_with fail
        refine (HCALL.out _ _ HRQ.out HIO.out).mono ?_
        rintro e w5 ⟨rfl, hb5⟩
        have HB5 := Lib.hid (bnext HBW.out hb5)
        clear hb5
        go_wp2_with fail
        refine (HA.out _).mono ?_
        rintro e w6 ⟨rfl, hb6⟩
        have HB6 := Lib.hid (bnext HB5.out hb6)
        clear hb6
        go_wp2
        go_ret
        exact ⟨rfl, HB6.out⟩

end Go.Proofs.Ytbbgjckiooejhaa
