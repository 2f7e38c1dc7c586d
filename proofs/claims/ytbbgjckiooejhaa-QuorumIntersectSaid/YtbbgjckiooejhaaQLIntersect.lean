/-
  The law QuorumIntersect of layer 4, walked: true, and memory of others as it was. No conditions.
-/
import Derived.Test.YtbbgjckiooejhaaQAwake
import Derived.Test.YtbbgjckiooejhaaQViewK
namespace Go.Proofs.Ytbbgjckiooejhaa
open Go.RowKit
open QM (Mem)

theorem cnt_take {p : Int → Bool} {ms : List Mem} {j : Nat} {m : Mem} (h : ms[j]? = some m) : QM.cnt p (ms.take (j + 1)) = QM.cnt p (ms.take j) + if p m.1 = true then 1 else 0 := by
  have hj := (List.getElem?_eq_some_iff.1 h).1
  have hm := (List.getElem?_eq_some_iff.1 h).2
  rw [List.take_succ_eq_append_getElem hj, hm]
  unfold QM.cnt
  rw [List.countP_append]
  simp [List.countP_cons]

set_option maxRecDepth 100000 in
set_option maxHeartbeats 4000000 in
theorem lQuorumIntersect (n m a b : Int) (w : World) :
    Calls Try.prog 7 #[.int .i64 n, .int .i64 m, .int .i64 a, .int .i64 b] w fun e w' => e = .returned (.bool true) ∧ Below w.heap.size w w' := by
  have HA := Lib.hid cAwake
  have HK := Lib.hid (kView n m)
  have HC1 := Lib.hid (kChosen a)
  have HC2 := Lib.hid (kChosen b)
  generalize chs a 8 = xs at HC1
  generalize chs b 8 = ys at HC2
  go_enter Try.func7, Try.ntmps7
  go_wp2_with fail
  refine (HK.out _).mono ?_
  rintro e w1 ⟨sv, k, c, f, ms, rfl, ho1, he, hml, hb1⟩
  obtain ⟨ad, cp, rfl, hcp, _⟩ := ho1.rd.shape
  have hX := VBox.fresh w1 (.slice ad ms.length cp) k c f
  have hf2 := below_fresh w1 (.cells #[.slice ad ms.length cp, .int .i64 k, .int .i64 c, .int .i64 f] 26)
  have HR2 := Lib.hid (ho1.rd.below hf2)
  have HX2 := Lib.hid hX
  have HB2 := Lib.hid (bnext hb1 hf2)
  obtain ⟨her, hval⟩ := QM.errV_zero.1 he
  have HER := Lib.hid her
  have HL := Lib.hid hval
  have HE := Lib.hid he
  have HIS := Lib.hid (fun u zs w (hw : RdM w (.slice ad ms.length cp) ms) (hu : RdI w u zs) => cIsQuorum (.slice ad ms.length cp) u k c f ms zs w hw hu he)
  have HOV := Lib.hid (fun w (hw : RdM w (.slice ad ms.length cp) ms) => cOverlap (.slice ad ms.length cp) k c f ms w hw he)
  have HFA := Lib.hid (fun w => cFaulty k c f w)
  clear HK ho1 hb1 hX hf2 he her hval
  go_wp2_with fail
  generalize w1.alloc (.cells #[.slice ad ms.length cp, .int .i64 k, .int .i64 c, .int .i64 f] 26) = w2 at HR2 HX2 HB2 ⊢
  generalize w1.heap.size = B at HX2 ⊢
  refine (HC1.out _).mono ?_
  rintro e w3 ⟨v3, rfl, ho3, hb3⟩
  obtain ⟨a3, c3, rfl, hc3, _⟩ := ho3.rd.shape
  have HR3 := Lib.hid (HR2.out.below hb3)
  have HX3 := Lib.hid (HX2.out.below hb3)
  have HB3 := Lib.hid (bnext HB2.out hb3)
  have HI3 := Lib.hid ho3.rd
  clear HR2 HX2 HB2 ho3 hb3 HC1
  go_wp2_with fail
  refine (HC2.out _).mono ?_
  rintro e w4 ⟨v4, rfl, ho4, hb4⟩
  obtain ⟨a4, c4, rfl, hc4, _⟩ := ho4.rd.shape
  have HR4 := Lib.hid (HR3.out.below hb4)
  have HX4 := Lib.hid (HX3.out.below hb4)
  have HB4 := Lib.hid (bnext HB3.out hb4)
  have HI4 := Lib.hid (HI3.out.below hb4)
  have HJ4 := Lib.hid ho4.rd
  clear HR3 HX3 HB3 HI3 ho4 hb4 HC2
  obtain ⟨q1, hq1⟩ : ∃ q, q = QM.isQ k c f ms (fun x => decide (x ∈ xs)) := ⟨_, rfl⟩
  obtain ⟨q2, hq2⟩ : ∃ q, q = QM.isQ k c f ms (fun x => decide (x ∈ ys)) := ⟨_, rfl⟩
  have HS1 := Lib.hid (fun w (hw : RdM w (.slice ad ms.length cp) ms) (hu : RdI w (.slice a3 xs.length c3) xs) => HIS.out _ xs w hw hu)
  have HS2 := Lib.hid (fun w (hw : RdM w (.slice ad ms.length cp) ms) (hu : RdI w (.slice a4 ys.length c4) ys) => HIS.out _ ys w hw hu)
  rw [← hq1] at HS1
  rw [← hq2] at HS2
  have HQ1 := Lib.hid hq1
  have HQ2 := Lib.hid hq2
  clear hq1 hq2 HIS
  obtain ⟨x0, x1, x2, x3, x4⟩ := HX4.out
  cases q1
  · clear HQ1 HQ2 HS2 HER HL HE HOV HFA
    go_wp2_with fail
    refine (HS1.out _ HR4.out HI4.out).mono ?_
    rintro e w5 ⟨rfl, hb5⟩
    have HB5 := Lib.hid (bnext HB4.out hb5)
    clear hb5 HR4 HX4 HB4 HI4 HJ4 x0 x1 x2 x3 x4
    go_wp2_with fail
    refine (HA.out _).mono ?_
    rintro e w6 ⟨rfl, hb6⟩
    have HB6 := Lib.hid (bnext HB5.out hb6)
    clear hb6 HB5
    go_wp2
    go_ret
    exact ⟨rfl, HB6.out⟩
  · cases q2
    · clear HQ1 HQ2 HER HL HE HOV HFA
      go_wp2_with fail
      refine (HS1.out _ HR4.out HI4.out).mono ?_
      rintro e w5 ⟨rfl, hb5⟩
      have HB5 := Lib.hid (bnext HB4.out hb5)
      have HR5 := Lib.hid (HR4.out.below hb5)
      have HX5 := Lib.hid (HX4.out.below hb5)
      have HJ5 := Lib.hid (HJ4.out.below hb5)
      clear hb5 HR4 HX4 HB4 HI4 HJ4 x0 x1 x2 x3 x4
      obtain ⟨x0, x1, x2, x3, x4⟩ := HX5.out
      go_wp2_with fail
      refine (HS2.out _ HR5.out HJ5.out).mono ?_
      rintro e w6 ⟨rfl, hb6⟩
      have HB6 := Lib.hid (bnext HB5.out hb6)
      clear hb6 HR5 HX5 HB5 HJ5 x0 x1 x2 x3 x4
      go_wp2_with fail
      refine (HA.out _).mono ?_
      rintro e w7 ⟨rfl, hb7⟩
      have HB7 := Lib.hid (bnext HB6.out hb7)
      clear hb7 HB6
      go_wp2
      go_ret
      exact ⟨rfl, HB7.out⟩
    · have HM := Lib.hid (QM.meet HER.out HL.out HQ1.out.symm HQ2.out.symm)
      have HLB := Lib.hid (fun ls (hl : QM.MinL (QM.isQ k c f ms) ms ls) o (h : QM.Least ls o) => h.bound HL.out hl HQ1.out.symm HQ2.out.symm)
      obtain ⟨p, hp⟩ : ∃ p : Int → Bool, p = fun x => decide (x ∈ xs) && decide (x ∈ ys) := ⟨_, rfl⟩
      have HP := Lib.hid (show ∀ x, p x = (decide (x ∈ xs) && decide (x ∈ ys)) from fun x => by rw [hp])
      rw [← hp] at HM HLB
      clear hp HQ1 HQ2 HER HE
      go_wp2_with fail
      refine (HS1.out _ HR4.out HI4.out).mono ?_
      rintro e w5 ⟨rfl, hb5⟩
      have HB5 := Lib.hid (bnext HB4.out hb5)
      have HR5 := Lib.hid (HR4.out.below hb5)
      have HX5 := Lib.hid (HX4.out.below hb5)
      have HI5 := Lib.hid (HI4.out.below hb5)
      have HJ5 := Lib.hid (HJ4.out.below hb5)
      clear hb5 HR4 HX4 HB4 HI4 HJ4 x0 x1 x2 x3 x4
      obtain ⟨x0, x1, x2, x3, x4⟩ := HX5.out
      go_wp2_with fail
      refine (HS2.out _ HR5.out HJ5.out).mono ?_
      rintro e w6 ⟨rfl, hb6⟩
      have HB6 := Lib.hid (bnext HB5.out hb6)
      have HR6 := Lib.hid (HR5.out.below hb6)
      have HX6 := Lib.hid (HX5.out.below hb6)
      have HI6 := Lib.hid (HI5.out.below hb6)
      have HJ6 := Lib.hid (HJ5.out.below hb6)
      clear hb6 HR5 HX5 HB5 HI5 HJ5 x0 x1 x2 x3 x4 HS1 HS2
      obtain ⟨x0, x1, x2, x3, x4⟩ := HX6.out
      go_wp2
      go_loop [12, 13] (fun u i => ∃ (j o : Nat), j ≤ ms.length ∧ o ≤ j ∧ i = .int .i64 j ∧ u = .int .i64 o ∧ Hid (o = QM.cnt p (ms.take j))) (fun _ i => ms.length - (intOf i).toNat)
      case atStart => exact ⟨0, 0, Nat.zero_le _, Nat.le_refl _, rfl, rfl, (by show 0 = QM.cnt p (ms.take 0); simp [QM.cnt])⟩
      case round =>
        obtain ⟨j, o, hj, ho, rfl, rfl, hcn⟩ := hrel
        by_cases hlt : j < ms.length
        · obtain ⟨b1, o1, hi1, hb1, c0, c1⟩ := atM HR6.out j ms[j] (List.getElem?_eq_getElem hlt)
          have hq : (j : Int) < (ms.length : Int) := by omega
          have hct := Lib.hid (cnt_take (p := p) (List.getElem?_eq_getElem hlt))
          generalize ms[j] = en at c0 c1 hct
          obtain ⟨z, wz⟩ := en
          simp only at c0 c1
          have hin1 := fun w (hw : RdI w (.slice a3 xs.length c3) xs) => rIn _ xs z w hw
          have hin2 := fun w (hw : RdI w (.slice a4 ys.length c4) ys) => rIn _ ys z w hw
          have hpz := HP.out z
          by_cases m1 : z ∈ xs
          · rw [decide_eq_true m1] at hin1 hpz
            by_cases m2 : z ∈ ys
            · rw [decide_eq_true m2] at hin2 hpz
              have e2 := Lib.hid (show o + 1 = QM.cnt p (ms.take (j + 1)) by rw [hct.out, ← hcn.out]; simp [hpz])
              have H1 := Lib.hid hin1
              have H2 := Lib.hid hin2
              clear hin1 hin2 hpz m1 m2 hcn hct
              go_wp2_with fail
              refine (H1.out _ HI6.out).mono ?_
              rintro e w7 ⟨rfl, rfl⟩
              go_wp2_with fail
              refine (H2.out _ HJ6.out).mono ?_
              rintro e w7 ⟨rfl, rfl⟩
              go_wp2
              go_round
              case rel => exact ⟨j + 1, o + 1, by omega, by omega, by go_num, by go_num, e2⟩
              case measure => simp [intOf]; omega
            · rw [decide_eq_false m2] at hin2 hpz
              have e2 := Lib.hid (show o = QM.cnt p (ms.take (j + 1)) by rw [hct.out, ← hcn.out]; simp [hpz])
              have H1 := Lib.hid hin1
              have H2 := Lib.hid hin2
              clear hin1 hin2 hpz m1 m2 hcn hct
              go_wp2_with fail
              refine (H1.out _ HI6.out).mono ?_
              rintro e w7 ⟨rfl, rfl⟩
              go_wp2_with fail
              refine (H2.out _ HJ6.out).mono ?_
              rintro e w7 ⟨rfl, rfl⟩
              go_wp2
              go_round
              case rel => exact ⟨j + 1, o, by omega, by omega, by go_num, rfl, e2⟩
              case measure => simp [intOf]; omega
          · rw [decide_eq_false m1] at hin1 hpz
            have e2 := Lib.hid (show o = QM.cnt p (ms.take (j + 1)) by rw [hct.out, ← hcn.out]; simp [hpz])
            have H1 := Lib.hid hin1
            clear hin1 hin2 hpz m1 hcn hct
            go_wp2_with fail
            refine (H1.out _ HI6.out).mono ?_
            rintro e w7 ⟨rfl, rfl⟩
            go_wp2
            go_round
            case rel => exact ⟨j + 1, o, by omega, by omega, by go_num, rfl, e2⟩
            case measure => simp [intOf]; omega
        · have hq : ¬ (j : Int) < (ms.length : Int) := by omega
          have hce : o = QM.cnt p ms := by have := hcn.out; rwa [List.take_of_length_le (by omega)] at this
          have hfo : f < (o : Int) := by rw [hce]; exact HM.out
          have HOO := Lib.hid (show ∀ ls (hl : QM.MinL (QM.isQ k c f ms) ms ls) ov (h : QM.Least ls ov), ov ≤ (o : Int) from fun ls hl ov h => by rw [hce]; exact HLB.out ls hl ov h)
          clear hcn hce HM HLB HI6 HJ6
          go_wp2_with fail
          refine (HFA.out _).mono ?_
          rintro e w7 ⟨rfl, hb7⟩
          have HB7 := Lib.hid (bnext HB6.out hb7)
          have HR7 := Lib.hid (HR6.out.below hb7)
          have HX7 := Lib.hid (HX6.out.below hb7)
          clear hb7 HR6 HX6 HB6 x0 x1 x2 x3 x4
          obtain ⟨x0, x1, x2, x3, x4⟩ := HX7.out
          go_wp2_with fail
          refine (HOV.out _ HR7.out).mono ?_
          rintro e w8 ⟨ov, ls, rfl, hls, hle, hb8⟩
          have hov := HOO.out ls hls ov hle
          have HB8 := Lib.hid (bnext HB7.out hb8)
          clear hb8 HR7 HX7 HB7 x0 x1 x2 x3 x4 hls hle HOO
          go_wp2_with fail
          refine (HA.out _).mono ?_
          rintro e w9 ⟨rfl, hb9⟩
          have HB9 := Lib.hid (bnext HB8.out hb9)
          clear hb9 HB8
          go_wp2
          go_ret
          exact ⟨rfl, HB9.out⟩

end Go.Proofs.Ytbbgjckiooejhaa
