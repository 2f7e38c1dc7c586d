/-
  The calls of laws of configurations: each returns true. Conditions: what comes in reads.
-/
import Derived.Test.YteeegpojfbgkfaaCAwake
namespace Go.Proofs.Yteeegpojfbgkfaa
open Go.RowKit
open JM (Chg)
open CM (Fp)
open VM (Ent)

set_option maxRecDepth 100000 in
set_option maxHeartbeats 4000000 in
theorem lConfigPair (v u : Value) (xs ys : List Fp) (w : World) (h : RdF w v xs) (hv : RdF w u ys) :
    Calls Try.prog 4 #[v, u] w fun e w' => e = .returned (.bool true) ∧ Below w.heap.size w w' := by
  obtain ⟨ad, cp, rfl, hcp, _⟩ := h.shape
  obtain ⟨bd, bp, rfl, hbp, _⟩ := hv.shape
  by_cases hl : 30 < xs.length
  · have hq : (30 : Int) < (xs.length : Int) := by omega
    have HB := Lib.hid (Below.refl w.heap.size w)
    clear h hv
    go_enter Try.func4, Try.ntmps4
    have hC := cAwake w
    have HC := Lib.hid hC
    clear hC
    go_wp2_with fail
    refine HC.out.mono ?_
    rintro e w1 ⟨rfl, hb⟩
    replace HB := Lib.hid (bnext HB.out hb)
    clear hb HC
    go_wp2
    go_ret
    exact ⟨rfl, HB.out⟩
  have hq : ¬ (30 : Int) < (xs.length : Int) := by omega
  by_cases hl2 : 30 < ys.length
  · have hq2 : (30 : Int) < (ys.length : Int) := by omega
    have HB := Lib.hid (Below.refl w.heap.size w)
    clear h hv
    go_enter Try.func4, Try.ntmps4
    have hC := cAwake w
    have HC := Lib.hid hC
    clear hC
    go_wp2_with fail
    refine HC.out.mono ?_
    rintro e w1 ⟨rfl, hb⟩
    replace HB := Lib.hid (bnext HB.out hb)
    clear hb HC
    go_wp2
    go_ret
    exact ⟨rfl, HB.out⟩
  have hq2 : ¬ (30 : Int) < (ys.length : Int) := by omega
  have hb0 := below_fresh w (.cells #[.slice ad xs.length cp, .slice bd ys.length bp] 23)
  have hK := kValid w.heap.size (.slice ad xs.length cp) (.slice bd ys.length bp) xs ys (w.alloc (.cells #[.slice ad xs.length cp, .slice bd ys.length bp] 23)) (by rw [World.cell?_alloc_new]; rfl) (by rw [World.cell?_alloc_new]; rfl) (h.below hb0) (hv.below hb0)
  obtain ⟨V, hV⟩ : ∃ V, V = valid2 xs ys := ⟨_, rfl⟩
  rw [← hV] at hK
  have HK := Lib.hid hK
  have HB := Lib.hid hb0
  have HX := Lib.hid (h.below hb0)
  have HY := Lib.hid (hv.below hb0)
  clear hK hb0 h hv
  cases V
  · clear hV HX HY
    go_enter Try.func4, Try.ntmps4
    go_wp2_with fail
    refine HK.out.mono ?_
    rintro e w1 ⟨rfl, hb⟩
    replace HB := Lib.hid (bnext HB.out hb)
    clear hb
    have hC := cAwake w1
    have HC := Lib.hid hC
    clear hC
    go_wp2_with fail
    refine HC.out.mono ?_
    rintro e w2 ⟨rfl, hb⟩
    replace HB := Lib.hid (bnext HB.out hb)
    clear hb HC
    go_wp2
    go_ret
    exact ⟨rfl, HB.out⟩
  · have hv1 : decide (CM.errL (0, 0) xs = 0) = true ∧ decide (CM.errL (0, 0) ys = 0) = true ∧ CM.agr ys xs = true := by
      unfold valid2 at hV
      simpa [Bool.and_eq_true] using hV.symm
    have hx : CM.Ok xs := show CM.errL (0, 0) xs = 0 from of_decide_eq_true hv1.1
    have hy : CM.Ok ys := show CM.errL (0, 0) ys = 0 from of_decide_eq_true hv1.2.1
    have hag : CM.Agr xs ys := (CM.agr_iff hv1.2.2).symm
    have hr1 := CM.vr_spec hx.all (by have := hx.nine; omega)
    have HOX := Lib.hid hx
    have HOY := Lib.hid hy
    have e1 := Lib.hid (CM.vo_vr hx)
    have e2 := Lib.hid (CM.conk_cons hag)
    have e3 := Lib.hid (CM.same_eq hag hx.srt hy.srt)
    have e4 := Lib.hid (CM.meet_eq hx hy)
    have hlx := hx.nine
    have hly := hy.nine
    clear hV hv1 hx hy hag hr1
    go_enter Try.func4, Try.ntmps4
    go_wp2_with fail
    refine HK.out.mono ?_
    rintro e w1 ⟨rfl, hb⟩
    replace HX := Lib.hid (HX.out.below hb)
    replace HY := Lib.hid (HY.out.below hb)
    replace HB := Lib.hid (bnext HB.out hb)
    clear hb
    have hC := oVector _ _ w1 HX.out HOX.out
    have HC := Lib.hid hC
    clear hC
    go_wp2_with fail
    refine HC.out.mono ?_
    rintro e w2 ⟨vV1, rfl, ho, hb⟩
    replace HX := Lib.hid (HX.out.below hb)
    replace HY := Lib.hid (HY.out.below hb)
    replace HB := Lib.hid (bnext HB.out hb)
    have V1 := Lib.hid ho
    clear hb HC ho
    have hC := rVectorOf _ _ w2 HX.out HOX.out.all (by omega)
    have HC := Lib.hid hC
    clear hC
    go_wp2_with fail
    refine HC.out.mono ?_
    rintro e w3 ⟨vV2, rfl, ho, hb⟩
    replace HX := Lib.hid (HX.out.below hb)
    replace HY := Lib.hid (HY.out.below hb)
    replace V1 := Lib.hid (V1.out.below hb)
    replace HB := Lib.hid (bnext HB.out hb)
    have V2 := Lib.hid ho
    clear hb HC ho
    have hC := VX.rEqual _ _ _ _ w3 (OwnE.rdV V1.out) (OwnE.rdV V2.out)
    rw [e1.out, decide_eq_true rfl] at hC
    have HC := Lib.hid hC
    clear hC
    go_wp2_with fail
    refine HC.out.mono ?_
    rintro e w4 ⟨rfl, hb⟩
    clear V1
    clear V2
    replace HX := Lib.hid (HX.out.below hb)
    replace HY := Lib.hid (HY.out.below hb)
    replace HB := Lib.hid (bnext HB.out hb)
    clear hb HC
    obtain ⟨R1, hR1⟩ : ∃ R, R = CM.cons xs ys := ⟨_, rfl⟩
    have HR1 := Lib.hid hR1
    clear hR1
    have hbb : ∀ b : Bool, (b == b) = true := fun b => by cases b <;> rfl
    have hC := oContains _ _ _ _ w4 HX.out HY.out HOX.out
    rw [← HR1.out] at hC
    have HC := Lib.hid hC
    clear hC
    go_wp2_with fail
    refine HC.out.mono ?_
    rintro e w5 ⟨rfl, hb⟩
    replace HX := Lib.hid (HX.out.below hb)
    replace HY := Lib.hid (HY.out.below hb)
    replace HB := Lib.hid (bnext HB.out hb)
    clear hb HC
    have hC := rContains _ _ _ _ w5 HX.out HY.out
    rw [e2.out, ← HR1.out] at hC
    have HC := Lib.hid hC
    clear hC
    go_wp2_with fail
    refine HC.out.mono ?_
    rintro e w6 ⟨rfl, hb⟩
    replace HX := Lib.hid (HX.out.below hb)
    replace HY := Lib.hid (HY.out.below hb)
    replace HB := Lib.hid (bnext HB.out hb)
    clear hb HC
    obtain ⟨R2, hR2⟩ : ∃ R, R = decide (xs = ys) := ⟨_, rfl⟩
    have HR2 := Lib.hid hR2
    clear hR2
    cases R1 <;> cases R2
    all_goals
      have hC := gEqual _ _ _ _ w6 HX.out HY.out
      rw [← HR2.out] at hC
      have HC := Lib.hid hC
      clear hC
      go_wp2_with fail
      refine HC.out.mono ?_
      rintro e w7 ⟨rfl, hb⟩
      replace HX := Lib.hid (HX.out.below hb)
      replace HY := Lib.hid (HY.out.below hb)
      replace HB := Lib.hid (bnext HB.out hb)
      clear hb HC
      have hC := rSame _ _ _ _ w7 HX.out HY.out
      rw [e3.out, ← HR2.out] at hC
      have HC := Lib.hid hC
      clear hC
      go_wp2_with fail
      refine HC.out.mono ?_
      rintro e w8 ⟨rfl, hb⟩
      replace HX := Lib.hid (HX.out.below hb)
      replace HY := Lib.hid (HY.out.below hb)
      replace HB := Lib.hid (bnext HB.out hb)
      clear hb HC
      have hC := oUnion _ _ _ _ w8 HX.out HY.out HOX.out HOY.out
      have HC := Lib.hid hC
      clear hC
      go_wp2_with fail
      refine HC.out.mono ?_
      rintro e w9 ⟨vU1, rfl, hr, hb⟩
      replace HX := Lib.hid (HX.out.below hb)
      replace HY := Lib.hid (HY.out.below hb)
      replace HB := Lib.hid (bnext HB.out hb)
      have U1 := Lib.hid hr
      clear hb HC hr
      have hC := rUnion _ _ _ _ w9 HX.out HY.out (by omega) (by omega)
      have HC := Lib.hid hC
      clear hC
      go_wp2_with fail
      refine HC.out.mono ?_
      rintro e w10 ⟨vU2, rfl, hr, hb⟩
      replace HX := Lib.hid (HX.out.below hb)
      replace HY := Lib.hid (HY.out.below hb)
      replace U1 := Lib.hid (U1.out.below hb)
      replace HB := Lib.hid (bnext HB.out hb)
      have U2 := Lib.hid hr
      clear hb HC hr
      have hC := rEqualConfig _ _ _ _ w10 U1.out U2.out
      rw [decide_eq_true rfl] at hC
      have HC := Lib.hid hC
      clear hC
      go_wp2_with fail
      refine HC.out.mono ?_
      rintro e w11 ⟨rfl, hb⟩
      clear U1
      clear U2
      replace HX := Lib.hid (HX.out.below hb)
      replace HY := Lib.hid (HY.out.below hb)
      replace HB := Lib.hid (bnext HB.out hb)
      clear hb HC
      have hC := oMeet _ _ _ _ w11 HX.out HY.out HOX.out HOY.out
      have HC := Lib.hid hC
      clear hC
      go_wp2_with fail
      refine HC.out.mono ?_
      rintro e w12 ⟨vM1, rfl, hr, hb⟩
      replace HX := Lib.hid (HX.out.below hb)
      replace HY := Lib.hid (HY.out.below hb)
      replace HB := Lib.hid (bnext HB.out hb)
      have M1 := Lib.hid hr
      clear hb HC hr
      have hC := rMeet _ _ _ _ w12 HX.out HY.out (by omega)
      have HC := Lib.hid hC
      clear hC
      go_wp2_with fail
      refine HC.out.mono ?_
      rintro e w13 ⟨vM2, rfl, hr, hb⟩
      replace HX := Lib.hid (HX.out.below hb)
      replace HY := Lib.hid (HY.out.below hb)
      replace M1 := Lib.hid (M1.out.below hb)
      replace HB := Lib.hid (bnext HB.out hb)
      have M2 := Lib.hid hr
      clear hb HC hr
      have hC := rEqualConfig _ _ _ _ w13 M1.out M2.out
      rw [e4.out, decide_eq_true rfl] at hC
      have HC := Lib.hid hC
      clear hC
      go_wp2_with fail
      refine HC.out.mono ?_
      rintro e w14 ⟨rfl, hb⟩
      clear M1
      clear M2
      replace HX := Lib.hid (HX.out.below hb)
      replace HY := Lib.hid (HY.out.below hb)
      replace HB := Lib.hid (bnext HB.out hb)
      clear hb HC
      have hC := cAwake w14
      have HC := Lib.hid hC
      clear hC
      go_wp2_with fail
      refine HC.out.mono ?_
      rintro e w15 ⟨rfl, hb⟩
      replace HX := Lib.hid (HX.out.below hb)
      replace HY := Lib.hid (HY.out.below hb)
      replace HB := Lib.hid (bnext HB.out hb)
      clear hb HC
      go_wp2
      go_ret
      exact ⟨rfl, HB.out⟩

end Go.Proofs.Yteeegpojfbgkfaa
