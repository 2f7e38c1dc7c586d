/-
  The calls of laws of configurations: each returns true. Conditions: what comes in reads.
-/
import Derived.Test.YteeegpojfbgkfaaCAwake
namespace Go.Proofs.Yteeegpojfbgkfaa
open Go.RowKit
open JM (Chg)
open CM (Fp)
open VM (Ent)

set_option maxRecDepth 100000 in
set_option maxHeartbeats 4000000 in
theorem lConfigValidate (v : Value) (fs : List Fp) (w : World) (h : RdF w v fs) :
    Calls Try.prog 3 #[v] w fun e w' => e = .returned (.bool true) ∧ Below w.heap.size w w' := by
  obtain ⟨ad, cp, rfl, hcp, _⟩ := h.shape
  by_cases hl : 60 < fs.length
  · have hq : (60 : Int) < (fs.length : Int) := by omega
    have HB := Lib.hid (Below.refl w.heap.size w)
    clear h
    go_enter Try.func3, Try.ntmps3
    have hC := cAwake w
    have HC := Lib.hid hC
    clear hC
    go_wp2_with fail
    refine HC.out.mono ?_
    rintro e w1 ⟨rfl, hb⟩
    replace HB := Lib.hid (bnext HB.out hb)
    clear hb HC
    go_wp2
    go_ret
    exact ⟨rfl, HB.out⟩
  · have hq : ¬ (60 : Int) < (fs.length : Int) := by omega
    have HF := Lib.hid h
    have H1 := Lib.hid (fun w' (hh : RdF w' (.slice ad fs.length cp) fs) => gValidate _ fs w' hh)
    have H2 := Lib.hid (fun w' (hh : RdF w' (.slice ad fs.length cp) fs) => rValidateC _ fs w' hh)
    generalize CM.errL (0, 0) fs = E at H1 H2
    have he : (E == E) = true := beq_t rfl
    clear h
    have HB := Lib.hid (Below.refl w.heap.size w)
    go_enter Try.func3, Try.ntmps3
    have hC := H1.out w HF.out
    have HC := Lib.hid hC
    clear hC
    go_wp2_with fail
    refine HC.out.mono ?_
    rintro e w1 ⟨rfl, hb⟩
    replace HF := Lib.hid (HF.out.below hb)
    replace HB := Lib.hid (bnext HB.out hb)
    clear hb HC
    have hC := H2.out w1 HF.out
    have HC := Lib.hid hC
    clear hC
    go_wp2_with fail
    refine HC.out.mono ?_
    rintro e w2 ⟨rfl, hb⟩
    replace HF := Lib.hid (HF.out.below hb)
    replace HB := Lib.hid (bnext HB.out hb)
    clear hb HC
    have hC := cAwake w2
    have HC := Lib.hid hC
    clear hC
    go_wp2_with fail
    refine HC.out.mono ?_
    rintro e w3 ⟨rfl, hb⟩
    replace HF := Lib.hid (HF.out.below hb)
    replace HB := Lib.hid (bnext HB.out hb)
    clear hb HC
    go_wp2
    go_ret
    exact ⟨rfl, HB.out⟩

set_option maxRecDepth 100000 in
set_option maxHeartbeats 4000000 in
theorem lConfigDecode (v : Value) (xs : List Int) (w : World) (h : Rd w v xs) :
    Calls Try.prog 11 #[v] w fun e w' => e = .returned (.bool true) ∧ Below w.heap.size w w' := by
  obtain ⟨ad, cp, rfl, hcp⟩ := h.shape
  by_cases hl : 400 < xs.length
  · have hq : (400 : Int) < (xs.length : Int) := by omega
    have HB := Lib.hid (Below.refl w.heap.size w)
    clear h
    go_enter Try.func11, Try.ntmps11
    have hC := cAwake w
    have HC := Lib.hid hC
    clear hC
    go_wp2_with fail
    refine HC.out.mono ?_
    rintro e w1 ⟨rfl, hb⟩
    replace HB := Lib.hid (bnext HB.out hb)
    clear hb HC
    go_wp2
    go_ret
    exact ⟨rfl, HB.out⟩
  · have hq : ¬ (400 : Int) < (xs.length : Int) := by omega
    have HF := Lib.hid h
    have H1 := Lib.hid (fun w' (hh : Rd w' (.slice ad xs.length cp) xs) => gDecodeC _ xs w' hh)
    have H2 := Lib.hid (fun w' (hh : Rd w' (.slice ad xs.length cp) xs) => rDecodeC _ xs w' hh)
    generalize CM.decL xs = R at H1 H2
    obtain ⟨er, u, fs⟩ := R
    have he : (er == er) = true := beq_t rfl
    have hu : ((u : Int) == (u : Int)) = true := beq_t rfl
    clear h
    have HB := Lib.hid (Below.refl w.heap.size w)
    go_enter Try.func11, Try.ntmps11
    have hC := H1.out w HF.out
    have HC := Lib.hid hC
    clear hC
    go_wp2_with fail
    refine HC.out.mono ?_
    rintro e w1 ⟨vR1, rfl, hr, hb⟩
    replace HF := Lib.hid (HF.out.below hb)
    replace HB := Lib.hid (bnext HB.out hb)
    have R1 := Lib.hid hr
    clear hb HC hr
    have hC := H2.out w1 HF.out
    have HC := Lib.hid hC
    clear hC
    go_wp2_with fail
    refine HC.out.mono ?_
    rintro e w2 ⟨vR2, rfl, hr, hb⟩
    replace HF := Lib.hid (HF.out.below hb)
    replace R1 := Lib.hid (R1.out.below hb)
    replace HB := Lib.hid (bnext HB.out hb)
    have R2 := Lib.hid hr
    clear hb HC hr
    have hC := rEqualConfig _ _ _ _ w2 R1.out R2.out
    rw [decide_eq_true rfl] at hC
    have HC := Lib.hid hC
    clear hC
    go_wp2_with fail
    refine HC.out.mono ?_
    rintro e w3 ⟨rfl, hb⟩
    replace HF := Lib.hid (HF.out.below hb)
    replace R1 := Lib.hid (R1.out.below hb)
    replace R2 := Lib.hid (R2.out.below hb)
    replace HB := Lib.hid (bnext HB.out hb)
    clear hb HC
    have hC := cAwake w3
    have HC := Lib.hid hC
    clear hC
    go_wp2_with fail
    refine HC.out.mono ?_
    rintro e w4 ⟨rfl, hb⟩
    replace HF := Lib.hid (HF.out.below hb)
    replace R1 := Lib.hid (R1.out.below hb)
    replace R2 := Lib.hid (R2.out.below hb)
    replace HB := Lib.hid (bnext HB.out hb)
    clear hb HC
    go_wp2
    go_ret
    exact ⟨rfl, HB.out⟩

set_option maxRecDepth 100000 in
set_option maxHeartbeats 4000000 in
theorem lConfigRestrict (v u : Value) (fs : List Fp) (vs : List Ent) (w : World) (h : RdF w v fs) (hv : VX.RdV w u vs) :
    Calls Try.prog 9 #[v, u] w fun e w' => e = .returned (.bool true) ∧ Below w.heap.size w w' := by
  obtain ⟨ad, cp, rfl, hcp, _⟩ := h.shape
  obtain ⟨bd, bp, rfl, hbp, _⟩ := hv.shape
  by_cases hl : 30 < fs.length
  · have hq : (30 : Int) < (fs.length : Int) := by omega
    have HB := Lib.hid (Below.refl w.heap.size w)
    clear h hv
    go_enter Try.func9, Try.ntmps9
    have hC := cAwake w
    have HC := Lib.hid hC
    clear hC
    go_wp2_with fail
    refine HC.out.mono ?_
    rintro e w1 ⟨rfl, hb⟩
    replace HB := Lib.hid (bnext HB.out hb)
    clear hb HC
    go_wp2
    go_ret
    exact ⟨rfl, HB.out⟩
  have hq : ¬ (30 : Int) < (fs.length : Int) := by omega
  by_cases hl2 : 30 < vs.length
  · have hq2 : (30 : Int) < (vs.length : Int) := by omega
    have HB := Lib.hid (Below.refl w.heap.size w)
    clear h hv
    go_enter Try.func9, Try.ntmps9
    have hC := cAwake w
    have HC := Lib.hid hC
    clear hC
    go_wp2_with fail
    refine HC.out.mono ?_
    rintro e w1 ⟨rfl, hb⟩
    replace HB := Lib.hid (bnext HB.out hb)
    clear hb HC
    go_wp2
    go_ret
    exact ⟨rfl, HB.out⟩
  have hq2 : ¬ (30 : Int) < (vs.length : Int) := by omega
  have HF := Lib.hid h
  have HV := Lib.hid hv
  have H1 := Lib.hid (fun w' (hh : RdF w' (.slice ad fs.length cp) fs) => rValidateC _ fs w' hh)
  have H2 := Lib.hid (fun w' (hh : VX.RdV w' (.slice bd vs.length bp) vs) => VX.rValidate _ vs w' hh)
  obtain ⟨E1, hE1⟩ : ∃ E, E = CM.errL (0, 0) fs := ⟨_, rfl⟩
  obtain ⟨E2, hE2⟩ : ∃ E, E = VM.err 0 vs := ⟨_, rfl⟩
  rw [← hE1] at H1
  rw [← hE2] at H2
  by_cases h1 : E1 = 0
  · by_cases h2 : E2 = 0
    · subst h1 h2
      have hok : CM.Ok fs := hE1.symm
      have hval : VM.Val 0 vs := (VM.err_val (Int.le_refl _)).1 hE2.symm
      have hrs := Lib.hid (hok.rs (VM.cnt vs))
      have hcn := Lib.hid (show CM.cons fs (CM.rs fs (VM.cnt vs)) = true from CM.cons_iff.2 (fun f hf => (CM.rs_mem.1 hf).1))
      have HOK := Lib.hid hok
      have HVAL := Lib.hid hval
      clear h hv hE1 hE2 hok hval
      have HB := Lib.hid (Below.refl w.heap.size w)
      go_enter Try.func9, Try.ntmps9
      have hC := H1.out w HF.out
      have HC := Lib.hid hC
      clear hC
      go_wp2_with fail
      refine HC.out.mono ?_
      rintro e w1 ⟨rfl, hb⟩
      replace HF := Lib.hid (HF.out.below hb)
      replace HV := Lib.hid (HV.out.below hb)
      replace HB := Lib.hid (bnext HB.out hb)
      clear hb HC
      have hC := H2.out w1 HV.out
      have HC := Lib.hid hC
      clear hC
      go_wp2_with fail
      refine HC.out.mono ?_
      rintro e w2 ⟨rfl, hb⟩
      replace HF := Lib.hid (HF.out.below hb)
      replace HV := Lib.hid (HV.out.below hb)
      replace HB := Lib.hid (bnext HB.out hb)
      clear hb HC
      have hC := gRestrict _ _ fs vs w2 HF.out HV.out HVAL.out (by omega) (by omega) (all_len HOK.out.all)
      have HC := Lib.hid hC
      clear hC
      go_wp2_with fail
      refine HC.out.mono ?_
      rintro e w3 ⟨vR1, rfl, hr, hb⟩
      replace HF := Lib.hid (HF.out.below hb)
      replace HV := Lib.hid (HV.out.below hb)
      replace HB := Lib.hid (bnext HB.out hb)
      have R1 := Lib.hid hr
      clear hb HC hr
      have hC := rRestrict _ _ fs vs w3 HF.out HV.out (by omega)
      have HC := Lib.hid hC
      clear hC
      go_wp2_with fail
      refine HC.out.mono ?_
      rintro e w4 ⟨vR2, rfl, hr, hb⟩
      replace HF := Lib.hid (HF.out.below hb)
      replace HV := Lib.hid (HV.out.below hb)
      replace R1 := Lib.hid (R1.out.below hb)
      replace HB := Lib.hid (bnext HB.out hb)
      have R2 := Lib.hid hr
      clear hb HC hr
      have hC := rEqualConfig _ _ _ _ w4 R1.out R2.out
      rw [decide_eq_true rfl] at hC
      have HC := Lib.hid hC
      clear hC
      go_wp2_with fail
      refine HC.out.mono ?_
      rintro e w5 ⟨rfl, hb⟩
      clear R2
      replace HF := Lib.hid (HF.out.below hb)
      replace HV := Lib.hid (HV.out.below hb)
      replace R1 := Lib.hid (R1.out.below hb)
      replace HB := Lib.hid (bnext HB.out hb)
      clear hb HC
      have hC := gValidate _ _ w5 R1.out
      rw [show CM.errL (0, 0) (CM.rs fs (VM.cnt vs)) = 0 from hrs.out] at hC
      have HC := Lib.hid hC
      clear hC
      go_wp2_with fail
      refine HC.out.mono ?_
      rintro e w6 ⟨rfl, hb⟩
      replace HF := Lib.hid (HF.out.below hb)
      replace HV := Lib.hid (HV.out.below hb)
      replace R1 := Lib.hid (R1.out.below hb)
      replace HB := Lib.hid (bnext HB.out hb)
      clear hb HC
      have hC := oContains _ _ _ _ w6 HF.out R1.out HOK.out
      rw [hcn.out] at hC
      have HC := Lib.hid hC
      clear hC
      go_wp2_with fail
      refine HC.out.mono ?_
      rintro e w7 ⟨rfl, hb⟩
      replace HF := Lib.hid (HF.out.below hb)
      replace HV := Lib.hid (HV.out.below hb)
      replace R1 := Lib.hid (R1.out.below hb)
      replace HB := Lib.hid (bnext HB.out hb)
      clear hb HC
      have hC := cAwake w7
      have HC := Lib.hid hC
      clear hC
      go_wp2_with fail
      refine HC.out.mono ?_
      rintro e w8 ⟨rfl, hb⟩
      replace HF := Lib.hid (HF.out.below hb)
      replace HV := Lib.hid (HV.out.below hb)
      replace R1 := Lib.hid (R1.out.below hb)
      replace HB := Lib.hid (bnext HB.out hb)
      clear hb HC
      go_wp2
      go_ret
      exact ⟨rfl, HB.out⟩
    · have hne : (E2 != 0) = true := bne_t h2
      subst h1
      clear h hv hE1 hE2 h2
      have HB := Lib.hid (Below.refl w.heap.size w)
      go_enter Try.func9, Try.ntmps9
      have hC := H1.out w HF.out
      have HC := Lib.hid hC
      clear hC
      go_wp2_with fail
      refine HC.out.mono ?_
      rintro e w1 ⟨rfl, hb⟩
      replace HF := Lib.hid (HF.out.below hb)
      replace HV := Lib.hid (HV.out.below hb)
      replace HB := Lib.hid (bnext HB.out hb)
      clear hb HC
      have hC := H2.out w1 HV.out
      have HC := Lib.hid hC
      clear hC
      go_wp2_with fail
      refine HC.out.mono ?_
      rintro e w2 ⟨rfl, hb⟩
      replace HF := Lib.hid (HF.out.below hb)
      replace HV := Lib.hid (HV.out.below hb)
      replace HB := Lib.hid (bnext HB.out hb)
      clear hb HC
      have hC := cAwake w2
      have HC := Lib.hid hC
      clear hC
      go_wp2_with fail
      refine HC.out.mono ?_
      rintro e w3 ⟨rfl, hb⟩
      replace HF := Lib.hid (HF.out.below hb)
      replace HV := Lib.hid (HV.out.below hb)
      replace HB := Lib.hid (bnext HB.out hb)
      clear hb HC
      go_wp2
      go_ret
      exact ⟨rfl, HB.out⟩
  · have hne : (E1 != 0) = true := bne_t h1
    clear h hv hE1 hE2 h1
    have HB := Lib.hid (Below.refl w.heap.size w)
    go_enter Try.func9, Try.ntmps9
    have hC := H1.out w HF.out
    have HC := Lib.hid hC
    clear hC
    go_wp2_with fail
    refine HC.out.mono ?_
    rintro e w1 ⟨rfl, hb⟩
    replace HF := Lib.hid (HF.out.below hb)
    replace HV := Lib.hid (HV.out.below hb)
    replace HB := Lib.hid (bnext HB.out hb)
    clear hb HC
    have hC := cAwake w1
    have HC := Lib.hid hC
    clear hC
    go_wp2_with fail
    refine HC.out.mono ?_
    rintro e w2 ⟨rfl, hb⟩
    replace HF := Lib.hid (HF.out.below hb)
    replace HV := Lib.hid (HV.out.below hb)
    replace HB := Lib.hid (bnext HB.out hb)
    clear hb HC
    go_wp2
    go_ret
    exact ⟨rfl, HB.out⟩

end Go.Proofs.Yteeegpojfbgkfaa
