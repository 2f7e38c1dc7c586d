/-
  The calls of package cert's Append and Decode; package cert's contracts as the structure that the laws ask for. Conditions: what comes in reads; what is encoded is valid.
-/
import Derived.Test.YtfdgoehfkfdgaaaHProg
import Derived.Test.YtfdgoehfkfdgaaaHLaw1
import Derived.Test.YtfdgoehfkfdgaaaHLaw2
import Derived.Test.YtfdgoehfkfdgaaaHLaw3
import Derived.Test.YtfdgoehfkfdgaaaHLaw4
namespace Go.Proofs.Ytfdgoehfkfdgaaa
open Go.RowKit
open JM (Chg)
open CM (Fp)
open WM (Bytes)

set_option maxRecDepth 100000 in
set_option maxHeartbeats 4000000 in
theorem pAppend (v : Value) (bs : List Int) (a b : Value) (f t : List Fp) (w : World) (h : Rd w v bs) (hfa : RdF w a f) (htb : RdF w b t) (hf : CM.Ok f) (ht : CM.Ok t) (hlen : bs.length ≤ 1000) :
    Calls Try.prog 28 #[v, cev a b] w fun e w' => ∃ v', e = .returned v' ∧ Rd w' v' (bs ++ CM.encC2 f t) ∧ Below w.heap.size w w' := by
  have hle := encL_le hf
  obtain ⟨va, vc, rfl, hvc⟩ := h.shape
  obtain ⟨aa, ac, rfl, hac, _⟩ := hfa.shape
  obtain ⟨ba, bc, rfl, hbc, _⟩ := htb.shape
  have hb0 := below_fresh w (.cells #[.slice aa f.length ac, .slice ba t.length bc] 25)
  have hX := XB.fresh w (.slice aa f.length ac) (.slice ba t.length bc)
  obtain ⟨w0, hw0⟩ : ∃ w0, w.alloc (.cells #[.slice aa f.length ac, .slice ba t.length bc] 25) = w0 := ⟨_, rfl⟩
  rw [hw0] at hb0 hX
  have H1 := Lib.hid (fun w' (h' : Below w0.heap.size w0 w') => gAppendC _ bs _ f w' ((h.below hb0).below h') ((hfa.below hb0).below h') hf (by omega))
  have H2 := Lib.hid (fun v' w' (h' : Below w0.heap.size w0 w') (hr : Rd w' v' (bs ++ CM.encL f)) => gAppendC v' (bs ++ CM.encL f) _ t w' hr ((htb.below hb0).below h') ht (by rw [List.length_append]; omega))
  have HE := Lib.hid (show (bs ++ CM.encL f) ++ CM.encL t = bs ++ CM.encC2 f t by unfold CM.encC2; rw [List.append_assoc])
  have HB0 := Lib.hid hb0
  have HW := Lib.hid hw0
  obtain ⟨x0, x1, _⟩ := hX.cells
  clear h hfa htb hf ht hlen hle hb0 hw0 hX
  go_enter Try.func28, Try.ntmps28
  go_wp2
  rw [HW.out]
  refine wp_region_held_drew (S := fun w' => Below w0.heap.size w0 w') (by kernel_rfl) ((Below.refl _ _).drew) (fun ha => ?_)
  replace ha : Below w0.heap.size w0 w0.drew := (Below.refl _ _).drew
  generalize w0.drew = wa at ha ⊢
  refine takeH (i := 0) (v := ?_) rfl (by kernel_rfl) (by kernel_rfl) (by kernel_rfl) (fun _ _ _ h => h) (Or.inl ⟨by rfl, ?_⟩) (by assumption) ?_
  rotate_left
  · (intro w hSw; (try dsimp only at hSw); go_simp; first | done | with_reducible rfl)
  (try simp only [Act.put, List.setIfInBounds_toArray, List.set_cons_zero, List.set_cons_succ])
  refine takeH (i := 1) (v := ?_) rfl (by kernel_rfl) (by kernel_rfl) (by kernel_rfl) (fun _ _ _ h => h) (Or.inl ⟨by rfl, ?_⟩) (by assumption) ?_
  rotate_left
  · (intro w hSw; (try dsimp only at hSw); go_simp; first | done | with_reducible rfl)
  (try simp only [Act.put, List.setIfInBounds_toArray, List.set_cons_zero, List.set_cons_succ])
  refine takeH (i := 4) (v := ?_) rfl (by kernel_rfl) (by kernel_rfl) (by kernel_rfl) (fun _ _ _ h => h) (Or.inl ⟨by rfl, ?_⟩) (by assumption) ?_
  rotate_left
  · (intro w hSw; (try dsimp only at hSw); go_simp; first | done | with_reducible rfl)
  (try simp only [Act.put, List.setIfInBounds_toArray, List.set_cons_zero, List.set_cons_succ])
  refine takeH (i := 2) (v := ?_) rfl (by kernel_rfl) (by kernel_rfl) (by kernel_rfl) (fun _ _ _ h => h) (Or.inl ⟨by rfl, ?_⟩) (by assumption) ?_
  rotate_left
  · (intro w hSw; (try dsimp only at hSw); have hcx := below_cell hSw x0; go_simp; first | done | with_reducible rfl)
  (try simp only [Act.put, List.setIfInBounds_toArray, List.set_cons_zero, List.set_cons_succ])
  refine takeH (i := 5) (v := ?_) rfl (by kernel_rfl) (by kernel_rfl) (by kernel_rfl) (fun _ _ _ h => h) (Or.inl ⟨by rfl, ?_⟩) (by assumption) ?_
  rotate_left
  · (intro w hSw; (try dsimp only at hSw); have hcx := below_cell hSw x1; go_simp; first | done | with_reducible rfl)
  (try simp only [Act.put, List.setIfInBounds_toArray, List.set_cons_zero, List.set_cons_succ])
  refine wpAnyH_ready (rs := [3]) (by kernel_rfl) (by simp) ?_
  refine stepH rfl (fun K hK => ?_) AllReadyH.nil
  go_simp
  refine (H1.out wa ha).mono ?_
  rintro e wb ⟨vb, rfl, hrb, hq⟩
  replace hrb := hrb.rd
  obtain ⟨ab, lb, cb, rfl⟩ : ∃ a l c, vb = .slice a l c := by (obtain ⟨a, c, h, _⟩ := hrb.shape; exact ⟨_, _, _, h⟩)
  have hb := bnext ha hq
  go_wp2_with fail
  refine hK.out _ _ (hb) (fun _ => ?_)
  clear hK K
  (try simp only [Act.put, List.setIfInBounds_toArray, List.set_cons_zero, List.set_cons_succ])
  refine wpAnyH_ready (rs := [6]) (by kernel_rfl) (by simp) ?_
  refine stepH rfl (fun K hK => ?_) AllReadyH.nil
  go_simp
  refine (H2.out _ wb hb hrb).mono ?_
  rintro e wc ⟨vcc, rfl, hrc, hq⟩
  replace hrc := hrc.rd
  have hc := bnext hb hq
  go_wp2_with fail
  refine hK.out _ _ (hc) (fun _ => ?_)
  clear hK K
  (try simp only [Act.put, List.setIfInBounds_toArray, List.set_cons_zero, List.set_cons_succ])
  refine takeH (i := 7) (v := ?_) rfl (by kernel_rfl) (by kernel_rfl) (by kernel_rfl) (fun _ _ _ h => h) (Or.inl ⟨by rfl, ?_⟩) (by assumption) ?_
  rotate_left
  · (intro w hSw; (try dsimp only at hSw); go_simp; first | done | with_reducible rfl)
  (try simp only [Act.put, List.setIfInBounds_toArray, List.set_cons_zero, List.set_cons_succ])
  refine wpAnyH_done (by kernel_rfl) ?_ _
  have HC := Lib.hid (bnext HB0.out hc)
  have HR := Lib.hid hrc
  clear hrb hrc ha hb hc H1 H2 HW x0 x1 HB0
  go_wp2
  go_ret
  exact ⟨_, rfl, by rw [← HE.out]; exact HR.out, HC.out⟩

set_option maxRecDepth 100000 in
set_option maxHeartbeats 4000000 in
theorem pDecode (v : Value) (xs : List Int) (w : World) (h : Rd w v xs) :
    Calls Try.prog 26 #[v] w fun e w' => ∃ a b, e = .returned (.tuple #[cev a b, .int .i64 ((CM.decC xs).2.1 : Int), .int .i64 (CM.decC xs).1]) ∧ RdF w' a (CM.decC xs).2.2.1 ∧ RdF w' b (CM.decC xs).2.2.2 ∧ Below w.heap.size w w' := by
  have hby := h.bytes
  have hxl := rd_len64 h
  obtain ⟨R, hR⟩ : ∃ R, R = CM.decC xs := ⟨_, rfl⟩
  rw [← hR]
  unfold CM.decC at hR
  have hu1 := CM.decL_used hby
  have hb0 := below_fresh w (.cells #[.slice none 0 0, .slice none 0 0] 25)
  have hP0 := XB.fresh w (.slice none 0 0) (.slice none 0 0)
  obtain ⟨w0, hw0⟩ : ∃ w0, w.alloc (.cells #[.slice none 0 0, .slice none 0 0] 25) = w0 := ⟨_, rfl⟩
  rw [hw0] at hb0 hP0
  have h1 := gDecodeC v xs w0 (h.below hb0)
  generalize CM.decL xs = D at hR h1 hu1
  obtain ⟨e1, u1, f⟩ := D
  dsimp only at hR h1 hu1
  have hu2 := CM.decL_used (xs := xs.drop u1) (fun c hc => hby c (List.mem_of_mem_drop hc))
  rw [List.length_drop] at hu2
  have H2 := Lib.hid (fun v' w' (hr : Rd w' v' (xs.drop u1)) => gDecodeC v' (xs.drop u1) w' hr)
  generalize CM.decL (xs.drop u1) = D at hR H2 hu2
  obtain ⟨e2, u2, t⟩ := D
  dsimp only at hR H2 hu2
  have H1 := Lib.hid h1
  have HV := Lib.hid h
  have HR := Lib.hid hR
  have HB0 := Lib.hid hb0
  have HP0 := Lib.hid hP0
  have HW := Lib.hid hw0
  have HU := Lib.hid (And.intro hu1 (And.intro hu2 hxl))
  obtain ⟨av, cv', rfl, _⟩ := h.shape
  clear h hby hxl hR hb0 hP0 hw0 h1 hu1 hu2
  go_enter Try.func26, Try.ntmps26
  go_wp2_with fail
  rw [HW.out]
  refine H1.out.mono ?_
  rintro e w1 ⟨v1, rfl, hr1, hb1⟩
  have HP1 := Lib.hid (HP0.out.below hb1)
  have HB1 := Lib.hid (bnext HB0.out hb1)
  have HF1 := Lib.hid hr1
  have HV1 := Lib.hid (HV.out.below HB1.out)
  obtain ⟨fa, fc, rfl, _, _⟩ := hr1.shape
  clear hr1 hb1 H1 HP0 HB0 HW HV
  by_cases h1 : e1 = 0
  case neg =>
    have HFIN := Lib.hid (show R = (e1, 0, [], []) by rw [HR.out, if_pos h1])
    have hne : (e1 != 0) = true := bne_t h1
    obtain ⟨o0, o1, g0, g1⟩ := HP1.out.cells
    clear h1 HR H2
    go_wp2
    refine certRet3 rfl rfl rfl rfl (HP1.out.put (.slice none 0 0) (.slice none 0 0)) rfl ⟨.slice none 0 0, .slice none 0 0, ?_, ?_, ?_, ?_⟩
    · rw [HFIN.out]; rfl
    · rw [HFIN.out]; exact RdF.nil _
    · rw [HFIN.out]; exact RdF.nil _
    · exact seen HB1.out (Nat.le_refl _) (only2 _ _)
  subst h1
  have hu1 := HU.out.1
  obtain ⟨v2, hcut, hrd⟩ := HV1.out.cutL u1 hu1
  have HC2 := Lib.hid (H2.out v2 w1 hrd)
  clear hu1 hrd H2
  go_wp2_with fail
  refine HC2.out.mono ?_
  rintro e w2 ⟨v3, rfl, hr2, hb2⟩
  have HP2 := Lib.hid (HP1.out.below hb2)
  have HB2 := Lib.hid (bnext HB1.out hb2)
  have HF2 := Lib.hid (HF1.out.below hb2)
  have HT2 := Lib.hid hr2
  obtain ⟨ta, tc, rfl, _, _⟩ := hr2.shape
  clear hr2 hb2 HC2 HP1 HB1 HF1 HV1 hcut
  have hb4 := below_fresh w2 (.cells #[.slice fa f.length fc, .slice ta t.length tc] 25)
  have hX4 := XB.fresh w2 (.slice fa f.length fc) (.slice ta t.length tc)
  obtain ⟨w4, hw4⟩ : ∃ w4, w2.alloc (.cells #[.slice fa f.length fc, .slice ta t.length tc] 25) = w4 := ⟨_, rfl⟩
  rw [hw4] at hX4 hb4
  have HX4 := Lib.hid hX4
  have HP4 := Lib.hid (HP2.out.below hb4)
  have HB4 := Lib.hid (bnext HB2.out hb4)
  have HF4 := Lib.hid (HF2.out.below hb4)
  have HT4 := Lib.hid (HT2.out.below hb4)
  have HW4 := Lib.hid hw4
  have hv := pValidate _ _ f t w4 HF4.out HT4.out
  clear hX4 hb4 HP2 HB2 HF2 HT2 hw4
  generalize CM.errC f t = E at hv HR
  have HVC := Lib.hid hv
  obtain ⟨EE, hEE⟩ : ∃ e, e = orL [e2, E] := ⟨_, rfl⟩
  have HOR := Lib.hid hEE.symm
  have hRF : Hid ((EE = 0 → R = (0, u1 + u2, f, t)) ∧ (¬ EE = 0 → R = (EE, 0, [], []))) := Lib.hid (by
    rw [hEE, HR.out]
    unfold orL orL orL
    by_cases h1 : e2 = 0
    · by_cases h2 : E = 0
      · simp [h1, h2]
      · simp [h1, h2]
    · simp [h1])
  clear hv hEE HR
  go_upto_region 6 with fail
  rw [HW4.out]
  obtain ⟨y0, y1, _, _⟩ := HX4.out.cells
  clear HW4
  go_wp2_with fail
  refine HVC.out.mono ?_
  rintro e w5 ⟨rfl, hb5⟩
  have hrd5 := rd2e w5 e2 E
  have hb6 := below_fresh w5 (.cells #[.int .i64 e2, .int .i64 E] 27)
  obtain ⟨w6, hw6⟩ : ∃ w6, w5.alloc (.cells #[.int .i64 e2, .int .i64 E] 27) = w6 := ⟨_, rfl⟩
  rw [hw6] at hrd5 hb6
  have HX5 := Lib.hid ((HX4.out.below hb5).below hb6)
  have HP5 := Lib.hid ((HP4.out.below hb5).below hb6)
  have HB5 := Lib.hid (bnext (bnext HB4.out hb5) hb6)
  have HF5 := Lib.hid ((HF4.out.below hb5).below hb6)
  have HT5 := Lib.hid ((HT4.out.below hb5).below hb6)
  have HC6 := Lib.hid (cOrE _ _ w6 hrd5)
  have HW6 := Lib.hid hw6
  clear hb5 hb6 hrd5 hw6 HX4 HP4 HB4 HF4 HT4 HVC y0 y1
  go_wp2_with fail
  rw [HW6.out]
  refine HC6.out.mono ?_
  rintro e w7 ⟨rfl, rfl⟩
  rw [HOR.out]
  clear HC6 HW6 HOR
  obtain ⟨o0, o1, g0, g1⟩ := HP5.out.cells
  by_cases h3 : EE = 0
  case neg =>
    have HFIN := Lib.hid (hRF.out.2 h3)
    have hne : (EE != 0) = true := bne_t h3
    clear h3 hRF
    go_wp2
    refine certRet3 rfl rfl rfl rfl (HP5.out.put (.slice none 0 0) (.slice none 0 0)) rfl ⟨.slice none 0 0, .slice none 0 0, ?_, ?_, ?_, ?_⟩
    · rw [HFIN.out]; rfl
    · rw [HFIN.out]; exact RdF.nil _
    · rw [HFIN.out]; exact RdF.nil _
    · exact seen HB5.out (Nat.le_refl _) (only2 _ _)
  have HFIN := Lib.hid (hRF.out.1 h3)
  subst h3
  obtain ⟨y0, y1, _, _⟩ := HX5.out.cells
  have hsum : (u1 : Int) + (u2 : Int) ≤ 9223372036854775807 := by have := HU.out; omega
  clear hRF
  go_wp2
  refine certRet3 rfl rfl rfl rfl (HP5.out.put (.slice fa f.length fc) (.slice ta t.length tc)) rfl ⟨.slice fa f.length fc, .slice ta t.length tc, ?_, ?_, ?_, ?_⟩
  · rw [HFIN.out]; simp
  · rw [HFIN.out]; exact RdF.off HF5.out (HP5.out.slices ⟨_, _, _, rfl⟩ ⟨_, _, _, rfl⟩) (only2 _ _)
  · rw [HFIN.out]; exact RdF.off HT5.out (HP5.out.slices ⟨_, _, _, rfl⟩ ⟨_, _, _, rfl⟩) (only2 _ _)
  · exact seen HB5.out (Nat.le_refl _) (only2 _ _)

/-- The contracts of package cert. -/
theorem cCT : CT where
  validate := pValidate
  equal := pEqual
  newer := pNewer
  latest := pLatest
  start := pStart
  append := fun v bs a b f t w h ha hb he hl => pAppend v bs a b f t w h ha hb (CM.errC_ok he).1 (CM.errC_ok he).2.1 hl
  decode := pDecode
end Go.Proofs.Ytfdgoehfkfdgaaa
