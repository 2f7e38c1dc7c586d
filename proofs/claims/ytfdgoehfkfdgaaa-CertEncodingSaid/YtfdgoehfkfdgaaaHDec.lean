/-
  The calls of the reference's AppendCert and DecodeCert. Conditions: what comes in reads; what is encoded is valid.
-/
import Derived.Test.YtfdgoehfkfdgaaaHRef
namespace Go.Proofs.Ytfdgoehfkfdgaaa
open Go.RowKit
open JM (Chg)
open CM (Fp)
open WM (Bytes)

theorem encL_le {fs : List Fp} (h : CM.Ok fs) : (CM.encL fs).length ≤ 10000 := by
  unfold CM.encL
  rw [List.length_append]
  have := h.nine
  have := WM.enc_len10 fs.length (by omega)
  have := CM.flat_len h.all
  omega
theorem encL_pos (fs : List Fp) : 0 < (CM.encL fs).length := by
  unfold CM.encL
  rw [List.length_append]
  have := WM.enc_pos fs.length
  omega
theorem rd_len64 {w : World} {v : Value} {xs : List Int} (h : Rd w v xs) : xs.length ≤ 9223372036854775807 := by
  obtain ⟨_, n', _, hv, h1, h2, h3, _⟩ := h
  unfold maxLen at h3
  omega

/-- A certificate that lies in a block of its own, with two numbers behind it. -/
theorem certRet3 {fn : Func} {p u q : Tmp} {R : Ending → World → Prop} {a : Act} {w : World} {g : Nat} {x y : Value} {n er : Int} (h : fn.results = #[.cell p 25, .tmp u, .tmp q]) (hp : a.tmps.getD p undef = .pointer (some ⟨g, 0, none⟩))
    (h3 : a.tmps.getD u undef = .int .i64 n) (h4 : a.tmps.getD q undef = .int .i64 er) (hg : XB w g x y) (hd : a.defers = []) (hR : R (.returned (.tuple #[cev x y, .int .i64 n, .int .i64 er])) w) : bodyPost Try.prog fn R .ret a w := by
  have := results_cell_tmp_tmp (P := Try.prog) (fn := fn) h a.tmps w g 25 _ _ _ hp hg Try.underlying25 rfl (by kernel_rfl)
  rw [h3, h4] at this
  exact bodyPost_ret this hd hR

set_option maxRecDepth 100000 in
set_option maxHeartbeats 4000000 in
theorem rAppendCert (v : Value) (bs : List Int) (a b : Value) (f t : List Fp) (w : World) (h : Rd w v bs) (ha : RdF w a f) (hb : RdF w b t) (hf : CM.Ok f) (ht : CM.Ok t) (hlen : bs.length ≤ 1000) :
    Calls Try.prog 29 #[v, cev a b] w fun e w' => ∃ v', e = .returned v' ∧ Rd w' v' (bs ++ CM.encC2 f t) ∧ Below w.heap.size w w' := by
  have hle := encL_le hf
  obtain ⟨va, vc, rfl, hvc⟩ := h.shape
  obtain ⟨aa, ac, rfl, hac, _⟩ := ha.shape
  obtain ⟨ba, bc, rfl, hbc, _⟩ := hb.shape
  have hb0 := below_fresh w (.cells #[.slice aa f.length ac, .slice ba t.length bc] 25)
  have hX := XB.fresh w (.slice aa f.length ac) (.slice ba t.length bc)
  obtain ⟨w0, hw0⟩ : ∃ w0, w.alloc (.cells #[.slice aa f.length ac, .slice ba t.length bc] 25) = w0 := ⟨_, rfl⟩
  rw [hw0] at hb0 hX
  have H1 := Lib.hid (fun w' (h' : Below w0.heap.size w0 w') => rAppendC _ bs _ f w' ((h.below hb0).below h') ((ha.below hb0).below h') hf (by omega))
  have H2 := Lib.hid (fun v' w' (h' : Below w0.heap.size w0 w') (hr : Rd w' v' (bs ++ CM.encL f)) => rAppendC v' (bs ++ CM.encL f) _ t w' hr ((hb.below hb0).below h') ht (by rw [List.length_append]; omega))
  have HE := Lib.hid (show (bs ++ CM.encL f) ++ CM.encL t = bs ++ CM.encC2 f t by unfold CM.encC2; rw [List.append_assoc])
  have HB0 := Lib.hid hb0
  have HW := Lib.hid hw0
  obtain ⟨x0, x1, _⟩ := hX.cells
  clear h ha hb hf ht hlen hle hb0 hw0 hX
  go_enter Try.func29, Try.ntmps29
  go_wp2
  rw [HW.out]
  refine wp_region_held_drew (S := fun w' => Below w0.heap.size w0 w') (by kernel_rfl) ((Below.refl _ _).drew) (fun ha => ?_)
  replace ha : Below w0.heap.size w0 w0.drew := (Below.refl _ _).drew
  generalize w0.drew = wa at ha ⊢
  refine takeH (i := 0) (v := ?_) rfl (by kernel_rfl) (by kernel_rfl) (by kernel_rfl) (fun _ _ _ h => h) (Or.inl ⟨by rfl, ?_⟩) (by assumption) ?_
  rotate_left
  · (intro w hSw; (try dsimp only at hSw); go_simp; first | done | with_reducible rfl)
  (try simp only [Act.put, List.setIfInBounds_toArray, List.set_cons_zero, List.set_cons_succ])
  refine takeH (i := 1) (v := ?_) rfl (by kernel_rfl) (by kernel_rfl) (by kernel_rfl) (fun _ _ _ h => h) (Or.inl ⟨by rfl, ?_⟩) (by assumption) ?_
  rotate_left
  · (intro w hSw; (try dsimp only at hSw); go_simp; first | done | with_reducible rfl)
  (try simp only [Act.put, List.setIfInBounds_toArray, List.set_cons_zero, List.set_cons_succ])
  refine takeH (i := 4) (v := ?_) rfl (by kernel_rfl) (by kernel_rfl) (by kernel_rfl) (fun _ _ _ h => h) (Or.inl ⟨by rfl, ?_⟩) (by assumption) ?_
  rotate_left
  · (intro w hSw; (try dsimp only at hSw); go_simp; first | done | with_reducible rfl)
  (try simp only [Act.put, List.setIfInBounds_toArray, List.set_cons_zero, List.set_cons_succ])
  refine takeH (i := 2) (v := ?_) rfl (by kernel_rfl) (by kernel_rfl) (by kernel_rfl) (fun _ _ _ h => h) (Or.inl ⟨by rfl, ?_⟩) (by assumption) ?_
  rotate_left
  · (intro w hSw; (try dsimp only at hSw); have hcx := below_cell hSw x0; go_simp; first | done | with_reducible rfl)
  (try simp only [Act.put, List.setIfInBounds_toArray, List.set_cons_zero, List.set_cons_succ])
  refine takeH (i := 5) (v := ?_) rfl (by kernel_rfl) (by kernel_rfl) (by kernel_rfl) (fun _ _ _ h => h) (Or.inl ⟨by rfl, ?_⟩) (by assumption) ?_
  rotate_left
  · (intro w hSw; (try dsimp only at hSw); have hcx := below_cell hSw x1; go_simp; first | done | with_reducible rfl)
  (try simp only [Act.put, List.setIfInBounds_toArray, List.set_cons_zero, List.set_cons_succ])
  refine wpAnyH_ready (rs := [3]) (by kernel_rfl) (by simp) ?_
  refine stepH rfl (fun K hK => ?_) AllReadyH.nil
  go_simp
  refine (H1.out wa ha).mono ?_
  rintro e wb ⟨vb, rfl, hrb, hq⟩
  obtain ⟨ab, lb, cb, rfl⟩ : ∃ a l c, vb = .slice a l c := by (obtain ⟨a, c, h, _⟩ := hrb.shape; exact ⟨_, _, _, h⟩)
  have hb := bnext ha hq
  go_wp2_with fail
  refine hK.out _ _ (hb) (fun _ => ?_)
  clear hK K
  (try simp only [Act.put, List.setIfInBounds_toArray, List.set_cons_zero, List.set_cons_succ])
  refine wpAnyH_ready (rs := [6]) (by kernel_rfl) (by simp) ?_
  refine stepH rfl (fun K hK => ?_) AllReadyH.nil
  go_simp
  refine (H2.out _ wb hb hrb).mono ?_
  rintro e wc ⟨vcc, rfl, hrc, hq⟩
  have hc := bnext hb hq
  go_wp2_with fail
  refine hK.out _ _ (hc) (fun _ => ?_)
  clear hK K
  (try simp only [Act.put, List.setIfInBounds_toArray, List.set_cons_zero, List.set_cons_succ])
  refine takeH (i := 7) (v := ?_) rfl (by kernel_rfl) (by kernel_rfl) (by kernel_rfl) (fun _ _ _ h => h) (Or.inl ⟨by rfl, ?_⟩) (by assumption) ?_
  rotate_left
  · (intro w hSw; (try dsimp only at hSw); go_simp; first | done | with_reducible rfl)
  (try simp only [Act.put, List.setIfInBounds_toArray, List.set_cons_zero, List.set_cons_succ])
  refine wpAnyH_done (by kernel_rfl) ?_ _
  have HC := Lib.hid (bnext HB0.out hc)
  have HR := Lib.hid hrc
  clear hrb hrc ha hb hc H1 H2 HW x0 x1 HB0
  go_wp2
  go_ret
  exact ⟨_, rfl, by rw [← HE.out]; exact HR.out, HC.out⟩

set_option maxRecDepth 100000 in
set_option maxHeartbeats 4000000 in
theorem rDecodeCert (v : Value) (xs : List Int) (w : World) (h : Rd w v xs) :
    Calls Try.prog 27 #[v] w fun e w' => ∃ a b, e = .returned (.tuple #[cev a b, .int .i64 ((CM.decC xs).2.1 : Int), .int .i64 (CM.decC xs).1]) ∧ RdF w' a (CM.decC xs).2.2.1 ∧ RdF w' b (CM.decC xs).2.2.2 ∧ Below w.heap.size w w' := by
  have hby := h.bytes
  have hxl := rd_len64 h
  obtain ⟨R, hR⟩ : ∃ R, R = CM.decC xs := ⟨_, rfl⟩
  rw [← hR]
  unfold CM.decC at hR
  have hu1 := CM.decL_used hby
  have hb0 := below_fresh w (.cells #[.slice none 0 0, .slice none 0 0] 25)
  have hP0 := XB.fresh w (.slice none 0 0) (.slice none 0 0)
  obtain ⟨w0, hw0⟩ : ∃ w0, w.alloc (.cells #[.slice none 0 0, .slice none 0 0] 25) = w0 := ⟨_, rfl⟩
  rw [hw0] at hb0 hP0
  have h1 := rDecodeC v xs w0 (h.below hb0)
  generalize CM.decL xs = D at hR h1 hu1
  obtain ⟨e1, u1, f⟩ := D
  dsimp only at hR h1 hu1
  have hu2 := CM.decL_used (xs := xs.drop u1) (fun c hc => hby c (List.mem_of_mem_drop hc))
  rw [List.length_drop] at hu2
  have H2 := Lib.hid (fun v' w' (hr : Rd w' v' (xs.drop u1)) => rDecodeC v' (xs.drop u1) w' hr)
  generalize CM.decL (xs.drop u1) = D at hR H2 hu2
  obtain ⟨e2, u2, t⟩ := D
  dsimp only at hR H2 hu2
  have H1 := Lib.hid h1
  have HV := Lib.hid h
  have HR := Lib.hid hR
  have HB0 := Lib.hid hb0
  have HP0 := Lib.hid hP0
  have HW := Lib.hid hw0
  have HU := Lib.hid (And.intro hu1 (And.intro hu2 hxl))
  obtain ⟨av, cv', rfl, _⟩ := h.shape
  clear h hby hxl hR hb0 hP0 hw0 h1 hu1 hu2
  go_enter Try.func27, Try.ntmps27
  go_wp2_with fail
  rw [HW.out]
  refine H1.out.mono ?_
  rintro e w1 ⟨v1, rfl, hr1, hb1⟩
  have HP1 := Lib.hid (HP0.out.below hb1)
  have HB1 := Lib.hid (bnext HB0.out hb1)
  have HF1 := Lib.hid hr1
  have HV1 := Lib.hid (HV.out.below HB1.out)
  obtain ⟨fa, fc, rfl, _, _⟩ := hr1.shape
  clear hr1 hb1 H1 HP0 HB0 HW HV
  by_cases h1 : e1 = 0
  case neg =>
    have HFIN := Lib.hid (show R = (e1, 0, [], []) by rw [HR.out, if_pos h1])
    have hne : (e1 != 0) = true := bne_t h1
    obtain ⟨o0, o1, g0, g1⟩ := HP1.out.cells
    clear h1 HR H2
    go_wp2
    refine certRet3 rfl rfl rfl rfl (HP1.out.put (.slice none 0 0) (.slice none 0 0)) rfl ⟨.slice none 0 0, .slice none 0 0, ?_, ?_, ?_, ?_⟩
    · rw [HFIN.out]; rfl
    · rw [HFIN.out]; exact RdF.nil _
    · rw [HFIN.out]; exact RdF.nil _
    · exact seen HB1.out (Nat.le_refl _) (only2 _ _)
  subst h1
  have hu1 := HU.out.1
  obtain ⟨v2, hcut, hrd⟩ := HV1.out.cutL u1 hu1
  have HC2 := Lib.hid (H2.out v2 w1 hrd)
  clear hu1 hrd H2
  go_wp2_with fail
  refine HC2.out.mono ?_
  rintro e w2 ⟨v3, rfl, hr2, hb2⟩
  have HP2 := Lib.hid (HP1.out.below hb2)
  have HB2 := Lib.hid (bnext HB1.out hb2)
  have HF2 := Lib.hid (HF1.out.below hb2)
  have HT2 := Lib.hid hr2
  obtain ⟨ta, tc, rfl, _, _⟩ := hr2.shape
  clear hr2 hb2 HC2 HP1 HB1 HF1 HV1 hcut
  by_cases h2 : e2 = 0
  case neg =>
    have HFIN := Lib.hid (show R = (e2, 0, [], []) by rw [HR.out, if_neg (by simp), if_pos h2])
    have hne : (e2 != 0) = true := bne_t h2
    obtain ⟨o0, o1, g0, g1⟩ := HP2.out.cells
    clear h2 HR
    go_wp2
    refine certRet3 rfl rfl rfl rfl (HP2.out.put (.slice none 0 0) (.slice none 0 0)) rfl ⟨.slice none 0 0, .slice none 0 0, ?_, ?_, ?_, ?_⟩
    · rw [HFIN.out]; rfl
    · rw [HFIN.out]; exact RdF.nil _
    · rw [HFIN.out]; exact RdF.nil _
    · exact seen HB2.out (Nat.le_refl _) (only2 _ _)
  subst h2
  have hb4 := below_fresh w2 (.cells #[.slice fa f.length fc, .slice ta t.length tc] 25)
  have hX4 := XB.fresh w2 (.slice fa f.length fc) (.slice ta t.length tc)
  obtain ⟨w4, hw4⟩ : ∃ w4, w2.alloc (.cells #[.slice fa f.length fc, .slice ta t.length tc] 25) = w4 := ⟨_, rfl⟩
  rw [hw4] at hX4 hb4
  have HX4 := Lib.hid hX4
  have HP4 := Lib.hid (HP2.out.below hb4)
  have HB4 := Lib.hid (bnext HB2.out hb4)
  have HF4 := Lib.hid (HF2.out.below hb4)
  have HT4 := Lib.hid (HT2.out.below hb4)
  have HW4 := Lib.hid hw4
  have hv := rValidateCert _ _ f t w4 HF4.out HT4.out
  clear hX4 hb4 HP2 HB2 HF2 HT2 hw4
  generalize CM.errC f t = E at hv HR
  have HVC := Lib.hid hv
  clear hv
  go_upto_region 8 with fail
  rw [HW4.out]
  obtain ⟨y0, y1, _, _⟩ := HX4.out.cells
  clear HW4
  go_wp2_with fail
  refine HVC.out.mono ?_
  rintro e w5 ⟨rfl, hb5⟩
  have HX5 := Lib.hid (HX4.out.below hb5)
  have HP5 := Lib.hid (HP4.out.below hb5)
  have HB5 := Lib.hid (bnext HB4.out hb5)
  have HF5 := Lib.hid (HF4.out.below hb5)
  have HT5 := Lib.hid (HT4.out.below hb5)
  clear hb5 HX4 HP4 HB4 HF4 HT4 HVC y0 y1
  obtain ⟨o0, o1, g0, g1⟩ := HP5.out.cells
  by_cases h3 : E = 0
  case neg =>
    have HFIN := Lib.hid (show R = (E, 0, [], []) by rw [HR.out, if_neg (by simp), if_neg (by simp), if_pos h3])
    have hne : (E != 0) = true := bne_t h3
    clear h3 HR
    go_wp2
    refine certRet3 rfl rfl rfl rfl (HP5.out.put (.slice none 0 0) (.slice none 0 0)) rfl ⟨.slice none 0 0, .slice none 0 0, ?_, ?_, ?_, ?_⟩
    · rw [HFIN.out]; rfl
    · rw [HFIN.out]; exact RdF.nil _
    · rw [HFIN.out]; exact RdF.nil _
    · exact seen HB5.out (Nat.le_refl _) (only2 _ _)
  subst h3
  have HFIN := Lib.hid (show R = (0, u1 + u2, f, t) by rw [HR.out, if_neg (by simp), if_neg (by simp), if_neg (by simp)])
  obtain ⟨y0, y1, _, _⟩ := HX5.out.cells
  have hsum : (u1 : Int) + (u2 : Int) ≤ 9223372036854775807 := by have := HU.out; omega
  clear HR
  go_wp2
  refine certRet3 rfl rfl rfl rfl (HP5.out.put (.slice fa f.length fc) (.slice ta t.length tc)) rfl ⟨.slice fa f.length fc, .slice ta t.length tc, ?_, ?_, ?_, ?_⟩
  · rw [HFIN.out]; simp
  · rw [HFIN.out]; exact RdF.off HF5.out (HP5.out.slices ⟨_, _, _, rfl⟩ ⟨_, _, _, rfl⟩) (only2 _ _)
  · rw [HFIN.out]; exact RdF.off HT5.out (HP5.out.slices ⟨_, _, _, rfl⟩ ⟨_, _, _, rfl⟩) (only2 _ _)
  · exact seen HB5.out (Nat.le_refl _) (only2 _ _)
end Go.Proofs.Ytfdgoehfkfdgaaa
