/-
  The calls of package cert (Validate, Equal, Newer, Latest, Start, Append, Decode), put together as the structure that the laws ask for. Conditions: what comes in reads; further ones as that structure names them.
-/
import Derived.Test.YtfdgoehfkfdgaaaHCon
import Derived.Test.YtfdgoehfkfdgaaaTB4
import Derived.Test.YtfdgoehfkfdgaaaKE
namespace Go.Proofs.Ytfdgoehfkfdgaaa
open Go.RowKit
open JM (Chg)
open CM (Fp)
open WM (Bytes)

theorem all_any_cons (f t : List Fp) : (f.all fun p => t.any fun q => eqP p.1 p.2.1 p.2.2 q.1 q.2.1 q.2.2) = CM.cons t f := by
  rw [← CM.incl_cons]
  unfold CM.incl
  congr 1
  funext p
  congr 1
  funext q
  unfold eqP
  exact decide_eq_decide.2 ⟨fun h => ⟨h.1.symm, h.2.1.symm, h.2.2.symm⟩, fun h => ⟨h.1.symm, h.2.1.symm, h.2.2.symm⟩⟩

set_option maxRecDepth 100000 in
set_option maxHeartbeats 1000000 in
theorem vSame (g : Nat) (x m : Int) (va : Value) (cs : List Chg) (y n : Int) (vd : Value) (ds : List Chg) (w : World) (hp : PBox w g x m va) (hc : RdC w va cs) (hd : RdC w vd ds) :
    Calls Try.prog 33 #[pv y n vd, .pointer (some ⟨g, 0, none⟩)] w fun e w' => e = .returned (.bool (eqP x m cs y n ds)) ∧ Below w.heap.size w w' := by
  have hb := below_fresh w (.cells #[.int .i64 y, .int .i64 n, vd] 53)
  have hq := PBox.fresh w y n vd
  have hp2 := hp.below hb
  obtain ⟨w0, hw0⟩ : ∃ w0, w.alloc (.cells #[.int .i64 y, .int .i64 n, vd] 53) = w0 := ⟨_, rfl⟩
  rw [hw0] at hb hq hp2
  have HE := Lib.hid (cEqual x m va cs y n vd ds w0 (hc.below hb) (hd.below hb))
  obtain ⟨a, l, c, rfl⟩ : ∃ a l c, va = .slice a l c := by (obtain ⟨a, c, h, _⟩ := hc.shape; exact ⟨_, _, _, h⟩)
  obtain ⟨a2, l2, c2, rfl⟩ : ∃ a l c, vd = .slice a l c := by (obtain ⟨a, c, h, _⟩ := hd.shape; exact ⟨_, _, _, h⟩)
  have HW := Lib.hid hw0
  have HB := Lib.hid hb
  obtain ⟨p0, p1, p2⟩ := hp2
  obtain ⟨q0, q1, q2⟩ := hq
  generalize eqP x m cs y n ds = R at HE
  clear hp hc hd hb hw0
  go_enter Try.func33, Try.ntmps33
  go_upto_region 1 with fail
  rw [HW.out]
  go_wp2_with fail
  refine HE.out.mono ?_
  rintro e w1 ⟨rfl, hb1⟩
  go_wp2
  go_ret
  exact ⟨rfl, bnext HB.out hb1⟩

set_option maxRecDepth 100000 in
set_option maxHeartbeats 1000000 in
theorem vIndexFunc (v : Value) (xs : List Fp) (g : Nat) (x m : Int) (va : Value) (cs : List Chg) (w : World) (h : RdF w v xs) (hp : PBox w g x m va) (hc : RdC w va cs) :
    Calls Try.prog 58 #[v, .func (.func 33) #[] #[.pointer (some ⟨g, 0, none⟩)]] w fun e w' => ∃ r : Int, e = .returned (.int .i64 r) ∧ decide (0 ≤ r) = xs.any (fun q => eqP x m cs q.1 q.2.1 q.2.2) ∧ Below w.heap.size w w' := by
  have eF := enters_of Try.func33 (by kernel_rfl) rfl
  obtain ⟨ad, c, rfl, hcc, hl⟩ := h.shape
  obtain ⟨R, hR⟩ : ∃ R, R = xs.any (fun q => eqP x m cs q.1 q.2.1 q.2.2) := ⟨_, rfl⟩
  rw [← hR]
  have HR := Lib.hid hR
  have HX := Lib.hid h
  have HP := Lib.hid hp
  have HC := Lib.hid hc
  clear hR h hp hc
  go_enter Try.func58, Try.ntmps58
  go_wp2
  go_loopw [8] (fun i wr => ∃ k : Nat, k ≤ xs.length ∧ i = .int .i64 k ∧ Below w.heap.size w wr ∧ Hid (R = (xs.drop k).any (fun q => eqP x m cs q.1 q.2.1 q.2.2))) (fun i _ => xs.length - (intOf i).toNat)
  case atStart => exact ⟨0, Nat.zero_le _, rfl, Below.refl _ _, HR.out⟩
  case round =>
    obtain ⟨k, hk, rfl, hbl, he⟩ := hrel
    by_cases hlt : k < xs.length
    · have hq : (k : Int) < (xs.length : Int) := by omega
      have hdx := Lib.hid (drop_get hlt)
      have hat := List.getElem?_eq_getElem hlt
      generalize xs[k] = y at hdx hat
      obtain ⟨y, n, ds⟩ := y
      obtain ⟨b, o, da, dl, dc, hi, hb, d0, d1, d2, hrd⟩ := (HX.out.below hbl).at_ k _ _ _ hat
      have hS := Lib.hid (vSame g x m va cs y n (.slice da dl dc) ds wr (HP.out.below hbl) (HC.out.below hbl) hrd)
      have e2 := Lib.hid (show R = (eqP x m cs y n ds || (xs.drop (k + 1)).any (fun q => eqP x m cs q.1 q.2.1 q.2.2)) by rw [he.out, hdx.out]; rfl)
      clear he hdx hat hrd
      generalize eqP x m cs y n ds = B at hS e2
      cases B
      · have e3 := Lib.hid (show R = (xs.drop (k + 1)).any (fun q => eqP x m cs q.1 q.2.1 q.2.2) by rw [e2.out, Bool.false_or])
        clear e2
        go_wp2_with (go_at_call 33; refine hS.out.mono ?_; rintro e w4 ⟨rfl, h4⟩)
        go_roundw
        case rel => exact ⟨k + 1, by omega, by go_num, bnext hbl h4, e3⟩
        case measure => simp [intOf]; omega
      · have e3 := Lib.hid (show R = true by rw [e2.out, Bool.true_or])
        clear e2
        go_wp2_with (go_at_call 33; refine hS.out.mono ?_; rintro e w4 ⟨rfl, h4⟩)
        go_ret
        exact ⟨_, rfl, by rw [e3.out]; exact decide_eq_true (by omega), bnext hbl h4⟩
    · have hq : ¬ ((k : Int) < (xs.length : Int)) := by omega
      have e2 := Lib.hid (show R = false by rw [he.out, List.drop_of_length_le (by omega)]; rfl)
      clear he HR
      go_wp2
      go_ret
      exact ⟨_, rfl, by rw [e2.out]; rfl, hbl⟩

set_option maxRecDepth 100000 in
set_option maxHeartbeats 1000000 in
theorem vContainsFunc (v : Value) (xs : List Fp) (g : Nat) (x m : Int) (va : Value) (cs : List Chg) (w : World) (h : RdF w v xs) (hp : PBox w g x m va) (hc : RdC w va cs) :
    Calls Try.prog 32 #[v, .func (.func 33) #[] #[.pointer (some ⟨g, 0, none⟩)]] w fun e w' => e = .returned (.bool (xs.any (fun q => eqP x m cs q.1 q.2.1 q.2.2))) ∧ Below w.heap.size w w' := by
  have HI := Lib.hid (vIndexFunc v xs g x m va cs w h hp hc)
  generalize xs.any (fun q => eqP x m cs q.1 q.2.1 q.2.2) = R at HI
  obtain ⟨ad, c, rfl, _, _⟩ := h.shape
  clear h hp hc
  go_enter Try.func32, Try.ntmps32
  go_wp2_with fail
  refine HI.out.mono ?_
  rintro e w1 ⟨r, rfl, hr, hb⟩
  clear HI
  go_wp2
  go_ret
  exact ⟨rfl, hb⟩

set_option maxRecDepth 100000 in
set_option maxHeartbeats 4000000 in
theorem pValidate (a b : Value) (f t : List Fp) (w : World) (hfa : RdF w a f) (htb : RdF w b t) :
    Calls Try.prog 10 #[cev a b] w fun e w' => e = .returned (.int .i64 (CM.errC f t)) ∧ Below w.heap.size w w' := by
  have hmf : ∀ (fn : Fn) (first cap : Array Value) (w : World), (Instr.makeFunc fn first cap).run Try.prog w = .ok (.func fn first cap) w := fun _ _ _ _ => rfl
  obtain ⟨R, hR⟩ : ∃ R, R = CM.errC f t := ⟨_, rfl⟩
  rw [← hR]
  unfold CM.errC at hR
  rw [← all_any_cons] at hR
  obtain ⟨aa, ac, rfl, hac, _⟩ := hfa.shape
  obtain ⟨ba, bc, rfl, hbc, _⟩ := htb.shape
  have hb0 := below_fresh w (.cells #[.slice aa f.length ac, .slice ba t.length bc] 25)
  have hX0 := XB.fresh w (.slice aa f.length ac) (.slice ba t.length bc)
  obtain ⟨w0, hw0⟩ : ∃ w0, w.alloc (.cells #[.slice aa f.length ac, .slice ba t.length bc] 25) = w0 := ⟨_, rfl⟩
  rw [hw0] at hb0 hX0
  have HB0 := Lib.hid hb0
  have HFA := Lib.hid (hfa.below hb0)
  have HTB := Lib.hid (htb.below hb0)
  have HF := Lib.hid (fun w' (h : Below w0.heap.size w0 w') => gValidate _ f w' ((hfa.below hb0).below h))
  have HT := Lib.hid (fun w' (h : Below w0.heap.size w0 w') => gValidate _ t w' ((htb.below hb0).below h))
  have HW := Lib.hid hw0
  generalize CM.errL (0, 0) f = E1 at HF hR
  generalize CM.errL (0, 0) t = E2 at HT hR
  obtain ⟨c0, c1, _⟩ := hX0.cells
  obtain ⟨EE, hEE⟩ : ∃ e, e = orL [E1, E2] := ⟨_, rfl⟩
  have HOR := Lib.hid hEE.symm
  have HCO := Lib.hid (fun z l w (h : RdI w z l) => cOrE z l w h)
  have hRF : Hid ((EE = 0 → R = if (f.all fun p => t.any fun q => eqP p.1 p.2.1 p.2.2 q.1 q.2.1 q.2.2) = true then 0 else 2) ∧ (¬ EE = 0 → R = EE)) := Lib.hid (by
    rw [hEE, hR]
    unfold orL orL orL
    by_cases h1 : E1 = 0
    · by_cases h2 : E2 = 0
      · simp [h1, h2]
      · simp [h1, h2]
    · simp [h1])
  clear hR hfa htb hb0 hX0 hw0 hEE
  go_enter Try.func10, Try.ntmps10
  go_upto_region 1 with fail
  rw [HW.out]
  refine wp_region_held_drew (S := fun w' => Below w0.heap.size w0 w') (by kernel_rfl) ((Below.refl _ _).drew) (fun ha => ?_)
  replace ha : Below w0.heap.size w0 w0.drew := (Below.refl _ _).drew
  generalize w0.drew = wa at ha ⊢
  refine takeH (i := 0) (v := ?_) rfl (by kernel_rfl) (by kernel_rfl) (by kernel_rfl) (fun _ _ _ h => h) (Or.inl ⟨by rfl, ?_⟩) (by assumption) ?_
  rotate_left
  · (intro w hSw; (try dsimp only at hSw); go_simp; first | done | with_reducible rfl)
  (try simp only [Act.put, List.setIfInBounds_toArray, List.set_cons_zero, List.set_cons_succ])
  refine takeH (i := 3) (v := ?_) rfl (by kernel_rfl) (by kernel_rfl) (by kernel_rfl) (fun _ _ _ h => h) (Or.inl ⟨by rfl, ?_⟩) (by assumption) ?_
  rotate_left
  · (intro w hSw; (try dsimp only at hSw); go_simp; first | done | with_reducible rfl)
  (try simp only [Act.put, List.setIfInBounds_toArray, List.set_cons_zero, List.set_cons_succ])
  refine takeH (i := 1) (v := ?_) rfl (by kernel_rfl) (by kernel_rfl) (by kernel_rfl) (fun _ _ _ h => h) (Or.inl ⟨by rfl, ?_⟩) (by assumption) ?_
  rotate_left
  · (intro w hSw; (try dsimp only at hSw); have hcx := below_cell hSw c0; go_simp; first | done | with_reducible rfl)
  (try simp only [Act.put, List.setIfInBounds_toArray, List.set_cons_zero, List.set_cons_succ])
  refine takeH (i := 4) (v := ?_) rfl (by kernel_rfl) (by kernel_rfl) (by kernel_rfl) (fun _ _ _ h => h) (Or.inl ⟨by rfl, ?_⟩) (by assumption) ?_
  rotate_left
  · (intro w hSw; (try dsimp only at hSw); have hcx := below_cell hSw c1; go_simp; first | done | with_reducible rfl)
  (try simp only [Act.put, List.setIfInBounds_toArray, List.set_cons_zero, List.set_cons_succ])
  refine wpAnyH_ready (rs := [2]) (by kernel_rfl) (by simp) ?_
  refine stepH rfl (fun K hK => ?_) AllReadyH.nil
  go_simp
  refine (HF.out wa ha).mono ?_
  rintro e wb ⟨rfl, hq⟩
  have hb := bnext ha hq
  go_wp2_with fail
  refine hK.out _ _ (hb) (fun _ => ?_)
  clear hK K
  (try simp only [Act.put, List.setIfInBounds_toArray, List.set_cons_zero, List.set_cons_succ])
  refine wpAnyH_ready (rs := [5]) (by kernel_rfl) (by simp) ?_
  refine stepH rfl (fun K hK => ?_) AllReadyH.nil
  go_simp
  refine (HT.out wb hb).mono ?_
  rintro e wc ⟨rfl, hq⟩
  have hc := bnext hb hq
  go_wp2_with fail
  refine hK.out _ _ (hc) (fun _ => ?_)
  clear hK K
  (try simp only [Act.put, List.setIfInBounds_toArray, List.set_cons_zero, List.set_cons_succ])
  have hrd := rd2e wc E1 E2
  refine wpAnyH_ready (rs := [6]) (by kernel_rfl) (by simp) ?_
  refine stepH rfl (fun K hK => ?_) AllReadyH.nil
  go_simp
  have hd := bnext hc (below_fresh wc (.cells #[.int .i64 E1, .int .i64 E2] 27))
  refine hK.out _ _ (hd) (fun _ => ?_)
  clear hK K
  (try simp only [Act.put, List.setIfInBounds_toArray, List.set_cons_zero, List.set_cons_succ])
  generalize wc.alloc (.cells #[.int .i64 E1, .int .i64 E2] 27) = wd at hd hrd ⊢
  refine wpAnyH_ready (rs := [7]) (by kernel_rfl) (by simp) ?_
  refine stepH rfl (fun K hK => ?_) AllReadyH.nil
  go_simp
  refine (HCO.out _ _ wd hrd).mono ?_
  rintro e we ⟨rfl, rfl⟩
  rw [HOR.out]
  go_wp2_with fail
  refine hK.out _ _ (hd) (fun _ => ?_)
  clear hK K
  (try simp only [Act.put, List.setIfInBounds_toArray, List.set_cons_zero, List.set_cons_succ])
  refine takeH (i := 8) (v := ?_) rfl (by kernel_rfl) (by kernel_rfl) (by kernel_rfl) (fun _ _ _ h => h) (Or.inl ⟨by rfl, ?_⟩) (by assumption) ?_
  rotate_left
  · (intro w hSw; (try dsimp only at hSw); go_simp; first | done | with_reducible rfl)
  (try simp only [Act.put, List.setIfInBounds_toArray, List.set_cons_zero, List.set_cons_succ])
  refine wpAnyH_done (by kernel_rfl) ?_ _
  have HBD := Lib.hid (bnext HB0.out hd)
  have d0 := below_cell hd c0
  have d1 := below_cell hd c1
  have HFD := Lib.hid (HFA.out.below hd)
  have HTD := Lib.hid (HTB.out.below hd)
  clear ha hb hc hd hrd HF HT HCO HOR c0 c1 HFA HTB HB0 HW
  by_cases hE : EE = 0
  case neg =>
    have e := Lib.hid (hRF.out.2 hE)
    have hne : (EE != 0) = true := bne_t hE
    clear hE hRF
    go_wp2
    go_ret
    rw [e.out]
    exact ⟨rfl, HBD.out⟩
  have HR := Lib.hid (hRF.out.1 hE)
  subst hE
  clear hRF
  go_wp2
  go_loopw [20] (fun i wr => ∃ k : Nat, k ≤ f.length ∧ i = .int .i64 k ∧ Hid (Below wd.heap.size wd wr) ∧ Hid (R = if ((f.drop k).all fun p => t.any fun q => eqP p.1 p.2.1 p.2.2 q.1 q.2.1 q.2.2) = true then 0 else 2)) (fun i _ => f.length - (intOf i).toNat)
  case atStart => exact ⟨0, Nat.zero_le _, rfl, Below.refl _ _, HR.out⟩
  case round =>
    obtain ⟨k, hk, rfl, hbl, he⟩ := hrel
    clear HR
    by_cases hlt : k < f.length
    · have hq : (k : Int) < (f.length : Int) := by omega
      have hdx := Lib.hid (drop_get hlt)
      have hat := List.getElem?_eq_getElem hlt
      generalize f[k] = y at hdx hat
      obtain ⟨x, m, cs⟩ := y
      obtain ⟨b, o, da, dl, dc, hi, hbw, f0, f1, f2, hrd⟩ := (HFD.out.below hbl.out).at_ k x m cs hat
      have hbx := below_fresh wr (.cells #[.int .i64 x, .int .i64 m, .slice da dl dc] 53)
      have hpx := PBox.fresh wr x m (.slice da dl dc)
      obtain ⟨wx, hwx⟩ : ∃ wx, wr.alloc (.cells #[.int .i64 x, .int .i64 m, .slice da dl dc] 53) = wx := ⟨_, rfl⟩
      rw [hwx] at hbx hpx
      have HBX := Lib.hid (bnext hbl.out hbx)
      have HS := Lib.hid (vContainsFunc _ t wr.heap.size x m _ cs wx (HTD.out.below HBX.out) hpx (hrd.below hbx))
      have HWX := Lib.hid hwx
      have g0 := below_cell HBX.out d0
      have g1 := below_cell HBX.out d1
      have e2 := Lib.hid (show R = if ((t.any fun q => eqP x m cs q.1 q.2.1 q.2.2) && (f.drop (k + 1)).all fun p => t.any fun q => eqP p.1 p.2.1 p.2.2 q.1 q.2.1 q.2.2) = true then 0 else 2 by rw [he.out, hdx.out]; rfl)
      generalize (t.any fun q => eqP x m cs q.1 q.2.1 q.2.2) = B at HS e2
      clear he hdx hat hrd hbx hpx hwx
      go_upto_region 7 with fail
      rw [HWX.out]
      go_wp2_with fail
      refine HS.out.mono ?_
      rintro e w4 ⟨rfl, h4⟩
      have HB4 := Lib.hid (bnext HBX.out h4)
      clear HS h4 HWX HBX g0 g1
      cases B
      · have e3 := Lib.hid (show R = 2 by rw [e2.out]; simp)
        clear e2
        go_wp2
        go_ret
        rw [e3.out]
        exact ⟨rfl, bnext HBD.out HB4.out⟩
      · have e3 := Lib.hid (show R = if ((f.drop (k + 1)).all fun p => t.any fun q => eqP p.1 p.2.1 p.2.2 q.1 q.2.1 q.2.2) = true then 0 else 2 by rw [e2.out, Bool.true_and])
        clear e2
        go_wp2
        go_roundw
        case rel => exact ⟨k + 1, by omega, by go_num, HB4, e3⟩
        case measure => simp [intOf]; omega
    · have hq : ¬ ((k : Int) < (f.length : Int)) := by omega
      have e2 := Lib.hid (show R = 0 by rw [he.out, List.drop_of_length_le (by omega)]; rfl)
      clear he
      go_wp2
      go_ret
      rw [e2.out]
      exact ⟨rfl, bnext HBD.out hbl.out⟩

set_option maxRecDepth 100000 in
set_option maxHeartbeats 4000000 in
theorem pEqual (a b c d : Value) (f t f' t' : List Fp) (w : World) (ha : RdF w a f) (hb : RdF w b t) (hc : RdF w c f') (hd : RdF w d t') :
    Calls Try.prog 13 #[cev a b, cev c d] w fun e w' => e = .returned (.bool (decide (f = f') && decide (t = t'))) ∧ Below w.heap.size w w' := by
  obtain ⟨aa, ac, rfl, hac, _⟩ := ha.shape
  obtain ⟨ba, bc, rfl, hbc, _⟩ := hb.shape
  obtain ⟨ca, cc, rfl, hcc, _⟩ := hc.shape
  obtain ⟨da, dc, rfl, hdc, _⟩ := hd.shape
  obtain ⟨w0, hw0, hX, hY, hb0⟩ := twoX w (.slice aa f.length ac) (.slice ba t.length bc) (.slice ca f'.length cc) (.slice da t'.length dc)
  have HB0 := Lib.hid hb0
  have HW := Lib.hid hw0
  replace ha := ha.below hb0
  replace hb := hb.below hb0
  replace hc := hc.below hb0
  replace hd := hd.below hb0
  obtain ⟨x0, x1, _⟩ := hX.cells
  obtain ⟨y0, y1, _⟩ := hY.cells
  have H1 := Lib.hid (fun w' (h : Below w0.heap.size w0 w') => gEqual _ _ f f' w' (ha.below h) (hc.below h))
  have H2 := Lib.hid (fun w' (h : Below w0.heap.size w0 w') => gEqual _ _ t t' w' (hb.below h) (hd.below h))
  generalize decide (f = f') = P at H1
  generalize decide (t = t') = Q at H2
  clear ha hb hc hd hX hY hb0 hw0
  cases P
  · go_enter Try.func13, Try.ntmps13
    go_upto_region 1 with fail
    rw [HW.out]
    go_wp2_with fail
    refine (H1.out w0 (Below.refl _ _)).mono ?_
    rintro e w1 ⟨rfl, hb1⟩
    have HB1 := Lib.hid (bnext HB0.out hb1)
    go_wp2
    go_ret
    exact ⟨rfl, HB1.out⟩
  · go_enter Try.func13, Try.ntmps13
    go_upto_region 1 with fail
    rw [HW.out]
    go_wp2_with fail
    refine (H1.out w0 (Below.refl _ _)).mono ?_
    rintro e w1 ⟨rfl, hb1⟩
    have z0 := below_cell hb1 x0
    have z1 := below_cell hb1 x1
    have z2 := below_cell hb1 y0
    have z3 := below_cell hb1 y1
    have HB1 := Lib.hid (bnext HB0.out hb1)
    have HC2 := Lib.hid (H2.out w1 hb1)
    clear H1 H2 hb1 x0 x1 y0 y1
    go_wp2_with fail
    refine HC2.out.mono ?_
    rintro e w2 ⟨rfl, hb2⟩
    have HB2 := Lib.hid (bnext HB1.out hb2)
    go_wp2
    go_ret
    exact ⟨rfl, HB2.out⟩

set_option maxRecDepth 100000 in
set_option maxHeartbeats 4000000 in
theorem pNewer (a b c d : Value) (f t f' t' : List Fp) (w : World) (ha : RdF w a f) (hb : RdF w b t) (hc : RdF w c f') (hd : RdF w d t') (hg : Gd f t f' t') :
    Calls Try.prog 15 #[cev a b, cev c d] w fun e w' => e = .returned (.bool (CM.newr t t')) ∧ Below w.heap.size w w' := by
  have ht := (CM.errC_ok hg.e1).2.1
  have ht' := (CM.errC_ok hg.e2).2.1
  rw [CM.newr_ne hg.a4 ht.srt ht'.srt]
  obtain ⟨aa, ac, rfl, hac, _⟩ := ha.shape
  obtain ⟨ba, bc, rfl, hbc, _⟩ := hb.shape
  obtain ⟨ca, cc, rfl, hcc, _⟩ := hc.shape
  obtain ⟨da, dc, rfl, hdc, _⟩ := hd.shape
  obtain ⟨w0, hw0, hX, hY, hb0⟩ := twoX w (.slice aa f.length ac) (.slice ba t.length bc) (.slice ca f'.length cc) (.slice da t'.length dc)
  have HB0 := Lib.hid hb0
  have HW := Lib.hid hw0
  replace hb := hb.below hb0
  replace hd := hd.below hb0
  obtain ⟨x0, x1, _⟩ := hX.cells
  obtain ⟨y0, y1, _⟩ := hY.cells
  have h9 := ht.nine
  have H1 := Lib.hid (fun w' (h : Below w0.heap.size w0 w') => gContains _ _ t t' w' (hb.below h) (hd.below h) ht.srt (by omega))
  have H2 := Lib.hid (fun w' (h : Below w0.heap.size w0 w') => gEqual _ _ t t' w' (hb.below h) (hd.below h))
  generalize CM.cons t t' = P at H1
  generalize decide (t = t') = Q at H2
  clear ha hb hc hd hX hY hb0 hw0 hg ht ht' h9
  cases P
  · go_enter Try.func15, Try.ntmps15
    go_upto_region 1 with fail
    rw [HW.out]
    go_wp2_with fail
    refine (H1.out w0 (Below.refl _ _)).mono ?_
    rintro e w1 ⟨rfl, hb1⟩
    have HB1 := Lib.hid (bnext HB0.out hb1)
    go_wp2
    go_ret
    exact ⟨rfl, HB1.out⟩
  · go_enter Try.func15, Try.ntmps15
    go_upto_region 1 with fail
    rw [HW.out]
    go_wp2_with fail
    refine (H1.out w0 (Below.refl _ _)).mono ?_
    rintro e w1 ⟨rfl, hb1⟩
    have z0 := below_cell hb1 x0
    have z1 := below_cell hb1 x1
    have z2 := below_cell hb1 y0
    have z3 := below_cell hb1 y1
    have HB1 := Lib.hid (bnext HB0.out hb1)
    have HC2 := Lib.hid (H2.out w1 hb1)
    clear H1 H2 hb1 x0 x1 y0 y1
    go_wp2_with fail
    refine HC2.out.mono ?_
    rintro e w2 ⟨rfl, hb2⟩
    have HB2 := Lib.hid (bnext HB1.out hb2)
    cases Q
    · go_wp2
      go_ret
      exact ⟨rfl, HB2.out⟩
    · go_wp2
      go_ret
      exact ⟨rfl, HB2.out⟩

/-- 'copied': an equal configuration of its own. -/
theorem pCopied (v : Value) (f : List Fp) (w : World) (h : RdF w v f) (hf : CM.Ok f) :
    Calls Try.prog 42 #[v] w fun e w' => ∃ v', e = .returned v' ∧ RdF w' v' f ∧ Below w.heap.size w w' := by
  have h9 := hf.nine
  have hu := gUnion (.slice none 0 0) v [] f w (RdF.nil _) h (by simp) (by omega) (by simp) (all_len hf.all)
  rw [CM.nil_un] at hu
  have HU := Lib.hid hu
  obtain ⟨va, vc, rfl, _, _⟩ := h.shape
  clear h hf h9 hu
  go_enter Try.func42, Try.ntmps42
  go_wp2_with fail
  refine HU.out.mono ?_
  rintro e w1 ⟨v', rfl, hr, hb1⟩
  have HR := Lib.hid hr
  clear hr HU
  go_wp2
  go_ret
  exact ⟨_, rfl, HR.out, hb1⟩

set_option maxRecDepth 100000 in
set_option maxHeartbeats 4000000 in
theorem pLatest1 (g : Nat) (a b c d : Value) (f t f' t' : List Fp) (w : World) (hg : XB w g a b) (ha : RdF w a f) (hb : RdF w b t) (hc : RdF w c f') (hd : RdF w d t') (hgd : Gd f t f' t') :
    Calls Try.prog 41 #[cev c d, .pointer (some ⟨g, 0, none⟩)] w fun e w' => e = .returned (.bool (CM.newr t' t)) ∧ Below w.heap.size w w' := by
  have hb0 := below_fresh w (.cells #[c, d] 25)
  have hY := XB.fresh w c d
  have hX := hg.below hb0
  obtain ⟨w0, hw0⟩ : ∃ w0, w.alloc (.cells #[c, d] 25) = w0 := ⟨_, rfl⟩
  rw [hw0] at hb0 hX hY
  have HN := Lib.hid (pNewer c d a b f' t' f t w0 (hc.below hb0) (hd.below hb0) (ha.below hb0) (hb.below hb0) hgd.symm)
  obtain ⟨a1, a2, a3, rfl⟩ := ha.sl
  obtain ⟨b1, b2, b3, rfl⟩ := hb.sl
  obtain ⟨c1, c2, c3, rfl⟩ := hc.sl
  obtain ⟨d1, d2, d3, rfl⟩ := hd.sl
  obtain ⟨x0, x1, _⟩ := hX.cells
  obtain ⟨y0, y1, _⟩ := hY.cells
  have HW := Lib.hid hw0
  have HB := Lib.hid hb0
  generalize CM.newr t' t = R at HN
  clear hg ha hb hc hd hgd hb0 hX hY hw0
  go_enter Try.func41, Try.ntmps41
  go_upto_region 1 with fail
  rw [HW.out]
  go_wp2_with fail
  refine HN.out.mono ?_
  rintro e w1 ⟨rfl, hb1⟩
  go_wp2
  go_ret
  exact ⟨rfl, bnext HB.out hb1⟩

set_option maxRecDepth 100000 in
set_option maxHeartbeats 4000000 in
theorem pStart1 (g : Nat) (a b v : Value) (f t s : List Fp) (w : World) (hg : XB w g a b) (ha : RdF w a f) (hb : RdF w b t) (hv : RdF w v s) (ht : CM.Ok t) (hs : CM.Ok s) :
    Calls Try.prog 45 #[v, .pointer (some ⟨g, 0, none⟩)] w fun e w' => e = .returned (.bool (CM.cons t s && CM.cons s f)) ∧ Below w.heap.size w w' := by
  have h9 := ht.nine
  have h8 := hs.nine
  have H1 := Lib.hid (gContains b v t s w hb hv ht.srt (by omega))
  have H2 := Lib.hid (fun w' (h : Below w.heap.size w w') => gContains v a s f w' (hv.below h) (ha.below h) hs.srt (by omega))
  obtain ⟨a1, a2, a3, rfl⟩ := ha.sl
  obtain ⟨b1, b2, b3, rfl⟩ := hb.sl
  obtain ⟨v1, v2, v3, rfl⟩ := hv.sl
  obtain ⟨x0, x1, _⟩ := hg.cells
  generalize CM.cons t s = P at H1
  generalize CM.cons s f = Q at H2
  clear hg ha hb hv ht hs h9 h8
  cases P
  · go_enter Try.func45, Try.ntmps45
    go_wp2_with fail
    refine H1.out.mono ?_
    rintro e w1 ⟨rfl, hb1⟩
    go_wp2
    go_ret
    exact ⟨rfl, hb1⟩
  · go_enter Try.func45, Try.ntmps45
    go_wp2_with fail
    refine H1.out.mono ?_
    rintro e w1 ⟨rfl, hb1⟩
    have z0 := below_cell hb1 x0
    have z1 := below_cell hb1 x1
    have HB1 := Lib.hid hb1
    have HC2 := Lib.hid (H2.out w1 hb1)
    clear H1 H2 hb1 x0 x1
    go_wp2_with fail
    refine HC2.out.mono ?_
    rintro e w2 ⟨rfl, hb2⟩
    go_wp2
    go_ret
    exact ⟨rfl, bnext HB1.out hb2⟩

set_option maxRecDepth 100000 in
set_option maxHeartbeats 4000000 in
theorem pChooseG (g : Nat) (a b u v : Value) (f t s z : List Fp) (w : World) (hg : XB w g a b) (ha : RdF w a f) (hb : RdF w b t) (hu : RdF w u s) (hv : RdF w v z) (ht : CM.Ok t) (hs : CM.Ok s) :
    Calls Try.prog 44 #[u, v, .func (.func 45) #[] #[.pointer (some ⟨g, 0, none⟩)]] w fun e w' => e = .returned (if (CM.cons t s && CM.cons s f) = true then u else v) ∧ Below w.heap.size w w' := by
  have eF := enters_of Try.func45 (by kernel_rfl) rfl
  have HS := Lib.hid (pStart1 g a b u f t s w hg ha hb hu ht hs)
  obtain ⟨u1, u2, u3, rfl⟩ := hu.sl
  obtain ⟨v1, v2, v3, rfl⟩ := hv.sl
  generalize (CM.cons t s && CM.cons s f) = R at HS
  clear hg ha hb hu hv ht hs
  cases R
  all_goals
    go_enter Try.func44, Try.ntmps44
    go_wp2_with (go_at_call 45; refine HS.out.mono ?_; rintro e w4 ⟨rfl, h4⟩)
    go_ret
    exact ⟨rfl, h4⟩

set_option maxRecDepth 100000 in
set_option maxHeartbeats 4000000 in
theorem pChooseC (g : Nat) (a b c d : Value) (f t f' t' : List Fp) (w : World) (hg : XB w g a b) (ha : RdF w a f) (hb : RdF w b t) (hc : RdF w c f') (hd : RdF w d t') (hgd : Gd f t f' t') :
    Calls Try.prog 40 #[cev c d, cev a b, .func (.func 41) #[] #[.pointer (some ⟨g, 0, none⟩)]] w fun e w' => e = .returned (if CM.newr t' t = true then cev c d else cev a b) ∧ Below w.heap.size w w' := by
  have eF := enters_of Try.func41 (by kernel_rfl) rfl
  obtain ⟨a1, a2, a3, rfl⟩ := ha.sl
  obtain ⟨b1, b2, b3, rfl⟩ := hb.sl
  obtain ⟨c1, c2, c3, rfl⟩ := hc.sl
  obtain ⟨d1, d2, d3, rfl⟩ := hd.sl
  obtain ⟨w1, hw1, hX, hY, hb1⟩ := twoX w (.slice c1 c2 c3) (.slice d1 d2 d3) (.slice a1 a2 a3) (.slice b1 b2 b3)
  have hs1 : w1.heap.size = w.heap.size + 1 + 1 := by rw [← hw1, World.size_alloc, World.size_alloc]
  have hb2 := below_fresh w1 (.cells #[.slice none 0 0, .slice none 0 0] 25)
  have hZ := XB.fresh w1 (.slice none 0 0) (.slice none 0 0)
  obtain ⟨w0, hw0⟩ : ∃ w0, w1.alloc (.cells #[.slice none 0 0, .slice none 0 0] 25) = w0 := ⟨_, rfl⟩
  rw [hw0, hs1] at hZ
  rw [hw0] at hb2
  rw [← hw1] at hw0
  have hb0 := bnext hb1 hb2
  have HX := Lib.hid (hX.below hb2)
  have HY := Lib.hid (hY.below hb2)
  have HZ := Lib.hid hZ
  have HB0 := Lib.hid hb0
  have HW := Lib.hid hw0
  have H1 := Lib.hid (pLatest1 g _ _ _ _ f t f' t' w0 (hg.below hb0) (ha.below hb0) (hb.below hb0) (hc.below hb0) (hd.below hb0) hgd)
  generalize CM.newr t' t = P at H1
  obtain ⟨x0, x1, _⟩ := HX.out.cells
  obtain ⟨y0, y1, _⟩ := HY.out.cells
  have HSZ := Lib.hid (show w.heap.size ≤ w.heap.size + 1 + 1 by omega)
  clear hg ha hb hc hd hgd hX hY hZ hb0 hw0 hb1 hb2 hw1 hs1
  go_enter Try.func40, Try.ntmps40
  go_upto_region 1 with fail
  rw [HW.out]
  cases P
  all_goals
    go_wp2_with (go_at_call 41; refine H1.out.mono ?_; rintro e w2 ⟨rfl, hb2⟩; have HZ2 := Lib.hid (HZ.out.below hb2); have HB2 := Lib.hid (bnext HB0.out hb2); obtain ⟨z0, z1, g0, g1⟩ := HZ2.out.cells; have p0 := below_cell hb2 x0; have p1 := below_cell hb2 x1; have q0 := below_cell hb2 y0; have q1 := below_cell hb2 y1; clear hb2 x0 x1 y0 y1)
    exact certRet rfl rfl (HZ2.out.put _ _) rfl ⟨rfl, seen HB2.out HSZ.out (only2 _ _)⟩

set_option maxRecDepth 100000 in
set_option maxHeartbeats 4000000 in
theorem pStart (a b c d : Value) (f t f' t' : List Fp) (w : World) (ha : RdF w a f) (hb : RdF w b t) (hc : RdF w c f') (hd : RdF w d t') (hg : Gd f t f' t') :
    Calls Try.prog 20 #[cev a b, cev c d] w fun e w' => ∃ x, e = .returned x ∧ RdF w' x (CM.strt f t t') ∧ Below w.heap.size w w' := by
  have hmf : ∀ (fn : Fn) (first cap : Array Value) (w : World), (Instr.makeFunc fn first cap).run Try.prog w = .ok (.func fn first cap) w := fun _ _ _ _ => rfl
  have hof := (CM.errC_ok hg.e1).1
  have hot := (CM.errC_ok hg.e1).2.1
  have hot' := (CM.errC_ok hg.e2).2.1
  have hs : CM.strt f t t' = if (CM.cons t t' && CM.cons t' f) = true then t' else f := by
    unfold CM.strt
    rw [CM.conk_cons hg.a4, CM.conk_cons hg.a2.symm]
  rw [hs]
  obtain ⟨aa, ac, rfl, hac, _⟩ := ha.shape
  obtain ⟨ba, bc, rfl, hbc, _⟩ := hb.shape
  obtain ⟨ca, cc, rfl, hcc, _⟩ := hc.shape
  obtain ⟨da, dc, rfl, hdc, _⟩ := hd.shape
  obtain ⟨w0, hw0, hX, hY, hb0⟩ := twoX w (.slice aa f.length ac) (.slice ba t.length bc) (.slice ca f'.length cc) (.slice da t'.length dc)
  have HB0 := Lib.hid hb0
  have HW := Lib.hid hw0
  replace ha := ha.below hb0
  replace hb := hb.below hb0
  replace hd := hd.below hb0
  obtain ⟨x0, x1, _⟩ := hX.cells
  obtain ⟨y0, y1, _⟩ := hY.cells
  have H1 := Lib.hid (pChooseG w.heap.size _ _ _ _ f t t' f w0 hX ha hb hd ha hot hot')
  have H2 := Lib.hid (fun w' (h : Below w0.heap.size w0 w') => pCopied _ t' w' (hd.below h) hot')
  have H3 := Lib.hid (fun w' (h : Below w0.heap.size w0 w') => pCopied _ f w' (ha.below h) hof)
  generalize (CM.cons t t' && CM.cons t' f) = P at H1
  clear ha hb hc hd hX hY hb0 hw0 hof hot hot' hs hg
  go_enter Try.func20, Try.ntmps20
  go_upto_region 1 with fail
  rw [HW.out]
  go_wp2_with fail
  refine H1.out.mono ?_
  rintro e w1 ⟨rfl, hb1⟩
  have HC2 := Lib.hid (H2.out w1 hb1)
  have HC3 := Lib.hid (H3.out w1 hb1)
  have HB1 := Lib.hid (bnext HB0.out hb1)
  clear H1 H2 H3 hb1 x0 x1 y0 y1 HB0 HW
  cases P
  · go_wp2_with fail
    refine HC3.out.mono ?_
    rintro e w2 ⟨v, rfl, hr, hb2⟩
    have HR := Lib.hid hr
    clear hr
    go_wp2
    go_ret
    exact ⟨_, rfl, HR.out, bnext HB1.out hb2⟩
  · go_wp2_with fail
    refine HC2.out.mono ?_
    rintro e w2 ⟨v, rfl, hr, hb2⟩
    have HR := Lib.hid hr
    clear hr
    go_wp2
    go_ret
    exact ⟨_, rfl, HR.out, bnext HB1.out hb2⟩

set_option maxRecDepth 100000 in
set_option maxHeartbeats 4000000 in
theorem pLatest (a b c d : Value) (f t f' t' : List Fp) (w : World) (ha : RdF w a f) (hb : RdF w b t) (hc : RdF w c f') (hd : RdF w d t') (hg : Gd f t f' t') :
    Calls Try.prog 17 #[cev a b, cev c d] w fun e w' => ∃ x y, e = .returned (cev x y) ∧ RdF w' x (CM.latF f t f' t') ∧ RdF w' y (CM.latT t t') ∧ Below w.heap.size w w' := by
  have hmf : ∀ (fn : Fn) (first cap : Array Value) (w : World), (Instr.makeFunc fn first cap).run Try.prog w = .ok (.func fn first cap) w := fun _ _ _ _ => rfl
  have hof := (CM.errC_ok hg.e1).1
  have hot := (CM.errC_ok hg.e1).2.1
  have hof' := (CM.errC_ok hg.e2).1
  have hot' := (CM.errC_ok hg.e2).2.1
  obtain ⟨aa, ac, rfl, hac, _⟩ := ha.shape
  obtain ⟨ba, bc, rfl, hbc, _⟩ := hb.shape
  obtain ⟨ca, cc, rfl, hcc, _⟩ := hc.shape
  obtain ⟨da, dc, rfl, hdc, _⟩ := hd.shape
  obtain ⟨w1, hw1, hX, hY, hb1⟩ := twoX w (.slice aa f.length ac) (.slice ba t.length bc) (.slice ca f'.length cc) (.slice da t'.length dc)
  have hs1 : w1.heap.size = w.heap.size + 1 + 1 := by rw [← hw1, World.size_alloc, World.size_alloc]
  have hb2 := below_fresh w1 (.cells #[.slice none 0 0, .slice none 0 0] 25)
  have hZ := XB.fresh w1 (.slice none 0 0) (.slice none 0 0)
  obtain ⟨w0, hw0⟩ : ∃ w0, w1.alloc (.cells #[.slice none 0 0, .slice none 0 0] 25) = w0 := ⟨_, rfl⟩
  rw [hw0, hs1] at hZ
  rw [hw0] at hb2
  rw [← hw1] at hw0
  have hb0 := bnext hb1 hb2
  have hX0 := hX.below hb2
  have hY0 := hY.below hb2
  have HZ := Lib.hid hZ
  have HB0 := Lib.hid hb0
  have HW := Lib.hid hw0
  have H1 := Lib.hid (pChooseC w.heap.size _ _ _ _ f t f' t' w0 hX0 (ha.below hb0) (hb.below hb0) (hc.below hb0) (hd.below hb0) hg)
  have HA := Lib.hid (ha.below hb0)
  have HBb := Lib.hid (hb.below hb0)
  have HC := Lib.hid (hc.below hb0)
  have HD := Lib.hid (hd.below hb0)
  obtain ⟨x0, x1, _⟩ := hX0.cells
  obtain ⟨y0, y1, _⟩ := hY0.cells
  have HSZ := Lib.hid (show w.heap.size ≤ w.heap.size + 1 + 1 by omega)
  clear ha hb hc hd hX hY hZ hb0 hw0 hb1 hb2 hw1 hs1 hg hX0 hY0
  go_enter Try.func17, Try.ntmps17
  go_upto_region 1 with fail
  rw [HW.out]
  go_wp2_with fail
  refine H1.out.mono ?_
  rintro e w2 ⟨rfl, hb2⟩
  have HB2 := Lib.hid (bnext HB0.out hb2)
  have HZ2 := Lib.hid (HZ.out.below hb2)
  obtain ⟨px, py, sx, sy, HPX, HPY, HOX, HOY, hlat, hsx, hsy⟩ : ∃ (px py : Value) (sx sy : List Fp), Hid (RdF w2 px sx) ∧ Hid (RdF w2 py sy) ∧ Hid (CM.Ok sx) ∧ Hid (CM.Ok sy) ∧ (if CM.newr t' t = true then cev (.slice ca f'.length cc) (.slice da t'.length dc) else cev (.slice aa f.length ac) (.slice ba t.length bc)) = cev px py ∧ Hid (CM.latF f t f' t' = sx) ∧ Hid (CM.latT t t' = sy) := by
    unfold CM.latF CM.latT
    by_cases hP : CM.newr t' t = true
    · refine ⟨_, _, f', t', HC.out.below hb2, HD.out.below hb2, hof', hot', if_pos hP, if_pos hP, if_pos hP⟩
    · refine ⟨_, _, f, t, HA.out.below hb2, HBb.out.below hb2, hof, hot, if_neg hP, if_neg hP, if_neg hP⟩
  rw [hlat]
  obtain ⟨p1, p2, p3, rfl⟩ := HPX.out.sl
  obtain ⟨q1, q2, q3, rfl⟩ := HPY.out.sl
  clear hb2 x0 x1 y0 y1 HA HBb HC HD HZ HB0 H1 HW hof hot hof' hot' hlat
  have hb3 := below_fresh w2 (.cells #[.slice p1 p2 p3, .slice q1 q2 q3] 25)
  have hV := XB.fresh w2 (.slice p1 p2 p3) (.slice q1 q2 q3)
  obtain ⟨w3, hw3⟩ : ∃ w3, w2.alloc (.cells #[.slice p1 p2 p3, .slice q1 q2 q3] 25) = w3 := ⟨_, rfl⟩
  rw [hw3] at hb3 hV
  have HB3 := Lib.hid (bnext HB2.out hb3)
  have HZ3 := Lib.hid (HZ2.out.below hb3)
  have H4 := Lib.hid (fun w' (h : Below w3.heap.size w3 w') => pCopied _ sx w' ((HPX.out.below hb3).below h) HOX.out)
  have H5 := Lib.hid (fun w' (h : Below w3.heap.size w3 w') => pCopied _ sy w' ((HPY.out.below hb3).below h) HOY.out)
  obtain ⟨v0, v1, _⟩ := hV.cells
  have HW3 := Lib.hid hw3
  have HV := Lib.hid hV
  have HNE := Lib.hid (Nat.ne_of_gt (Array.getElem?_eq_some_iff.1 HZ2.out).1)
  clear hb3 hV hw3 HB2 HZ2 HPX HPY HOX HOY
  go_upto_region 2 with fail
  rw [HW3.out]
  clear HW3
  refine wp_region_held_drew (S := fun w' => w'.cell? ⟨w2.heap.size, 0, none⟩ = some (.slice p1 p2 p3) ∧ w'.cell? ⟨w2.heap.size, 1, none⟩ = some (.slice q1 q2 q3)) (by kernel_rfl) (And.intro (below_cell (Below.refl _ _).drew v0) (below_cell (Below.refl _ _).drew v1)) (fun _ => ?_)
  have ha : Below w3.heap.size w3 w3.drew := (Below.refl _ _).drew
  generalize w3.drew = wa at ha ⊢
  have hS0 := And.intro (below_cell ha v0) (below_cell ha v1)
  refine takeH (i := 0) (v := ?_) rfl (by kernel_rfl) (by kernel_rfl) (by kernel_rfl) (fun _ _ _ h => h) (Or.inl ⟨by rfl, ?_⟩) (by assumption) ?_
  rotate_left
  · (intro w hSw; (try dsimp only at hSw); go_simp; first | done | with_reducible rfl)
  (try simp only [Act.put, List.setIfInBounds_toArray, List.set_cons_zero, List.set_cons_succ])
  refine takeH (i := 3) (v := ?_) rfl (by kernel_rfl) (by kernel_rfl) (by kernel_rfl) (fun _ _ _ h => h) (Or.inl ⟨by rfl, ?_⟩) (by assumption) ?_
  rotate_left
  · (intro w hSw; (try dsimp only at hSw); go_simp; first | done | with_reducible rfl)
  (try simp only [Act.put, List.setIfInBounds_toArray, List.set_cons_zero, List.set_cons_succ])
  refine takeH (i := 1) (v := ?_) rfl (by kernel_rfl) (by kernel_rfl) (by kernel_rfl) (fun _ _ _ h => h) (Or.inl ⟨by rfl, ?_⟩) (by assumption) ?_
  rotate_left
  · (intro w hSw; (try dsimp only at hSw); have hcx := hSw.1; go_simp; first | done | with_reducible rfl)
  (try simp only [Act.put, List.setIfInBounds_toArray, List.set_cons_zero, List.set_cons_succ])
  refine takeH (i := 4) (v := ?_) rfl (by kernel_rfl) (by kernel_rfl) (by kernel_rfl) (fun _ _ _ h => h) (Or.inl ⟨by rfl, ?_⟩) (by assumption) ?_
  rotate_left
  · (intro w hSw; (try dsimp only at hSw); have hcx := hSw.2; go_simp; first | done | with_reducible rfl)
  (try simp only [Act.put, List.setIfInBounds_toArray, List.set_cons_zero, List.set_cons_succ])
  refine wpAnyH_ready (rs := [2]) (by kernel_rfl) (by simp) ?_
  refine stepH rfl (fun K hK => ?_) AllReadyH.nil
  go_simp
  refine (H4.out wa ha).mono ?_
  rintro e wb ⟨z1, rfl, hr1, hq⟩
  have hb := bnext ha hq
  have hS1 := And.intro (below_cell hb v0) (below_cell hb v1)
  go_wp2_with fail
  refine hK.out _ _ (hS1) (fun _ => ?_)
  clear hK K
  (try simp only [Act.put, List.setIfInBounds_toArray, List.set_cons_zero, List.set_cons_succ])
  refine wpAnyH_ready (rs := [5]) (by kernel_rfl) (by simp) ?_
  refine stepH rfl (fun K hK => ?_) AllReadyH.nil
  go_simp
  refine (H5.out wb hb).mono ?_
  rintro e wc ⟨z2, rfl, hr2, hq⟩
  have hc := bnext hb hq
  have hS2 := And.intro (below_cell hc v0) (below_cell hc v1)
  go_wp2_with fail
  refine hK.out _ _ (hS2) (fun _ => ?_)
  clear hK K
  (try simp only [Act.put, List.setIfInBounds_toArray, List.set_cons_zero, List.set_cons_succ])
  replace hr1 := hr1.below hq
  obtain ⟨z11, z12, z13, rfl⟩ := hr1.sl
  obtain ⟨z21, z22, z23, rfl⟩ := hr2.sl
  have HZ4 := Lib.hid (HZ3.out.below hc)
  have HV4 := Lib.hid (HV.out.below hc)
  obtain ⟨o0, o1, g0, g1⟩ := HZ4.out.cells
  have HR1 := Lib.hid hr1
  have HR2 := Lib.hid hr2
  have HB4 := Lib.hid (bnext HB3.out hc)
  have hS3 := And.intro (HV4.out.only (only2 (.slice z11 z12 z13) (.slice z21 z22 z23)) HNE.out).cells.1 (HV4.out.only (only2 (.slice z11 z12 z13) (.slice z21 z22 z23)) HNE.out).cells.2.1
  clear hr1 hr2 ha hb hc hq H4 H5 HZ3 HB3 v0 v1
  refine takeH (i := 6) (v := ?_) rfl (by kernel_rfl) (by kernel_rfl) (by kernel_rfl) (fun _ _ _ h => h) (Or.inl ⟨by rfl, ?_⟩) (by assumption) ?_
  rotate_left
  · (intro w hSw; (try dsimp only at hSw); go_simp; first | done | with_reducible rfl)
  (try simp only [Act.put, List.setIfInBounds_toArray, List.set_cons_zero, List.set_cons_succ])
  refine wpAnyH_ready (rs := [7]) (by kernel_rfl) (by simp) ?_
  refine stepH rfl (fun K hK => ?_) AllReadyH.nil
  go_simp
  skip
  refine hK.out _ _ (hS3) (fun _ => ?_)
  clear hK K
  (try simp only [Act.put, List.setIfInBounds_toArray, List.set_cons_zero, List.set_cons_succ])
  refine wpAnyH_done (by kernel_rfl) ?_ _
  go_wp2
  refine certRet rfl rfl (HZ4.out.put _ _) rfl ⟨_, _, rfl, ?_, ?_, seen HB4.out HSZ.out (only2 _ _)⟩
  · rw [hsx.out]; exact RdF.off HR1.out (HZ4.out.slices ⟨_, _, _, rfl⟩ ⟨_, _, _, rfl⟩) (only2 _ _)
  · rw [hsy.out]; exact RdF.off HR2.out (HZ4.out.slices ⟨_, _, _, rfl⟩ ⟨_, _, _, rfl⟩) (only2 _ _)
end Go.Proofs.Ytfdgoehfkfdgaaa
