/-
  The call of the reference's AddProposal. Conditions: what comes in reads; the configuration is valid.
-/
import Derived.Test.YteeegpojfbgkfaaKH
namespace Go.Proofs.Yteeegpojfbgkfaa
open Go.RowKit
open JM (Chg)
open CM (Fp)
open VM (Ent)

set_option maxRecDepth 100000 in
set_option maxHeartbeats 8000000 in
theorem rAdd (v : Value) (fs : List Fp) (x m : Int) (sv : Value) (cs : List Chg) (w : World) (h : RdF w v fs) (hs : RdC w sv cs) (hok : CM.Ok fs) :
    Calls Try.prog 35 #[v, pv x m sv] w fun e w' => ∃ v', e = .returned (.tuple #[v', .int .i64 (CM.addP fs (x, m, cs)).1]) ∧ RdF w' v' (CM.addP fs (x, m, cs)).2 ∧ Below w.heap.size w w' := by
  obtain ⟨ad, cp, rfl, hcp, _⟩ := h.shape
  obtain ⟨da, dc, rfl, hdc, _⟩ := hs.shape
  have h9 := hok.nine
  have hb0 := below_fresh w (.cells #[.int .i64 x, .int .i64 m, .slice da cs.length dc] 45)
  have hp0 := PBox.fresh w x m (.slice da cs.length dc)
  obtain ⟨R, hR⟩ : ∃ R, R = CM.addP fs (x, m, cs) := ⟨_, rfl⟩
  rw [← hR]
  have hR2 : R = if JM.errP x m cs ≠ 0 then (JM.errP x m cs, []) else if CM.hasK fs x m = true then (5, []) else if m ≠ CM.ct fs x + 1 then (8, []) else (0, CM.un fs [(x, m, cs)]) := hR
  obtain ⟨w0, hw0⟩ : ∃ w0, w.alloc (.cells #[.int .i64 x, .int .i64 m, .slice da cs.length dc] 45) = w0 := ⟨_, rfl⟩
  rw [hw0] at hb0 hp0
  have hlt0 : w.heap.size < w0.heap.size := by rw [← hw0, World.size_alloc]; exact Nat.lt_succ_self _
  have HW0 := Lib.hid hw0
  have HP0 := Lib.hid hp0
  have HB0 := Lib.hid hb0
  have H0 := Lib.hid (h.below hb0)
  have HS0 := Lib.hid (hs.below hb0)
  have hV := fun w' hh => rValidate x m (.slice da cs.length dc) cs w' (RdG.below HS0.out hh)
  have HOK := Lib.hid hok
  have HN := Lib.hid (fun h => CM.errF_num (f := (x, m, cs)) h)
  clear h hs hb0 hp0 hw0 hR hok
  obtain ⟨p0, p1, p2⟩ := HP0.out
  by_cases hE : JM.errP x m cs = 0
  · rw [hE] at hV
    rw [if_neg (by rw [hE]; simp)] at hR2
    have HV := Lib.hid (hV w0 (Below.refl _ _))
    obtain ⟨n1, n2, n3, n4⟩ := HN.out hE
    simp only at n1 n2 n3 n4
    have HR2 := Lib.hid hR2
    clear hV hR2 hE HN
    go_enter Try.func35, Try.ntmps35
    go_wp2_with fail
    rw [HW0.out]
    refine HV.out.mono ?_
    rintro e w1 ⟨rfl, hb1⟩
    have HP1 := Lib.hid (HP0.out.below hb1)
    have H1 := Lib.hid (H0.out.below hb1)
    have HS1 := Lib.hid (HS0.out.below hb1)
    have HB1 := Lib.hid (bnext HB0.out hb1)
    have hlt1 : w.heap.size < w1.heap.size := Nat.lt_of_lt_of_le hlt0 hb1.size
    clear p0 p1 p2 HV HP0 H0 HS0 HB0 HW0 hb1 hlt0
    obtain ⟨p0, p1, p2⟩ := HP1.out
    have hF := rHas _ fs x m da cs.length dc w1 H1.out
    obtain ⟨F, hFF⟩ : ∃ F, F = CM.hasK fs x m := ⟨_, rfl⟩
    rw [← hFF] at hF
    have HF := Lib.hid hF
    have HFF := Lib.hid hFF
    clear hF hFF
    cases F
    · have HR3 := Lib.hid (show R = if m ≠ CM.ct fs x + 1 then (8, []) else (0, CM.un fs [(x, m, cs)]) by rw [HR2.out, if_neg (by rw [← HFF.out]; decide)])
      clear HR2 HFF
      go_wp2_with fail
      refine HF.out.mono ?_
      rintro e w2 ⟨rfl, hb2⟩
      have HP2 := Lib.hid (HP1.out.below hb2)
      have H2 := Lib.hid (H1.out.below hb2)
      have HS2 := Lib.hid (HS1.out.below hb2)
      have HB2 := Lib.hid (bnext HB1.out hb2)
      have hlt2 : w.heap.size < w2.heap.size := Nat.lt_of_lt_of_le hlt1 hb2.size
      clear p0 p1 p2 HF HP1 H1 HS1 HB1 hb2 hlt1
      obtain ⟨p0, p1, p2⟩ := HP2.out
      have HVEC := Lib.hid (fun w' (hh : Below w2.heap.size w2 w') => rVectorOf _ fs w' (H2.out.below hh) HOK.out.all (by omega))
      have hvs := CM.vr_spec HOK.out.all (by omega)
      have HGET := Lib.hid (fun w' v' (ho : VX.RdV w' v' (CM.vr fs)) => VX.rCount v' (CM.vr fs) x w' ho)
      have hcx := hvs.2.1 x
      have hcp0 := CM.ct_pos fs x
      have hc3 := HOK.out.ct3 x
      rw [← hcx] at hcp0 hc3 HR3
      generalize VM.cnt (CM.vr fs) x = N at HGET hcp0 hc3 HR3
      clear hcx hvs
      have hw1 : IntKind.i64.wrap (N + 1) = N + 1 := IntWalk.i64_in _ (by omega)
      go_wp2
      refine wp_region_held_drew (S := fun w' => Below w2.heap.size w2 w') (by kernel_rfl) ((Below.refl _ _).drew) (fun ha => ?_)
      replace ha : Below w2.heap.size w2 w2.drew := (Below.refl _ _).drew
      generalize w2.drew = wa at ha ⊢
      refine takeH (i := 0) (v := ?_) rfl (by kernel_rfl) (by kernel_rfl) (by kernel_rfl) (fun _ _ _ h => h) (Or.inl ⟨by rfl, ?_⟩) (by assumption) ?_
      rotate_left
      · (intro w hSw; (try dsimp only at hSw); go_simp; first | done | with_reducible rfl)
      (try simp only [Act.put, List.setIfInBounds_toArray, List.set_cons_zero, List.set_cons_succ])
      refine takeH (i := 1) (v := ?_) rfl (by kernel_rfl) (by kernel_rfl) (by kernel_rfl) (fun _ _ _ h => h) (Or.inl ⟨by rfl, ?_⟩) (by assumption) ?_
      rotate_left
      · (intro w hSw; (try dsimp only at hSw); obtain ⟨p0, p1, p2⟩ := HP2.out.below hSw; go_simp; first | done | with_reducible rfl)
      (try simp only [Act.put, List.setIfInBounds_toArray, List.set_cons_zero, List.set_cons_succ])
      refine takeH (i := 2) (v := ?_) rfl (by kernel_rfl) (by kernel_rfl) (by kernel_rfl) (fun _ _ _ h => h) (Or.inl ⟨by rfl, ?_⟩) (by assumption) ?_
      rotate_left
      · (intro w hSw; (try dsimp only at hSw); go_simp; first | done | with_reducible rfl)
      (try simp only [Act.put, List.setIfInBounds_toArray, List.set_cons_zero, List.set_cons_succ])
      refine takeH (i := 4) (v := ?_) rfl (by kernel_rfl) (by kernel_rfl) (by kernel_rfl) (fun _ _ _ h => h) (Or.inl ⟨by rfl, ?_⟩) (by assumption) ?_
      rotate_left
      · (intro w hSw; (try dsimp only at hSw); go_simp; first | done | with_reducible rfl)
      (try simp only [Act.put, List.setIfInBounds_toArray, List.set_cons_zero, List.set_cons_succ])
      refine takeH (i := 5) (v := ?_) rfl (by kernel_rfl) (by kernel_rfl) (by kernel_rfl) (fun _ _ _ h => h) (Or.inl ⟨by rfl, ?_⟩) (by assumption) ?_
      rotate_left
      · (intro w hSw; (try dsimp only at hSw); obtain ⟨p0, p1, p2⟩ := HP2.out.below hSw; go_simp; first | done | with_reducible rfl)
      (try simp only [Act.put, List.setIfInBounds_toArray, List.set_cons_zero, List.set_cons_succ])
      refine wpAnyH_ready (rs := [3]) (by kernel_rfl) (by simp) ?_
      refine stepH rfl (fun K hK => ?_) AllReadyH.nil
      go_simp
      refine (HVEC.out wa ha).mono ?_
      rintro e wb ⟨vb, rfl, hob, hq⟩
      have hb := bnext ha hq
      go_wp2_with fail
      refine hK.out _ _ (hb) (fun _ => ?_)
      clear hK K
      (try simp only [Act.put, List.setIfInBounds_toArray, List.set_cons_zero, List.set_cons_succ])
      refine wpAnyH_ready (rs := [6]) (by kernel_rfl) (by simp) ?_
      refine stepH rfl (fun K hK => ?_) AllReadyH.nil
      go_simp
      refine (HGET.out wb vb hob.rdV).mono ?_
      rintro e wc ⟨rfl, rfl⟩
      go_wp2_with fail
      refine hK.out _ _ (hb) (fun _ => ?_)
      clear hK K
      (try simp only [Act.put, List.setIfInBounds_toArray, List.set_cons_zero, List.set_cons_succ])
      refine takeH (i := 7) (v := ?_) rfl (by kernel_rfl) (by kernel_rfl) (by kernel_rfl) (fun _ _ _ h => h) (Or.inl ⟨by rfl, ?_⟩) (by assumption) ?_
      rotate_left
      · (intro w hSw; (try dsimp only at hSw); go_simp; first | done | with_reducible rfl)
      (try simp only [Act.put, List.setIfInBounds_toArray, List.set_cons_zero, List.set_cons_succ])
      refine takeH (i := 8) (v := ?_) rfl (by kernel_rfl) (by kernel_rfl) (by kernel_rfl) (fun _ _ _ h => h) (Or.inl ⟨by rfl, ?_⟩) (by assumption) ?_
      rotate_left
      · (intro w hSw; (try dsimp only at hSw); go_simp; first | done | with_reducible rfl)
      (try simp only [Act.put, List.setIfInBounds_toArray, List.set_cons_zero, List.set_cons_succ])
      refine takeH (i := 9) (v := ?_) rfl (by kernel_rfl) (by kernel_rfl) (by kernel_rfl) (fun _ _ _ h => h) (Or.inl ⟨by rfl, ?_⟩) (by assumption) ?_
      rotate_left
      · (intro w hSw; (try dsimp only at hSw); go_simp; first | done | with_reducible rfl)
      (try simp only [Act.put, List.setIfInBounds_toArray, List.set_cons_zero, List.set_cons_succ])
      refine wpAnyH_done (by kernel_rfl) ?_ _
      have HP3 := Lib.hid (HP2.out.below hb)
      have H3 := Lib.hid (H2.out.below hb)
      have HS3 := Lib.hid (HS2.out.below hb)
      have HB3 := Lib.hid (bnext HB2.out hb)
      have hlt3 : w.heap.size < wb.heap.size := Nat.lt_of_lt_of_le hlt2 hb.size
      clear p0 p1 p2 ha hb hob HVEC HGET HP2 H2 HS2 HB2 hlt2
      obtain ⟨w3, hw3⟩ : ∃ w3, w3 = wb := ⟨_, rfl⟩
      rw [← hw3] at HP3 H3 HS3 HB3 hlt3 ⊢
      clear hw3
      by_cases hmn : m = N + 1
      · have HR4 := Lib.hid (show R = (0, CM.un fs [(x, m, cs)]) by rw [HR3.out, if_neg (by simpa using hmn)])
        have hne : (m != N + 1) = false := bne_f hmn
        clear HR3 hmn hw1
        have hbx := below_fresh w3 (.cells #[.int .i64 x, .int .i64 m, .slice da cs.length dc] 45)
        have hrp : RdQ (w3.alloc (.cells #[.int .i64 x, .int .i64 m, .slice da cs.length dc] 45)) (.slice (some ⟨w3.heap.size, 0, none⟩) 1 1) [(x, m, da, cs.length, dc)] := (ownG_fresh hlQ 45 w3 [(x, m, da, cs.length, dc)] (by simp [maxLen])).rd
        have HU := Lib.hid (rUnion _ _ fs [(x, m, cs)] _ (H3.out.below hbx) ⟨_, hrp, Tel.one ⟨rfl, rfl, HS3.out.below hbx⟩⟩ (by omega) (by simp))
        have HBX := Lib.hid (bnext HB3.out hbx)
        obtain ⟨p0, p1, p2⟩ := HP3.out
        clear hbx hrp HB3 H3 HS3
        go_wp2_with fail
        refine HU.out.mono ?_
        rintro e w4 ⟨v4, rfl, hr4, hb4⟩
        have HRR := Lib.hid hr4
        have HB4 := Lib.hid (bnext HBX.out hb4)
        clear hr4 hb4 HU HBX p0 p1 p2 HP3
        go_wp2
        go_ret2
        exact ⟨_, by rw [HR4.out]; rfl, by rw [HR4.out]; exact HRR.out, HB4.out⟩
      · have HR4 := Lib.hid (show R = (8, []) by rw [HR3.out, if_pos hmn])
        have hne : (m != N + 1) = true := bne_t hmn
        clear HR3 hmn hw1
        go_wp2
        go_ret2
        exact ⟨_, by rw [HR4.out]; rfl, by rw [HR4.out]; exact RdF.nil _, HB3.out⟩
    · have HR3 := Lib.hid (show R = (5, []) by rw [HR2.out, if_pos HFF.out.symm])
      clear HR2 HFF
      go_wp2_with fail
      refine HF.out.mono ?_
      rintro e w2 ⟨rfl, hb2⟩
      have HB2 := Lib.hid (bnext HB1.out hb2)
      go_wp2
      go_ret2
      exact ⟨_, by rw [HR3.out]; rfl, by rw [HR3.out]; exact RdF.nil _, HB2.out⟩
  · rw [if_pos hE] at hR2
    generalize JM.errP x m cs = E at hV hR2 hE
    have hne : (E != 0) = true := bne_t hE
    have HV := Lib.hid (hV w0 (Below.refl _ _))
    have HVV := Lib.hid hV
    have HR2 := Lib.hid hR2
    clear hV hR2 hE HN
    go_enter Try.func35, Try.ntmps35
    go_wp2_with fail
    rw [HW0.out]
    refine HV.out.mono ?_
    rintro e w1 ⟨rfl, hb1⟩
    have HB1 := Lib.hid (bnext HB0.out hb1)
    have HV1 := Lib.hid (HVV.out w1 hb1)
    have HP1 := Lib.hid (HP0.out.below hb1)
    have hlt1 : w.heap.size < w1.heap.size := Nat.lt_of_lt_of_le hlt0 hb1.size
    clear p0 p1 p2 HV HVV HP0 H0 HS0 HB0 HW0 hb1 hlt0
    obtain ⟨p0, p1, p2⟩ := HP1.out
    go_wp2_with fail
    refine HV1.out.mono ?_
    rintro e w2 ⟨rfl, hb2⟩
    go_wp2
    go_ret2
    exact ⟨_, by rw [HR2.out]; rfl, by rw [HR2.out]; exact RdF.nil _, bnext HB1.out hb2⟩

end Go.Proofs.Yteeegpojfbgkfaa
