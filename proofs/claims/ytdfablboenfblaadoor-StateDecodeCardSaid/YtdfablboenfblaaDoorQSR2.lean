/-
  The call of the reference's VectorOf. Conditions: what comes in reads; the updates are valid. (Written by mk_sref.py.)
  The place of an update that is added. No conditions beyond those that each lemma names. (Written by mk_sref.py.)
  The call of the reference's AddUpdate. Conditions: what comes in reads; the state is valid. (Written by mk_sref.py.)
-/
import Derived.StillTailTactics
import Derived.Test.YtdfablboenfblaaDoorQSR1
import Derived.Test.YtdfablboenfblaaDoorQSM1
import Derived.Test.YtdfablboenfblaaDoorQKF
import Derived.Test.YtdfablboenfblaaDoorQKB
namespace Go.Proofs.YtdfablboenfblaaDoor.ST
open Go.RowKit Go.Joins
open UM (Ef)
open SM (Fp)
open VM (Ent)

theorem vo_take {fs : List Fp} (h : ∀ x ∈ fs, SM.errF x = 0) (hl : fs.length ≤ 1000) (k : Nat) : VM.Val 0 (SM.vr (fs.take k)) ∧ (∀ a, VM.cnt (SM.vr (fs.take k)) a = SM.ct (fs.take k) a) ∧ (SM.vr (fs.take k)).length ≤ 1000 := by
  have h1 := SM.vr_spec (fs := fs.take k) (fun x hx => h x (List.mem_of_mem_take hx)) (by rw [List.length_take]; omega)
  exact ⟨h1.1, h1.2.1, by have := h1.2.2; rw [List.length_take] at this; omega⟩

set_option maxRecDepth 100000 in
set_option maxHeartbeats 4000000 in
theorem rVectorOf (v : Value) (fs : List Fp) (w : World) (h : RdF w v fs) (hv : ∀ x ∈ fs, SM.errF x = 0) (hl : fs.length ≤ 1000) :
    Calls Tryd.prog 19 #[v] w fun e w' => ∃ v', e = .returned v' ∧ OwnE w.heap.size w' v' (SM.vr fs) ∧ Below w.heap.size w w' := by
  obtain ⟨ad, cp, rfl, hc, _⟩ := h.shape
  have H := Lib.hid h
  have HL := Lib.hid hl
  have HV := Lib.hid hv
  clear h hl hv
  go_enter Tryd.func19, Tryd.ntmps19
  go_wp2
  go_loopw [3, 4] (fun u i wr => ∃ k : Nat, k ≤ fs.length ∧ i = .int .i64 k ∧ Hid (OwnE w.heap.size wr u (SM.vr (fs.take k))) ∧ Hid (Below w.heap.size w wr)) (fun _ i _ => fs.length - (intOf i).toNat)
  case atStart => exact ⟨0, Nat.zero_le _, rfl, OwnG.nil hlE _ _ _, Below.refl _ _⟩
  case round =>
    obtain ⟨k, hk, rfl, ho, hbl⟩ := hrel
    by_cases hlt : k < fs.length
    · have hq : (k : Int) < (fs.length : Int) := by omega
      have hk2 := List.getElem?_eq_getElem hlt
      generalize fs[k] = f at hk2
      obtain ⟨t1, t2, t3⟩ := vo_take HV.out HL.out k
      have hf := SM.errF_num (HV.out f (List.mem_of_getElem? hk2))
      have hnext := SM.vr_snoc (fs.take k) f
      rw [← take_snocF hk2] at hnext
      have hcp := SM.ct_pos (fs.take k) f.1
      have hcl := SM.ct_len (fs.take k) f.1
      rw [← t2 f.1] at hcp hcl
      have hcl2 : (VM.cnt (SM.vr (fs.take k)) f.1) ≤ 1000 := by rw [List.length_take] at hcl; have := HL.out; omega
      obtain ⟨x, m, t, cs⟩ := f
      simp only at hf hnext hcp hcl2
      obtain ⟨b, o, da, dl, dc, hi, hbw, c0, c1, c2, c3, _⟩ := (H.out.below hbl.out).at_ k x m t cs hk2
      generalize SM.vr (fs.take k) = V at t1 t3 hnext hcp hcl2 ho
      have hcnt := VX.rCount _ V x wr.drew (show VX.RdV wr.drew _ V from ho.out.rdV)
      obtain ⟨u1, u2, rfl, hu2, hu3⟩ := ho.out.rd.shape
      have hwith := fun w1 (hr : VX.RdV w1 (.slice u1 V.length u2) V) => VX.rWith _ V x (VM.cnt V x + 1) w1 hr (by omega) (by omega) (by omega) (by omega)
      generalize VM.cnt V x = N at hcnt hwith hnext hcp hcl2
      have HCN := Lib.hid (show Calls Tryd.prog 49 #[.slice u1 V.length u2, .int .i64 x] wr.drew fun e w' => e = .returned (.int .i64 N) ∧ w' = wr.drew from hcnt.mono (by rintro e w1 ⟨rfl, rfl⟩; exact ⟨rfl, rfl⟩))
      have HWI := Lib.hid hwith
      have HNX := Lib.hid hnext
      have HO := Lib.hid ho.out
      have HBL := Lib.hid hbl.out
      clear hcnt hwith hnext ho hbl t1 t2 t3 hk2 hcl
      go_wp2
      refine wp_region_still_tail 14 (by kernel_rfl) (by kernel_rfl) ?_
      simp only [List.take_succ_cons, List.take_zero, List.drop_succ_cons, List.drop_zero]
      iterate 12 still_step
      still_call HCN.out
      iterate 1 still_step
      refine wpStill_nil ?_
      change wpList _ _ _ _ _ wr.drew
      have HO2 := Lib.hid (show OwnE w.heap.size wr.drew _ V from HO.out)
      have HB2 := Lib.hid HBL.out.drew
      clear c0 c1 c2 c3 hi hbw HO HBL HCN
      obtain ⟨w2, hw2⟩ : ∃ w2, wr.drew = w2 := ⟨_, rfl⟩
      rw [hw2] at HO2 HB2 ⊢
      clear hw2
      go_wp2_with fail
      refine (HWI.out _ HO2.out.rdV).mono ?_
      rintro e w3 ⟨v3, rfl, ho3, hb3⟩
      have HO3 := Lib.hid (show OwnE w.heap.size w3 v3 (SM.vr (fs.take (k + 1))) by rw [HNX.out]; exact (vx_ownE ho3).mono HB2.out.size)
      have HB3 := Lib.hid (bnext HB2.out hb3)
      clear ho3 hb3 HO2 HB2 HWI HNX
      go_wp2
      go_roundw
      case rel => exact ⟨k + 1, by omega, by go_num, HO3, HB3⟩
      case measure => simp [intOf]; omega
    · have hq : ¬ ((k : Int) < (fs.length : Int)) := by omega
      obtain rfl : k = fs.length := by omega
      rw [List.take_length] at ho
      go_wp2
      go_ret
      exact ⟨_, rfl, ho.out, hbl.out⟩

end Go.Proofs.YtdfablboenfblaaDoor.ST

namespace Go.Proofs.YtdfablboenfblaaDoor.ST
open Go.RowKit Go.Joins
open UM (Ef)
open SM (Fp)

theorem infoUp : (Tryd.prog.info? 43).map (fun i => (i.zero, i.size, i.bytes)) = some (some (.agg #[.int .i64 0, .int .i64 0, .int .i64 0, .slice none 0 0]), 4, 48) := by kernel_rfl

theorem fnd_has {fs : List Fp} {x m : Int} {i : Nat} (hs : SM.Srt fs) (ha : AtF fs x m i) : fndF fs x m i = SM.hasK fs x m := by
  cases h : fndF fs x m i with
  | true =>
    obtain ⟨f, hf, h1, h2⟩ := fnd_true h
    exact (SM.hasK_iff.2 ⟨f, List.mem_of_getElem? hf, h1, h2⟩).symm
  | false =>
    cases h3 : SM.hasK fs x m with
    | false => rfl
    | true =>
      obtain ⟨f, hf, h1, h2⟩ := SM.hasK_iff.1 h3
      exact absurd ⟨h1, h2⟩ (fnd_false hs ha h f hf)
theorem un_at {fs : List Fp} {x m t : Int} {cs : List Ef} {i : Nat} (ha : AtF fs x m i) (hf : fndF fs x m i = false) : SM.un fs [(x, m, t, cs)] = fs.take i ++ ([(x, m, t, cs)] ++ fs.drop i) :=
  SM.un_one i ha.1 (fun k y hk hki => ha.2.1 k y hk hki) (fun y hy => by
    have h1 := ha.2.2 i y hy (Nat.le_refl _)
    unfold fndF at hf
    rw [hy] at hf
    have h2 := of_decide_eq_false hf
    show 0 < UM.cmpU y.1 y.2.1 x m
    omega)

end Go.Proofs.YtdfablboenfblaaDoor.ST

namespace Go.Proofs.YtdfablboenfblaaDoor.ST
open Go.RowKit Go.Joins
open UM (Ef)
open SM (Fp)
open VM (Ent)

set_option maxRecDepth 100000 in
set_option maxHeartbeats 8000000 in
theorem rAdd (v : Value) (fs : List Fp) (x m t : Int) (sv : Value) (cs : List Ef) (w : World) (h : RdF w v fs) (hs : RdEf w sv cs) (hok : SM.Ok fs) :
    Calls Tryd.prog 31 #[v, uv x m t sv] w fun e w' => ∃ v', e = .returned (.tuple #[v', .int .i64 (SM.addU fs (x, m, t, cs)).1]) ∧ RdF w' v' (SM.addU fs (x, m, t, cs)).2 ∧ Below w.heap.size w w' := by
  obtain ⟨ad, cp, rfl, hcp, _⟩ := h.shape
  obtain ⟨da, dc, rfl, hdc, _⟩ := hs.shape
  have h9 := hok.all48
  have hb0 := below_fresh w (.cells #[.int .i64 x, .int .i64 m, .int .i64 t, .slice da cs.length dc] 43)
  have hp0 := UBox.fresh w x m t (.slice da cs.length dc)
  obtain ⟨R, hR⟩ : ∃ R, R = SM.addU fs (x, m, t, cs) := ⟨_, rfl⟩
  rw [← hR]
  have hR2 : R = if UM.errU x m t cs ≠ 0 then (UM.errU x m t cs, []) else if SM.hasK fs x m = true then (5, []) else if m ≠ SM.ct fs x + 1 then (8, []) else (0, SM.un fs [(x, m, t, cs)]) := hR
  obtain ⟨w0, hw0⟩ : ∃ w0, w.alloc (.cells #[.int .i64 x, .int .i64 m, .int .i64 t, .slice da cs.length dc] 43) = w0 := ⟨_, rfl⟩
  rw [hw0] at hb0 hp0
  have hlt0 : w.heap.size < w0.heap.size := by rw [← hw0, World.size_alloc]; exact Nat.lt_succ_self _
  have HW0 := Lib.hid hw0
  have HP0 := Lib.hid hp0
  have HB0 := Lib.hid hb0
  have H0 := Lib.hid (h.below hb0)
  have HS0 := Lib.hid (hs.below hb0)
  have hV := fun w' hh => rValU x m t (.slice da cs.length dc) cs w' (RdG.below HS0.out hh)
  have HOK := Lib.hid hok
  have HN := Lib.hid (fun h => SM.errF_num (f := (x, m, t, cs)) h)
  clear h hs hb0 hp0 hw0 hR hok
  obtain ⟨p0, p1, p2, p3⟩ := HP0.out
  by_cases hE : UM.errU x m t cs = 0
  · rw [hE] at hV
    rw [if_neg (by rw [hE]; simp)] at hR2
    have HV := Lib.hid (hV w0 (Below.refl _ _))
    obtain ⟨n1, n2, n3, n4⟩ := HN.out hE
    simp only at n1 n2 n3 n4
    have HR2 := Lib.hid hR2
    clear hV hR2 hE HN
    go_enter Tryd.func31, Tryd.ntmps31
    go_wp2_with fail
    rw [HW0.out]
    refine HV.out.mono ?_
    rintro e w1 ⟨rfl, hb1⟩
    have HP1 := Lib.hid (HP0.out.below hb1)
    have H1 := Lib.hid (H0.out.below hb1)
    have HS1 := Lib.hid (HS0.out.below hb1)
    have HB1 := Lib.hid (bnext HB0.out hb1)
    have hlt1 : w.heap.size < w1.heap.size := Nat.lt_of_lt_of_le hlt0 hb1.size
    clear p0 p1 p2 p3 HV HP0 H0 HS0 HB0 HW0 hb1 hlt0
    obtain ⟨p0, p1, p2, p3⟩ := HP1.out
    have hF := rHas _ fs x m t da cs.length dc w1 H1.out
    obtain ⟨F, hFF⟩ : ∃ F, F = SM.hasK fs x m := ⟨_, rfl⟩
    rw [← hFF] at hF
    have HF := Lib.hid hF
    have HFF := Lib.hid hFF
    clear hF hFF
    cases F
    · have HR3 := Lib.hid (show R = if m ≠ SM.ct fs x + 1 then (8, []) else (0, SM.un fs [(x, m, t, cs)]) by rw [HR2.out, if_neg (by rw [← HFF.out]; decide)])
      clear HR2 HFF
      go_wp2_with fail
      refine HF.out.mono ?_
      rintro e w2 ⟨rfl, hb2⟩
      have HP2 := Lib.hid (HP1.out.below hb2)
      have H2 := Lib.hid (H1.out.below hb2)
      have HS2 := Lib.hid (HS1.out.below hb2)
      have HB2 := Lib.hid (bnext HB1.out hb2)
      have hlt2 : w.heap.size < w2.heap.size := Nat.lt_of_lt_of_le hlt1 hb2.size
      clear p0 p1 p2 p3 HF HP1 H1 HS1 HB1 hb2 hlt1
      obtain ⟨p0, p1, p2, p3⟩ := HP2.out
      have HVEC := Lib.hid (fun w' (hh : Below w2.heap.size w2 w') => rVectorOf _ fs w' (H2.out.below hh) HOK.out.all (by omega))
      have hvs := SM.vr_spec HOK.out.all (by omega)
      have HGET := Lib.hid (fun w' v' (ho : VX.RdV w' v' (SM.vr fs)) => VX.rCount v' (SM.vr fs) x w' ho)
      have hcx := hvs.2.1 x
      have hcp0 := SM.ct_pos fs x
      have hc3 := HOK.out.ct8 x
      rw [← hcx] at hcp0 hc3 HR3
      generalize VM.cnt (SM.vr fs) x = N at HGET hcp0 hc3 HR3
      clear hcx hvs
      have hw1 : IntKind.i64.wrap (N + 1) = N + 1 := IntWalk.i64_in _ (by omega)
      go_wp2
      refine wp_region_held_drew (S := fun w' => Below w2.heap.size w2 w') (by kernel_rfl) ((Below.refl _ _).drew) (fun ha => ?_)
      replace ha : Below w2.heap.size w2 w2.drew := (Below.refl _ _).drew
      generalize w2.drew = wa at ha ⊢
      refine takeH (i := 0) (v := ?_) rfl (by kernel_rfl) (by kernel_rfl) (by kernel_rfl) (fun _ _ _ h => h) (Or.inl ⟨by rfl, ?_⟩) (by assumption) ?_
      rotate_left
      · (intro w hSw; (try dsimp only at hSw); go_simp; first | done | with_reducible rfl)
      (try simp only [Act.put, List.setIfInBounds_toArray, List.set_cons_zero, List.set_cons_succ])
      refine takeH (i := 1) (v := ?_) rfl (by kernel_rfl) (by kernel_rfl) (by kernel_rfl) (fun _ _ _ h => h) (Or.inl ⟨by rfl, ?_⟩) (by assumption) ?_
      rotate_left
      · (intro w hSw; (try dsimp only at hSw); obtain ⟨p0, p1, p2, p3⟩ := HP2.out.below hSw; go_simp; first | done | with_reducible rfl)
      (try simp only [Act.put, List.setIfInBounds_toArray, List.set_cons_zero, List.set_cons_succ])
      refine takeH (i := 2) (v := ?_) rfl (by kernel_rfl) (by kernel_rfl) (by kernel_rfl) (fun _ _ _ h => h) (Or.inl ⟨by rfl, ?_⟩) (by assumption) ?_
      rotate_left
      · (intro w hSw; (try dsimp only at hSw); go_simp; first | done | with_reducible rfl)
      (try simp only [Act.put, List.setIfInBounds_toArray, List.set_cons_zero, List.set_cons_succ])
      refine takeH (i := 4) (v := ?_) rfl (by kernel_rfl) (by kernel_rfl) (by kernel_rfl) (fun _ _ _ h => h) (Or.inl ⟨by rfl, ?_⟩) (by assumption) ?_
      rotate_left
      · (intro w hSw; (try dsimp only at hSw); go_simp; first | done | with_reducible rfl)
      (try simp only [Act.put, List.setIfInBounds_toArray, List.set_cons_zero, List.set_cons_succ])
      refine takeH (i := 5) (v := ?_) rfl (by kernel_rfl) (by kernel_rfl) (by kernel_rfl) (fun _ _ _ h => h) (Or.inl ⟨by rfl, ?_⟩) (by assumption) ?_
      rotate_left
      · (intro w hSw; (try dsimp only at hSw); obtain ⟨p0, p1, p2, p3⟩ := HP2.out.below hSw; go_simp; first | done | with_reducible rfl)
      (try simp only [Act.put, List.setIfInBounds_toArray, List.set_cons_zero, List.set_cons_succ])
      refine wpAnyH_ready (rs := [3]) (by kernel_rfl) (by simp) ?_
      refine stepH rfl (fun K hK => ?_) AllReadyH.nil
      go_simp
      refine (HVEC.out wa ha).mono ?_
      rintro e wb ⟨vb, rfl, hob, hq⟩
      have hb := bnext ha hq
      go_wp2_with fail
      refine hK.out _ _ (hb) (fun _ => ?_)
      clear hK K
      (try simp only [Act.put, List.setIfInBounds_toArray, List.set_cons_zero, List.set_cons_succ])
      refine wpAnyH_ready (rs := [6]) (by kernel_rfl) (by simp) ?_
      refine stepH rfl (fun K hK => ?_) AllReadyH.nil
      go_simp
      refine (HGET.out wb vb hob.rdV).mono ?_
      rintro e wc ⟨rfl, rfl⟩
      go_wp2_with fail
      refine hK.out _ _ (hb) (fun _ => ?_)
      clear hK K
      (try simp only [Act.put, List.setIfInBounds_toArray, List.set_cons_zero, List.set_cons_succ])
      refine takeH (i := 7) (v := ?_) rfl (by kernel_rfl) (by kernel_rfl) (by kernel_rfl) (fun _ _ _ h => h) (Or.inl ⟨by rfl, ?_⟩) (by assumption) ?_
      rotate_left
      · (intro w hSw; (try dsimp only at hSw); go_simp; first | done | with_reducible rfl)
      (try simp only [Act.put, List.setIfInBounds_toArray, List.set_cons_zero, List.set_cons_succ])
      refine takeH (i := 8) (v := ?_) rfl (by kernel_rfl) (by kernel_rfl) (by kernel_rfl) (fun _ _ _ h => h) (Or.inl ⟨by rfl, ?_⟩) (by assumption) ?_
      rotate_left
      · (intro w hSw; (try dsimp only at hSw); go_simp; first | done | with_reducible rfl)
      (try simp only [Act.put, List.setIfInBounds_toArray, List.set_cons_zero, List.set_cons_succ])
      refine takeH (i := 9) (v := ?_) rfl (by kernel_rfl) (by kernel_rfl) (by kernel_rfl) (fun _ _ _ h => h) (Or.inl ⟨by rfl, ?_⟩) (by assumption) ?_
      rotate_left
      · (intro w hSw; (try dsimp only at hSw); go_simp; first | done | with_reducible rfl)
      (try simp only [Act.put, List.setIfInBounds_toArray, List.set_cons_zero, List.set_cons_succ])
      refine wpAnyH_done (by kernel_rfl) ?_ _
      have HP3 := Lib.hid (HP2.out.below hb)
      have H3 := Lib.hid (H2.out.below hb)
      have HS3 := Lib.hid (HS2.out.below hb)
      have HB3 := Lib.hid (bnext HB2.out hb)
      have hlt3 : w.heap.size < wb.heap.size := Nat.lt_of_lt_of_le hlt2 hb.size
      clear p0 p1 p2 p3 ha hb hob HVEC HGET HP2 H2 HS2 HB2 hlt2
      obtain ⟨w3, hw3⟩ : ∃ w3, w3 = wb := ⟨_, rfl⟩
      rw [← hw3] at HP3 H3 HS3 HB3 hlt3 ⊢
      clear hw3
      by_cases hmn : m = N + 1
      · have HR4 := Lib.hid (show R = (0, SM.un fs [(x, m, t, cs)]) by rw [HR3.out, if_neg (by simpa using hmn)])
        have hne : (m != N + 1) = false := bne_f hmn
        clear HR3 hmn hw1
        have hbx := below_fresh w3 (.cells #[.int .i64 x, .int .i64 m, .int .i64 t, .slice da cs.length dc] 43)
        have hrp : RdUp (w3.alloc (.cells #[.int .i64 x, .int .i64 m, .int .i64 t, .slice da cs.length dc] 43)) (.slice (some ⟨w3.heap.size, 0, none⟩) 1 1) [(x, m, t, da, cs.length, dc)] := (ownG_fresh hlUp 43 w3 [(x, m, t, da, cs.length, dc)] (by simp [maxLen])).rd
        have HU := Lib.hid (rUnion _ _ fs [(x, m, t, cs)] _ (H3.out.below hbx) ⟨_, hrp, Tel.one ⟨rfl, rfl, rfl, HS3.out.below hbx⟩⟩ (by omega) (by simp))
        have HBX := Lib.hid (bnext HB3.out hbx)
        obtain ⟨p0, p1, p2, p3⟩ := HP3.out
        clear hbx hrp HB3 H3 HS3
        go_wp2_with fail
        refine HU.out.mono ?_
        rintro e w4 ⟨v4, rfl, hr4, hb4⟩
        have HRR := Lib.hid hr4
        have HB4 := Lib.hid (bnext HBX.out hb4)
        clear hr4 hb4 HU HBX p0 p1 p2 p3 HP3
        go_wp2
        go_ret2
        exact ⟨_, by rw [HR4.out]; rfl, by rw [HR4.out]; exact HRR.out, HB4.out⟩
      · have HR4 := Lib.hid (show R = (8, []) by rw [HR3.out, if_pos hmn])
        have hne : (m != N + 1) = true := bne_t hmn
        clear HR3 hmn hw1
        go_wp2
        go_ret2
        exact ⟨_, by rw [HR4.out]; rfl, by rw [HR4.out]; exact RdF.nil _, HB3.out⟩
    · have HR3 := Lib.hid (show R = (5, []) by rw [HR2.out, if_pos HFF.out.symm])
      clear HR2 HFF
      go_wp2_with fail
      refine HF.out.mono ?_
      rintro e w2 ⟨rfl, hb2⟩
      have HB2 := Lib.hid (bnext HB1.out hb2)
      go_wp2
      go_ret2
      exact ⟨_, by rw [HR3.out]; rfl, by rw [HR3.out]; exact RdF.nil _, HB2.out⟩
  · rw [if_pos hE] at hR2
    generalize UM.errU x m t cs = E at hV hR2 hE
    have hne : (E != 0) = true := bne_t hE
    have HV := Lib.hid (hV w0 (Below.refl _ _))
    have HVV := Lib.hid hV
    have HR2 := Lib.hid hR2
    clear hV hR2 hE HN
    go_enter Tryd.func31, Tryd.ntmps31
    go_wp2_with fail
    rw [HW0.out]
    refine HV.out.mono ?_
    rintro e w1 ⟨rfl, hb1⟩
    have HB1 := Lib.hid (bnext HB0.out hb1)
    have HV1 := Lib.hid (HVV.out w1 hb1)
    have HP1 := Lib.hid (HP0.out.below hb1)
    have hlt1 : w.heap.size < w1.heap.size := Nat.lt_of_lt_of_le hlt0 hb1.size
    clear p0 p1 p2 p3 HV HVV HP0 H0 HS0 HB0 HW0 hb1 hlt0
    obtain ⟨p0, p1, p2, p3⟩ := HP1.out
    go_wp2_with fail
    refine HV1.out.mono ?_
    rintro e w2 ⟨rfl, hb2⟩
    go_wp2
    go_ret2
    exact ⟨_, by rw [HR2.out]; rfl, by rw [HR2.out]; exact RdF.nil _, bnext HB1.out hb2⟩

end Go.Proofs.YtdfablboenfblaaDoor.ST
