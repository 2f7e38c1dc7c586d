/-
  The call of the reference's VectorOf. Conditions: what comes in reads; the updates are valid. (Written by mk_sref.py.)
  The place of an update that is added. No conditions beyond those that each lemma names. (Written by mk_sref.py.)
  The call of the reference's AddUpdate. Conditions: what comes in reads; the state is valid. (Written by mk_sref.py.)
-/
import Derived.StillTailTactics
import Derived.Test.YtohcmbdlcnhlfaaDoorQSR1
import Derived.Test.YtohcmbdlcnhlfaaDoorQSM1
import Derived.Test.YtohcmbdlcnhlfaaDoorQKF
import Derived.Test.YtohcmbdlcnhlfaaDoorQKB
namespace Go.Proofs.YtohcmbdlcnhlfaaDoor.ST
open Go.RowKit Go.Joins
open UM (Ef)
open SM (Fp)
open VM (Ent)

theorem vo_take {fs : List Fp} (h : ∀ x ∈ fs, SM.errF x = 0) (hl : fs.length ≤ 1000) (k : Nat) : VM.Val 0 (SM.vr (fs.take k)) ∧ (∀ a, VM.cnt (SM.vr (fs.take k)) a = SM.ct (fs.take k) a) ∧ (SM.vr (fs.take k)).length ≤ 1000 := by
  have h1 := SM.vr_spec (fs := fs.take k) (fun x hx => h x (List.mem_of_mem_take hx)) (by rw [List.length_take]; omega)
  exact ⟨h1.1, h1.2.1, by have := h1.2.2; rw [List.length_take] at this; omega⟩

set_option maxRecDepth 100000 in
set_option maxHeartbeats 4000000 in
theorem rVectorOf (v : Value) (fs : List Fp) (w : World) (h : RdF w v fs) (hv : ∀ x ∈ fs, SM.errF x = 0) (hl : fs.length ≤ 1000) :
    Calls Tryd.prog 19 #[v] w fun e w' => ∃ v', e = .returned v' ∧ OwnE w.heap.size w' v' (SM.vr fs) ∧ Below w.heap.size w w' := by
  obtain ⟨ad, cp, rfl, hc, _⟩ := h.shape
  have H := Lib.hid h
  have HL := Lib.hid hl
  have HV := Lib.hid hv
  clear h hl hv
  go_enter Tryd.func19, Tryd.ntmps19
  go_wp2
  go_loopw [3, 4] (fun u i wr => ∃ k : Nat, k ≤ fs.length ∧ i = .int .i64 k ∧ Hid (OwnE w.heap.size wr u (SM.vr (fs.take k))) ∧ Hid (Below w.heap.size w wr)) (fun _ i _ => fs.length - (intOf i).toNat)
  case atStart => exact ⟨0, Nat.zero_le _, rfl, OwnG.nil hlE _ _ _, Below.refl _ _⟩
  case round =>
    obtain ⟨k, hk, rfl, ho, hbl⟩ := hrel
    by_cases hlt : k < fs.length
    · have hq : (k : Int) < (fs.length : Int) := by omega
      have hk2 := List.getElem?_eq_getElem hlt
      generalize fs[k] = f at hk2
      obtain ⟨t1, t2, t3⟩ := vo_take HV.out HL.out k
      have hf := SM.errF_num (HV.out f (List.mem_of_getElem? hk2))
      have hnext := SM.vr_snoc (fs.take k) f
      rw [← take_snocF hk2] at hnext
      have hcp := SM.ct_pos (fs.take k) f.1
      have hcl := SM.ct_len (fs.take k) f.1
      rw [← t2 f.1] at hcp hcl
      have hcl2 : (VM.cnt (SM.vr (fs.take k)) f.1) ≤ 1000 := by rw [List.length_take] at hcl; have := HL.out; omega
      obtain ⟨x, m, t, cs⟩ := f
      simp only at hf hnext hcp hcl2
      obtain ⟨b, o, da, dl, dc, hi, hbw, c0, c1, c2, c3, _⟩ := (H.out.below hbl.out).at_ k x m t cs hk2
      generalize SM.vr (fs.take k) = V at t1 t3 hnext hcp hcl2 ho
      have hcnt := VX.rCount _ V x wr.drew (show VX.RdV wr.drew _ V from ho.out.rdV)
      obtain ⟨u1, u2, rfl, hu2, hu3⟩ := ho.out.rd.shape
      have hwith := fun w1 (hr : VX.RdV w1 (.slice u1 V.length u2) V) => VX.rWith _ V x (VM.cnt V x + 1) w1 hr (by omega) (by omega) (by omega) t3
      generalize VM.cnt V x = N at hcnt hwith hnext hcp hcl2
      have HCN := Lib.hid (show Calls Tryd.prog 49 #[.slice u1 V.length u2, .int .i64 x] wr.drew fun e w' => e = .returned (.int .i64 N) ∧ w' = wr.drew from hcnt.mono (by rintro e w1 ⟨rfl, rfl⟩; exact ⟨rfl, rfl⟩))
      have HWI := Lib.hid hwith
      have HNX := Lib.hid hnext
      have HO := Lib.hid ho.out
      have HBL := Lib.hid hbl.out
      clear hcnt hwith hnext ho hbl t1 t2 t3 hk2 hcl
      go_wp2
      refine wp_region_still_tail 14 (by kernel_rfl) (by kernel_rfl) ?_
      simp only [List.take_succ_cons, List.take_zero, List.drop_succ_cons, List.drop_zero]
      iterate 12 still_step
      still_call HCN.out
      iterate 1 still_step
      refine wpStill_nil ?_
      change wpList _ _ _ _ _ wr.drew
      have HO2 := Lib.hid (show OwnE w.heap.size wr.drew _ V from HO.out)
      have HB2 := Lib.hid HBL.out.drew
      clear c0 c1 c2 c3 hi hbw HO HBL HCN
      obtain ⟨w2, hw2⟩ : ∃ w2, wr.drew = w2 := ⟨_, rfl⟩
      rw [hw2] at HO2 HB2 ⊢
      clear hw2
      go_wp2_with fail
      refine (HWI.out _ HO2.out.rdV).mono ?_
      rintro e w3 ⟨v3, rfl, ho3, hb3⟩
      have HO3 := Lib.hid (show OwnE w.heap.size w3 v3 (SM.vr (fs.take (k + 1))) by rw [HNX.out]; exact (vx_ownE ho3).mono HB2.out.size)
      have HB3 := Lib.hid (bnext HB2.out hb3)
      clear ho3 hb3 HO2 HB2 HWI HNX
      go_wp2
      go_roundw
      case rel => exact ⟨k + 1, by omega, by go_num, HO3, HB3⟩
      case measure => simp [intOf]; omega
    · have hq : ¬ ((k : Int) < (fs.length : Int)) := by omega
      obtain rfl : k = fs.length := by omega
      rw [List.take_length] at ho
      go_wp2
      go_ret
      exact ⟨_, rfl, ho.out, hbl.out⟩

end Go.Proofs.YtohcmbdlcnhlfaaDoor.ST

namespace Go.Proofs.YtohcmbdlcnhlfaaDoor.ST
open Go.RowKit Go.Joins
open UM (Ef)
open SM (Fp)

theorem infoUp : (Tryd.prog.info? 43).map (fun i => (i.zero, i.size, i.bytes)) = some (some (.agg #[.int .i64 0, .int .i64 0, .int .i64 0, .slice none 0 0]), 4, 48) := by kernel_rfl

theorem fnd_has {fs : List Fp} {x m : Int} {i : Nat} (hs : SM.Srt fs) (ha : AtF fs x m i) : fndF fs x m i = SM.hasK fs x m := by
  cases h : fndF fs x m i with
  | true =>
    obtain ⟨f, hf, h1, h2⟩ := fnd_true h
    exact (SM.hasK_iff.2 ⟨f, List.mem_of_getElem? hf, h1, h2⟩).symm
  | false =>
    cases h3 : SM.hasK fs x m with
    | false => rfl
    | true =>
      obtain ⟨f, hf, h1, h2⟩ := SM.hasK_iff.1 h3
      exact absurd ⟨h1, h2⟩ (fnd_false hs ha h f hf)
theorem un_at {fs : List Fp} {x m t : Int} {cs : List Ef} {i : Nat} (ha : AtF fs x m i) (hf : fndF fs x m i = false) : SM.un fs [(x, m, t, cs)] = fs.take i ++ ([(x, m, t, cs)] ++ fs.drop i) :=
  SM.un_one i ha.1 (fun k y hk hki => ha.2.1 k y hk hki) (fun y hy => by
    have h1 := ha.2.2 i y hy (Nat.le_refl _)
    unfold fndF at hf
    rw [hy] at hf
    have h2 := of_decide_eq_false hf
    show 0 < UM.cmpU y.1 y.2.1 x m
    omega)

end Go.Proofs.YtohcmbdlcnhlfaaDoor.ST

namespace Go.Proofs.YtohcmbdlcnhlfaaDoor.ST
open Go.RowKit Go.Joins
open UM (Ef)
open SM (Fp)
open VM (Ent)

end Go.Proofs.YtohcmbdlcnhlfaaDoor.ST
