/-
  The call of the reference's AppendState. Conditions: what comes in reads; the state is valid; the effects' numbers are of 64 bits. (Written by mk_sref.py.)
-/
import Derived.Test.YtdfablboenfblaaDoorQSR2
import Derived.Test.YtdfablboenfblaaDoorQUC
import Derived.Test.YtdfablboenfblaaDoorQUR
import Derived.Test.YtdfablboenfblaaDoorQKD
namespace Go.Proofs.YtdfablboenfblaaDoor.ST
open Go.RowKit Go.Joins
open UM (Ef)
open SM (Fp)
open WM (enc dec Bytes)

set_option maxRecDepth 100000 in
set_option maxHeartbeats 2000000 in
theorem rAppendC (v : Value) (bs : List Int) (u : Value) (fs : List Fp) (w : World) (h : Rd w v bs) (hu : RdF w u fs) (hok : SM.Ok fs) (hfit : SM.Fit fs) (hlen : bs.length ≤ 1000000) :
    Calls Tryd.prog 40 #[v, u] w fun e w' => ∃ v', e = .returned v' ∧ Rd w' v' (bs ++ SM.encL fs) ∧ Below w.heap.size w w' := by
  obtain ⟨ad, cp, rfl, hcp, _⟩ := hu.shape
  have h9 := hok.all48
  have hb0 := below_fresh w (.cells #[.int .i64 (fs.length : Int)] 3)
  have hri : RdI (w.alloc (.cells #[.int .i64 (fs.length : Int)] 3)) (.slice (some ⟨w.heap.size, 0, none⟩) 1 1) [(fs.length : Int)] := (ownG_fresh hlI 3 w [(fs.length : Int)] (by simp [maxLen])).rd
  have hA := rNumbers v bs _ [(fs.length : Int)] _ (h.below hb0) hri (by simp) (fun x hx => by rw [List.mem_singleton] at hx; subst hx; unfold JM.small; omega) (by omega)
  rw [show JM.encN [(fs.length : Int)] = enc fs.length by simp [JM.encN]] at hA
  have HA := Lib.hid hA
  have HB0 := Lib.hid hb0
  have HU := Lib.hid hu
  have HOK := Lib.hid hok.all
  have hel := WM.enc_len10 fs.length (by omega)
  have hfl := fun k => SM.flat_len (fs := fs.take k) (fun f hf => hok.all f (List.mem_of_mem_take hf)) (fun f hf => hfit f (List.mem_of_mem_take hf))
  have HFL := Lib.hid (show ∀ k, (bs ++ enc fs.length ++ SM.flat (fs.take k)).length ≤ 1100000 from fun k => by
    have h1 := hfl k
    rw [List.length_take] at h1
    rw [List.length_append, List.length_append]
    omega)
  have HFT := Lib.hid hfit
  clear h hu hok hel hfl hA hb0 hri hfit
  go_enter Tryd.func40, Tryd.ntmps40
  go_wp2_with fail
  refine HA.out.mono ?_
  rintro e w1 ⟨v1, rfl, ho1, hb1⟩
  have HO1 := Lib.hid ho1
  have HB1 := Lib.hid (bnext HB0.out hb1)
  clear ho1 hb1 HA HB0
  go_wp2
  go_loopw [0, 5] (fun u i wr => ∃ k : Nat, k ≤ fs.length ∧ i = .int .i64 k ∧ Hid (Rd wr u (bs ++ enc fs.length ++ SM.flat (fs.take k))) ∧ Hid (Below w.heap.size w wr)) (fun _ i _ => fs.length - (intOf i).toNat)
  case atStart => exact ⟨0, Nat.zero_le _, rfl, (by show Rd _ _ _; rw [List.take_zero]; simpa [SM.flat] using HO1.out), HB1.out⟩
  case round =>
    obtain ⟨k, hk, rfl, ho, hbl⟩ := hrel
    by_cases hlt : k < fs.length
    · have hq : (k : Int) < (fs.length : Int) := by omega
      have hk2 := List.getElem?_eq_getElem hlt
      generalize fs[k] = f at hk2
      have hsn : bs ++ enc fs.length ++ SM.flat (fs.take (k + 1)) = (bs ++ enc fs.length ++ SM.flat (fs.take k)) ++ SM.encF f := by rw [take_snocF hk2, SM.flat_snoc]; simp only [List.append_assoc]
      have hef := HOK.out f (List.mem_of_getElem? hk2)
      have hf64 := HFT.out f (List.mem_of_getElem? hk2)
      have hl1 := HFL.out k
      obtain ⟨x, m, t, cs⟩ := f
      obtain ⟨b, o, da, dl, dc, hi, hbw, c0, c1, c2, c3, hrd⟩ := (HU.out.below hbl.out).at_ k x m t cs hk2
      have HAP := Lib.hid (rAppendU _ _ x m t (.slice da dl dc) cs wr ho.out hrd hef hf64 (by omega))
      have HSN := Lib.hid hsn
      have HBX := Lib.hid hbl.out
      clear hsn hef hf64 hk2 hrd ho hbl hl1
      go_wp2_with fail
      refine HAP.out.mono ?_
      rintro e w2 ⟨v2, rfl, ho2, hb2⟩
      have HB2 := Lib.hid (bnext HBX.out hb2)
      have HO2 := Lib.hid (show Rd w2 v2 (bs ++ enc fs.length ++ SM.flat (fs.take (k + 1))) by rw [HSN.out]; exact ho2)
      clear c0 c1 c2 c3 hi hbw HAP HBX hb2 ho2 HSN
      go_wp2
      go_roundw
      case rel => exact ⟨k + 1, by omega, by go_num, HO2, HB2⟩
      case measure => simp [intOf]; omega
    · have hq : ¬ ((k : Int) < (fs.length : Int)) := by omega
      obtain rfl : k = fs.length := by omega
      rw [List.take_length, List.append_assoc] at ho
      go_wp2
      go_ret
      exact ⟨_, rfl, ho.out, hbl.out⟩

end Go.Proofs.YtdfablboenfblaaDoor.ST
