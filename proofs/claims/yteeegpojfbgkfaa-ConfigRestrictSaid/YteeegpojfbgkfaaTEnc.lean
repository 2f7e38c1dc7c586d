/-
  The call of sets.Append: the number of elements, then each of them. Conditions: what comes in reads; the set is valid. (Written by mk_sets.py.)
-/
import Derived.Test.YteeegpojfbgkfaaTBas
import Derived.Test.YteeegpojfbgkfaaCEnc
import Derived.Test.YteeegpojfbgkfaaJEn6
namespace Go.Proofs.Yteeegpojfbgkfaa
open Go.RowKit
open JM (Chg)
open CM (Fp)
open VM (Ent)
open WM (enc dec Bytes)

theorem KB.keepB {w w' : World} {K : Nat} (h : KB w K) (hk : KeepsX 5 w w') : KB w' K := hk.at h (by decide)

set_option maxRecDepth 100000 in
set_option maxHeartbeats 2000000 in
theorem sAppend (v : Value) (bs : List Int) (u : Value) (fs : List Fp) (w : World) (h : Rd w v bs) (hu : RdF w u fs) (hok : CM.Ok fs) (hlen : bs.length ≤ 1000000) :
    Calls Try.prog 63 #[(.agg #[.func (.func 70) #[] #[], .func (.func 71) #[] #[], .func (.func 72) #[] #[], .func (.func 73) #[] #[], .func (.func 55) #[] #[], .func (.func 74) #[] #[], .func (.func 75) #[] #[], .func (.func 76) #[] #[], .int .i64 9]), v, u] w fun e w' => ∃ v', e = .returned v' ∧ Own w.heap.size w' v' (bs ++ CM.encL fs) ∧ Below w.heap.size w w' := by
  obtain ⟨ad, cp, rfl, hcp, _⟩ := hu.shape
  have h9 := hok.nine
  obtain ⟨w0, HX⟩ := kone w
  have HW := Lib.hid HX.eq
  have HB0 := Lib.hid HX.below
  have HK0 := Lib.hid HX.k
  obtain ⟨K, hK⟩ : ∃ K, w.heap.size = K := ⟨_, rfl⟩
  rw [hK] at HK0
  have HKE := Lib.hid hK
  have HA := Lib.hid (wAppendUint v bs fs.length w0 (h.below HX.below) (by omega) (by omega))
  have HU := Lib.hid hu
  have HOK := Lib.hid hok.all
  have hel := WM.enc_len10 fs.length (by omega)
  have hfl := fun k => CM.flat_len (fs := fs.take k) (fun f hf => hok.all f (List.mem_of_mem_take hf))
  have HFL := Lib.hid (show ∀ k, (bs ++ enc fs.length ++ CM.flat (fs.take k)).length ≤ 1100000 from fun k => by
    have h1 := hfl k
    rw [List.length_take] at h1
    rw [List.length_append, List.length_append]
    omega)
  clear h hu hok hel hfl HX hK
  go_enter Try.func63, Try.ntmps63
  go_upto_region 1 with fail
  rw [HW.out, HKE.out]
  clear HW
  go_wp2_with fail
  refine HA.out.mono ?_
  rintro e w1 ⟨v1, rfl, ho1, hb1⟩
  have HO1 := Lib.hid (ho1.mono HB0.out.size)
  have HB1 := Lib.hid (bnext HB0.out hb1)
  have HK1 := Lib.hid (HK0.out.below hb1)
  clear ho1 hb1 HA HB0 HK0
  go_wp2
  go_loopw [7, 17] (fun u i wr => ∃ k : Nat, k ≤ fs.length ∧ i = .int .i64 k ∧ Hid (Own w.heap.size wr u (bs ++ enc fs.length ++ CM.flat (fs.take k))) ∧ Hid (KB wr K) ∧ Hid (Below w.heap.size w wr)) (fun _ i _ => fs.length - (intOf i).toNat)
  case atStart => exact ⟨0, Nat.zero_le _, rfl, (by show Own _ _ _ _; rw [List.take_zero]; simpa [CM.flat] using HO1.out), HK1.out, HB1.out⟩
  case round =>
    obtain ⟨k, hk, rfl, ho, hkb, hbl⟩ := hrel
    clear HO1 HB1 HK1
    by_cases hlt : k < fs.length
    · have hq : (k : Int) < (fs.length : Int) := by omega
      have hk2 := List.getElem?_eq_getElem hlt
      generalize fs[k] = f at hk2
      have hsn : bs ++ enc fs.length ++ CM.flat (fs.take (k + 1)) = (bs ++ enc fs.length ++ CM.flat (fs.take k)) ++ CM.encF f := by rw [take_snocF hk2, CM.flat_snoc]; simp only [List.append_assoc]
      have hef := HOK.out f (List.mem_of_getElem? hk2)
      have hl2 := CM.encF_len hef
      have hl1 := HFL.out k
      obtain ⟨x, m, cs⟩ := f
      obtain ⟨b, o, da, dl, dc, hi, hbw, c0, c1, c2, hrd⟩ := (HU.out.below hbl.out).atS k x m cs hk2
      obtain ⟨wx, HX⟩ := eone wr x m (.slice da dl dc)
      have hap := cAppend (.slice none 0 0) [] x m (.slice da dl dc) cs wx (Rd.nil _) (hrd.below HX.below) hef (by simp)
      rw [List.nil_append] at hap
      have HAP := Lib.hid hap
      have HWX := Lib.hid HX.eq
      have HOX := Lib.hid (ho.out.below HX.below)
      have HBX := Lib.hid (bnext hbl.out HX.below)
      have HKX := Lib.hid (hkb.out.below HX.below)
      have HPX := Lib.hid HX.e
      obtain ⟨B, hB⟩ : ∃ B, wr.heap.size = B := ⟨_, rfl⟩
      rw [hB] at HPX
      have HBE := Lib.hid hB
      have HSN := Lib.hid hsn
      have HE : Hid (CM.encF (x, m, cs) = JM.encP x m cs) := rfl
      obtain ⟨p0, p1, p2, _⟩ := HPX.out.cells
      obtain ⟨_, _, _, _, _, _, j6, _⟩ := HKX.out.cells
      generalize (bs ++ enc fs.length ++ CM.flat (fs.take k)) = E at HOX HSN hl1
      clear HX hap hsn hef hk2 hrd ho hbl hkb hB
      go_upto_region 5 with fail
      rw [HWX.out, HBE.out]
      go_wp2_with fail
      refine HAP.out.mono ?_
      rintro e w2 ⟨v2, rfl, ho2, hb2⟩
      have hoe := HOX.out.below hb2
      have HB2 := Lib.hid (bnext HBX.out hb2)
      have hs2 := HB2.out.size
      have HK2 := Lib.hid (HKX.out.below hb2)
      have hr2 := ho2.rd
      rw [← HE.out] at hr2
      have hl1' : E.length ≤ 35184372088832 := by omega
      have hl2' : (CM.encF (x, m, cs)).length ≤ 35184372088832 := by omega
      clear c0 c1 c2 hi hbw p0 p1 p2 j6 HAP HWX HOX HBX HKX HPX hb2 ho2 hl1 hl2
      go_wp2_with (at_builtin; refine wp_appSK rfl _ _ rfl rfl hoe rfl hr2 hl1' hl2' hs2 ?_)
      intro v3 w3 ho3 hb3 hk3
      have HK3 := Lib.hid (HK2.out.keepB hk3)
      have HO3 := Lib.hid (show Own w.heap.size w3 v3 (bs ++ enc fs.length ++ CM.flat (fs.take (k + 1))) by rw [HSN.out]; exact ho3)
      have HB3 := Lib.hid (HB2.out.trans hb3)
      clear hoe hr2 ho3 hb3 hk3 HK2 HB2 hs2 HSN
      go_wp2
      go_roundw
      case rel => exact ⟨k + 1, by omega, by go_num, HO3, HK3, HB3⟩
      case measure => simp [intOf]; omega
    · have hq : ¬ ((k : Int) < (fs.length : Int)) := by omega
      obtain rfl : k = fs.length := by omega
      rw [List.take_length, List.append_assoc] at ho
      go_wp2
      go_ret
      exact ⟨_, rfl, ho.out, hbl.out⟩

end Go.Proofs.Yteeegpojfbgkfaa
