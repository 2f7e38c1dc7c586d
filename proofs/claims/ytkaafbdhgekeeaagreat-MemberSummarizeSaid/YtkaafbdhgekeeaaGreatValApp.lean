/-
  The call of values.AppendNumbers: the bytes, and behind them the numbers' encodings. Conditions: the bytes and the numbers read; the numbers are from 0 to 2^31 - 1 and few; the bytes are at most 2^40.
-/
import Derived.Test.YtkaafbdhgekeeaaGreatKD
namespace Go.Proofs.YtkaafbdhgekeeaaGreat
open Go.RowKit

set_option maxRecDepth 100000 in
set_option maxHeartbeats 2000000 in
theorem cAppendNumbers (v u : Value) (bs l : List Int) (w : World) (h : Rd w v bs) (hu : RdI w u l) (hs : ∀ x ∈ l, JM.small x) (hl : l.length ≤ 1000) (hlen : bs.length ≤ 1099511627776) :
    Calls Tryz.prog 36 #[v, u] w fun e w' => ∃ v', e = .returned v' ∧ Own w.heap.size w' v' (bs ++ JM.encN l) ∧ Below w.heap.size w w' := by
  obtain ⟨ad, c, rfl, hc, hlc⟩ := hu.shape
  have HCL := Lib.hid (clone_any v bs w h hlen)
  have HU := Lib.hid hu
  have HS := Lib.hid hs
  have HL := Lib.hid hl
  have HLEN := Lib.hid hlen
  clear h hu hs hl hlen
  go_enter Tryz.func36, Tryz.ntmps36
  go_wp2_with fail
  refine HCL.out.mono ?_
  rintro e w1 ⟨v1, rfl, ho1, hb1⟩
  have HO := Lib.hid (show Own w.heap.size w1 v1 (bs ++ JM.encN (l.take 0)) by rw [List.take_zero, show JM.encN [] = [] from rfl, List.append_nil]; exact ho1)
  have HB1 := Lib.hid hb1
  clear ho1 hb1 HCL
  go_wp2
  go_loopw [5, 12] (fun u i wr => ∃ k : Nat, k ≤ l.length ∧ i = .int .i64 k ∧ Hid (Own w.heap.size wr u (bs ++ JM.encN (l.take k))) ∧ Hid (Below w.heap.size w wr)) (fun _ i _ => l.length - (intOf i).toNat)
  case atStart => exact ⟨0, Nat.zero_le _, rfl, HO, HB1⟩
  case round =>
    obtain ⟨k, hk, rfl, ho, hbl⟩ := hrel
    obtain ⟨a5, l5, c5, hv5⟩ : ∃ a l c, u5 = .slice a l c := by obtain ⟨a, c, h, _⟩ := ho.out.rd.shape; exact ⟨a, _, c, h⟩
    subst hv5
    by_cases hlt : k < l.length
    · have hq : (k : Int) < (l.length : Int) := by omega
      have hat := List.getElem?_eq_getElem hlt
      have hsm := HS.out l[k] (List.getElem_mem hlt)
      generalize l[k] = x at hat hsm
      have hsn := encN_snoc hat
      obtain ⟨b, o, hi, hbb, hcc⟩ := atI (HU.out.below hbl.out) k x hat
      obtain ⟨m, rfl, hm, hxm⟩ := small_nat hsm
      rw [hxm] at hsn
      have hub : (m : Int) < 18446744073709551616 := by omega
      have HUI := Lib.hid (fun w => wAppendUint (.slice none 0 0) [] m w (Rd.nil w) (by simp) (by omega))
      have hel2 : (bs ++ JM.encN (l.take k)).length ≤ 35184372088832 := by
        have h1 := JM.encN_len (l.take k) (fun y hy => HS.out y (List.mem_of_mem_take hy))
        rw [List.length_take] at h1
        have h2 := HL.out
        have h3 := HLEN.out
        rw [List.length_append]
        omega
      have hel := WM.enc_len10 m (by omega)
      have HSN := Lib.hid (show bs ++ JM.encN (l.take (k + 1)) = bs ++ (JM.encN (l.take k) ++ WM.enc m) by rw [hsn])
      have HEL2 := Lib.hid hel2
      clear hat hsm hsn hxm hel2
      go_wp2_with fail
      refine (HUI.out _).mono ?_
      rintro e w2 ⟨v2, rfl, ho2, hb2⟩
      have hsz : w.heap.size ≤ w2.heap.size := Nat.le_trans hbl.out.size hb2.size
      have HO2 := Lib.hid (ho.out.below hb2)
      have HB2 := Lib.hid (hbl.out.trans (hb2.mono hbl.out.size))
      have hrd := ho2.rd
      rw [List.nil_append] at hrd
      obtain ⟨a2, c2, rfl, hc2⟩ := hrd.shape
      have HRD := Lib.hid hrd
      clear ho hbl hb2 ho2 HUI hcc hi hbb hrd
      go_wp2_with (at_builtin; refine wp_appSK rfl _ _ rfl rfl HO2.out rfl HRD.out HEL2.out (by omega) hsz ?_)
      intro v3 w3 ho3 hb3 hk3
      have HO3 := Lib.hid (show Own w.heap.size w3 v3 (bs ++ JM.encN (l.take (k + 1))) by rw [HSN.out]; simpa using ho3)
      have HB3 := Lib.hid (HB2.out.trans hb3)
      clear ho3 hb3 hk3 HO2 HB2 HRD HSN HEL2
      go_wp2
      go_roundw
      case rel => exact ⟨k + 1, by omega, by go_num, HO3, HB3⟩
      case measure => simp [intOf]; omega
    · have hq : ¬ ((k : Int) < (l.length : Int)) := by omega
      have HF := Lib.hid (show Own w.heap.size wr (.slice a5 l5 c5) (bs ++ JM.encN l) by have := ho.out; rw [List.take_of_length_le (by omega)] at this; exact this)
      clear ho
      go_wp2
      go_ret
      exact ⟨_, rfl, HF.out, hbl.out⟩

end Go.Proofs.YtkaafbdhgekeeaaGreat
