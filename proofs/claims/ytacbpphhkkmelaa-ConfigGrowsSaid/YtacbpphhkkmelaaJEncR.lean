/-
  The calls of the reference's Numbers and AppendProposal: the bytes of the encoding. Conditions: the bytes, numbers and changes read; the numbers are from 0 to 2^31 - 1.
-/
import Derived.Test.YtacbpphhkkmelaaJEnc
namespace Go.Proofs.Ytacbpphhkkmelaa
open Go.RowKit
open JM (Chg)

set_option maxRecDepth 100000 in
set_option maxHeartbeats 2000000 in
theorem rNumbers (v : Value) (bs : List Int) (lv : Value) (l : List Int) (w : World) (h : Rd w v bs) (hl0 : RdI w lv l) (hl : l.length ≤ 1000) (hs : ∀ x ∈ l, JM.small x) (hlen : bs.length ≤ 549755813888) :
    Calls Try.prog 66 #[v, lv] w fun e w' => ∃ v', e = .returned v' ∧ Rd w' v' (bs ++ JM.encN l) ∧ Below w.heap.size w w' := by
  obtain ⟨ad, cp, rfl, hc, hll⟩ := hl0.shape
  have HG := Lib.hid hl0
  have HS := Lib.hid hs
  have HO := Lib.hid h
  have HL := Lib.hid hl
  have HLEN := Lib.hid hlen
  clear hl0 hs h hl hlen
  go_enter Try.func66, Try.ntmps66
  go_wp2
  go_loopw [0, 5] (fun u i wr => ∃ k : Nat, k ≤ l.length ∧ i = .int .i64 k ∧ Hid (Rd wr u (bs ++ JM.encN (l.take k))) ∧ Hid (Below w.heap.size w wr)) (fun _ i _ => l.length - (intOf i).toNat)
  case atStart => exact ⟨0, Nat.zero_le _, rfl, (by show Rd _ _ _; rw [List.take_zero, show JM.encN [] = [] from rfl, List.append_nil]; exact HO.out), Below.refl _ _⟩
  case round =>
    obtain ⟨k, hk, rfl, ho, hbl⟩ := hrel
    by_cases hlt : k < l.length
    · have hq : (k : Int) < (l.length : Int) := by omega
      have hat := List.getElem?_eq_getElem hlt
      have hsm := HS.out l[k] (List.getElem_mem hlt)
      generalize l[k] = x at hat hsm
      have hsn := encN_snoc hat
      obtain ⟨b, o, hi, hbb, hc⟩ := atI (HG.out.below hbl.out) k x hat
      obtain ⟨m, rfl, hm, hxm⟩ := small_nat hsm
      rw [hxm] at hsn
      have hub : (m : Int) < 18446744073709551616 := by omega
      have hel2 : (bs ++ JM.encN (l.take k)).length ≤ 1099511627776 := by
        have h1 := JM.encN_len (l.take k) (fun y hy => HS.out y (List.mem_of_mem_take hy))
        rw [List.length_take] at h1
        have h2 := HL.out
        have h3 := HLEN.out
        rw [List.length_append]
        omega
      have HU := Lib.hid (rAppendUint _ _ m wr ho.out hel2 (by omega))
      have HSN := Lib.hid (show bs ++ JM.encN (l.take (k + 1)) = bs ++ JM.encN (l.take k) ++ WM.enc m by rw [hsn, List.append_assoc])
      clear hat hsm hsn hxm hel2 ho
      go_wp2_with fail
      refine HU.out.mono ?_
      rintro e w2 ⟨v2, rfl, ho2, hb2⟩
      have HO2 := Lib.hid (show Rd w2 v2 (bs ++ JM.encN (l.take (k + 1))) by rw [HSN.out]; exact ho2.rd)
      have HB2 := Lib.hid (bnext hbl.out hb2)
      clear hbl hb2 ho2 HU hc hi hbb HSN
      go_wp2
      go_roundw
      case rel => exact ⟨k + 1, by omega, by go_num, HO2, HB2⟩
      case measure => simp [intOf]; omega
    · have hq : ¬ ((k : Int) < (l.length : Int)) := by omega
      obtain rfl : k = l.length := by omega
      rw [List.take_length] at ho
      go_wp2
      go_ret
      exact ⟨_, rfl, ho.out, hbl.out⟩

set_option maxRecDepth 100000 in
set_option maxHeartbeats 4000000 in
theorem rAppendP (v : Value) (bs : List Int) (a n : Int) (u : Value) (cs : List Chg) (w : World) (h : Rd w v bs) (hu : RdC w u cs) (he : JM.errP a n cs = 0) (hlen : bs.length ≤ 1073741824) :
    Calls Try.prog 67 #[v, pv a n u] w fun e w' => ∃ v', e = .returned v' ∧ Rd w' v' (bs ++ JM.encP a n cs) ∧ Below w.heap.size w w' := by
  obtain ⟨ad, cp, rfl, hc, hl⟩ := hu.shape
  have hsm := JM.head_small he
  obtain ⟨_, _, h6, _, hsc⟩ := JM.errP_small he
  have hb0 := below_fresh w (.cells #[.int .i64 a, .int .i64 n, .slice ad cs.length cp] 45)
  have HP0 := Lib.hid (PBox.fresh w a n (.slice ad cs.length cp))
  have HC0 := Lib.hid (hu.below hb0)
  have HB0 := Lib.hid hb0
  have hsz := World.size_alloc w (.cells #[.int .i64 a, .int .i64 n, .slice ad cs.length cp] 45)
  have hv0 := h.below hb0
  generalize hw0 : w.alloc (.cells #[.int .i64 a, .int .i64 n, .slice ad cs.length cp] 45) = w0 at HP0 HC0 HB0 hsz hv0
  have HW0 := Lib.hid hw0
  have HSZ := Lib.hid hsz
  have hf := below_fresh w0 (.cells #[.int .i64 a, .int .i64 n, .int .i64 (cs.length : Int)] 3)
  have hg : RdI (w0.alloc (.cells #[.int .i64 a, .int .i64 n, .int .i64 (cs.length : Int)] 3)) (.slice (some ⟨w.heap.size + 1, 0, none⟩) 3 3) [a, n, (cs.length : Int)] := by
    rw [← hsz]; exact (ownG_fresh hlI 3 w0 [a, n, (cs.length : Int)] (by simp [maxLen])).rd
  have HN := Lib.hid (rNumbers v bs _ _ _ (hv0.below hf) hg (by simp) hsm (by omega))
  have hh := JM.encN_len _ hsm
  have hall : ∀ k, k ≤ cs.length → (bs ++ JM.encN [a, n, (cs.length : Int)] ++ JM.encCs (cs.take k)).length ≤ 549755813888 := by
    intro k hk
    have h1 := JM.encCs_len (cs.take k) (fun y hy => hsc y (List.mem_of_mem_take hy))
    rw [List.length_take] at h1
    rw [List.length_append, List.length_append]
    simp only [List.length_cons, List.length_nil] at hh
    omega
  have HALL := Lib.hid hall
  have HSC := Lib.hid hsc
  have HF := Lib.hid hf
  obtain ⟨p0, p1, p2⟩ := HP0.out
  clear h hu he hsm hsc hb0 hw0 hlen hh hall hsz hv0 hf hg
  go_enter Try.func67, Try.ntmps67
  go_wp2_with fail
  rw [HW0.out]
  refine HN.out.mono ?_
  rintro e w1 ⟨v1, rfl, ho1, hb1⟩
  have HO1 := Lib.hid ho1
  have HB1 := Lib.hid (bnext HF.out hb1)
  clear p0 p1 p2 HN ho1 hb1 HSZ HF
  go_wp2
  go_loopw [0, 5] (fun u i wr => ∃ k : Nat, k ≤ cs.length ∧ i = .int .i64 k ∧ Hid (Rd wr u (bs ++ JM.encN [a, n, (cs.length : Int)] ++ JM.encCs (cs.take k))) ∧ Hid (Below w0.heap.size w0 wr)) (fun _ i _ => cs.length - (intOf i).toNat)
  case atStart => exact ⟨0, Nat.zero_le _, rfl, (by show Rd _ _ _; rw [List.take_zero, show JM.encCs [] = [] from rfl, List.append_nil]; exact HO1.out), HB1.out⟩
  case round =>
    obtain ⟨k, hk, rfl, ho, hbl⟩ := hrel
    obtain ⟨p0, p1, p2⟩ := HP0.out.below hbl.out
    by_cases hlt : k < cs.length
    · have hq : (k : Int) < (cs.length : Int) := by omega
      have hat := List.getElem?_eq_getElem hlt
      have hsm := HSC.out cs[k] (List.getElem_mem hlt)
      generalize cs[k] = y at hat hsm
      obtain ⟨k', s', t', v', a', b', c'⟩ := y
      obtain ⟨b, o, hi, hbb, d0, d1, d2, d3, d4, d5, d6⟩ := atC (HC0.out.below hbl.out) k _ _ _ _ _ _ _ hat
      have hsn : JM.encCs (cs.take (k + 1)) = JM.encCs (cs.take k) ++ JM.encN [k', s', t', v', a', b', c'] := encCs_snoc hat
      have hal := HALL.out k hk
      have HSN := Lib.hid hsn
      have hbn := below_fresh wr (.cells #[.int .i64 k', .int .i64 s', .int .i64 t', .int .i64 v', .int .i64 a', .int .i64 b', .int .i64 c'] 63)
      have hcb := CBox.fresh wr k' s' t' v' a' b' c'
      have hsz := World.size_alloc wr (.cells #[.int .i64 k', .int .i64 s', .int .i64 t', .int .i64 v', .int .i64 a', .int .i64 b', .int .i64 c'] 63)
      generalize hwc : wr.alloc (.cells #[.int .i64 k', .int .i64 s', .int .i64 t', .int .i64 v', .int .i64 a', .int .i64 b', .int .i64 c'] 63) = wc at hbn hcb hsz
      have HWC := Lib.hid hwc
      have hf := below_fresh wc (.cells #[.int .i64 k', .int .i64 s', .int .i64 t', .int .i64 v', .int .i64 a', .int .i64 b', .int .i64 c'] 3)
      have hg : RdI (wc.alloc (.cells #[.int .i64 k', .int .i64 s', .int .i64 t', .int .i64 v', .int .i64 a', .int .i64 b', .int .i64 c'] 3)) (.slice (some ⟨wr.heap.size + 1, 0, none⟩) 7 7) [k', s', t', v', a', b', c'] := by
        rw [← hsz]; exact (ownG_fresh hlI 3 wc [k', s', t', v', a', b', c'] (by simp [maxLen])).rd
      have HN := Lib.hid (rNumbers _ _ _ _ _ ((ho.out.below hbn).below hf) hg (by simp) hsm hal)
      have HBC := Lib.hid (bnext (bnext hbl.out hbn) hf)
      obtain ⟨x0, x1, x2, x3, x4, x5, x6⟩ := hcb
      clear hat hsm hsn hal hbn hsz hwc ho hbl hf hg
      go_wp2_with fail
      rw [HWC.out]
      refine HN.out.mono ?_
      rintro e w4 ⟨v4, rfl, ho4, hb4⟩
      have HO4 := Lib.hid (show Rd w4 v4 (bs ++ JM.encN [a, n, (cs.length : Int)] ++ JM.encCs (cs.take (k + 1))) by
        rw [HSN.out]; rw [List.append_assoc] at ho4; simpa only [List.append_assoc] using ho4)
      have HB4 := Lib.hid (bnext HBC.out hb4)
      clear x0 x1 x2 x3 x4 x5 x6 p0 p1 p2 ho4 hb4 HN HBC
      go_wp2
      go_roundw
      case rel => exact ⟨k + 1, by omega, by go_num, HO4, HB4⟩
      case measure => simp [intOf]; omega
    · have hq : ¬ ((k : Int) < (cs.length : Int)) := by omega
      obtain rfl : k = cs.length := by omega
      rw [List.take_length, List.append_assoc] at ho
      go_wp2
      go_ret
      exact ⟨_, rfl, ho.out, bnext HB0.out hbl.out⟩

end Go.Proofs.Ytacbpphhkkmelaa
