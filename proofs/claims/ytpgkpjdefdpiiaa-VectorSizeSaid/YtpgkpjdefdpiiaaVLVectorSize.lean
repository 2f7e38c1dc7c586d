/-
  The walk of the law VectorSize: it returns true. No conditions beyond that the arguments read as data.
-/
import Derived.Test.YtpgkpjdefdpiiaaVLaws
namespace Go.Proofs.Ytpgkpjdefdpiiaa
open Go.RowKit
open VM (Ent)

set_option maxRecDepth 100000 in
set_option maxHeartbeats 4000000 in
theorem lVectorSize (va vb : Value) (xs ys : List Ent) (w : World) (ha : RdV w va xs) (hb : RdV w vb ys) :
    Calls Try.prog 9 #[va, vb] w fun e w' => e = .returned (.bool true) ∧ Below w.heap.size w w' := by
  obtain ⟨aa, ca, rfl, hca, hla⟩ := ha.shape
  obtain ⟨ab, cb, rfl, hcb, hlb⟩ := hb.shape
  have hn := below_fresh w (.cells #[.slice aa xs.length ca, .slice ab ys.length cb] 23)
  have hv := rValid w.heap.size 2 [.slice aa xs.length ca, .slice ab ys.length cb] [xs, ys] _ rfl (cells_fresh w [.slice aa xs.length ca, .slice ab ys.length cb] 23) (.cons (ha.below hn) (.cons (hb.below hn) .nil)) (by decide)
  have HL := Lib.hid hn
  have HA := Lib.hid (ha.below hn)
  have HB := Lib.hid (hb.below hn)
  clear hn ha hb
  by_cases hg : [xs, ys].all good = true
  · rw [hg] at hv
    simp only [List.all_cons, List.all_nil, Bool.and_true, Bool.and_eq_true, good_iff] at hg
    obtain ⟨⟨ga, xa⟩, ⟨gb, xb⟩⟩ := hg
    have XA := Lib.hid xa
    have XB := Lib.hid xb
    clear xa xb
    have HJ := Lib.hid (jnV XA.out XB.out)
    have HM := Lib.hid (mtV XA.out XB.out)
    have hjl := VM.jn_length xs ys
    have hml := VM.mt_length xs ys
    have hsum := VM.size_sum XA.out XB.out
    obtain ⟨s, hs⟩ : ∃ s, VM.size xs = s := ⟨_, rfl⟩
    obtain ⟨t, ht⟩ : ∃ t, VM.size ys = t := ⟨_, rfl⟩
    obtain ⟨p, hp⟩ : ∃ p, VM.size (VM.jn xs ys) = p := ⟨_, rfl⟩
    obtain ⟨q, hq⟩ : ∃ q, VM.size (VM.mt xs ys) = q := ⟨_, rfl⟩
    have b1 := VM.size_bound XA.out
    have b2 := VM.size_bound XB.out
    have b3 := VM.size_bound HJ.out
    have b4 := VM.size_bound HM.out
    rw [hs] at b1
    rw [ht] at b2
    rw [hp] at b3
    rw [hq] at b4
    rw [hs, ht, hp, hq] at hsum
    have b1' : 0 ≤ s ∧ s ≤ 1000000000 := by omega
    have b2' : 0 ≤ t ∧ t ≤ 1000000000 := by omega
    have b3' : 0 ≤ p ∧ p ≤ 1000000000 := by omega
    have b4' : 0 ≤ q ∧ q ≤ 1000000000 := by omega
    obtain ⟨s0, s1⟩ := b1'
    obtain ⟨t0, t1⟩ := b2'
    obtain ⟨p0, p1⟩ := b3'
    obtain ⟨q0, q1⟩ := b4'
    have HSs := Lib.hid hs
    have HSt := Lib.hid ht
    have HSp := Lib.hid hp
    have HSq := Lib.hid hq
    have hne : ((p + q) != (s + t)) = false := by simpa using hsum
    have HLE := Lib.hid (VM.size_le XA.out XB.out)
    clear b1 b2 b3 b4 hs ht hp hq hsum
    cases hz : VM.le xs ys with
    | false =>
      have HZ := Lib.hid hz
      clear hz
      go_enter Try.func9, Try.ntmps9
      have hc := hv
      go_wp2_with fail
      refine hc.mono ?_
      rintro e w1 ⟨rfl, hb⟩
      replace HL := Lib.hid (HL.out.trans (hb.mono HL.out.size))
      replace HA := Lib.hid (HA.out.below hb)
      replace HB := Lib.hid (HB.out.below hb)
      clear hc hb
      clear hv
      have hc := wSizeB _ xs s _ HA.out XA.out (by omega) HSs.out
      go_wp2_with fail
      refine hc.mono ?_
      rintro e w2 ⟨rfl, hb⟩
      replace HL := Lib.hid (HL.out.trans (hb.mono HL.out.size))
      replace HA := Lib.hid (HA.out.below hb)
      replace HB := Lib.hid (HB.out.below hb)
      clear hc hb
      have hc := rSizeB _ xs s _ HA.out XA.out (by omega) HSs.out
      go_wp2_with fail
      refine hc.mono ?_
      rintro e w3 ⟨rfl, hb⟩
      replace HL := Lib.hid (HL.out.trans (hb.mono HL.out.size))
      replace HA := Lib.hid (HA.out.below hb)
      replace HB := Lib.hid (HB.out.below hb)
      clear hc hb
      have hc := wJoin _ _ xs ys _ HA.out HB.out (by omega)
      go_wp2_with fail
      refine hc.mono ?_
      rintro e w4 ⟨vP, rfl, ho, hb⟩
      replace HL := Lib.hid (HL.out.trans (hb.mono HL.out.size))
      replace HA := Lib.hid (HA.out.below hb)
      replace HB := Lib.hid (HB.out.below hb)
      have HP := Lib.hid ho.rd
      clear hc hb ho
      have hc := wSizeB _ _ p _ HP.out HJ.out (by omega) HSp.out
      go_wp2_with fail
      refine hc.mono ?_
      rintro e w5 ⟨rfl, hb⟩
      replace HL := Lib.hid (HL.out.trans (hb.mono HL.out.size))
      clear HP
      replace HA := Lib.hid (HA.out.below hb)
      replace HB := Lib.hid (HB.out.below hb)
      clear hc hb
      have hc := wMeet _ _ xs ys _ HA.out HB.out (by omega)
      go_wp2_with fail
      refine hc.mono ?_
      rintro e w6 ⟨vP, rfl, ho, hb⟩
      replace HL := Lib.hid (HL.out.trans (hb.mono HL.out.size))
      replace HA := Lib.hid (HA.out.below hb)
      replace HB := Lib.hid (HB.out.below hb)
      have HP := Lib.hid ho.rd
      clear hc hb ho
      have hc := wSizeB _ _ q _ HP.out HM.out (by omega) HSq.out
      go_wp2_with fail
      refine hc.mono ?_
      rintro e w7 ⟨rfl, hb⟩
      replace HL := Lib.hid (HL.out.trans (hb.mono HL.out.size))
      clear HP
      replace HA := Lib.hid (HA.out.below hb)
      replace HB := Lib.hid (HB.out.below hb)
      clear hc hb
      have hc := wSizeB _ xs s _ HA.out XA.out (by omega) HSs.out
      go_wp2_with fail
      refine hc.mono ?_
      rintro e w8 ⟨rfl, hb⟩
      replace HL := Lib.hid (HL.out.trans (hb.mono HL.out.size))
      replace HA := Lib.hid (HA.out.below hb)
      replace HB := Lib.hid (HB.out.below hb)
      clear hc hb
      have hc := wSizeB _ ys t _ HB.out XB.out (by omega) HSt.out
      go_wp2_with fail
      refine hc.mono ?_
      rintro e w9 ⟨rfl, hb⟩
      replace HL := Lib.hid (HL.out.trans (hb.mono HL.out.size))
      replace HA := Lib.hid (HA.out.below hb)
      replace HB := Lib.hid (HB.out.below hb)
      clear hc hb
      have hc := rLe _ _ _ _ _ false HA.out HB.out HZ.out
      go_wp2_with fail
      refine hc.mono ?_
      rintro e w10 ⟨rfl, hb⟩
      replace HL := Lib.hid (HL.out.trans (hb.mono HL.out.size))
      replace HA := Lib.hid (HA.out.below hb)
      replace HB := Lib.hid (HB.out.below hb)
      clear hc hb
      have hc := awakeAt HL
      go_wp2_with fail
      refine hc.mono ?_
      rintro e w11 ⟨rfl, hb⟩
      replace HL := Lib.hid (HL.out.trans (hb.mono HL.out.size))
      clear HA HB
      clear hc hb
      go_wp2
      go_ret
      exact ⟨rfl, HL.out⟩
    | true =>
      have HZ := Lib.hid hz
      have hor := HLE.out hz
      rw [HSs.out, HSt.out] at hor
      clear hz
      by_cases hlt : s < t
      · clear hor
        go_enter Try.func9, Try.ntmps9
        have hc := hv
        go_wp2_with fail
        refine hc.mono ?_
        rintro e w1 ⟨rfl, hb⟩
        replace HL := Lib.hid (HL.out.trans (hb.mono HL.out.size))
        replace HA := Lib.hid (HA.out.below hb)
        replace HB := Lib.hid (HB.out.below hb)
        clear hc hb
        clear hv
        have hc := wSizeB _ xs s _ HA.out XA.out (by omega) HSs.out
        go_wp2_with fail
        refine hc.mono ?_
        rintro e w2 ⟨rfl, hb⟩
        replace HL := Lib.hid (HL.out.trans (hb.mono HL.out.size))
        replace HA := Lib.hid (HA.out.below hb)
        replace HB := Lib.hid (HB.out.below hb)
        clear hc hb
        have hc := rSizeB _ xs s _ HA.out XA.out (by omega) HSs.out
        go_wp2_with fail
        refine hc.mono ?_
        rintro e w3 ⟨rfl, hb⟩
        replace HL := Lib.hid (HL.out.trans (hb.mono HL.out.size))
        replace HA := Lib.hid (HA.out.below hb)
        replace HB := Lib.hid (HB.out.below hb)
        clear hc hb
        have hc := wJoin _ _ xs ys _ HA.out HB.out (by omega)
        go_wp2_with fail
        refine hc.mono ?_
        rintro e w4 ⟨vP, rfl, ho, hb⟩
        replace HL := Lib.hid (HL.out.trans (hb.mono HL.out.size))
        replace HA := Lib.hid (HA.out.below hb)
        replace HB := Lib.hid (HB.out.below hb)
        have HP := Lib.hid ho.rd
        clear hc hb ho
        have hc := wSizeB _ _ p _ HP.out HJ.out (by omega) HSp.out
        go_wp2_with fail
        refine hc.mono ?_
        rintro e w5 ⟨rfl, hb⟩
        replace HL := Lib.hid (HL.out.trans (hb.mono HL.out.size))
        clear HP
        replace HA := Lib.hid (HA.out.below hb)
        replace HB := Lib.hid (HB.out.below hb)
        clear hc hb
        have hc := wMeet _ _ xs ys _ HA.out HB.out (by omega)
        go_wp2_with fail
        refine hc.mono ?_
        rintro e w6 ⟨vP, rfl, ho, hb⟩
        replace HL := Lib.hid (HL.out.trans (hb.mono HL.out.size))
        replace HA := Lib.hid (HA.out.below hb)
        replace HB := Lib.hid (HB.out.below hb)
        have HP := Lib.hid ho.rd
        clear hc hb ho
        have hc := wSizeB _ _ q _ HP.out HM.out (by omega) HSq.out
        go_wp2_with fail
        refine hc.mono ?_
        rintro e w7 ⟨rfl, hb⟩
        replace HL := Lib.hid (HL.out.trans (hb.mono HL.out.size))
        clear HP
        replace HA := Lib.hid (HA.out.below hb)
        replace HB := Lib.hid (HB.out.below hb)
        clear hc hb
        have hc := wSizeB _ xs s _ HA.out XA.out (by omega) HSs.out
        go_wp2_with fail
        refine hc.mono ?_
        rintro e w8 ⟨rfl, hb⟩
        replace HL := Lib.hid (HL.out.trans (hb.mono HL.out.size))
        replace HA := Lib.hid (HA.out.below hb)
        replace HB := Lib.hid (HB.out.below hb)
        clear hc hb
        have hc := wSizeB _ ys t _ HB.out XB.out (by omega) HSt.out
        go_wp2_with fail
        refine hc.mono ?_
        rintro e w9 ⟨rfl, hb⟩
        replace HL := Lib.hid (HL.out.trans (hb.mono HL.out.size))
        replace HA := Lib.hid (HA.out.below hb)
        replace HB := Lib.hid (HB.out.below hb)
        clear hc hb
        have hc := rLe _ _ _ _ _ true HA.out HB.out HZ.out
        go_wp2_with fail
        refine hc.mono ?_
        rintro e w10 ⟨rfl, hb⟩
        replace HL := Lib.hid (HL.out.trans (hb.mono HL.out.size))
        replace HA := Lib.hid (HA.out.below hb)
        replace HB := Lib.hid (HB.out.below hb)
        clear hc hb
        have hc := wSizeB _ xs s _ HA.out XA.out (by omega) HSs.out
        go_wp2_with fail
        refine hc.mono ?_
        rintro e w11 ⟨rfl, hb⟩
        replace HL := Lib.hid (HL.out.trans (hb.mono HL.out.size))
        replace HA := Lib.hid (HA.out.below hb)
        replace HB := Lib.hid (HB.out.below hb)
        clear hc hb
        have hc := wSizeB _ ys t _ HB.out XB.out (by omega) HSt.out
        go_wp2_with fail
        refine hc.mono ?_
        rintro e w12 ⟨rfl, hb⟩
        replace HL := Lib.hid (HL.out.trans (hb.mono HL.out.size))
        replace HA := Lib.hid (HA.out.below hb)
        replace HB := Lib.hid (HB.out.below hb)
        clear hc hb
        have hc := awakeAt HL
        go_wp2_with fail
        refine hc.mono ?_
        rintro e w13 ⟨rfl, hb⟩
        replace HL := Lib.hid (HL.out.trans (hb.mono HL.out.size))
        clear HA HB
        clear hc hb
        go_wp2
        go_ret
        exact ⟨rfl, HL.out⟩
      · have HEQ := Lib.hid (show xs = ys from hor.resolve_left hlt)
        clear hor
        go_enter Try.func9, Try.ntmps9
        have hc := hv
        go_wp2_with fail
        refine hc.mono ?_
        rintro e w1 ⟨rfl, hb⟩
        replace HL := Lib.hid (HL.out.trans (hb.mono HL.out.size))
        replace HA := Lib.hid (HA.out.below hb)
        replace HB := Lib.hid (HB.out.below hb)
        clear hc hb
        clear hv
        have hc := wSizeB _ xs s _ HA.out XA.out (by omega) HSs.out
        go_wp2_with fail
        refine hc.mono ?_
        rintro e w2 ⟨rfl, hb⟩
        replace HL := Lib.hid (HL.out.trans (hb.mono HL.out.size))
        replace HA := Lib.hid (HA.out.below hb)
        replace HB := Lib.hid (HB.out.below hb)
        clear hc hb
        have hc := rSizeB _ xs s _ HA.out XA.out (by omega) HSs.out
        go_wp2_with fail
        refine hc.mono ?_
        rintro e w3 ⟨rfl, hb⟩
        replace HL := Lib.hid (HL.out.trans (hb.mono HL.out.size))
        replace HA := Lib.hid (HA.out.below hb)
        replace HB := Lib.hid (HB.out.below hb)
        clear hc hb
        have hc := wJoin _ _ xs ys _ HA.out HB.out (by omega)
        go_wp2_with fail
        refine hc.mono ?_
        rintro e w4 ⟨vP, rfl, ho, hb⟩
        replace HL := Lib.hid (HL.out.trans (hb.mono HL.out.size))
        replace HA := Lib.hid (HA.out.below hb)
        replace HB := Lib.hid (HB.out.below hb)
        have HP := Lib.hid ho.rd
        clear hc hb ho
        have hc := wSizeB _ _ p _ HP.out HJ.out (by omega) HSp.out
        go_wp2_with fail
        refine hc.mono ?_
        rintro e w5 ⟨rfl, hb⟩
        replace HL := Lib.hid (HL.out.trans (hb.mono HL.out.size))
        clear HP
        replace HA := Lib.hid (HA.out.below hb)
        replace HB := Lib.hid (HB.out.below hb)
        clear hc hb
        have hc := wMeet _ _ xs ys _ HA.out HB.out (by omega)
        go_wp2_with fail
        refine hc.mono ?_
        rintro e w6 ⟨vP, rfl, ho, hb⟩
        replace HL := Lib.hid (HL.out.trans (hb.mono HL.out.size))
        replace HA := Lib.hid (HA.out.below hb)
        replace HB := Lib.hid (HB.out.below hb)
        have HP := Lib.hid ho.rd
        clear hc hb ho
        have hc := wSizeB _ _ q _ HP.out HM.out (by omega) HSq.out
        go_wp2_with fail
        refine hc.mono ?_
        rintro e w7 ⟨rfl, hb⟩
        replace HL := Lib.hid (HL.out.trans (hb.mono HL.out.size))
        clear HP
        replace HA := Lib.hid (HA.out.below hb)
        replace HB := Lib.hid (HB.out.below hb)
        clear hc hb
        have hc := wSizeB _ xs s _ HA.out XA.out (by omega) HSs.out
        go_wp2_with fail
        refine hc.mono ?_
        rintro e w8 ⟨rfl, hb⟩
        replace HL := Lib.hid (HL.out.trans (hb.mono HL.out.size))
        replace HA := Lib.hid (HA.out.below hb)
        replace HB := Lib.hid (HB.out.below hb)
        clear hc hb
        have hc := wSizeB _ ys t _ HB.out XB.out (by omega) HSt.out
        go_wp2_with fail
        refine hc.mono ?_
        rintro e w9 ⟨rfl, hb⟩
        replace HL := Lib.hid (HL.out.trans (hb.mono HL.out.size))
        replace HA := Lib.hid (HA.out.below hb)
        replace HB := Lib.hid (HB.out.below hb)
        clear hc hb
        have hc := rLe _ _ _ _ _ true HA.out HB.out HZ.out
        go_wp2_with fail
        refine hc.mono ?_
        rintro e w10 ⟨rfl, hb⟩
        replace HL := Lib.hid (HL.out.trans (hb.mono HL.out.size))
        replace HA := Lib.hid (HA.out.below hb)
        replace HB := Lib.hid (HB.out.below hb)
        clear hc hb
        have hc := wSizeB _ xs s _ HA.out XA.out (by omega) HSs.out
        go_wp2_with fail
        refine hc.mono ?_
        rintro e w11 ⟨rfl, hb⟩
        replace HL := Lib.hid (HL.out.trans (hb.mono HL.out.size))
        replace HA := Lib.hid (HA.out.below hb)
        replace HB := Lib.hid (HB.out.below hb)
        clear hc hb
        have hc := wSizeB _ ys t _ HB.out XB.out (by omega) HSt.out
        go_wp2_with fail
        refine hc.mono ?_
        rintro e w12 ⟨rfl, hb⟩
        replace HL := Lib.hid (HL.out.trans (hb.mono HL.out.size))
        replace HA := Lib.hid (HA.out.below hb)
        replace HB := Lib.hid (HB.out.below hb)
        clear hc hb
        have hc := rSame _ _ _ _ _ HA.out HB.out HEQ.out
        go_wp2_with fail
        refine hc.mono ?_
        rintro e w13 ⟨rfl, hb⟩
        replace HL := Lib.hid (HL.out.trans (hb.mono HL.out.size))
        replace HA := Lib.hid (HA.out.below hb)
        replace HB := Lib.hid (HB.out.below hb)
        clear hc hb
        have hc := awakeAt HL
        go_wp2_with fail
        refine hc.mono ?_
        rintro e w14 ⟨rfl, hb⟩
        replace HL := Lib.hid (HL.out.trans (hb.mono HL.out.size))
        clear HA HB
        clear hc hb
        go_wp2
        go_ret
        exact ⟨rfl, HL.out⟩
  · have hg0 : [xs, ys].all good = false := by simpa using hg
    rw [hg0] at hv
    clear hg hg0
    go_enter Try.func9, Try.ntmps9
    have hc := hv
    go_wp2_with fail
    refine hc.mono ?_
    rintro e w1 ⟨rfl, hb⟩
    replace HL := Lib.hid (HL.out.trans (hb.mono HL.out.size))
    clear HA HB
    clear hc hb
    clear hv
    have hc := awakeAt HL
    go_wp2_with fail
    refine hc.mono ?_
    rintro e w2 ⟨rfl, hb⟩
    replace HL := Lib.hid (HL.out.trans (hb.mono HL.out.size))
    clear hc hb
    go_wp2
    go_ret
    exact ⟨rfl, HL.out⟩

end Go.Proofs.Ytpgkpjdefdpiiaa
