/-
  The walk of the law VectorWith: it returns true. No conditions beyond that the arguments read as data.
-/
import Derived.Test.YtpgkpjdefdpiiaaVLaws
namespace Go.Proofs.Ytpgkpjdefdpiiaa
open Go.RowKit
open VM (Ent)

set_option maxRecDepth 100000 in
set_option maxHeartbeats 4000000 in
theorem lVectorWith (va : Value) (xs : List Ent) (author : Int) (count : Int) (other : Int) (w : World) (ha : RdV w va xs) :
    Calls Try.prog 4 #[va, .int .i64 author, .int .i64 count, .int .i64 other] w fun e w' => e = .returned (.bool true) ∧ Below w.heap.size w w' := by
  obtain ⟨aa, ca, rfl, hca, hla⟩ := ha.shape
  have hn := below_fresh w (.cells #[.slice aa xs.length ca] 23)
  have hv := rValid w.heap.size 1 [.slice aa xs.length ca] [xs] _ rfl (cells_fresh w [.slice aa xs.length ca] 23) (.cons (ha.below hn) .nil) (by decide)
  have HL := Lib.hid hn
  have HA := Lib.hid (ha.below hn)
  clear hn ha
  by_cases hg : [xs].all good = true
  · rw [hg] at hv
    simp only [List.all_cons, List.all_nil, Bool.and_true, good_iff] at hg
    obtain ⟨ga, xa⟩ := hg
    have XA := Lib.hid xa
    clear xa
    by_cases hr : 1 ≤ author ∧ 0 ≤ count ∧ count ≤ 1000000
    · obtain ⟨r1, r2, r3⟩ := hr
      have k1 : ¬ author < 1 := by omega
      have k2 : ¬ count < 0 := by omega
      have k3 : ¬ 1000000 < count := by omega
      have hsp := VM.wi_spec r1 r2 r3 XA.out
      have hwl := VM.wi_length xs author count
      have HS := Lib.hid hsp
      obtain ⟨n, hn⟩ : ∃ n, n = VM.cnt xs other := ⟨_, rfl⟩
      have HN := Lib.hid hn
      have hself : VM.cnt (VM.wi xs author count) author = count := by rw [hsp.2, if_pos rfl]
      have HF := Lib.hid hself
      clear hsp hself hn
      by_cases ho : other = author
      · have HO := Lib.hid ho
        have hoq : (other == author) = true := by simpa using ho
        clear ho
        go_enter Try.func4, Try.ntmps4
        have hc := hv
        go_wp2_with fail
        refine hc.mono ?_
        rintro e w1 ⟨rfl, hb⟩
        replace HL := Lib.hid (HL.out.trans (hb.mono HL.out.size))
        replace HA := Lib.hid (HA.out.below hb)
        clear hc hb
        clear hv
        have hc := wWith _ xs author count _ HA.out XA.out r1 r2 r3 (by omega)
        go_wp2_with fail
        refine hc.mono ?_
        rintro e w2 ⟨vW, rfl, ho, hb⟩
        replace HL := Lib.hid (HL.out.trans (hb.mono HL.out.size))
        replace HA := Lib.hid (HA.out.below hb)
        have HW := Lib.hid ho.rd
        clear hc hb ho
        have hc := rWith _ xs author count _ HA.out r1 r2 r3 (by omega)
        go_wp2_with fail
        refine hc.mono ?_
        rintro e w3 ⟨vR, rfl, ho, hb⟩
        replace HL := Lib.hid (HL.out.trans (hb.mono HL.out.size))
        replace HA := Lib.hid (HA.out.below hb)
        replace HW := Lib.hid (HW.out.below hb)
        have HR := Lib.hid ho.rd
        clear hc hb ho
        have hc := rSame _ _ _ _ _ HW.out HR.out rfl
        go_wp2_with fail
        refine hc.mono ?_
        rintro e w4 ⟨rfl, hb⟩
        replace HL := Lib.hid (HL.out.trans (hb.mono HL.out.size))
        clear HR
        replace HA := Lib.hid (HA.out.below hb)
        replace HW := Lib.hid (HW.out.below hb)
        clear hc hb
        have hc := rGood _ _ _ HW.out HS.out.1
        go_wp2_with fail
        refine hc.mono ?_
        rintro e w5 ⟨rfl, hb⟩
        replace HL := Lib.hid (HL.out.trans (hb.mono HL.out.size))
        replace HA := Lib.hid (HA.out.below hb)
        replace HW := Lib.hid (HW.out.below hb)
        clear hc hb
        have hc := wGetB _ xs other n _ HA.out XA.out (by omega) HN.out.symm
        go_wp2_with fail
        refine hc.mono ?_
        rintro e w6 ⟨rfl, hb⟩
        replace HL := Lib.hid (HL.out.trans (hb.mono HL.out.size))
        replace HA := Lib.hid (HA.out.below hb)
        replace HW := Lib.hid (HW.out.below hb)
        clear hc hb
        have hc := rCountB _ xs other n _ HA.out HN.out.symm
        go_wp2_with fail
        refine hc.mono ?_
        rintro e w7 ⟨rfl, hb⟩
        replace HL := Lib.hid (HL.out.trans (hb.mono HL.out.size))
        replace HA := Lib.hid (HA.out.below hb)
        replace HW := Lib.hid (HW.out.below hb)
        clear hc hb
        have hc := wGetB _ _ author count _ HW.out HS.out.1 (by omega) HF.out
        go_wp2_with fail
        refine hc.mono ?_
        rintro e w8 ⟨rfl, hb⟩
        replace HL := Lib.hid (HL.out.trans (hb.mono HL.out.size))
        replace HA := Lib.hid (HA.out.below hb)
        replace HW := Lib.hid (HW.out.below hb)
        clear hc hb
        have hc := awakeAt HL
        go_wp2_with fail
        refine hc.mono ?_
        rintro e w9 ⟨rfl, hb⟩
        replace HL := Lib.hid (HL.out.trans (hb.mono HL.out.size))
        clear HA HW
        clear hc hb
        go_wp2
        go_ret
        exact ⟨rfl, HL.out⟩
      · have HO := Lib.hid (show VM.cnt (VM.wi xs author count) other = n by rw [HS.out.2, if_neg (fun h => ho h.symm), HN.out])
        have hoq : (other == author) = false := by simpa using ho
        clear ho
        go_enter Try.func4, Try.ntmps4
        have hc := hv
        go_wp2_with fail
        refine hc.mono ?_
        rintro e w1 ⟨rfl, hb⟩
        replace HL := Lib.hid (HL.out.trans (hb.mono HL.out.size))
        replace HA := Lib.hid (HA.out.below hb)
        clear hc hb
        clear hv
        have hc := wWith _ xs author count _ HA.out XA.out r1 r2 r3 (by omega)
        go_wp2_with fail
        refine hc.mono ?_
        rintro e w2 ⟨vW, rfl, ho, hb⟩
        replace HL := Lib.hid (HL.out.trans (hb.mono HL.out.size))
        replace HA := Lib.hid (HA.out.below hb)
        have HW := Lib.hid ho.rd
        clear hc hb ho
        have hc := rWith _ xs author count _ HA.out r1 r2 r3 (by omega)
        go_wp2_with fail
        refine hc.mono ?_
        rintro e w3 ⟨vR, rfl, ho, hb⟩
        replace HL := Lib.hid (HL.out.trans (hb.mono HL.out.size))
        replace HA := Lib.hid (HA.out.below hb)
        replace HW := Lib.hid (HW.out.below hb)
        have HR := Lib.hid ho.rd
        clear hc hb ho
        have hc := rSame _ _ _ _ _ HW.out HR.out rfl
        go_wp2_with fail
        refine hc.mono ?_
        rintro e w4 ⟨rfl, hb⟩
        replace HL := Lib.hid (HL.out.trans (hb.mono HL.out.size))
        clear HR
        replace HA := Lib.hid (HA.out.below hb)
        replace HW := Lib.hid (HW.out.below hb)
        clear hc hb
        have hc := rGood _ _ _ HW.out HS.out.1
        go_wp2_with fail
        refine hc.mono ?_
        rintro e w5 ⟨rfl, hb⟩
        replace HL := Lib.hid (HL.out.trans (hb.mono HL.out.size))
        replace HA := Lib.hid (HA.out.below hb)
        replace HW := Lib.hid (HW.out.below hb)
        clear hc hb
        have hc := wGetB _ xs other n _ HA.out XA.out (by omega) HN.out.symm
        go_wp2_with fail
        refine hc.mono ?_
        rintro e w6 ⟨rfl, hb⟩
        replace HL := Lib.hid (HL.out.trans (hb.mono HL.out.size))
        replace HA := Lib.hid (HA.out.below hb)
        replace HW := Lib.hid (HW.out.below hb)
        clear hc hb
        have hc := rCountB _ xs other n _ HA.out HN.out.symm
        go_wp2_with fail
        refine hc.mono ?_
        rintro e w7 ⟨rfl, hb⟩
        replace HL := Lib.hid (HL.out.trans (hb.mono HL.out.size))
        replace HA := Lib.hid (HA.out.below hb)
        replace HW := Lib.hid (HW.out.below hb)
        clear hc hb
        have hc := wGetB _ _ author count _ HW.out HS.out.1 (by omega) HF.out
        go_wp2_with fail
        refine hc.mono ?_
        rintro e w8 ⟨rfl, hb⟩
        replace HL := Lib.hid (HL.out.trans (hb.mono HL.out.size))
        replace HA := Lib.hid (HA.out.below hb)
        replace HW := Lib.hid (HW.out.below hb)
        clear hc hb
        have hc := wGetB _ _ other n _ HW.out HS.out.1 (by omega) HO.out
        go_wp2_with fail
        refine hc.mono ?_
        rintro e w9 ⟨rfl, hb⟩
        replace HL := Lib.hid (HL.out.trans (hb.mono HL.out.size))
        replace HA := Lib.hid (HA.out.below hb)
        replace HW := Lib.hid (HW.out.below hb)
        clear hc hb
        have hc := wGetB _ xs other n _ HA.out XA.out (by omega) HN.out.symm
        go_wp2_with fail
        refine hc.mono ?_
        rintro e w10 ⟨rfl, hb⟩
        replace HL := Lib.hid (HL.out.trans (hb.mono HL.out.size))
        replace HA := Lib.hid (HA.out.below hb)
        replace HW := Lib.hid (HW.out.below hb)
        clear hc hb
        have hc := awakeAt HL
        go_wp2_with fail
        refine hc.mono ?_
        rintro e w11 ⟨rfl, hb⟩
        replace HL := Lib.hid (HL.out.trans (hb.mono HL.out.size))
        clear HA HW
        clear hc hb
        go_wp2
        go_ret
        exact ⟨rfl, HL.out⟩
    · obtain ⟨n, hn⟩ : ∃ n, n = VM.cnt xs other := ⟨_, rfl⟩
      have HN := Lib.hid hn
      have HR := Lib.hid hr
      clear hn
      by_cases k1 : author < 1
      · clear hr
        go_enter Try.func4, Try.ntmps4
        have hc := hv
        go_wp2_with fail
        refine hc.mono ?_
        rintro e w1 ⟨rfl, hb⟩
        replace HL := Lib.hid (HL.out.trans (hb.mono HL.out.size))
        replace HA := Lib.hid (HA.out.below hb)
        clear hc hb
        clear hv
        have hc := wWithOut _ xs author count _ HA.out HR.out (by omega)
        go_wp2_with fail
        refine hc.mono ?_
        rintro e w2 ⟨vW, rfl, ho, hb⟩
        replace HL := Lib.hid (HL.out.trans (hb.mono HL.out.size))
        replace HA := Lib.hid (HA.out.below hb)
        have HW := Lib.hid ho.rd
        clear hc hb ho
        have hc := rWithOut (.slice aa xs.length ca) author count w2 HR.out
        go_wp2_with fail
        refine hc.mono ?_
        rintro e _ ⟨rfl, rfl⟩
        clear hc
        have hc := rSame _ _ _ _ _ HW.out HA.out rfl
        go_wp2_with fail
        refine hc.mono ?_
        rintro e w3 ⟨rfl, hb⟩
        replace HL := Lib.hid (HL.out.trans (hb.mono HL.out.size))
        replace HA := Lib.hid (HA.out.below hb)
        replace HW := Lib.hid (HW.out.below hb)
        clear hc hb
        have hc := rGood _ _ _ HW.out XA.out
        go_wp2_with fail
        refine hc.mono ?_
        rintro e w4 ⟨rfl, hb⟩
        replace HL := Lib.hid (HL.out.trans (hb.mono HL.out.size))
        replace HA := Lib.hid (HA.out.below hb)
        replace HW := Lib.hid (HW.out.below hb)
        clear hc hb
        have hc := wGetB _ xs other n _ HA.out XA.out (by omega) HN.out.symm
        go_wp2_with fail
        refine hc.mono ?_
        rintro e w5 ⟨rfl, hb⟩
        replace HL := Lib.hid (HL.out.trans (hb.mono HL.out.size))
        replace HA := Lib.hid (HA.out.below hb)
        replace HW := Lib.hid (HW.out.below hb)
        clear hc hb
        have hc := rCountB _ xs other n _ HA.out HN.out.symm
        go_wp2_with fail
        refine hc.mono ?_
        rintro e w6 ⟨rfl, hb⟩
        replace HL := Lib.hid (HL.out.trans (hb.mono HL.out.size))
        replace HA := Lib.hid (HA.out.below hb)
        replace HW := Lib.hid (HW.out.below hb)
        clear hc hb
        have hc := awakeAt HL
        go_wp2_with fail
        refine hc.mono ?_
        rintro e w7 ⟨rfl, hb⟩
        replace HL := Lib.hid (HL.out.trans (hb.mono HL.out.size))
        clear HA HW
        clear hc hb
        go_wp2
        go_ret
        exact ⟨rfl, HL.out⟩
      · by_cases k2 : count < 0
        · clear hr
          go_enter Try.func4, Try.ntmps4
          have hc := hv
          go_wp2_with fail
          refine hc.mono ?_
          rintro e w1 ⟨rfl, hb⟩
          replace HL := Lib.hid (HL.out.trans (hb.mono HL.out.size))
          replace HA := Lib.hid (HA.out.below hb)
          clear hc hb
          clear hv
          have hc := wWithOut _ xs author count _ HA.out HR.out (by omega)
          go_wp2_with fail
          refine hc.mono ?_
          rintro e w2 ⟨vW, rfl, ho, hb⟩
          replace HL := Lib.hid (HL.out.trans (hb.mono HL.out.size))
          replace HA := Lib.hid (HA.out.below hb)
          have HW := Lib.hid ho.rd
          clear hc hb ho
          have hc := rWithOut (.slice aa xs.length ca) author count w2 HR.out
          go_wp2_with fail
          refine hc.mono ?_
          rintro e _ ⟨rfl, rfl⟩
          clear hc
          have hc := rSame _ _ _ _ _ HW.out HA.out rfl
          go_wp2_with fail
          refine hc.mono ?_
          rintro e w3 ⟨rfl, hb⟩
          replace HL := Lib.hid (HL.out.trans (hb.mono HL.out.size))
          replace HA := Lib.hid (HA.out.below hb)
          replace HW := Lib.hid (HW.out.below hb)
          clear hc hb
          have hc := rGood _ _ _ HW.out XA.out
          go_wp2_with fail
          refine hc.mono ?_
          rintro e w4 ⟨rfl, hb⟩
          replace HL := Lib.hid (HL.out.trans (hb.mono HL.out.size))
          replace HA := Lib.hid (HA.out.below hb)
          replace HW := Lib.hid (HW.out.below hb)
          clear hc hb
          have hc := wGetB _ xs other n _ HA.out XA.out (by omega) HN.out.symm
          go_wp2_with fail
          refine hc.mono ?_
          rintro e w5 ⟨rfl, hb⟩
          replace HL := Lib.hid (HL.out.trans (hb.mono HL.out.size))
          replace HA := Lib.hid (HA.out.below hb)
          replace HW := Lib.hid (HW.out.below hb)
          clear hc hb
          have hc := rCountB _ xs other n _ HA.out HN.out.symm
          go_wp2_with fail
          refine hc.mono ?_
          rintro e w6 ⟨rfl, hb⟩
          replace HL := Lib.hid (HL.out.trans (hb.mono HL.out.size))
          replace HA := Lib.hid (HA.out.below hb)
          replace HW := Lib.hid (HW.out.below hb)
          clear hc hb
          have hc := awakeAt HL
          go_wp2_with fail
          refine hc.mono ?_
          rintro e w7 ⟨rfl, hb⟩
          replace HL := Lib.hid (HL.out.trans (hb.mono HL.out.size))
          clear HA HW
          clear hc hb
          go_wp2
          go_ret
          exact ⟨rfl, HL.out⟩
        · have k3 : 1000000 < count := by omega
          clear hr
          go_enter Try.func4, Try.ntmps4
          have hc := hv
          go_wp2_with fail
          refine hc.mono ?_
          rintro e w1 ⟨rfl, hb⟩
          replace HL := Lib.hid (HL.out.trans (hb.mono HL.out.size))
          replace HA := Lib.hid (HA.out.below hb)
          clear hc hb
          clear hv
          have hc := wWithOut _ xs author count _ HA.out HR.out (by omega)
          go_wp2_with fail
          refine hc.mono ?_
          rintro e w2 ⟨vW, rfl, ho, hb⟩
          replace HL := Lib.hid (HL.out.trans (hb.mono HL.out.size))
          replace HA := Lib.hid (HA.out.below hb)
          have HW := Lib.hid ho.rd
          clear hc hb ho
          have hc := rWithOut (.slice aa xs.length ca) author count w2 HR.out
          go_wp2_with fail
          refine hc.mono ?_
          rintro e _ ⟨rfl, rfl⟩
          clear hc
          have hc := rSame _ _ _ _ _ HW.out HA.out rfl
          go_wp2_with fail
          refine hc.mono ?_
          rintro e w3 ⟨rfl, hb⟩
          replace HL := Lib.hid (HL.out.trans (hb.mono HL.out.size))
          replace HA := Lib.hid (HA.out.below hb)
          replace HW := Lib.hid (HW.out.below hb)
          clear hc hb
          have hc := rGood _ _ _ HW.out XA.out
          go_wp2_with fail
          refine hc.mono ?_
          rintro e w4 ⟨rfl, hb⟩
          replace HL := Lib.hid (HL.out.trans (hb.mono HL.out.size))
          replace HA := Lib.hid (HA.out.below hb)
          replace HW := Lib.hid (HW.out.below hb)
          clear hc hb
          have hc := wGetB _ xs other n _ HA.out XA.out (by omega) HN.out.symm
          go_wp2_with fail
          refine hc.mono ?_
          rintro e w5 ⟨rfl, hb⟩
          replace HL := Lib.hid (HL.out.trans (hb.mono HL.out.size))
          replace HA := Lib.hid (HA.out.below hb)
          replace HW := Lib.hid (HW.out.below hb)
          clear hc hb
          have hc := rCountB _ xs other n _ HA.out HN.out.symm
          go_wp2_with fail
          refine hc.mono ?_
          rintro e w6 ⟨rfl, hb⟩
          replace HL := Lib.hid (HL.out.trans (hb.mono HL.out.size))
          replace HA := Lib.hid (HA.out.below hb)
          replace HW := Lib.hid (HW.out.below hb)
          clear hc hb
          have hc := awakeAt HL
          go_wp2_with fail
          refine hc.mono ?_
          rintro e w7 ⟨rfl, hb⟩
          replace HL := Lib.hid (HL.out.trans (hb.mono HL.out.size))
          clear HA HW
          clear hc hb
          go_wp2
          go_ret
          exact ⟨rfl, HL.out⟩
  · have hg0 : [xs].all good = false := by simpa using hg
    rw [hg0] at hv
    clear hg hg0
    go_enter Try.func4, Try.ntmps4
    have hc := hv
    go_wp2_with fail
    refine hc.mono ?_
    rintro e w1 ⟨rfl, hb⟩
    replace HL := Lib.hid (HL.out.trans (hb.mono HL.out.size))
    clear HA
    clear hc hb
    clear hv
    have hc := awakeAt HL
    go_wp2_with fail
    refine hc.mono ?_
    rintro e w2 ⟨rfl, hb⟩
    replace HL := Lib.hid (HL.out.trans (hb.mono HL.out.size))
    clear hc hb
    go_wp2
    go_ret
    exact ⟨rfl, HL.out⟩

end Go.Proofs.Ytpgkpjdefdpiiaa
