/-
  The walk of the law VectorJoin: it returns true. No conditions beyond that the arguments read as data.
-/
import Derived.Test.YtpgkpjdefdpiiaaVLaws
namespace Go.Proofs.Ytpgkpjdefdpiiaa
open Go.RowKit
open VM (Ent)

set_option maxRecDepth 100000 in
set_option maxHeartbeats 4000000 in
theorem lVectorJoin (va vb vc : Value) (xs ys zs : List Ent) (w : World) (ha : RdV w va xs) (hb : RdV w vb ys) (hc : RdV w vc zs) :
    Calls Try.prog 5 #[va, vb, vc] w fun e w' => e = .returned (.bool true) ∧ Below w.heap.size w w' := by
  obtain ⟨aa, ca, rfl, hca, hla⟩ := ha.shape
  obtain ⟨ab, cb, rfl, hcb, hlb⟩ := hb.shape
  obtain ⟨ac, cc, rfl, hcc, hlc⟩ := hc.shape
  have hn := below_fresh w (.cells #[.slice aa xs.length ca, .slice ab ys.length cb, .slice ac zs.length cc] 23)
  have hv := rValid w.heap.size 3 [.slice aa xs.length ca, .slice ab ys.length cb, .slice ac zs.length cc] [xs, ys, zs] _ rfl (cells_fresh w [.slice aa xs.length ca, .slice ab ys.length cb, .slice ac zs.length cc] 23) (.cons (ha.below hn) (.cons (hb.below hn) (.cons (hc.below hn) .nil))) (by decide)
  have HL := Lib.hid hn
  have HA := Lib.hid (ha.below hn)
  have HB := Lib.hid (hb.below hn)
  have HC := Lib.hid (hc.below hn)
  clear hn ha hb hc
  by_cases hg : [xs, ys, zs].all good = true
  · rw [hg] at hv
    simp only [List.all_cons, List.all_nil, Bool.and_true, Bool.and_eq_true, good_iff] at hg
    obtain ⟨⟨ga, xa⟩, ⟨gb, xb⟩, ⟨gc, xc⟩⟩ := hg
    have XA := Lib.hid xa
    have XB := Lib.hid xb
    have XC := Lib.hid xc
    clear xa xb xc
    have HV := Lib.hid (jnV XA.out XB.out)
    have S1 := Lib.hid (VM.le_jn1 XA.out XB.out)
    have S2 := Lib.hid (VM.le_jn2 XA.out XB.out)
    cases hp : VM.le xs zs with
    | false =>
      have HP := Lib.hid hp
      clear hp
      go_enter Try.func5, Try.ntmps5
      have hc := hv
      go_wp2_with fail
      refine hc.mono ?_
      rintro e w1 ⟨rfl, hb⟩
      replace HL := Lib.hid (HL.out.trans (hb.mono HL.out.size))
      replace HA := Lib.hid (HA.out.below hb)
      replace HB := Lib.hid (HB.out.below hb)
      replace HC := Lib.hid (HC.out.below hb)
      clear hc hb
      clear hv
      have hc := wJoin _ _ xs ys _ HA.out HB.out (by omega)
      go_wp2_with fail
      refine hc.mono ?_
      rintro e w2 ⟨vJ, rfl, ho, hb⟩
      replace HL := Lib.hid (HL.out.trans (hb.mono HL.out.size))
      replace HA := Lib.hid (HA.out.below hb)
      replace HB := Lib.hid (HB.out.below hb)
      replace HC := Lib.hid (HC.out.below hb)
      have HJ := Lib.hid ho.rd
      clear hc hb ho
      have hc := rJoinV _ _ xs ys _ HA.out HB.out XA.out XB.out (by omega) (by omega)
      go_wp2_with fail
      refine hc.mono ?_
      rintro e w3 ⟨vR, rfl, ho, hb⟩
      replace HL := Lib.hid (HL.out.trans (hb.mono HL.out.size))
      replace HA := Lib.hid (HA.out.below hb)
      replace HB := Lib.hid (HB.out.below hb)
      replace HC := Lib.hid (HC.out.below hb)
      replace HJ := Lib.hid (HJ.out.below hb)
      have HR := Lib.hid ho.rd
      clear hc hb ho
      have hc := rSame _ _ _ _ _ HJ.out HR.out rfl
      go_wp2_with fail
      refine hc.mono ?_
      rintro e w4 ⟨rfl, hb⟩
      replace HL := Lib.hid (HL.out.trans (hb.mono HL.out.size))
      clear HR
      replace HA := Lib.hid (HA.out.below hb)
      replace HB := Lib.hid (HB.out.below hb)
      replace HC := Lib.hid (HC.out.below hb)
      replace HJ := Lib.hid (HJ.out.below hb)
      clear hc hb
      have hc := wLe _ _ _ _ _ true HA.out HJ.out XA.out HV.out S1.out
      go_wp2_with fail
      refine hc.mono ?_
      rintro e w5 ⟨rfl, hb⟩
      replace HL := Lib.hid (HL.out.trans (hb.mono HL.out.size))
      replace HA := Lib.hid (HA.out.below hb)
      replace HB := Lib.hid (HB.out.below hb)
      replace HC := Lib.hid (HC.out.below hb)
      replace HJ := Lib.hid (HJ.out.below hb)
      clear hc hb
      have hc := wLe _ _ _ _ _ true HB.out HJ.out XB.out HV.out S2.out
      go_wp2_with fail
      refine hc.mono ?_
      rintro e w6 ⟨rfl, hb⟩
      replace HL := Lib.hid (HL.out.trans (hb.mono HL.out.size))
      replace HA := Lib.hid (HA.out.below hb)
      replace HB := Lib.hid (HB.out.below hb)
      replace HC := Lib.hid (HC.out.below hb)
      replace HJ := Lib.hid (HJ.out.below hb)
      clear hc hb
      have hc := rLe _ _ _ _ _ false HA.out HC.out HP.out
      go_wp2_with fail
      refine hc.mono ?_
      rintro e w7 ⟨rfl, hb⟩
      replace HL := Lib.hid (HL.out.trans (hb.mono HL.out.size))
      replace HA := Lib.hid (HA.out.below hb)
      replace HB := Lib.hid (HB.out.below hb)
      replace HC := Lib.hid (HC.out.below hb)
      replace HJ := Lib.hid (HJ.out.below hb)
      clear hc hb
      have hc := awakeAt HL
      go_wp2_with fail
      refine hc.mono ?_
      rintro e w8 ⟨rfl, hb⟩
      replace HL := Lib.hid (HL.out.trans (hb.mono HL.out.size))
      clear HA HB HC HJ
      clear hc hb
      go_wp2
      go_ret
      exact ⟨rfl, HL.out⟩
    | true =>
      have HP := Lib.hid hp
      clear hp
      cases hq : VM.le ys zs with
      | false =>
        have HQ := Lib.hid hq
        clear hq
        go_enter Try.func5, Try.ntmps5
        have hc := hv
        go_wp2_with fail
        refine hc.mono ?_
        rintro e w1 ⟨rfl, hb⟩
        replace HL := Lib.hid (HL.out.trans (hb.mono HL.out.size))
        replace HA := Lib.hid (HA.out.below hb)
        replace HB := Lib.hid (HB.out.below hb)
        replace HC := Lib.hid (HC.out.below hb)
        clear hc hb
        clear hv
        have hc := wJoin _ _ xs ys _ HA.out HB.out (by omega)
        go_wp2_with fail
        refine hc.mono ?_
        rintro e w2 ⟨vJ, rfl, ho, hb⟩
        replace HL := Lib.hid (HL.out.trans (hb.mono HL.out.size))
        replace HA := Lib.hid (HA.out.below hb)
        replace HB := Lib.hid (HB.out.below hb)
        replace HC := Lib.hid (HC.out.below hb)
        have HJ := Lib.hid ho.rd
        clear hc hb ho
        have hc := rJoinV _ _ xs ys _ HA.out HB.out XA.out XB.out (by omega) (by omega)
        go_wp2_with fail
        refine hc.mono ?_
        rintro e w3 ⟨vR, rfl, ho, hb⟩
        replace HL := Lib.hid (HL.out.trans (hb.mono HL.out.size))
        replace HA := Lib.hid (HA.out.below hb)
        replace HB := Lib.hid (HB.out.below hb)
        replace HC := Lib.hid (HC.out.below hb)
        replace HJ := Lib.hid (HJ.out.below hb)
        have HR := Lib.hid ho.rd
        clear hc hb ho
        have hc := rSame _ _ _ _ _ HJ.out HR.out rfl
        go_wp2_with fail
        refine hc.mono ?_
        rintro e w4 ⟨rfl, hb⟩
        replace HL := Lib.hid (HL.out.trans (hb.mono HL.out.size))
        clear HR
        replace HA := Lib.hid (HA.out.below hb)
        replace HB := Lib.hid (HB.out.below hb)
        replace HC := Lib.hid (HC.out.below hb)
        replace HJ := Lib.hid (HJ.out.below hb)
        clear hc hb
        have hc := wLe _ _ _ _ _ true HA.out HJ.out XA.out HV.out S1.out
        go_wp2_with fail
        refine hc.mono ?_
        rintro e w5 ⟨rfl, hb⟩
        replace HL := Lib.hid (HL.out.trans (hb.mono HL.out.size))
        replace HA := Lib.hid (HA.out.below hb)
        replace HB := Lib.hid (HB.out.below hb)
        replace HC := Lib.hid (HC.out.below hb)
        replace HJ := Lib.hid (HJ.out.below hb)
        clear hc hb
        have hc := wLe _ _ _ _ _ true HB.out HJ.out XB.out HV.out S2.out
        go_wp2_with fail
        refine hc.mono ?_
        rintro e w6 ⟨rfl, hb⟩
        replace HL := Lib.hid (HL.out.trans (hb.mono HL.out.size))
        replace HA := Lib.hid (HA.out.below hb)
        replace HB := Lib.hid (HB.out.below hb)
        replace HC := Lib.hid (HC.out.below hb)
        replace HJ := Lib.hid (HJ.out.below hb)
        clear hc hb
        have hc := rLe _ _ _ _ _ true HA.out HC.out HP.out
        go_wp2_with fail
        refine hc.mono ?_
        rintro e w7 ⟨rfl, hb⟩
        replace HL := Lib.hid (HL.out.trans (hb.mono HL.out.size))
        replace HA := Lib.hid (HA.out.below hb)
        replace HB := Lib.hid (HB.out.below hb)
        replace HC := Lib.hid (HC.out.below hb)
        replace HJ := Lib.hid (HJ.out.below hb)
        clear hc hb
        have hc := rLe _ _ _ _ _ false HB.out HC.out HQ.out
        go_wp2_with fail
        refine hc.mono ?_
        rintro e w8 ⟨rfl, hb⟩
        replace HL := Lib.hid (HL.out.trans (hb.mono HL.out.size))
        replace HA := Lib.hid (HA.out.below hb)
        replace HB := Lib.hid (HB.out.below hb)
        replace HC := Lib.hid (HC.out.below hb)
        replace HJ := Lib.hid (HJ.out.below hb)
        clear hc hb
        have hc := awakeAt HL
        go_wp2_with fail
        refine hc.mono ?_
        rintro e w9 ⟨rfl, hb⟩
        replace HL := Lib.hid (HL.out.trans (hb.mono HL.out.size))
        clear HA HB HC HJ
        clear hc hb
        go_wp2
        go_ret
        exact ⟨rfl, HL.out⟩
      | true =>
        have HQ := Lib.hid hq
        have HT := Lib.hid (VM.jn_le XA.out XB.out XC.out HP.out HQ.out)
        clear hq
        go_enter Try.func5, Try.ntmps5
        have hc := hv
        go_wp2_with fail
        refine hc.mono ?_
        rintro e w1 ⟨rfl, hb⟩
        replace HL := Lib.hid (HL.out.trans (hb.mono HL.out.size))
        replace HA := Lib.hid (HA.out.below hb)
        replace HB := Lib.hid (HB.out.below hb)
        replace HC := Lib.hid (HC.out.below hb)
        clear hc hb
        clear hv
        have hc := wJoin _ _ xs ys _ HA.out HB.out (by omega)
        go_wp2_with fail
        refine hc.mono ?_
        rintro e w2 ⟨vJ, rfl, ho, hb⟩
        replace HL := Lib.hid (HL.out.trans (hb.mono HL.out.size))
        replace HA := Lib.hid (HA.out.below hb)
        replace HB := Lib.hid (HB.out.below hb)
        replace HC := Lib.hid (HC.out.below hb)
        have HJ := Lib.hid ho.rd
        clear hc hb ho
        have hc := rJoinV _ _ xs ys _ HA.out HB.out XA.out XB.out (by omega) (by omega)
        go_wp2_with fail
        refine hc.mono ?_
        rintro e w3 ⟨vR, rfl, ho, hb⟩
        replace HL := Lib.hid (HL.out.trans (hb.mono HL.out.size))
        replace HA := Lib.hid (HA.out.below hb)
        replace HB := Lib.hid (HB.out.below hb)
        replace HC := Lib.hid (HC.out.below hb)
        replace HJ := Lib.hid (HJ.out.below hb)
        have HR := Lib.hid ho.rd
        clear hc hb ho
        have hc := rSame _ _ _ _ _ HJ.out HR.out rfl
        go_wp2_with fail
        refine hc.mono ?_
        rintro e w4 ⟨rfl, hb⟩
        replace HL := Lib.hid (HL.out.trans (hb.mono HL.out.size))
        clear HR
        replace HA := Lib.hid (HA.out.below hb)
        replace HB := Lib.hid (HB.out.below hb)
        replace HC := Lib.hid (HC.out.below hb)
        replace HJ := Lib.hid (HJ.out.below hb)
        clear hc hb
        have hc := wLe _ _ _ _ _ true HA.out HJ.out XA.out HV.out S1.out
        go_wp2_with fail
        refine hc.mono ?_
        rintro e w5 ⟨rfl, hb⟩
        replace HL := Lib.hid (HL.out.trans (hb.mono HL.out.size))
        replace HA := Lib.hid (HA.out.below hb)
        replace HB := Lib.hid (HB.out.below hb)
        replace HC := Lib.hid (HC.out.below hb)
        replace HJ := Lib.hid (HJ.out.below hb)
        clear hc hb
        have hc := wLe _ _ _ _ _ true HB.out HJ.out XB.out HV.out S2.out
        go_wp2_with fail
        refine hc.mono ?_
        rintro e w6 ⟨rfl, hb⟩
        replace HL := Lib.hid (HL.out.trans (hb.mono HL.out.size))
        replace HA := Lib.hid (HA.out.below hb)
        replace HB := Lib.hid (HB.out.below hb)
        replace HC := Lib.hid (HC.out.below hb)
        replace HJ := Lib.hid (HJ.out.below hb)
        clear hc hb
        have hc := rLe _ _ _ _ _ true HA.out HC.out HP.out
        go_wp2_with fail
        refine hc.mono ?_
        rintro e w7 ⟨rfl, hb⟩
        replace HL := Lib.hid (HL.out.trans (hb.mono HL.out.size))
        replace HA := Lib.hid (HA.out.below hb)
        replace HB := Lib.hid (HB.out.below hb)
        replace HC := Lib.hid (HC.out.below hb)
        replace HJ := Lib.hid (HJ.out.below hb)
        clear hc hb
        have hc := rLe _ _ _ _ _ true HB.out HC.out HQ.out
        go_wp2_with fail
        refine hc.mono ?_
        rintro e w8 ⟨rfl, hb⟩
        replace HL := Lib.hid (HL.out.trans (hb.mono HL.out.size))
        replace HA := Lib.hid (HA.out.below hb)
        replace HB := Lib.hid (HB.out.below hb)
        replace HC := Lib.hid (HC.out.below hb)
        replace HJ := Lib.hid (HJ.out.below hb)
        clear hc hb
        have hc := wLe _ _ _ _ _ true HJ.out HC.out HV.out XC.out HT.out
        go_wp2_with fail
        refine hc.mono ?_
        rintro e w9 ⟨rfl, hb⟩
        replace HL := Lib.hid (HL.out.trans (hb.mono HL.out.size))
        replace HA := Lib.hid (HA.out.below hb)
        replace HB := Lib.hid (HB.out.below hb)
        replace HC := Lib.hid (HC.out.below hb)
        replace HJ := Lib.hid (HJ.out.below hb)
        clear hc hb
        have hc := awakeAt HL
        go_wp2_with fail
        refine hc.mono ?_
        rintro e w10 ⟨rfl, hb⟩
        replace HL := Lib.hid (HL.out.trans (hb.mono HL.out.size))
        clear HA HB HC HJ
        clear hc hb
        go_wp2
        go_ret
        exact ⟨rfl, HL.out⟩
  · have hg0 : [xs, ys, zs].all good = false := by simpa using hg
    rw [hg0] at hv
    clear hg hg0
    go_enter Try.func5, Try.ntmps5
    have hc := hv
    go_wp2_with fail
    refine hc.mono ?_
    rintro e w1 ⟨rfl, hb⟩
    replace HL := Lib.hid (HL.out.trans (hb.mono HL.out.size))
    clear HA HB HC
    clear hc hb
    clear hv
    have hc := awakeAt HL
    go_wp2_with fail
    refine hc.mono ?_
    rintro e w2 ⟨rfl, hb⟩
    replace HL := Lib.hid (HL.out.trans (hb.mono HL.out.size))
    clear hc hb
    go_wp2
    go_ret
    exact ⟨rfl, HL.out⟩

end Go.Proofs.Ytpgkpjdefdpiiaa
