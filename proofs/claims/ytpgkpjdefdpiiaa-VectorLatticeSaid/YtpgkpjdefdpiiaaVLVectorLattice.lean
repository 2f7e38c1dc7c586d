/-
  The walk of the law VectorLattice: it returns true. No conditions beyond that the arguments read as data.
-/
import Derived.Test.YtpgkpjdefdpiiaaVLaws
namespace Go.Proofs.Ytpgkpjdefdpiiaa
open Go.RowKit
open VM (Ent)

set_option maxRecDepth 100000 in
set_option maxHeartbeats 4000000 in
theorem lVectorLattice (va vb vc : Value) (xs ys zs : List Ent) (w : World) (ha : RdV w va xs) (hb : RdV w vb ys) (hc : RdV w vc zs) :
    Calls Try.prog 7 #[va, vb, vc] w fun e w' => e = .returned (.bool true) ∧ Below w.heap.size w w' := by
  obtain ⟨aa, ca, rfl, hca, hla⟩ := ha.shape
  obtain ⟨ab, cb, rfl, hcb, hlb⟩ := hb.shape
  obtain ⟨ac, cc, rfl, hcc, hlc⟩ := hc.shape
  have hn := below_fresh w (.cells #[.slice aa xs.length ca, .slice ab ys.length cb, .slice ac zs.length cc] 23)
  have hv := rValid w.heap.size 3 [.slice aa xs.length ca, .slice ab ys.length cb, .slice ac zs.length cc] [xs, ys, zs] _ rfl (cells_fresh w [.slice aa xs.length ca, .slice ab ys.length cb, .slice ac zs.length cc] 23) (.cons (ha.below hn) (.cons (hb.below hn) (.cons (hc.below hn) .nil))) (by decide)
  have HL := Lib.hid hn
  have HA := Lib.hid (ha.below hn)
  have HB := Lib.hid (hb.below hn)
  have HC := Lib.hid (hc.below hn)
  clear hn ha hb hc
  by_cases hg : [xs, ys, zs].all good = true
  · rw [hg] at hv
    simp only [List.all_cons, List.all_nil, Bool.and_true, Bool.and_eq_true, good_iff] at hg
    obtain ⟨⟨ga, xa⟩, ⟨gb, xb⟩, ⟨gc, xc⟩⟩ := hg
    have XA := Lib.hid xa
    have XB := Lib.hid xb
    have XC := Lib.hid xc
    clear xa xb xc
    go_enter Try.func7, Try.ntmps7
    have hc := hv
    go_wp2_with fail
    refine hc.mono ?_
    rintro e w1 ⟨rfl, hb⟩
    replace HL := Lib.hid (HL.out.trans (hb.mono HL.out.size))
    replace HA := Lib.hid (HA.out.below hb)
    replace HB := Lib.hid (HB.out.below hb)
    replace HC := Lib.hid (HC.out.below hb)
    clear hc hb
    clear hv
    have hc := wJoin _ _ xs ys _ HA.out HB.out (by first | omega | (have := VM.jn_length ys zs; have := VM.mt_length ys zs; have := VM.jn_length xs ys; have := VM.mt_length xs ys; have := VM.mt_length xs zs; omega))
    go_wp2_with fail
    refine hc.mono ?_
    rintro e w2 ⟨vP, rfl, ho, hb⟩
    replace HL := Lib.hid (HL.out.trans (hb.mono HL.out.size))
    replace HA := Lib.hid (HA.out.below hb)
    replace HB := Lib.hid (HB.out.below hb)
    replace HC := Lib.hid (HC.out.below hb)
    have HP := Lib.hid ho.rd
    clear hc hb ho
    have hc := wJoin _ _ ys xs _ HB.out HA.out (by first | omega | (have := VM.jn_length ys zs; have := VM.mt_length ys zs; have := VM.jn_length xs ys; have := VM.mt_length xs ys; have := VM.mt_length xs zs; omega))
    go_wp2_with fail
    refine hc.mono ?_
    rintro e w3 ⟨vQ, rfl, ho, hb⟩
    replace HL := Lib.hid (HL.out.trans (hb.mono HL.out.size))
    replace HA := Lib.hid (HA.out.below hb)
    replace HB := Lib.hid (HB.out.below hb)
    replace HC := Lib.hid (HC.out.below hb)
    replace HP := Lib.hid (HP.out.below hb)
    have HQ := Lib.hid ho.rd
    clear hc hb ho
    have hc := rSame _ _ _ _ _ HP.out HQ.out (VM.jn_comm XA.out XB.out)
    go_wp2_with fail
    refine hc.mono ?_
    rintro e w4 ⟨rfl, hb⟩
    replace HL := Lib.hid (HL.out.trans (hb.mono HL.out.size))
    clear HP HQ
    replace HA := Lib.hid (HA.out.below hb)
    replace HB := Lib.hid (HB.out.below hb)
    replace HC := Lib.hid (HC.out.below hb)
    clear hc hb
    have hc := wMeet _ _ xs ys _ HA.out HB.out (by first | omega | (have := VM.jn_length ys zs; have := VM.mt_length ys zs; have := VM.jn_length xs ys; have := VM.mt_length xs ys; have := VM.mt_length xs zs; omega))
    go_wp2_with fail
    refine hc.mono ?_
    rintro e w5 ⟨vP, rfl, ho, hb⟩
    replace HL := Lib.hid (HL.out.trans (hb.mono HL.out.size))
    replace HA := Lib.hid (HA.out.below hb)
    replace HB := Lib.hid (HB.out.below hb)
    replace HC := Lib.hid (HC.out.below hb)
    have HP := Lib.hid ho.rd
    clear hc hb ho
    have hc := wMeet _ _ ys xs _ HB.out HA.out (by first | omega | (have := VM.jn_length ys zs; have := VM.mt_length ys zs; have := VM.jn_length xs ys; have := VM.mt_length xs ys; have := VM.mt_length xs zs; omega))
    go_wp2_with fail
    refine hc.mono ?_
    rintro e w6 ⟨vQ, rfl, ho, hb⟩
    replace HL := Lib.hid (HL.out.trans (hb.mono HL.out.size))
    replace HA := Lib.hid (HA.out.below hb)
    replace HB := Lib.hid (HB.out.below hb)
    replace HC := Lib.hid (HC.out.below hb)
    replace HP := Lib.hid (HP.out.below hb)
    have HQ := Lib.hid ho.rd
    clear hc hb ho
    have hc := rSame _ _ _ _ _ HP.out HQ.out (VM.mt_comm XA.out XB.out)
    go_wp2_with fail
    refine hc.mono ?_
    rintro e w7 ⟨rfl, hb⟩
    replace HL := Lib.hid (HL.out.trans (hb.mono HL.out.size))
    clear HP HQ
    replace HA := Lib.hid (HA.out.below hb)
    replace HB := Lib.hid (HB.out.below hb)
    replace HC := Lib.hid (HC.out.below hb)
    clear hc hb
    have hc := wJoin _ _ xs xs _ HA.out HA.out (by first | omega | (have := VM.jn_length ys zs; have := VM.mt_length ys zs; have := VM.jn_length xs ys; have := VM.mt_length xs ys; have := VM.mt_length xs zs; omega))
    go_wp2_with fail
    refine hc.mono ?_
    rintro e w8 ⟨vP, rfl, ho, hb⟩
    replace HL := Lib.hid (HL.out.trans (hb.mono HL.out.size))
    replace HA := Lib.hid (HA.out.below hb)
    replace HB := Lib.hid (HB.out.below hb)
    replace HC := Lib.hid (HC.out.below hb)
    have HP := Lib.hid ho.rd
    clear hc hb ho
    have hc := rSame _ _ _ _ _ HP.out HA.out (VM.jn_self XA.out)
    go_wp2_with fail
    refine hc.mono ?_
    rintro e w9 ⟨rfl, hb⟩
    replace HL := Lib.hid (HL.out.trans (hb.mono HL.out.size))
    clear HP
    replace HA := Lib.hid (HA.out.below hb)
    replace HB := Lib.hid (HB.out.below hb)
    replace HC := Lib.hid (HC.out.below hb)
    clear hc hb
    have hc := wMeet _ _ xs xs _ HA.out HA.out (by first | omega | (have := VM.jn_length ys zs; have := VM.mt_length ys zs; have := VM.jn_length xs ys; have := VM.mt_length xs ys; have := VM.mt_length xs zs; omega))
    go_wp2_with fail
    refine hc.mono ?_
    rintro e w10 ⟨vP, rfl, ho, hb⟩
    replace HL := Lib.hid (HL.out.trans (hb.mono HL.out.size))
    replace HA := Lib.hid (HA.out.below hb)
    replace HB := Lib.hid (HB.out.below hb)
    replace HC := Lib.hid (HC.out.below hb)
    have HP := Lib.hid ho.rd
    clear hc hb ho
    have hc := rSame _ _ _ _ _ HP.out HA.out (VM.mt_self XA.out)
    go_wp2_with fail
    refine hc.mono ?_
    rintro e w11 ⟨rfl, hb⟩
    replace HL := Lib.hid (HL.out.trans (hb.mono HL.out.size))
    clear HP
    replace HA := Lib.hid (HA.out.below hb)
    replace HB := Lib.hid (HB.out.below hb)
    replace HC := Lib.hid (HC.out.below hb)
    clear hc hb
    have hc := wJoin _ _ ys zs _ HB.out HC.out (by first | omega | (have := VM.jn_length ys zs; have := VM.mt_length ys zs; have := VM.jn_length xs ys; have := VM.mt_length xs ys; have := VM.mt_length xs zs; omega))
    go_wp2_with fail
    refine hc.mono ?_
    rintro e w12 ⟨vS, rfl, ho, hb⟩
    replace HL := Lib.hid (HL.out.trans (hb.mono HL.out.size))
    replace HA := Lib.hid (HA.out.below hb)
    replace HB := Lib.hid (HB.out.below hb)
    replace HC := Lib.hid (HC.out.below hb)
    have HS := Lib.hid ho.rd
    clear hc hb ho
    have hc := wJoin _ _ xs (VM.jn ys zs) _ HA.out HS.out (by first | omega | (have := VM.jn_length ys zs; have := VM.mt_length ys zs; have := VM.jn_length xs ys; have := VM.mt_length xs ys; have := VM.mt_length xs zs; omega))
    go_wp2_with fail
    refine hc.mono ?_
    rintro e w13 ⟨vP, rfl, ho, hb⟩
    replace HL := Lib.hid (HL.out.trans (hb.mono HL.out.size))
    replace HA := Lib.hid (HA.out.below hb)
    replace HB := Lib.hid (HB.out.below hb)
    replace HC := Lib.hid (HC.out.below hb)
    replace HS := Lib.hid (HS.out.below hb)
    have HP := Lib.hid ho.rd
    clear hc hb ho
    have hc := wJoin _ _ xs ys _ HA.out HB.out (by first | omega | (have := VM.jn_length ys zs; have := VM.mt_length ys zs; have := VM.jn_length xs ys; have := VM.mt_length xs ys; have := VM.mt_length xs zs; omega))
    go_wp2_with fail
    refine hc.mono ?_
    rintro e w14 ⟨vT, rfl, ho, hb⟩
    replace HL := Lib.hid (HL.out.trans (hb.mono HL.out.size))
    replace HA := Lib.hid (HA.out.below hb)
    replace HB := Lib.hid (HB.out.below hb)
    replace HC := Lib.hid (HC.out.below hb)
    replace HS := Lib.hid (HS.out.below hb)
    replace HP := Lib.hid (HP.out.below hb)
    have HT := Lib.hid ho.rd
    clear hc hb ho
    have hc := wJoin _ _ (VM.jn xs ys) zs _ HT.out HC.out (by first | omega | (have := VM.jn_length ys zs; have := VM.mt_length ys zs; have := VM.jn_length xs ys; have := VM.mt_length xs ys; have := VM.mt_length xs zs; omega))
    go_wp2_with fail
    refine hc.mono ?_
    rintro e w15 ⟨vQ, rfl, ho, hb⟩
    replace HL := Lib.hid (HL.out.trans (hb.mono HL.out.size))
    replace HA := Lib.hid (HA.out.below hb)
    replace HB := Lib.hid (HB.out.below hb)
    replace HC := Lib.hid (HC.out.below hb)
    replace HS := Lib.hid (HS.out.below hb)
    replace HP := Lib.hid (HP.out.below hb)
    replace HT := Lib.hid (HT.out.below hb)
    have HQ := Lib.hid ho.rd
    clear hc hb ho
    have hc := rSame _ _ _ _ _ HP.out HQ.out (VM.jn_assoc XA.out XB.out XC.out)
    go_wp2_with fail
    refine hc.mono ?_
    rintro e w16 ⟨rfl, hb⟩
    replace HL := Lib.hid (HL.out.trans (hb.mono HL.out.size))
    clear HS HP HT HQ
    replace HA := Lib.hid (HA.out.below hb)
    replace HB := Lib.hid (HB.out.below hb)
    replace HC := Lib.hid (HC.out.below hb)
    clear hc hb
    have hc := wMeet _ _ ys zs _ HB.out HC.out (by first | omega | (have := VM.jn_length ys zs; have := VM.mt_length ys zs; have := VM.jn_length xs ys; have := VM.mt_length xs ys; have := VM.mt_length xs zs; omega))
    go_wp2_with fail
    refine hc.mono ?_
    rintro e w17 ⟨vS, rfl, ho, hb⟩
    replace HL := Lib.hid (HL.out.trans (hb.mono HL.out.size))
    replace HA := Lib.hid (HA.out.below hb)
    replace HB := Lib.hid (HB.out.below hb)
    replace HC := Lib.hid (HC.out.below hb)
    have HS := Lib.hid ho.rd
    clear hc hb ho
    have hc := wMeet _ _ xs (VM.mt ys zs) _ HA.out HS.out (by first | omega | (have := VM.jn_length ys zs; have := VM.mt_length ys zs; have := VM.jn_length xs ys; have := VM.mt_length xs ys; have := VM.mt_length xs zs; omega))
    go_wp2_with fail
    refine hc.mono ?_
    rintro e w18 ⟨vP, rfl, ho, hb⟩
    replace HL := Lib.hid (HL.out.trans (hb.mono HL.out.size))
    replace HA := Lib.hid (HA.out.below hb)
    replace HB := Lib.hid (HB.out.below hb)
    replace HC := Lib.hid (HC.out.below hb)
    replace HS := Lib.hid (HS.out.below hb)
    have HP := Lib.hid ho.rd
    clear hc hb ho
    have hc := wMeet _ _ xs ys _ HA.out HB.out (by first | omega | (have := VM.jn_length ys zs; have := VM.mt_length ys zs; have := VM.jn_length xs ys; have := VM.mt_length xs ys; have := VM.mt_length xs zs; omega))
    go_wp2_with fail
    refine hc.mono ?_
    rintro e w19 ⟨vT, rfl, ho, hb⟩
    replace HL := Lib.hid (HL.out.trans (hb.mono HL.out.size))
    replace HA := Lib.hid (HA.out.below hb)
    replace HB := Lib.hid (HB.out.below hb)
    replace HC := Lib.hid (HC.out.below hb)
    replace HS := Lib.hid (HS.out.below hb)
    replace HP := Lib.hid (HP.out.below hb)
    have HT := Lib.hid ho.rd
    clear hc hb ho
    have hc := wMeet _ _ (VM.mt xs ys) zs _ HT.out HC.out (by first | omega | (have := VM.jn_length ys zs; have := VM.mt_length ys zs; have := VM.jn_length xs ys; have := VM.mt_length xs ys; have := VM.mt_length xs zs; omega))
    go_wp2_with fail
    refine hc.mono ?_
    rintro e w20 ⟨vQ, rfl, ho, hb⟩
    replace HL := Lib.hid (HL.out.trans (hb.mono HL.out.size))
    replace HA := Lib.hid (HA.out.below hb)
    replace HB := Lib.hid (HB.out.below hb)
    replace HC := Lib.hid (HC.out.below hb)
    replace HS := Lib.hid (HS.out.below hb)
    replace HP := Lib.hid (HP.out.below hb)
    replace HT := Lib.hid (HT.out.below hb)
    have HQ := Lib.hid ho.rd
    clear hc hb ho
    have hc := rSame _ _ _ _ _ HP.out HQ.out (VM.mt_assoc XA.out XB.out XC.out)
    go_wp2_with fail
    refine hc.mono ?_
    rintro e w21 ⟨rfl, hb⟩
    replace HL := Lib.hid (HL.out.trans (hb.mono HL.out.size))
    clear HS HP HT HQ
    replace HA := Lib.hid (HA.out.below hb)
    replace HB := Lib.hid (HB.out.below hb)
    replace HC := Lib.hid (HC.out.below hb)
    clear hc hb
    have hc := wMeet _ _ xs ys _ HA.out HB.out (by first | omega | (have := VM.jn_length ys zs; have := VM.mt_length ys zs; have := VM.jn_length xs ys; have := VM.mt_length xs ys; have := VM.mt_length xs zs; omega))
    go_wp2_with fail
    refine hc.mono ?_
    rintro e w22 ⟨vS, rfl, ho, hb⟩
    replace HL := Lib.hid (HL.out.trans (hb.mono HL.out.size))
    replace HA := Lib.hid (HA.out.below hb)
    replace HB := Lib.hid (HB.out.below hb)
    replace HC := Lib.hid (HC.out.below hb)
    have HS := Lib.hid ho.rd
    clear hc hb ho
    have hc := wJoin _ _ xs (VM.mt xs ys) _ HA.out HS.out (by first | omega | (have := VM.jn_length ys zs; have := VM.mt_length ys zs; have := VM.jn_length xs ys; have := VM.mt_length xs ys; have := VM.mt_length xs zs; omega))
    go_wp2_with fail
    refine hc.mono ?_
    rintro e w23 ⟨vP, rfl, ho, hb⟩
    replace HL := Lib.hid (HL.out.trans (hb.mono HL.out.size))
    replace HA := Lib.hid (HA.out.below hb)
    replace HB := Lib.hid (HB.out.below hb)
    replace HC := Lib.hid (HC.out.below hb)
    replace HS := Lib.hid (HS.out.below hb)
    have HP := Lib.hid ho.rd
    clear hc hb ho
    have hc := rSame _ _ _ _ _ HP.out HA.out (VM.jn_mt XA.out XB.out)
    go_wp2_with fail
    refine hc.mono ?_
    rintro e w24 ⟨rfl, hb⟩
    replace HL := Lib.hid (HL.out.trans (hb.mono HL.out.size))
    clear HS HP
    replace HA := Lib.hid (HA.out.below hb)
    replace HB := Lib.hid (HB.out.below hb)
    replace HC := Lib.hid (HC.out.below hb)
    clear hc hb
    have hc := wJoin _ _ ys zs _ HB.out HC.out (by first | omega | (have := VM.jn_length ys zs; have := VM.mt_length ys zs; have := VM.jn_length xs ys; have := VM.mt_length xs ys; have := VM.mt_length xs zs; omega))
    go_wp2_with fail
    refine hc.mono ?_
    rintro e w25 ⟨vS, rfl, ho, hb⟩
    replace HL := Lib.hid (HL.out.trans (hb.mono HL.out.size))
    replace HA := Lib.hid (HA.out.below hb)
    replace HB := Lib.hid (HB.out.below hb)
    replace HC := Lib.hid (HC.out.below hb)
    have HS := Lib.hid ho.rd
    clear hc hb ho
    have hc := wMeet _ _ xs (VM.jn ys zs) _ HA.out HS.out (by first | omega | (have := VM.jn_length ys zs; have := VM.mt_length ys zs; have := VM.jn_length xs ys; have := VM.mt_length xs ys; have := VM.mt_length xs zs; omega))
    go_wp2_with fail
    refine hc.mono ?_
    rintro e w26 ⟨vP, rfl, ho, hb⟩
    replace HL := Lib.hid (HL.out.trans (hb.mono HL.out.size))
    replace HA := Lib.hid (HA.out.below hb)
    replace HB := Lib.hid (HB.out.below hb)
    replace HC := Lib.hid (HC.out.below hb)
    replace HS := Lib.hid (HS.out.below hb)
    have HP := Lib.hid ho.rd
    clear hc hb ho
    have hc := wMeet _ _ xs ys _ HA.out HB.out (by first | omega | (have := VM.jn_length ys zs; have := VM.mt_length ys zs; have := VM.jn_length xs ys; have := VM.mt_length xs ys; have := VM.mt_length xs zs; omega))
    go_wp2_with fail
    refine hc.mono ?_
    rintro e w27 ⟨vT, rfl, ho, hb⟩
    replace HL := Lib.hid (HL.out.trans (hb.mono HL.out.size))
    replace HA := Lib.hid (HA.out.below hb)
    replace HB := Lib.hid (HB.out.below hb)
    replace HC := Lib.hid (HC.out.below hb)
    replace HS := Lib.hid (HS.out.below hb)
    replace HP := Lib.hid (HP.out.below hb)
    have HT := Lib.hid ho.rd
    clear hc hb ho
    have hc := wMeet _ _ xs zs _ HA.out HC.out (by first | omega | (have := VM.jn_length ys zs; have := VM.mt_length ys zs; have := VM.jn_length xs ys; have := VM.mt_length xs ys; have := VM.mt_length xs zs; omega))
    go_wp2_with fail
    refine hc.mono ?_
    rintro e w28 ⟨vU, rfl, ho, hb⟩
    replace HL := Lib.hid (HL.out.trans (hb.mono HL.out.size))
    replace HA := Lib.hid (HA.out.below hb)
    replace HB := Lib.hid (HB.out.below hb)
    replace HC := Lib.hid (HC.out.below hb)
    replace HS := Lib.hid (HS.out.below hb)
    replace HP := Lib.hid (HP.out.below hb)
    replace HT := Lib.hid (HT.out.below hb)
    have HU := Lib.hid ho.rd
    clear hc hb ho
    have hc := wJoin _ _ (VM.mt xs ys) (VM.mt xs zs) _ HT.out HU.out (by first | omega | (have := VM.jn_length ys zs; have := VM.mt_length ys zs; have := VM.jn_length xs ys; have := VM.mt_length xs ys; have := VM.mt_length xs zs; omega))
    go_wp2_with fail
    refine hc.mono ?_
    rintro e w29 ⟨vQ, rfl, ho, hb⟩
    replace HL := Lib.hid (HL.out.trans (hb.mono HL.out.size))
    replace HA := Lib.hid (HA.out.below hb)
    replace HB := Lib.hid (HB.out.below hb)
    replace HC := Lib.hid (HC.out.below hb)
    replace HS := Lib.hid (HS.out.below hb)
    replace HP := Lib.hid (HP.out.below hb)
    replace HT := Lib.hid (HT.out.below hb)
    replace HU := Lib.hid (HU.out.below hb)
    have HQ := Lib.hid ho.rd
    clear hc hb ho
    have hc := rSame _ _ _ _ _ HP.out HQ.out (VM.mt_jn XA.out XB.out XC.out)
    go_wp2_with fail
    refine hc.mono ?_
    rintro e w30 ⟨rfl, hb⟩
    replace HL := Lib.hid (HL.out.trans (hb.mono HL.out.size))
    clear HS HP HT HU HQ
    replace HA := Lib.hid (HA.out.below hb)
    replace HB := Lib.hid (HB.out.below hb)
    replace HC := Lib.hid (HC.out.below hb)
    clear hc hb
    have hc := awakeAt HL
    go_wp2_with fail
    refine hc.mono ?_
    rintro e w31 ⟨rfl, hb⟩
    replace HL := Lib.hid (HL.out.trans (hb.mono HL.out.size))
    clear HA HB HC
    clear hc hb
    go_wp2
    go_ret
    exact ⟨rfl, HL.out⟩
  · have hg0 : [xs, ys, zs].all good = false := by simpa using hg
    rw [hg0] at hv
    clear hg hg0
    go_enter Try.func7, Try.ntmps7
    have hc := hv
    go_wp2_with fail
    refine hc.mono ?_
    rintro e w1 ⟨rfl, hb⟩
    replace HL := Lib.hid (HL.out.trans (hb.mono HL.out.size))
    clear HA HB HC
    clear hc hb
    clear hv
    have hc := awakeAt HL
    go_wp2_with fail
    refine hc.mono ?_
    rintro e w2 ⟨rfl, hb⟩
    replace HL := Lib.hid (HL.out.trans (hb.mono HL.out.size))
    clear hc hb
    go_wp2
    go_ret
    exact ⟨rfl, HL.out⟩

end Go.Proofs.Ytpgkpjdefdpiiaa
