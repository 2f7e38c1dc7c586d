/-
  The call of message.Validate. Conditions: the message reads; its kind is an int's value; the tables of unicode/utf8 are laid; the effects fit.
  The call of the reference's unused. Conditions: what comes in reads. (Written by mk_nref2.py.)
  The calls of the reference's bases, exchange and ValidateMessage. Conditions: what comes in reads. (Written by mk_nref2.py.)
  The call of the reference's exchange. Conditions: what comes in reads. (Written by mk_nref2.py.)
  The call of the reference's ValidateMessage. Conditions: what comes in reads. (Written by mk_nref2.py.)
  The call of the reference's DecodeMessage. Conditions: what comes in reads. (Written by mk_nref2.py.)
  The call of the laws' short. Conditions: what comes in reads. (Written by mk_nref2.py.)
  The calls of the laws MessageValidate, MessageEqual: each returns true. Conditions: what comes in reads. (Written by mk_nref2.py.)
-/
import Derived.Test.YtahcehbgfhdbjaaGreatDoorQEA19
import Derived.Test.YtahcehbgfhdbjaaGreatDoorQEA11
import Derived.Test.YtahcehbgfhdbjaaGreatDoorQEA17
import Derived.Test.YtahcehbgfhdbjaaGreatDoorQEA14
import Derived.Test.YtahcehbgfhdbjaaGreatDoorQEA15
import Derived.Test.YtahcehbgfhdbjaaGreatDoorQEA5
import Derived.Test.YtahcehbgfhdbjaaGreatDoorQEA16
namespace Go.Proofs.YtahcehbgfhdbjaaGreatDoor
open Go.RowKit
open NM (Ms)

theorem usd_range {k f : Int} (h : f ∈ NM.usd k) : 0 ≤ f ∧ f ≤ 10 := by
  unfold NM.usd at h
  (repeat' split at h) <;> simp only [List.mem_cons, List.mem_nil_iff, or_false] at h <;> omega
theorem usd_len (k : Int) : (NM.usd k).length ≤ 7 := by
  unfold NM.usd
  (repeat' split) <;> simp

set_option maxRecDepth 100000 in
set_option maxHeartbeats 8000000 in
theorem pValidateM (x : Mv) (m : Ms) (w : World) (hT : Tb w) (h : RdMs w x m) (hE : ST.FitN m.st) (hk : NM.I64 m.k) :
    Calls Tryz.prog 9 #[mv m x] w fun e w' => e = .returned (.int .i64 (NM.errM m)) ∧ Below w.heap.size w w' := by
  obtain ⟨C, hC⟩ : ∃ C, C = mcell m x := ⟨_, rfl⟩
  have hsc : C.size = 18 := by rw [hC]; rfl
  have b1 := below_fresh w (.cells C 33)
  have hXC := heap_alloc_new w (.cells C 33)
  obtain ⟨w0, hw0⟩ : ∃ z, w.alloc (.cells C 33) = z := ⟨_, rfl⟩
  rw [hw0] at b1 hXC
  have HX := Lib.hid (show MB w0 w.heap.size m x by unfold MB; rw [← hC]; exact hXC)
  have HXC := Lib.hid hXC
  have HB := Lib.hid b1
  have HW := Lib.hid hw0
  have HFD := Lib.hid (cFields m.k w0 hk)
  have HP := Lib.hid cIsProc
  have HHO := Lib.hid (fun (v : Value) (us : List Int) w' (g : Below w0.heap.size w0 w') (hv : RdI w' v us) => (show Calls Tryz.prog 21 #[.agg C, v] w' _ by rw [hC]; exact cHasOnly x m v us w' (h.below (bnext b1 g)) hv))
  have HVF := Lib.hid (fun (f : Int) w' (g : Below w0.heap.size w0 w') (hf : 0 ≤ f ∧ f ≤ 10) => (show Calls Tryz.prog 22 #[.agg C, .int .i64 f] w' _ by rw [hC]; exact cValF x m f w' (hT.below (bnext b1 g)) (h.below (bnext b1 g)) hE hf))
  obtain ⟨R, hR⟩ : ∃ R, R = NM.errM m := ⟨_, rfl⟩
  rw [← hR]
  rw [NM.errM_fld] at hR
  have HUR := Lib.hid (fun (f : Int) (hf : f ∈ NM.usd m.k) => usd_range hf)
  have HUL := Lib.hid (usd_len m.k)
  show Calls Tryz.prog 9 #[.agg (mcell m x)] w _
  rw [← hC]
  generalize NM.usd m.k = us at HFD hR HUR HUL
  generalize NM.kn m.k = K at HFD hR
  have P1 := HP.out m.fr
  have P2 := HP.out m.tx
  generalize NM.proc m.fr = A at P1 hR
  generalize NM.proc m.tx = B at P2 hR
  have HP1 := Lib.hid P1
  have HP2 := Lib.hid P2
  clear hT h hE hk b1 hXC hw0 hC HP P1 P2
  go_enter Tryz.func9, Tryz.ntmps9
  go_upto_region 1 with fail
  rw [HW.out]
  obtain ⟨x0, x1, x2, _⟩ := HX.out.cells
  go_wp2_with fail
  refine HFD.out.mono ?_
  rintro e w1 ⟨v, rfl, hv, hb⟩
  replace hv := hv.rd
  have HB1 := Lib.hid hb
  have HX1 := Lib.hid (HX.out.below hb)
  have HXC1 := below_block HXC.out hb
  have HV := Lib.hid hv
  clear x0 x1 x2 HFD hb HW
  obtain ⟨x0, x1, x2, _⟩ := HX1.out.cells
  obtain ⟨va, vc, rfl, _, _⟩ := hv.shape
  clear hv
  cases K
  · have HR := Lib.hid (hR.trans (if_pos rfl))
    clear hR
    go_wp2
    go_ret
    rw [HR.out]
    exact ⟨rfl, bnext HB.out HB1.out⟩
  replace hR := hR.trans (if_neg (by decide))
  cases A
  · have HR := Lib.hid (hR.trans (if_pos (.inl rfl)))
    clear hR
    go_wp2_with (go_at_call 20; refine (HP1.out _).mono ?_; rintro e w2 ⟨rfl, rfl⟩)
    go_ret
    rw [HR.out]
    exact ⟨rfl, bnext HB.out HB1.out⟩
  cases B
  · have HR := Lib.hid (hR.trans (if_pos (.inr rfl)))
    clear hR
    go_wp2_with fail
    refine (HP1.out _).mono ?_
    rintro e w2 ⟨rfl, rfl⟩
    go_wp2_with fail
    refine (HP2.out _).mono ?_
    rintro e w2 ⟨rfl, rfl⟩
    go_wp2
    go_ret
    rw [HR.out]
    exact ⟨rfl, bnext HB.out HB1.out⟩
  replace hR := hR.trans (if_neg (by simp))
  have HO := Lib.hid (HHO.out _ us w1 HB1.out HV.out)
  generalize NM.hasO m us = O at HO hR
  clear HHO
  go_wp2_with fail
  refine (HP1.out _).mono ?_
  rintro e w2 ⟨rfl, rfl⟩
  go_wp2_with fail
  refine (HP2.out _).mono ?_
  rintro e w2 ⟨rfl, rfl⟩
  clear HP1 HP2
  go_wp2_with (refine wpList_load_rowG rfl 33 _ rfl w.heap.size rfl 33 C (0, 0) _ HXC1 Tryz.underlying33 rfl (by rw [hsc]; kernel_rfl) ?_)
  refine HO.out.mono ?_
  rintro e w2 ⟨rfl, hb⟩
  have HB2 := Lib.hid (bnext HB1.out hb)
  have HV2 := Lib.hid (HV.out.below hb)
  clear x0 x1 x2 HXC1 hb HO HB1 HX1 HX
  cases O
  · have HR := Lib.hid (hR.trans (if_pos rfl))
    clear hR
    go_wp2
    go_ret
    rw [HR.out]
    exact ⟨rfl, bnext HB.out HB2.out⟩
  have HR := Lib.hid (hR.trans (if_neg (by decide)))
  clear hR HV
  have hul := HUL.out
  have hul2 : (us.length : Int) ≤ 7 := by omega
  go_wp2
  go_loopw [35] (fun i wr => ∃ j : Nat, j ≤ us.length ∧ i = .int .i64 j ∧ Hid (Below w2.heap.size w2 wr) ∧ Hid (R = NM.errs m (us.drop j))) (fun i _ => us.length - (intOf i).toNat)
  case atStart => exact ⟨0, Nat.zero_le _, rfl, Below.refl _ _, HR.out⟩
  case round =>
    obtain ⟨j, hj, rfl, hbl, he⟩ := hrel
    clear HR
    by_cases hlt : j < us.length
    · have hq : (j : Int) < (us.length : Int) := by omega
      have hk2 := List.getElem?_eq_getElem hlt
      have hd := drop_get hlt
      have hfr := HUR.out _ (List.mem_of_getElem? hk2)
      generalize us[j] = f at hk2 hd hfr
      have e1 := Lib.hid (show R = if NM.errF m f ≠ 0 then NM.errF m f else NM.errs m (us.drop (j + 1)) by rw [he.out, hd]; rfl)
      obtain ⟨b, o, hi, hbw, c0⟩ := atF (HV2.out.below hbl.out) j f hk2
      have hX1 := below_block HXC.out (bnext HB2.out hbl.out)
      have HQ := Lib.hid (HVF.out f wr (bnext HB2.out hbl.out) hfr)
      generalize NM.errF m f = E at HQ e1
      clear he hk2 hd hfr
      go_wp2_with (refine wpList_load_rowG rfl 33 _ rfl w.heap.size rfl 33 C (0, 0) _ hX1 Tryz.underlying33 rfl (by rw [hsc]; kernel_rfl) ?_)
      refine HQ.out.mono ?_
      rintro e w3 ⟨rfl, hb⟩
      have HB3 := Lib.hid (bnext hbl.out hb)
      clear hb HQ hX1 c0 hi hbw hbl
      by_cases hE : E = 0
      · subst hE
        have e2 := Lib.hid (e1.out.trans (if_neg (by simp)))
        clear e1
        go_wp2
        go_roundw
        case rel => exact ⟨j + 1, by omega, by go_num, HB3, e2⟩
        case measure => simp [intOf]; omega
      · have e2 := Lib.hid (e1.out.trans (if_pos hE))
        have hne : (E != 0) = true := bne_t hE
        clear e1 hE
        go_wp2
        go_ret
        rw [e2.out]
        exact ⟨rfl, bnext HB.out (bnext HB2.out HB3.out)⟩
    · have hq : ¬ ((j : Int) < (us.length : Int)) := by omega
      have e2 := Lib.hid (show R = 0 by rw [he.out, List.drop_of_length_le (by omega)]; rfl)
      clear he
      go_wp2
      go_ret
      rw [e2.out]
      exact ⟨rfl, bnext HB.out (bnext HB2.out hbl.out)⟩

end Go.Proofs.YtahcehbgfhdbjaaGreatDoor

namespace Go.Proofs.YtahcehbgfhdbjaaGreatDoor
open Go.RowKit
open NM (Ms)
open VM (Ent)

end Go.Proofs.YtahcehbgfhdbjaaGreatDoor

namespace Go.Proofs.YtahcehbgfhdbjaaGreatDoor
open Go.RowKit
open NM (Ms)
open VM (Ent)

end Go.Proofs.YtahcehbgfhdbjaaGreatDoor

namespace Go.Proofs.YtahcehbgfhdbjaaGreatDoor
open Go.RowKit
open NM (Ms)
open VM (Ent)

end Go.Proofs.YtahcehbgfhdbjaaGreatDoor

namespace Go.Proofs.YtahcehbgfhdbjaaGreatDoor
open Go.RowKit
open NM (Ms)
open VM (Ent)

end Go.Proofs.YtahcehbgfhdbjaaGreatDoor

namespace Go.Proofs.YtahcehbgfhdbjaaGreatDoor
open Go.RowKit
open NM (Ms)
open VM (Ent)

namespace NM
section
variable {k : Int} {xs l : List Int} {u0 u1 : Nat} {e : Int} {r : Int × Nat × Ms}
end
end NM
theorem zone : (#[.int .i64 0, .int .i64 0, .int .i64 0, .int .i64 0, .int .i64 0, .int .i64 0, .int .i64 0, .slice none 0 0, .slice none 0 0, .slice none 0 0, .slice none 0 0, .bool false, .slice none 0 0, .slice none 0 0, .slice none 0 0, .slice none 0 0, .slice none 0 0, .bool false] : Array Value).all (·.oneCell') = true := by simp [Value.oneCell']
end Go.Proofs.YtahcehbgfhdbjaaGreatDoor

namespace Go.Proofs.YtahcehbgfhdbjaaGreatDoor
open Go.RowKit
open NM (Ms)
open VM (Ent)

def NM.shrt (m : Ms) : Bool := decide (m.cg.length ≤ 30 ∧ m.st.length ≤ 60 ∧ m.hv.length ≤ 60 ∧ m.cf.length ≤ 30 ∧ m.ct.length ≤ 30 ∧ m.bf.length ≤ 30 ∧ m.bt.length ≤ 30 ∧ m.ef.length ≤ 30 ∧ m.et.length ≤ 30)

set_option maxRecDepth 100000 in
set_option maxHeartbeats 8000000 in
theorem kShortM (x : Mv) (m : Ms) (w : World) (h : RdMs w x m) :
    Calls Tryz.prog 7 #[mv m x] w fun e w' => e = .returned (.bool (NM.shrt m)) ∧ Below w.heap.size w w' := by
  obtain ⟨k, fr, tx, p, n, r, d, cf, ct, bf, bt, hb, ef, et, cg, st, hv, mo⟩ := m
  obtain ⟨s1, s2, s3, s4, s5, s6, s7, s8, s9⟩ := x
  obtain ⟨h1, h2, h3, h4, h5, h6, h7, h8, h9⟩ := h
  dsimp only at h1 h2 h3 h4 h5 h6 h7 h8 h9
  obtain ⟨a1, c1, rfl, _⟩ := h1.shape
  obtain ⟨a2, c2, rfl, _⟩ := h2.shape
  obtain ⟨a3, c3, rfl, _⟩ := h3.shape
  obtain ⟨a4, c4, rfl, _⟩ := h4.shape
  obtain ⟨a5, c5, rfl, _⟩ := h5.shape
  obtain ⟨a6, c6, rfl, _⟩ := h6.shape
  obtain ⟨a7, c7, rfl, _⟩ := h7.shape
  obtain ⟨a8, c8, rfl, _⟩ := h8.shape
  obtain ⟨a9, c9, rfl, _⟩ := h9.shape
  have hb0 := below_fresh w (.cells #[.int .i64 k, .int .i64 fr, .int .i64 tx, .int .i64 p, .int .i64 n, .int .i64 r, .int .i64 d, .slice a1 cf.length c1, .slice a2 ct.length c2, .slice a3 bf.length c3, .slice a4 bt.length c4, .bool hb, .slice a5 ef.length c5, .slice a6 et.length c6, .slice a7 cg.length c7, .slice a8 st.length c8, .slice a9 hv.length c9, .bool mo] 33)
  obtain ⟨w0, hw0⟩ : ∃ w0, w.alloc (.cells #[.int .i64 k, .int .i64 fr, .int .i64 tx, .int .i64 p, .int .i64 n, .int .i64 r, .int .i64 d, .slice a1 cf.length c1, .slice a2 ct.length c2, .slice a3 bf.length c3, .slice a4 bt.length c4, .bool hb, .slice a5 ef.length c5, .slice a6 et.length c6, .slice a7 cg.length c7, .slice a8 st.length c8, .slice a9 hv.length c9, .bool mo] 33) = w0 := ⟨_, rfl⟩
  have hX : MB w0 w.heap.size (⟨k, fr, tx, p, n, r, d, cf, ct, bf, bt, hb, ef, et, cg, st, hv, mo⟩ : Ms) (⟨.slice a1 cf.length c1, .slice a2 ct.length c2, .slice a3 bf.length c3, .slice a4 bt.length c4, .slice a5 ef.length c5, .slice a6 et.length c6, .slice a7 cg.length c7, .slice a8 st.length c8, .slice a9 hv.length c9⟩ : Mv) := by rw [← hw0]; exact MB.fresh w (⟨k, fr, tx, p, n, r, d, cf, ct, bf, bt, hb, ef, et, cg, st, hv, mo⟩ : Ms) (⟨.slice a1 cf.length c1, .slice a2 ct.length c2, .slice a3 bf.length c3, .slice a4 bt.length c4, .slice a5 ef.length c5, .slice a6 et.length c6, .slice a7 cg.length c7, .slice a8 st.length c8, .slice a9 hv.length c9⟩ : Mv)
  rw [hw0] at hb0
  have HX := Lib.hid hX
  have HB := Lib.hid hb0
  have HW := Lib.hid hw0
  replace h1 := h1.below hb0
  replace h2 := h2.below hb0
  replace h3 := h3.below hb0
  replace h4 := h4.below hb0
  replace h5 := h5.below hb0
  replace h6 := h6.below hb0
  replace h7 := h7.below hb0
  replace h8 := h8.below hb0
  replace h9 := h9.below hb0
  obtain ⟨R, hR⟩ : ∃ R, R = NM.shrt (⟨k, fr, tx, p, n, r, d, cf, ct, bf, bt, hb, ef, et, cg, st, hv, mo⟩ : Ms) := ⟨_, rfl⟩
  rw [← hR]
  unfold NM.shrt at hR
  dsimp only at hR
  clear h1 h2 h3 h4 h5 h6 h7 h8 h9 hb0 hX hw0
  dsimp only [mv, mcell]
  by_cases qcg : cg.length ≤ 30
  case neg =>
    have gcg : ¬ (cg.length : Int) ≤ 30 := by omega
    have HR := Lib.hid (show R = false by rw [hR]; simp [qcg])
    clear hR
    go_enter Tryz.func7, Tryz.ntmps7
    go_upto_region 1 with fail
    rw [HW.out]
    obtain ⟨x0, x1, x2, x3, x4, x5, x6, x7, x8, x9, x10, x11, x12, x13, x14, x15, x16, x17⟩ := HX.out.cells
    dsimp only at x0 x1 x2 x3 x4 x5 x6 x7 x8 x9 x10 x11 x12 x13 x14 x15 x16 x17
    go_wp2
    go_ret
    rw [HR.out]
    exact ⟨rfl, HB.out⟩
  have gcg : (cg.length : Int) ≤ 30 := by omega
  by_cases qst : st.length ≤ 60
  case neg =>
    have gst : ¬ (st.length : Int) ≤ 60 := by omega
    have HR := Lib.hid (show R = false by rw [hR]; simp [qcg, qst])
    clear hR
    go_enter Tryz.func7, Tryz.ntmps7
    go_upto_region 1 with fail
    rw [HW.out]
    obtain ⟨x0, x1, x2, x3, x4, x5, x6, x7, x8, x9, x10, x11, x12, x13, x14, x15, x16, x17⟩ := HX.out.cells
    dsimp only at x0 x1 x2 x3 x4 x5 x6 x7 x8 x9 x10 x11 x12 x13 x14 x15 x16 x17
    go_wp2
    go_ret
    rw [HR.out]
    exact ⟨rfl, HB.out⟩
  have gst : (st.length : Int) ≤ 60 := by omega
  by_cases qhv : hv.length ≤ 60
  case neg =>
    have ghv : ¬ (hv.length : Int) ≤ 60 := by omega
    have HR := Lib.hid (show R = false by rw [hR]; simp [qcg, qst, qhv])
    clear hR
    go_enter Tryz.func7, Tryz.ntmps7
    go_upto_region 1 with fail
    rw [HW.out]
    obtain ⟨x0, x1, x2, x3, x4, x5, x6, x7, x8, x9, x10, x11, x12, x13, x14, x15, x16, x17⟩ := HX.out.cells
    dsimp only at x0 x1 x2 x3 x4 x5 x6 x7 x8 x9 x10 x11 x12 x13 x14 x15 x16 x17
    go_wp2
    go_ret
    rw [HR.out]
    exact ⟨rfl, HB.out⟩
  have ghv : (hv.length : Int) ≤ 60 := by omega
  by_cases qcf : cf.length ≤ 30
  case neg =>
    have gcf : ¬ (cf.length : Int) ≤ 30 := by omega
    have HR := Lib.hid (show R = false by rw [hR]; simp [qcg, qst, qhv, qcf])
    clear hR
    go_enter Tryz.func7, Tryz.ntmps7
    go_upto_region 1 with fail
    rw [HW.out]
    obtain ⟨x0, x1, x2, x3, x4, x5, x6, x7, x8, x9, x10, x11, x12, x13, x14, x15, x16, x17⟩ := HX.out.cells
    dsimp only at x0 x1 x2 x3 x4 x5 x6 x7 x8 x9 x10 x11 x12 x13 x14 x15 x16 x17
    go_wp2
    go_ret
    rw [HR.out]
    exact ⟨rfl, HB.out⟩
  have gcf : (cf.length : Int) ≤ 30 := by omega
  by_cases qct : ct.length ≤ 30
  case neg =>
    have gct : ¬ (ct.length : Int) ≤ 30 := by omega
    have HR := Lib.hid (show R = false by rw [hR]; simp [qcg, qst, qhv, qcf, qct])
    clear hR
    go_enter Tryz.func7, Tryz.ntmps7
    go_upto_region 1 with fail
    rw [HW.out]
    obtain ⟨x0, x1, x2, x3, x4, x5, x6, x7, x8, x9, x10, x11, x12, x13, x14, x15, x16, x17⟩ := HX.out.cells
    dsimp only at x0 x1 x2 x3 x4 x5 x6 x7 x8 x9 x10 x11 x12 x13 x14 x15 x16 x17
    go_wp2
    go_ret
    rw [HR.out]
    exact ⟨rfl, HB.out⟩
  have gct : (ct.length : Int) ≤ 30 := by omega
  by_cases qbf : bf.length ≤ 30
  case neg =>
    have gbf : ¬ (bf.length : Int) ≤ 30 := by omega
    have HR := Lib.hid (show R = false by rw [hR]; simp [qcg, qst, qhv, qcf, qct, qbf])
    clear hR
    go_enter Tryz.func7, Tryz.ntmps7
    go_upto_region 1 with fail
    rw [HW.out]
    obtain ⟨x0, x1, x2, x3, x4, x5, x6, x7, x8, x9, x10, x11, x12, x13, x14, x15, x16, x17⟩ := HX.out.cells
    dsimp only at x0 x1 x2 x3 x4 x5 x6 x7 x8 x9 x10 x11 x12 x13 x14 x15 x16 x17
    go_wp2
    go_ret
    rw [HR.out]
    exact ⟨rfl, HB.out⟩
  have gbf : (bf.length : Int) ≤ 30 := by omega
  by_cases qbt : bt.length ≤ 30
  case neg =>
    have gbt : ¬ (bt.length : Int) ≤ 30 := by omega
    have HR := Lib.hid (show R = false by rw [hR]; simp [qcg, qst, qhv, qcf, qct, qbf, qbt])
    clear hR
    go_enter Tryz.func7, Tryz.ntmps7
    go_upto_region 1 with fail
    rw [HW.out]
    obtain ⟨x0, x1, x2, x3, x4, x5, x6, x7, x8, x9, x10, x11, x12, x13, x14, x15, x16, x17⟩ := HX.out.cells
    dsimp only at x0 x1 x2 x3 x4 x5 x6 x7 x8 x9 x10 x11 x12 x13 x14 x15 x16 x17
    go_wp2
    go_ret
    rw [HR.out]
    exact ⟨rfl, HB.out⟩
  have gbt : (bt.length : Int) ≤ 30 := by omega
  by_cases qef : ef.length ≤ 30
  case neg =>
    have gef : ¬ (ef.length : Int) ≤ 30 := by omega
    have HR := Lib.hid (show R = false by rw [hR]; simp [qcg, qst, qhv, qcf, qct, qbf, qbt, qef])
    clear hR
    go_enter Tryz.func7, Tryz.ntmps7
    go_upto_region 1 with fail
    rw [HW.out]
    obtain ⟨x0, x1, x2, x3, x4, x5, x6, x7, x8, x9, x10, x11, x12, x13, x14, x15, x16, x17⟩ := HX.out.cells
    dsimp only at x0 x1 x2 x3 x4 x5 x6 x7 x8 x9 x10 x11 x12 x13 x14 x15 x16 x17
    go_wp2
    go_ret
    rw [HR.out]
    exact ⟨rfl, HB.out⟩
  have gef : (ef.length : Int) ≤ 30 := by omega
  by_cases qet : et.length ≤ 30
  case neg =>
    have get : ¬ (et.length : Int) ≤ 30 := by omega
    have HR := Lib.hid (show R = false by rw [hR]; simp [qcg, qst, qhv, qcf, qct, qbf, qbt, qef, qet])
    clear hR
    go_enter Tryz.func7, Tryz.ntmps7
    go_upto_region 1 with fail
    rw [HW.out]
    obtain ⟨x0, x1, x2, x3, x4, x5, x6, x7, x8, x9, x10, x11, x12, x13, x14, x15, x16, x17⟩ := HX.out.cells
    dsimp only at x0 x1 x2 x3 x4 x5 x6 x7 x8 x9 x10 x11 x12 x13 x14 x15 x16 x17
    go_wp2
    go_ret
    rw [HR.out]
    exact ⟨rfl, HB.out⟩
  have get : (et.length : Int) ≤ 30 := by omega
  have HR := Lib.hid (show R = true by rw [hR]; simp [qcg, qst, qhv, qcf, qct, qbf, qbt, qef, qet])
  clear hR
  go_enter Tryz.func7, Tryz.ntmps7
  go_upto_region 1 with fail
  rw [HW.out]
  obtain ⟨x0, x1, x2, x3, x4, x5, x6, x7, x8, x9, x10, x11, x12, x13, x14, x15, x16, x17⟩ := HX.out.cells
  dsimp only at x0 x1 x2 x3 x4 x5 x6 x7 x8 x9 x10 x11 x12 x13 x14 x15 x16 x17
  go_wp2
  go_ret
  rw [HR.out]
  exact ⟨rfl, HB.out⟩

end Go.Proofs.YtahcehbgfhdbjaaGreatDoor

namespace Go.Proofs.YtahcehbgfhdbjaaGreatDoor
open Go.RowKit
open NM (Ms)
open VM (Ent)
theorem load_yields {P : Program} {a : Act} {d : Option Tmp} {ty' : TypeId} {pos : String} {after : Array Edge} {gd : Option (Nat × Bool)} (ty : TypeId) (x : Operand) (g : Nat) (hx : a.eval x = .pointer (some ⟨g, 0, none⟩)) (t : TypeId) (cs : Array Value) (fr : Nat × Nat) (dd : TypeDesc)
    (hu : P.underlying ty = some dd) (hd : (match dd with | .struct _ | .array _ _ => true | _ => false) = true) (hi : (P.info? ty).map (·.size) = some cs.size) {w : World} (hg : w.heap[g]? = some (.cells cs t fr)) :
    (execOp a.eval ⟨d, .load ty x, ty', pos, after, gd⟩).run P w = .ok (.value (.agg cs)) w := by
  unfold execOp
  simp only [hx, Instr.loadAt, Instr.sureAddr, Sem.run_bind, Sem.run_pure, Result.andThen_ok, run_loadVar_row w g t ty cs fr dd hg hu hd hi]
set_option maxRecDepth 100000 in
set_option maxHeartbeats 8000000 in
theorem lMessageEqual (Tw : World → Prop) (mt : MT Tw) (x : Mv) (m : Ms) (x' : Mv) (m' : Ms) (w : World) (hT : Tw w) (hr : RdMs w x m) (hr' : RdMs w x' m') :
    Calls Tryz.prog 4 #[mv m x, mv m' x'] w fun e w' => e = .returned (.bool true) ∧ Below w.heap.size w w' := by
  obtain ⟨C, hC⟩ : ∃ C, C = mcell m x := ⟨_, rfl⟩
  obtain ⟨D, hD⟩ : ∃ D, D = mcell m' x' := ⟨_, rfl⟩
  have hsz : C.size = 18 := by rw [hC]; rfl
  have hsd : D.size = 18 := by rw [hD]; rfl
  have hone : C.all (·.oneCell') = true := by rw [hC]; exact arr_one hr
  have hond : D.all (·.oneCell') = true := by rw [hD]; exact arr_one hr'
  obtain ⟨w0, hw0, hX, hY, hb0⟩ := twoM w m x m' x'
  rw [← hC, ← hD] at hw0
  have HX := Lib.hid (show w0.heap[w.heap.size]? = some (.cells C 33 (0, 0)) by rw [hC]; exact hX)
  have HY := Lib.hid (show w0.heap[w.heap.size + 1]? = some (.cells D 33 (0, 0)) by rw [hD]; exact hY)
  have HB := Lib.hid hb0
  have HW := Lib.hid hw0
  have HC := Lib.hid hC
  have HD := Lib.hid hD
  have HT := Lib.hid (mt.keep _ _ hT hb0)
  have HR := Lib.hid (hr.below hb0)
  have HS := Lib.hid (hr'.below hb0)
  have HQ := Lib.hid (show Calls Tryz.prog 7 #[.agg C] w0 _ by rw [hC]; exact kShortM x m w0 HR.out)
  show Calls Tryz.prog 4 #[.agg (mcell m x), .agg (mcell m' x')] w _
  rw [← hC, ← hD]
  clear hb0 hX hY hw0 hC hD hT hr hr'
  go_enter Tryz.func4, Tryz.ntmps4
  go_upto_region 1 with fail
  rw [HW.out]
  clear HW
  go_wp2_with (refine wpList_load_rowG rfl 33 _ rfl w.heap.size rfl 33 C (0, 0) _ HX.out Tryz.underlying33 rfl (by rw [hsz]; kernel_rfl) ?_)
  refine HQ.out.mono ?_
  rintro e w1 ⟨rfl, hb⟩
  replace HX := Lib.hid (below_block HX.out hb)
  replace HY := Lib.hid (below_block HY.out hb)
  replace HR := Lib.hid (HR.out.below hb)
  replace HS := Lib.hid (HS.out.below hb)
  replace HB := Lib.hid (bnext HB.out hb)
  replace HT := Lib.hid (mt.keep _ _ HT.out hb)
  clear hb HQ
  cases NM.shrt m
  · have HQ := Lib.hid (cAwake14 Tw mt w1 HT.out)
    go_wp2_with fail
    refine HQ.out.mono ?_
    rintro e w2 ⟨rfl, hb⟩
    replace HB := Lib.hid (bnext HB.out hb)
    go_wp2
    go_ret
    exact ⟨rfl, HB.out⟩
  have HQ := Lib.hid (show Calls Tryz.prog 7 #[.agg D] w1 _ by rw [HD.out]; exact kShortM x' m' w1 HS.out)
  go_wp2_with (refine wpList_load_rowG rfl 33 _ rfl (w.heap.size + 1) rfl 33 D (0, 0) _ HY.out Tryz.underlying33 rfl (by rw [hsd]; kernel_rfl) ?_)
  refine HQ.out.mono ?_
  rintro e w2 ⟨rfl, hb⟩
  replace HX := Lib.hid (below_block HX.out hb)
  replace HY := Lib.hid (below_block HY.out hb)
  replace HR := Lib.hid (HR.out.below hb)
  replace HS := Lib.hid (HS.out.below hb)
  replace HB := Lib.hid (bnext HB.out hb)
  replace HT := Lib.hid (mt.keep _ _ HT.out hb)
  clear hb HQ
  cases NM.shrt m'
  · have HQ := Lib.hid (cAwake14 Tw mt w2 HT.out)
    go_wp2_with fail
    refine HQ.out.mono ?_
    rintro e w3 ⟨rfl, hb⟩
    replace HB := Lib.hid (bnext HB.out hb)
    go_wp2
    go_ret
    exact ⟨rfl, HB.out⟩
  · have H1 := Lib.hid (fun w' (h : Below w2.heap.size w2 w') => (show Calls Tryz.prog 11 #[.agg C, .agg D] w' _ by rw [HC.out, HD.out]; exact mt.equal x m x' m' w' (HR.out.below h) (HS.out.below h)))
    have H2 := Lib.hid (fun w' (h : Below w2.heap.size w2 w') => (show Calls Tryz.prog 12 #[.agg C, .agg D] w' _ by rw [HC.out, HD.out]; exact rEqM x m x' m' w' (HR.out.below h) (HS.out.below h)))
    have H4 := Lib.hid (fun w' (h : Below w2.heap.size w2 w') => (show Calls Tryz.prog 11 #[.agg C, .agg C] w' (fun e w'' => e = .returned (.bool true) ∧ Below w'.heap.size w' w'') by
      have h1 := mt.equal x m x m w' (HR.out.below h) (HR.out.below h)
      rw [NM.eqm_self] at h1
      rw [HC.out]
      exact h1))
    have H3 := Lib.hid (fun w' (h : Below w2.heap.size w2 w') => cAwake14 Tw mt w' (mt.keep _ _ HT.out h))
    generalize NM.eqm m m' = E at H1 H2
    have he : (E == E) = true := by simp
    go_wp2
    refine wp_region_held_drew (S := fun w' => Below w2.heap.size w2 w') (by kernel_rfl) ((Below.refl _ _).drew) (fun ha => ?_)
    replace ha : Below w2.heap.size w2 w2.drew := (Below.refl _ _).drew
    generalize w2.drew = wa at ha ⊢
    refine takeH (i := 0) (v := ?_) rfl (by kernel_rfl) (by kernel_rfl) (by kernel_rfl) (fun _ _ _ h => h) (Or.inl ⟨by rfl, ?_⟩) (by assumption) ?_
    rotate_left
    · (intro w' hSw; refine load_yields 33 _ w.heap.size ?_ 33 C (0, 0) _ Tryz.underlying33 rfl (by rw [hsz]; kernel_rfl) (below_block HX.out hSw); rfl)
    (try simp only [Act.put, List.setIfInBounds_toArray, List.set_cons_zero, List.set_cons_succ])
    refine takeH (i := 1) (v := ?_) rfl (by kernel_rfl) (by kernel_rfl) (by kernel_rfl) (fun _ _ _ h => h) (Or.inl ⟨by rfl, ?_⟩) (by assumption) ?_
    rotate_left
    · (intro w' hSw; refine load_yields 33 _ (w.heap.size + 1) ?_ 33 D (0, 0) _ Tryz.underlying33 rfl (by rw [hsd]; kernel_rfl) (below_block HY.out hSw); rfl)
    (try simp only [Act.put, List.setIfInBounds_toArray, List.set_cons_zero, List.set_cons_succ])
    refine takeH (i := 3) (v := ?_) rfl (by kernel_rfl) (by kernel_rfl) (by kernel_rfl) (fun _ _ _ h => h) (Or.inl ⟨by rfl, ?_⟩) (by assumption) ?_
    rotate_left
    · (intro w' hSw; refine load_yields 33 _ w.heap.size ?_ 33 C (0, 0) _ Tryz.underlying33 rfl (by rw [hsz]; kernel_rfl) (below_block HX.out hSw); rfl)
    (try simp only [Act.put, List.setIfInBounds_toArray, List.set_cons_zero, List.set_cons_succ])
    refine takeH (i := 4) (v := ?_) rfl (by kernel_rfl) (by kernel_rfl) (by kernel_rfl) (fun _ _ _ h => h) (Or.inl ⟨by rfl, ?_⟩) (by assumption) ?_
    rotate_left
    · (intro w' hSw; refine load_yields 33 _ (w.heap.size + 1) ?_ 33 D (0, 0) _ Tryz.underlying33 rfl (by rw [hsd]; kernel_rfl) (below_block HY.out hSw); rfl)
    (try simp only [Act.put, List.setIfInBounds_toArray, List.set_cons_zero, List.set_cons_succ])
    refine wpAnyH_ready (rs := [2]) (by kernel_rfl) (by simp) ?_
    refine stepH rfl (fun K hK => ?_) AllReadyH.nil
    go_simp
    refine (H1.out wa ha).mono ?_
    rintro e wb ⟨rfl, hq⟩
    have hr1 := bnext ha hq
    go_wp2_with fail
    refine hK.out _ _ (hr1) (fun _ => ?_)
    clear hK K
    (try simp only [Act.put, List.setIfInBounds_toArray, List.set_cons_zero, List.set_cons_succ])
    refine wpAnyH_ready (rs := [5]) (by kernel_rfl) (by simp) ?_
    refine stepH rfl (fun K hK => ?_) AllReadyH.nil
    go_simp
    refine (H2.out wb hr1).mono ?_
    rintro e wc ⟨rfl, hq⟩
    have hr2 := bnext hr1 hq
    go_wp2_with fail
    refine hK.out _ _ (hr2) (fun _ => ?_)
    clear hK K
    (try simp only [Act.put, List.setIfInBounds_toArray, List.set_cons_zero, List.set_cons_succ])
    refine takeH (i := 6) (v := ?_) rfl (by kernel_rfl) (by kernel_rfl) (by kernel_rfl) (fun _ _ _ h => h) (Or.inl ⟨by rfl, ?_⟩) (by assumption) ?_
    rotate_left
    · (intro w hSw; (try dsimp only at hSw); go_simp; first | done | with_reducible rfl)
    (try simp only [Act.put, List.setIfInBounds_toArray, List.set_cons_zero, List.set_cons_succ])
    refine takeH (i := 7) (v := ?_) rfl (by kernel_rfl) (by kernel_rfl) (by kernel_rfl) (fun _ _ _ h => h) (Or.inl ⟨by rfl, ?_⟩) (by assumption) ?_
    rotate_left
    · (intro w hSw; (try dsimp only at hSw); go_simp; first | done | with_reducible rfl)
    (try simp only [Act.put, List.setIfInBounds_toArray, List.set_cons_zero, List.set_cons_succ])
    refine takeH (i := 8) (v := ?_) rfl (by kernel_rfl) (by kernel_rfl) (by kernel_rfl) (fun _ _ _ h => h) (Or.inl ⟨by rfl, ?_⟩) (by assumption) ?_
    rotate_left
    · (intro w' hSw; refine load_yields 33 _ w.heap.size ?_ 33 C (0, 0) _ Tryz.underlying33 rfl (by rw [hsz]; kernel_rfl) (below_block HX.out hSw); rfl)
    (try simp only [Act.put, List.setIfInBounds_toArray, List.set_cons_zero, List.set_cons_succ])
    refine takeH (i := 9) (v := ?_) rfl (by kernel_rfl) (by kernel_rfl) (by kernel_rfl) (fun _ _ _ h => h) (Or.inl ⟨by rfl, ?_⟩) (by assumption) ?_
    rotate_left
    · (intro w' hSw; refine load_yields 33 _ w.heap.size ?_ 33 C (0, 0) _ Tryz.underlying33 rfl (by rw [hsz]; kernel_rfl) (below_block HX.out hSw); rfl)
    (try simp only [Act.put, List.setIfInBounds_toArray, List.set_cons_zero, List.set_cons_succ])
    refine wpAnyH_ready (rs := [10]) (by kernel_rfl) (by simp) ?_
    refine stepH rfl (fun K hK => ?_) AllReadyH.nil
    go_simp
    refine (H4.out wc hr2).mono ?_
    rintro e wd ⟨rfl, hq⟩
    have hr3 := bnext hr2 hq
    go_wp2_with fail
    refine hK.out _ _ (hr3) (fun _ => ?_)
    clear hK K
    (try simp only [Act.put, List.setIfInBounds_toArray, List.set_cons_zero, List.set_cons_succ])
    refine takeH (i := 11) (v := ?_) rfl (by kernel_rfl) (by kernel_rfl) (by kernel_rfl) (fun _ _ _ h => h) (Or.inl ⟨by rfl, ?_⟩) (by assumption) ?_
    rotate_left
    · (intro w hSw; (try dsimp only at hSw); go_simp; first | done | with_reducible rfl)
    (try simp only [Act.put, List.setIfInBounds_toArray, List.set_cons_zero, List.set_cons_succ])
    refine takeH (i := 12) (v := ?_) rfl (by kernel_rfl) (by kernel_rfl) (by kernel_rfl) (fun _ _ _ h => h) (Or.inl ⟨by rfl, ?_⟩) (by assumption) ?_
    rotate_left
    · (intro w hSw; (try dsimp only at hSw); go_simp; first | done | with_reducible rfl)
    (try simp only [Act.put, List.setIfInBounds_toArray, List.set_cons_zero, List.set_cons_succ])
    refine wpAnyH_ready (rs := [13]) (by kernel_rfl) (by simp) ?_
    refine stepH rfl (fun K hK => ?_) AllReadyH.nil
    go_simp
    refine (H3.out wd hr3).mono ?_
    rintro e we ⟨rfl, hq⟩
    have hr4 := bnext hr3 hq
    go_wp2_with fail
    refine hK.out _ _ (hr4) (fun _ => ?_)
    clear hK K
    (try simp only [Act.put, List.setIfInBounds_toArray, List.set_cons_zero, List.set_cons_succ])
    refine takeH (i := 14) (v := ?_) rfl (by kernel_rfl) (by kernel_rfl) (by kernel_rfl) (fun _ _ _ h => h) (Or.inl ⟨by rfl, ?_⟩) (by assumption) ?_
    rotate_left
    · (intro w hSw; (try dsimp only at hSw); go_simp; first | done | with_reducible rfl)
    (try simp only [Act.put, List.setIfInBounds_toArray, List.set_cons_zero, List.set_cons_succ])
    refine takeH (i := 15) (v := ?_) rfl (by kernel_rfl) (by kernel_rfl) (by kernel_rfl) (fun _ _ _ h => h) (Or.inl ⟨by rfl, ?_⟩) (by assumption) ?_
    rotate_left
    · (intro w hSw; (try dsimp only at hSw); go_simp; first | done | with_reducible rfl)
    (try simp only [Act.put, List.setIfInBounds_toArray, List.set_cons_zero, List.set_cons_succ])
    refine wpAnyH_done (by kernel_rfl) ?_ _
    replace HB := Lib.hid (bnext HB.out hr4)
    go_wp2
    go_ret
    exact ⟨rfl, HB.out⟩

end Go.Proofs.YtahcehbgfhdbjaaGreatDoor
