/-
  The calls of package config: package sets' at its own kind. Conditions: what comes in reads; further ones at each. (Written by mk_sets.py.)
-/
import Derived.Test.YteeegpojfbgkfaaTVal
import Derived.Test.YteeegpojfbgkfaaTFnd
import Derived.Test.YteeegpojfbgkfaaTUni
import Derived.Test.YteeegpojfbgkfaaTVec
namespace Go.Proofs.Yteeegpojfbgkfaa
open Go.RowKit
open JM (Chg)
open CM (Fp)
open VM (Ent)

set_option maxRecDepth 100000 in
set_option maxHeartbeats 1000000 in
theorem gValidate (v : Value) (fs : List Fp) (w : World) (h : RdF w v fs) :
    Calls Try.prog 13 #[v] w fun e w' => e = .returned (.int .i64 (CM.errL (0, 0) fs)) ∧ Below w.heap.size w w' := by
  have HE := Lib.hid (cElements w)
  have HS := Lib.hid (fun w' (hb : Below w.heap.size w w') => sValidate v fs w' (h.below hb))
  obtain ⟨va, vc, rfl, _, _⟩ := h.shape
  clear h
  go_enter Try.func13, Try.ntmps13
  go_wp2_with fail
  refine HE.out.mono ?_
  rintro e w1 ⟨rfl, hb1⟩
  have HS1 := Lib.hid (HS.out w1 hb1)
  have HB1 := Lib.hid hb1
  clear HS HE hb1
  go_wp2_with fail
  refine HS1.out.mono ?_
  rintro e w2 ⟨rfl, hb2⟩
  have HB2 := Lib.hid (bnext HB1.out hb2)
  go_wp2
  go_ret
  exact ⟨rfl, HB2.out⟩

set_option maxRecDepth 100000 in
set_option maxHeartbeats 1000000 in
theorem gVector (v : Value) (fs : List Fp) (w : World) (h : RdF w v fs) (hl : fs.length ≤ 1000) :
    Calls Try.prog 17 #[v] w fun e w' => ∃ v', e = .returned v' ∧ OwnE w.heap.size w' v' (CM.vo fs) ∧ Below w.heap.size w w' := by
  have HE := Lib.hid (cElements w)
  have HS := Lib.hid (fun w' (hb : Below w.heap.size w w') => sVector v fs w' (h.below hb) hl)
  obtain ⟨va, vc, rfl, _, _⟩ := h.shape
  clear h
  go_enter Try.func17, Try.ntmps17
  go_wp2_with fail
  refine HE.out.mono ?_
  rintro e w1 ⟨rfl, hb1⟩
  have HS1 := Lib.hid (HS.out w1 hb1)
  have HB1 := Lib.hid hb1
  clear HS HE hb1
  go_wp2_with fail
  refine HS1.out.mono ?_
  rintro e w2 ⟨v', rfl, ho2, hb2⟩
  have HO2 := Lib.hid (ho2.mono HB1.out.size)
  have HB2 := Lib.hid (bnext HB1.out hb2)
  clear ho2
  go_wp2
  go_ret
  exact ⟨_, rfl, HO2.out, HB2.out⟩

set_option maxRecDepth 100000 in
set_option maxHeartbeats 1000000 in
theorem gContains (va vb : Value) (xs ys : List Fp) (w : World) (ha : RdF w va xs) (hb : RdF w vb ys) (hs : CM.Srt xs) (hl : xs.length ≤ 1000) :
    Calls Try.prog 19 #[va, vb] w fun e w' => e = .returned (.bool (CM.cons xs ys)) ∧ Below w.heap.size w w' := by
  have HE := Lib.hid (cElements w)
  have HS := Lib.hid (fun w' (hb' : Below w.heap.size w w') => sContains va vb xs ys w' (ha.below hb') (hb.below hb') hs hl)
  obtain ⟨vaa, vac, rfl, _, _⟩ := ha.shape
  obtain ⟨vba, vbc, rfl, _, _⟩ := hb.shape
  clear ha hb hs hl
  go_enter Try.func19, Try.ntmps19
  go_wp2_with fail
  refine HE.out.mono ?_
  rintro e w1 ⟨rfl, hb1⟩
  have HS1 := Lib.hid (HS.out w1 hb1)
  have HB1 := Lib.hid hb1
  clear HS HE hb1
  go_wp2_with fail
  refine HS1.out.mono ?_
  rintro e w2 ⟨rfl, hb2⟩
  have HB2 := Lib.hid (bnext HB1.out hb2)
  go_wp2
  go_ret
  exact ⟨rfl, HB2.out⟩

set_option maxRecDepth 100000 in
set_option maxHeartbeats 1000000 in
theorem gUnionO (va vb : Value) (xs ys : List Fp) (w : World) (ha : RdF w va xs) (hb : RdF w vb ys) (hlx : xs.length ≤ 1000) (hly : ys.length ≤ 1000) (hcx : ∀ f ∈ xs, f.2.2.length ≤ 1073741824) (hcy : ∀ f ∈ ys, f.2.2.length ≤ 1073741824) :
    Calls Try.prog 24 #[va, vb] w fun e w' => ∃ v', e = .returned v' ∧ OwnD w.heap.size w' v' (CM.un xs ys) ∧ Below w.heap.size w w' := by
  have HE := Lib.hid (cElements w)
  have HS := Lib.hid (fun w' (hb' : Below w.heap.size w w') => sUnion va vb xs ys w' (ha.below hb') (hb.below hb') hlx hly hcx hcy)
  obtain ⟨vaa, vac, rfl, _, _⟩ := ha.shape
  obtain ⟨vba, vbc, rfl, _, _⟩ := hb.shape
  clear ha hb hlx hly hcx hcy
  go_enter Try.func24, Try.ntmps24
  go_wp2_with fail
  refine HE.out.mono ?_
  rintro e w1 ⟨rfl, hb1⟩
  have HS1 := Lib.hid (HS.out w1 hb1)
  have HB1 := Lib.hid hb1
  clear HS HE hb1
  go_wp2_with fail
  refine HS1.out.mono ?_
  rintro e w2 ⟨v', rfl, ho2, hb2⟩
  have HO2 := Lib.hid (OwnD.mono ho2 HB1.out.size)
  have HB2 := Lib.hid (bnext HB1.out hb2)
  clear ho2
  go_wp2
  go_ret
  exact ⟨_, rfl, HO2.out, HB2.out⟩

theorem gUnion (va vb : Value) (xs ys : List Fp) (w : World) (ha : RdF w va xs) (hb : RdF w vb ys) (hlx : xs.length ≤ 1000) (hly : ys.length ≤ 1000) (hcx : ∀ f ∈ xs, f.2.2.length ≤ 1073741824) (hcy : ∀ f ∈ ys, f.2.2.length ≤ 1073741824) :
    Calls Try.prog 24 #[va, vb] w fun e w' => ∃ v', e = .returned v' ∧ RdF w' v' (CM.un xs ys) ∧ Below w.heap.size w w' :=
  (gUnionO va vb xs ys w ha hb hlx hly hcx hcy).mono (by rintro e w' ⟨v', h1, h2, h3⟩; exact ⟨v', h1, h2.rd, h3⟩)

set_option maxRecDepth 100000 in
set_option maxHeartbeats 4000000 in
theorem gRestrictO (va vb : Value) (fs : List Fp) (vs : List Ent) (w : World) (h : RdF w va fs) (hb : VX.RdV w vb vs) (hval : VM.Val 0 vs) (hlv : vs.length ≤ 1000) (hl : fs.length ≤ 1000) (hcl : ∀ f ∈ fs, f.2.2.length ≤ 1073741824) :
    Calls Try.prog 33 #[va, vb] w fun e w' => ∃ v', e = .returned v' ∧ OwnD w.heap.size w' v' (CM.rs fs (VM.cnt vs)) ∧ Below w.heap.size w w' := by
  obtain ⟨ad, cp, rfl, hc, _⟩ := h.shape
  have H := Lib.hid h
  have HL := Lib.hid hl
  have HCL := Lib.hid hcl
  have HG := Lib.hid (fun x w' (hh : Below w.heap.size w w') => VX.wGet vb vs x w' (hb.below hh) hval hlv)
  clear h hl hcl hb hval hlv
  go_enter Try.func33, Try.ntmps33
  go_wp2
  go_loopw [5, 10] (fun u i wr => ∃ k : Nat, k ≤ fs.length ∧ i = .int .i64 k ∧ Hid (OwnF w w.heap.size wr u (CM.rs (fs.take k) (VM.cnt vs))) ∧ Hid (Below w.heap.size w wr)) (fun _ i _ => fs.length - (intOf i).toNat)
  case atStart => exact ⟨0, Nat.zero_le _, rfl, OwnF.nil _ _ _, Below.refl _ _⟩
  case round =>
    obtain ⟨k, hk, rfl, ho, hbl⟩ := hrel
    by_cases hlt : k < fs.length
    · have hq : (k : Int) < (fs.length : Int) := by omega
      have hk2 := List.getElem?_eq_getElem hlt
      generalize fs[k] = f at hk2
      have hnext := rs_snoc (fs.take k) f (VM.cnt vs)
      rw [← take_snocF hk2] at hnext
      obtain ⟨x, m, cs⟩ := f
      simp only at hnext
      obtain ⟨b, o, da, dl, dc, hi, hbw, c0, c1, c2, hrd⟩ := H.out.at_ k x m cs hk2
      have HT1 := Lib.hid (show Tell1 w (x, m, da, dl, dc) (x, m, cs) from ⟨rfl, rfl, hrd⟩)
      have c0 := below_cell hbl.out c0
      have c1 := below_cell hbl.out c1
      have c2 := below_cell hbl.out c2
      have hbw : b < wr.heap.size := Nat.lt_of_lt_of_le hbw hbl.out.size
      have hbx := below_fresh wr (.cells #[.int .i64 x, .int .i64 m, .slice da dl dc] 45)
      have hpx := PBox.fresh wr x m (.slice da dl dc)
      have hlx : wr.heap.size < (wr.alloc (.cells #[.int .i64 x, .int .i64 m, .slice da dl dc] 45)).heap.size := by rw [World.size_alloc]; exact Nat.lt_succ_self _
      obtain ⟨wx, hwx⟩ : ∃ wx, wr.alloc (.cells #[.int .i64 x, .int .i64 m, .slice da dl dc] 45) = wx := ⟨_, rfl⟩
      rw [hwx] at hbx hpx hlx
      obtain ⟨uq, hu1, hu2, hu3⟩ := (ho.out.below hbx).out
      have hlu : uq.length ≤ 1073741824 := by
        have h1 := CM.rs_len (fs.take k) (VM.cnt vs)
        rw [List.length_take] at h1
        have := HL.out
        omega
      have HTU := Lib.hid hu2
      have HWX := Lib.hid hwx
      have HBX := Lib.hid (bnext hbl.out hbx)
      have hG := fun p : Later wx => Calls.later (HG.out x p.val (bnext HBX.out p.h))
      generalize VM.cnt vs x = N at hnext hG
      have HGC := Lib.hid hG
      have z0 : ∀ p : Later wx, p.val.cell? ⟨wr.heap.size, 0, none⟩ = some (.int .i64 x) := fun p => below_cell p.h hpx.1
      have z1 : ∀ p : Later wx, p.val.cell? ⟨wr.heap.size, 1, none⟩ = some (.int .i64 m) := fun p => below_cell p.h hpx.2.1
      have HPX := Lib.hid hpx
      have HNX := Lib.hid hnext
      clear hbx hpx hwx hu2 hu3 hnext hG hk2 hrd ho hbl
      by_cases hm : m ≤ N
      · have HNX2 := Lib.hid (HNX.out.trans (by rw [if_pos hm]))
        clear HNX
        go_wp2
        rw [HWX.out]
        clear c0 c1 c2 hi hbw HWX
        refine wp_region_later (by kernel_rfl) (by kernel_rfl) ?_
        repeat (go_big_quiet_step (first | (go_at_call 60; with_reducible exact HGC.out _)))
        refine wpQuiet_nil ?_
        rintro _ ⟨p', rfl⟩
        have hh := p'.h
        obtain ⟨w2, hw2⟩ : ∃ w2, w2 = p'.val := ⟨_, rfl⟩
        rw [← hw2] at hh ⊢
        clear hw2 z0 z1 HGC
        have hu2 := hu1.below hh
        have HB2 := Lib.hid (bnext HBX.out hh)
        obtain ⟨p0, p1, p2⟩ := HPX.out.below hh
        have hs2 : wr.heap.size < w2.heap.size := Nat.lt_of_lt_of_le hlx hh.size
        have hsz := HB2.out.size
        clear hu1 hh HPX HBX hlx
        go_wp2_with (at_builtin; refine wp_appG1' proE (x, m, da, dl, dc) _ rfl rfl _ _ rfl rfl hu2 rfl hlu hsz ?_)
        intro v3 w3 ho3 hb3 _
        have HO3 := Lib.hid (show OwnF w w.heap.size w3 v3 (CM.rs (fs.take (k + 1)) (VM.cnt vs)) by rw [HNX2.out]; exact OwnF.snoc ho3 HTU.out HT1.out)
        have HB3 := Lib.hid (HB2.out.trans hb3)
        clear ho3 hb3 hu2 HTU HT1 p0 p1 p2 HB2 hs2 hsz HNX2
        go_wp2
        go_roundw
        case rel => exact ⟨k + 1, by omega, by go_num, HO3, HB3⟩
        case measure => simp [intOf]; omega
      · have HNX2 := Lib.hid (HNX.out.trans (by rw [if_neg hm, List.append_nil]))
        have hm' : decide (m ≤ N) = false := decide_eq_false hm
        clear HNX
        go_wp2
        rw [HWX.out]
        clear c0 c1 c2 hi hbw HWX
        refine wp_region_later (by kernel_rfl) (by kernel_rfl) ?_
        repeat (go_big_quiet_step (first | (go_at_call 60; with_reducible exact HGC.out _)))
        refine wpQuiet_nil ?_
        rintro _ ⟨p', rfl⟩
        have HO3 := Lib.hid (show OwnF w w.heap.size p'.val _ (CM.rs (fs.take (k + 1)) (VM.cnt vs)) by rw [HNX2.out]; exact ⟨uq, hu1.below p'.h, HTU.out⟩)
        have HB3 := Lib.hid (bnext HBX.out p'.h)
        generalize p'.val = w3 at HO3 HB3 ⊢
        clear z0 z1 HGC HNX2 hu1 HTU HPX HBX hlx
        go_wp2
        go_roundw
        case rel => exact ⟨k + 1, by omega, by go_num, HO3, HB3⟩
        case measure => simp [intOf]; omega
    · have hq : ¬ ((k : Int) < (fs.length : Int)) := by omega
      obtain rfl : k = fs.length := by omega
      rw [List.take_length] at ho
      have HEL := Lib.hid (cElements wr)
      have HRF := Lib.hid (ho.out.rd hbl.out)
      have HBL := Lib.hid hbl.out
      obtain ⟨ua, uc, rfl, _, _⟩ := HRF.out.shape
      clear ho hbl
      go_wp2_with fail
      refine HEL.out.mono ?_
      rintro e w2 ⟨rfl, hb2⟩
      have HCO := Lib.hid (sCopy _ _ w2 (HRF.out.below hb2) (by have := CM.rs_len fs (VM.cnt vs); have := HL.out; omega) (fun f hf => HCL.out f (CM.rs_mem.1 hf).1))
      have HB2 := Lib.hid (bnext HBL.out hb2)
      clear HEL hb2 HRF HBL
      go_wp2_with fail
      refine HCO.out.mono ?_
      rintro e w3 ⟨v3, rfl, hr3, hb3⟩
      have HR3 := Lib.hid (OwnD.mono hr3 HB2.out.size)
      have HB3 := Lib.hid (bnext HB2.out hb3)
      clear hr3 HCO hb3
      go_wp2
      go_ret
      exact ⟨_, rfl, HR3.out, HB3.out⟩

theorem gRestrict (va vb : Value) (fs : List Fp) (vs : List Ent) (w : World) (h : RdF w va fs) (hb : VX.RdV w vb vs) (hval : VM.Val 0 vs) (hlv : vs.length ≤ 1000) (hl : fs.length ≤ 1000) (hcl : ∀ f ∈ fs, f.2.2.length ≤ 1073741824) :
    Calls Try.prog 33 #[va, vb] w fun e w' => ∃ v', e = .returned v' ∧ RdF w' v' (CM.rs fs (VM.cnt vs)) ∧ Below w.heap.size w w' :=
  (gRestrictO va vb fs vs w h hb hval hlv hl hcl).mono (by rintro e w' ⟨v', h1, h2, h3⟩; exact ⟨v', h1, h2.rd, h3⟩)

set_option maxRecDepth 100000 in
set_option maxHeartbeats 1000000 in
theorem gMeet (va vb : Value) (xs ys : List Fp) (w : World) (h : RdF w va xs) (hb : RdF w vb ys) (hl : xs.length ≤ 1000) (hcl : ∀ f ∈ xs, f.2.2.length ≤ 1073741824) (hy : CM.Ok ys) :
    Calls Try.prog 26 #[va, vb] w fun e w' => ∃ v', e = .returned v' ∧ RdF w' v' (CM.meet xs ys) ∧ Below w.heap.size w w' := by
  have h9 := hy.nine
  have hvo := CM.vo_spec hy
  have hvl := CM.vo_len ys
  have HV := Lib.hid (gVector vb ys w hb (by omega))
  have HR := Lib.hid (fun v2 w2 (h2 : Below w.heap.size w w2) (ho : OwnE w.heap.size w2 v2 (CM.vo ys)) => gRestrict va v2 xs (CM.vo ys) w2 (h.below h2) ho.rdV hvo.1 (by omega) hl hcl)
  have HE := Lib.hid (show CM.rs xs (VM.cnt (CM.vo ys)) = CM.meet xs ys by unfold CM.meet; rw [show VM.cnt (CM.vo ys) = CM.ct ys from funext hvo.2])
  clear h hb hl hcl hy h9 hvo hvl
  go_enter Try.func26, Try.ntmps26
  go_wp2_with fail
  refine HV.out.mono ?_
  rintro e w2 ⟨v2, rfl, ho2, hb2⟩
  have HRC := Lib.hid (HR.out v2 w2 hb2 ho2)
  clear ho2 HV HR
  go_wp2_with fail
  refine HRC.out.mono ?_
  rintro e w3 ⟨v3, rfl, hr3, hb3⟩
  have HR3 := Lib.hid hr3
  clear hr3 HRC
  go_wp2
  go_ret
  exact ⟨_, rfl, by rw [← HE.out]; exact HR3.out, bnext hb2 hb3⟩

end Go.Proofs.Yteeegpojfbgkfaa
