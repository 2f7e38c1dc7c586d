/-
  The calls of the reference's VectorOf, of config.Restrict, config.Meet and the reference's Restrict and Meet. Conditions: what comes in reads; the vector is valid.
-/
import Derived.StillTailTactics
import Derived.Test.YtacbpphhkkmelaaCVec
import Derived.Test.YtacbpphhkkmelaaCUnionR
import Derived.Test.YtacbpphhkkmelaaCEq
namespace Go.Proofs.Ytacbpphhkkmelaa
open Go.RowKit
open JM (Chg)
open CM (Fp)
open VM (Ent)

theorem OwnE.rdV {base : Nat} {w : World} {v : Value} {xs : List Ent} (h : OwnE base w v xs) : VX.RdV w v xs := h.vx.rd
theorem vo_take {fs : List Fp} (h : ∀ x ∈ fs, CM.errF x = 0) (hl : fs.length ≤ 1000) (k : Nat) : VM.Val 0 (CM.vr (fs.take k)) ∧ (∀ a, VM.cnt (CM.vr (fs.take k)) a = CM.ct (fs.take k) a) ∧ (CM.vr (fs.take k)).length ≤ 1000 := by
  have h1 := CM.vr_spec (fs := fs.take k) (fun x hx => h x (List.mem_of_mem_take hx)) (by rw [List.length_take]; omega)
  exact ⟨h1.1, h1.2.1, by have := h1.2.2; rw [List.length_take] at this; omega⟩

set_option maxRecDepth 100000 in
set_option maxHeartbeats 4000000 in
theorem rVectorOf (v : Value) (fs : List Fp) (w : World) (h : RdF w v fs) (hv : ∀ x ∈ fs, CM.errF x = 0) (hl : fs.length ≤ 1000) :
    Calls Try.prog 18 #[v] w fun e w' => ∃ v', e = .returned v' ∧ OwnE w.heap.size w' v' (CM.vr fs) ∧ Below w.heap.size w w' := by
  obtain ⟨ad, cp, rfl, hc, _⟩ := h.shape
  have H := Lib.hid h
  have HL := Lib.hid hl
  have HV := Lib.hid hv
  clear h hl hv
  go_enter Try.func18, Try.ntmps18
  go_wp2
  go_loopw [3, 4] (fun u i wr => ∃ k : Nat, k ≤ fs.length ∧ i = .int .i64 k ∧ Hid (OwnE w.heap.size wr u (CM.vr (fs.take k))) ∧ Hid (Below w.heap.size w wr)) (fun _ i _ => fs.length - (intOf i).toNat)
  case atStart => exact ⟨0, Nat.zero_le _, rfl, OwnG.nil hlE _ _ _, Below.refl _ _⟩
  case round =>
    obtain ⟨k, hk, rfl, ho, hbl⟩ := hrel
    by_cases hlt : k < fs.length
    · have hq : (k : Int) < (fs.length : Int) := by omega
      have hk2 := List.getElem?_eq_getElem hlt
      generalize fs[k] = f at hk2
      obtain ⟨t1, t2, t3⟩ := vo_take HV.out HL.out k
      have hf := CM.errF_num (HV.out f (List.mem_of_getElem? hk2))
      have hnext := CM.vr_snoc (fs.take k) f
      rw [← take_snocF hk2] at hnext
      have hcp := CM.ct_pos (fs.take k) f.1
      have hcl := CM.ct_len (fs.take k) f.1
      rw [← t2 f.1] at hcp hcl
      have hcl2 : (VM.cnt (CM.vr (fs.take k)) f.1) ≤ 1000 := by rw [List.length_take] at hcl; have := HL.out; omega
      obtain ⟨x, m, cs⟩ := f
      simp only at hf hnext hcp hcl2
      obtain ⟨b, o, da, dl, dc, hi, hbw, c0, c1, c2, _⟩ := (H.out.below hbl.out).at_ k x m cs hk2
      generalize CM.vr (fs.take k) = V at t1 t3 hnext hcp hcl2 ho
      have hcnt := VX.rCount _ V x wr.drew (show VX.RdV wr.drew _ V from ho.out.rdV)
      obtain ⟨u1, u2, rfl, hu2, hu3⟩ := ho.out.rd.shape
      have hwith := fun w1 (hr : VX.RdV w1 (.slice u1 V.length u2) V) => VX.rWith _ V x (VM.cnt V x + 1) w1 hr (by omega) (by omega) (by omega) t3
      generalize VM.cnt V x = N at hcnt hwith hnext hcp hcl2
      have HCN := Lib.hid (show Calls Try.prog 51 #[.slice u1 V.length u2, .int .i64 x] wr.drew fun e w' => e = .returned (.int .i64 N) ∧ w' = wr.drew from hcnt.mono (by rintro e w1 ⟨rfl, rfl⟩; exact ⟨rfl, rfl⟩))
      have HWI := Lib.hid hwith
      have HNX := Lib.hid hnext
      have HO := Lib.hid ho.out
      have HBL := Lib.hid hbl.out
      clear hcnt hwith hnext ho hbl t1 t2 t3 hk2 hcl
      go_wp2
      refine wp_region_still_tail 14 (by kernel_rfl) (by kernel_rfl) ?_
      simp only [List.take_succ_cons, List.take_zero, List.drop_succ_cons, List.drop_zero]
      iterate 12 still_step
      still_call HCN.out
      iterate 1 still_step
      refine wpStill_nil ?_
      change wpList _ _ _ _ _ wr.drew
      have HO2 := Lib.hid (show OwnE w.heap.size wr.drew _ V from HO.out)
      have HB2 := Lib.hid HBL.out.drew
      clear c0 c1 c2 hi hbw HO HBL HCN
      obtain ⟨w2, hw2⟩ : ∃ w2, wr.drew = w2 := ⟨_, rfl⟩
      rw [hw2] at HO2 HB2 ⊢
      clear hw2
      go_wp2_with fail
      refine (HWI.out _ HO2.out.rdV).mono ?_
      rintro e w3 ⟨v3, rfl, ho3, hb3⟩
      have HO3 := Lib.hid (show OwnE w.heap.size w3 v3 (CM.vr (fs.take (k + 1))) by rw [HNX.out]; exact (vx_ownE ho3).mono HB2.out.size)
      have HB3 := Lib.hid (bnext HB2.out hb3)
      clear ho3 hb3 HO2 HB2 HWI HNX
      go_wp2
      go_roundw
      case rel => exact ⟨k + 1, by omega, by go_num, HO3, HB3⟩
      case measure => simp [intOf]; omega
    · have hq : ¬ ((k : Int) < (fs.length : Int)) := by omega
      obtain rfl : k = fs.length := by omega
      rw [List.take_length] at ho
      go_wp2
      go_ret
      exact ⟨_, rfl, ho.out, hbl.out⟩

theorem rs_snoc (l : List Fp) (f : Fp) (g : Int → Int) : CM.rs (l ++ [f]) g = CM.rs l g ++ if f.2.1 ≤ g f.1 then [f] else [] := by
  unfold CM.rs
  rw [List.filter_append]
  by_cases h : f.2.1 ≤ g f.1
  · rw [if_pos h, List.filter_cons_of_pos (by simpa using h)]; rfl
  · rw [if_neg h, List.filter_cons_of_neg (by simpa using h)]; rfl

set_option maxRecDepth 100000 in
set_option maxHeartbeats 4000000 in
theorem gRestrict (va vb : Value) (fs : List Fp) (vs : List Ent) (w : World) (h : RdF w va fs) (hb : VX.RdV w vb vs) (hval : VM.Val 0 vs) (hlv : vs.length ≤ 1000) (hl : fs.length ≤ 1000) (hcl : ∀ f ∈ fs, f.2.2.length ≤ 1073741824) :
    Calls Try.prog 33 #[va, vb] w fun e w' => ∃ v', e = .returned v' ∧ RdF w' v' (CM.rs fs (VM.cnt vs)) ∧ Below w.heap.size w w' := by
  obtain ⟨ad, cp, rfl, hc, _⟩ := h.shape
  have H := Lib.hid h
  have HL := Lib.hid hl
  have HCL := Lib.hid hcl
  have HG := Lib.hid (fun x w' (hh : Below w.heap.size w w') => VX.wGet vb vs x w' (hb.below hh) hval hlv)
  clear h hl hcl hb hval hlv
  go_enter Try.func33, Try.ntmps33
  go_wp2
  go_loopw [5, 10] (fun u i wr => ∃ k : Nat, k ≤ fs.length ∧ i = .int .i64 k ∧ Hid (OwnF w w.heap.size wr u (CM.rs (fs.take k) (VM.cnt vs))) ∧ Hid (Below w.heap.size w wr)) (fun _ i _ => fs.length - (intOf i).toNat)
  case atStart => exact ⟨0, Nat.zero_le _, rfl, OwnF.nil _ _ _, Below.refl _ _⟩
  case round =>
    obtain ⟨k, hk, rfl, ho, hbl⟩ := hrel
    by_cases hlt : k < fs.length
    · have hq : (k : Int) < (fs.length : Int) := by omega
      have hk2 := List.getElem?_eq_getElem hlt
      generalize fs[k] = f at hk2
      have hnext := rs_snoc (fs.take k) f (VM.cnt vs)
      rw [← take_snocF hk2] at hnext
      obtain ⟨x, m, cs⟩ := f
      simp only at hnext
      obtain ⟨b, o, da, dl, dc, hi, hbw, c0, c1, c2, hrd⟩ := H.out.at_ k x m cs hk2
      have HT1 := Lib.hid (show Tell1 w (x, m, da, dl, dc) (x, m, cs) from ⟨rfl, rfl, hrd⟩)
      have c0 := below_cell hbl.out c0
      have c1 := below_cell hbl.out c1
      have c2 := below_cell hbl.out c2
      have hbw : b < wr.heap.size := Nat.lt_of_lt_of_le hbw hbl.out.size
      have hbx := below_fresh wr (.cells #[.int .i64 x, .int .i64 m, .slice da dl dc] 45)
      have hpx := PBox.fresh wr x m (.slice da dl dc)
      have hlx : wr.heap.size < (wr.alloc (.cells #[.int .i64 x, .int .i64 m, .slice da dl dc] 45)).heap.size := by rw [World.size_alloc]; exact Nat.lt_succ_self _
      obtain ⟨wx, hwx⟩ : ∃ wx, wr.alloc (.cells #[.int .i64 x, .int .i64 m, .slice da dl dc] 45) = wx := ⟨_, rfl⟩
      rw [hwx] at hbx hpx hlx
      obtain ⟨uq, hu1, hu2, hu3⟩ := (ho.out.below hbx).out
      have hlu : uq.length ≤ 1073741824 := by
        have h1 := CM.rs_len (fs.take k) (VM.cnt vs)
        rw [List.length_take] at h1
        have := HL.out
        omega
      have HTU := Lib.hid hu2
      have HWX := Lib.hid hwx
      have HBX := Lib.hid (bnext hbl.out hbx)
      have hG := fun p : Later wx => Calls.later (HG.out x p.val (bnext HBX.out p.h))
      generalize VM.cnt vs x = N at hnext hG
      have HGC := Lib.hid hG
      have z0 : ∀ p : Later wx, p.val.cell? ⟨wr.heap.size, 0, none⟩ = some (.int .i64 x) := fun p => below_cell p.h hpx.1
      have z1 : ∀ p : Later wx, p.val.cell? ⟨wr.heap.size, 1, none⟩ = some (.int .i64 m) := fun p => below_cell p.h hpx.2.1
      have HPX := Lib.hid hpx
      have HNX := Lib.hid hnext
      clear hbx hpx hwx hu2 hu3 hnext hG hk2 hrd ho hbl
      by_cases hm : m ≤ N
      · have HNX2 := Lib.hid (HNX.out.trans (by rw [if_pos hm]))
        clear HNX
        go_wp2
        rw [HWX.out]
        clear c0 c1 c2 hi hbw HWX
        refine wp_region_later (by kernel_rfl) (by kernel_rfl) ?_
        repeat (go_big_quiet_step (first | (go_at_call 60; with_reducible exact HGC.out _)))
        refine wpQuiet_nil ?_
        rintro _ ⟨p', rfl⟩
        have hh := p'.h
        obtain ⟨w2, hw2⟩ : ∃ w2, w2 = p'.val := ⟨_, rfl⟩
        rw [← hw2] at hh ⊢
        clear hw2 z0 z1 HGC
        have hu2 := hu1.below hh
        have HB2 := Lib.hid (bnext HBX.out hh)
        obtain ⟨p0, p1, p2⟩ := HPX.out.below hh
        have hs2 : wr.heap.size < w2.heap.size := Nat.lt_of_lt_of_le hlx hh.size
        have hsz := HB2.out.size
        clear hu1 hh HPX HBX hlx
        go_wp2_with (at_builtin; refine wp_appG1' proE (x, m, da, dl, dc) _ rfl rfl _ _ rfl rfl hu2 rfl hlu hsz ?_)
        intro v3 w3 ho3 hb3 _
        have HO3 := Lib.hid (show OwnF w w.heap.size w3 v3 (CM.rs (fs.take (k + 1)) (VM.cnt vs)) by rw [HNX2.out]; exact OwnF.snoc ho3 HTU.out HT1.out)
        have HB3 := Lib.hid (HB2.out.trans hb3)
        clear ho3 hb3 hu2 HTU HT1 p0 p1 p2 HB2 hs2 hsz HNX2
        go_wp2
        go_roundw
        case rel => exact ⟨k + 1, by omega, by go_num, HO3, HB3⟩
        case measure => simp [intOf]; omega
      · have HNX2 := Lib.hid (HNX.out.trans (by rw [if_neg hm, List.append_nil]))
        have hm' : decide (m ≤ N) = false := decide_eq_false hm
        clear HNX
        go_wp2
        rw [HWX.out]
        clear c0 c1 c2 hi hbw HWX
        refine wp_region_later (by kernel_rfl) (by kernel_rfl) ?_
        repeat (go_big_quiet_step (first | (go_at_call 60; with_reducible exact HGC.out _)))
        refine wpQuiet_nil ?_
        rintro _ ⟨p', rfl⟩
        have HO3 := Lib.hid (show OwnF w w.heap.size p'.val _ (CM.rs (fs.take (k + 1)) (VM.cnt vs)) by rw [HNX2.out]; exact ⟨uq, hu1.below p'.h, HTU.out⟩)
        have HB3 := Lib.hid (bnext HBX.out p'.h)
        generalize p'.val = w3 at HO3 HB3 ⊢
        clear z0 z1 HGC HNX2 hu1 HTU HPX HBX hlx
        go_wp2
        go_roundw
        case rel => exact ⟨k + 1, by omega, by go_num, HO3, HB3⟩
        case measure => simp [intOf]; omega
    · have hq : ¬ ((k : Int) < (fs.length : Int)) := by omega
      obtain rfl : k = fs.length := by omega
      rw [List.take_length] at ho
      have HCO := Lib.hid (gCopied _ _ wr (ho.out.rd hbl.out) (by have := CM.rs_len fs (VM.cnt vs); have := HL.out; omega) (fun f hf => HCL.out f (CM.rs_mem.1 hf).1))
      go_wp2_with fail
      refine HCO.out.mono ?_
      rintro e w3 ⟨v3, rfl, hr3, hb3⟩
      have HR3 := Lib.hid hr3
      have HB3 := Lib.hid (bnext hbl.out hb3)
      clear hr3 HCO ho hbl hb3
      go_wp2
      go_ret
      exact ⟨_, rfl, HR3.out, HB3.out⟩

set_option maxRecDepth 100000 in
set_option maxHeartbeats 4000000 in
theorem rRestrict (va vb : Value) (fs : List Fp) (vs : List Ent) (w : World) (h : RdF w va fs) (hb : VX.RdV w vb vs) (hl : fs.length ≤ 1000) :
    Calls Try.prog 39 #[va, vb] w fun e w' => ∃ v', e = .returned v' ∧ RdF w' v' (CM.rs fs (VM.cnt vs)) ∧ Below w.heap.size w w' := by
  obtain ⟨ad, cp, rfl, hc, _⟩ := h.shape
  have H := Lib.hid h
  have HL := Lib.hid hl
  have HG := Lib.hid (fun x w' (hh : Below w.heap.size w w') => VX.rCount vb vs x w' (hb.below hh))
  clear h hl hb
  go_enter Try.func39, Try.ntmps39
  go_wp2
  go_loopw [5, 6] (fun u i wr => ∃ k : Nat, k ≤ fs.length ∧ i = .int .i64 k ∧ Hid (OwnF w w.heap.size wr u (CM.rs (fs.take k) (VM.cnt vs))) ∧ Hid (Below w.heap.size w wr)) (fun _ i _ => fs.length - (intOf i).toNat)
  case atStart => exact ⟨0, Nat.zero_le _, rfl, OwnF.nil _ _ _, Below.refl _ _⟩
  case round =>
    obtain ⟨k, hk, rfl, ho, hbl⟩ := hrel
    by_cases hlt : k < fs.length
    · have hq : (k : Int) < (fs.length : Int) := by omega
      have hk2 := List.getElem?_eq_getElem hlt
      generalize fs[k] = f at hk2
      have hnext := rs_snoc (fs.take k) f (VM.cnt vs)
      rw [← take_snocF hk2] at hnext
      obtain ⟨x, m, cs⟩ := f
      simp only at hnext
      obtain ⟨b, o, da, dl, dc, hi, hbw, c0, c1, c2, hrd⟩ := H.out.at_ k x m cs hk2
      have HT1 := Lib.hid (show Tell1 w (x, m, da, dl, dc) (x, m, cs) from ⟨rfl, rfl, hrd⟩)
      have c0 := below_cell hbl.out c0
      have c1 := below_cell hbl.out c1
      have c2 := below_cell hbl.out c2
      have hbw : b < wr.heap.size := Nat.lt_of_lt_of_le hbw hbl.out.size
      obtain ⟨uq, hu1, hu2, hu3⟩ := ho.out.out
      have hlu : uq.length ≤ 1073741824 := by
        have h1 := CM.rs_len (fs.take k) (VM.cnt vs)
        rw [List.length_take] at h1
        have := HL.out
        omega
      have HTU := Lib.hid hu2
      have HBX := Lib.hid hbl.out
      have hG := fun p : Later wr => Calls.later_same (HG.out x p.val (bnext HBX.out p.h))
      generalize VM.cnt vs x = N at hnext hG
      have HGC := Lib.hid hG
      have k0 : ∀ p : Later wr, p.val.cell? ⟨b, o, none⟩ = some (.int .i64 x) := fun p => below_cell p.h c0
      have k1 : ∀ p : Later wr, p.val.cell? ⟨b, o + 1, none⟩ = some (.int .i64 m) := fun p => below_cell p.h c1
      have HNX := Lib.hid hnext
      clear hu2 hu3 hnext hG hk2 hrd ho hbl
      by_cases hm : m ≤ N
      · have HNX2 := Lib.hid (HNX.out.trans (by rw [if_pos hm]))
        clear HNX
        go_wp2
        refine wp_region_later (by kernel_rfl) (by kernel_rfl) ?_
        repeat (go_big_quiet_step (first | (go_at_call 51; with_reducible exact HGC.out _)))
        refine wpQuiet_nil ?_
        rintro _ ⟨p', rfl⟩
        have hh := p'.h
        obtain ⟨w2, hw2⟩ : ∃ w2, w2 = p'.val := ⟨_, rfl⟩
        rw [← hw2] at hh ⊢
        clear hw2 k0 k1 HGC
        have hu2 := hu1.below hh
        have HB2 := Lib.hid (bnext HBX.out hh)
        have c0 := below_cell hh c0
        have c1 := below_cell hh c1
        have c2 := below_cell hh c2
        have hbw : b < w2.heap.size := Nat.lt_of_lt_of_le hbw hh.size
        have hsz := HB2.out.size
        clear hu1 hh HBX
        go_wp2_with (at_builtin; refine wp_appG1' proE (x, m, da, dl, dc) _ rfl rfl _ _ rfl rfl hu2 rfl hlu hsz ?_)
        intro v3 w3 ho3 hb3 _
        have HO3 := Lib.hid (show OwnF w w.heap.size w3 v3 (CM.rs (fs.take (k + 1)) (VM.cnt vs)) by rw [HNX2.out]; exact OwnF.snoc ho3 HTU.out HT1.out)
        have HB3 := Lib.hid (HB2.out.trans hb3)
        clear ho3 hb3 hu2 HTU HT1 c0 c1 c2 HB2 hsz HNX2
        go_wp2
        go_roundw
        case rel => exact ⟨k + 1, by omega, by go_num, HO3, HB3⟩
        case measure => simp [intOf]; omega
      · have HNX2 := Lib.hid (HNX.out.trans (by rw [if_neg hm, List.append_nil]))
        have hm' : decide (m ≤ N) = false := decide_eq_false hm
        clear HNX
        go_wp2
        refine wp_region_later (by kernel_rfl) (by kernel_rfl) ?_
        repeat (go_big_quiet_step (first | (go_at_call 51; with_reducible exact HGC.out _)))
        refine wpQuiet_nil ?_
        rintro _ ⟨p', rfl⟩
        have HO3 := Lib.hid (show OwnF w w.heap.size p'.val _ (CM.rs (fs.take (k + 1)) (VM.cnt vs)) by rw [HNX2.out]; exact ⟨uq, hu1.below p'.h, HTU.out⟩)
        have HB3 := Lib.hid (bnext HBX.out p'.h)
        generalize p'.val = w3 at HO3 HB3 ⊢
        clear k0 k1 HGC HNX2 hu1 HTU HBX c0 c1 c2
        go_wp2
        go_roundw
        case rel => exact ⟨k + 1, by omega, by go_num, HO3, HB3⟩
        case measure => simp [intOf]; omega
    · have hq : ¬ ((k : Int) < (fs.length : Int)) := by omega
      obtain rfl : k = fs.length := by omega
      rw [List.take_length] at ho
      have HR3 := Lib.hid (ho.out.rd hbl.out)
      clear ho
      go_wp2
      go_ret
      exact ⟨_, rfl, HR3.out, hbl.out⟩

theorem mk_snoc (l : List Fp) (f : Fp) (b : List Fp) : CM.meetK (l ++ [f]) b = CM.meetK l b ++ if CM.hasK b f.1 f.2.1 = true then [f] else [] := by
  unfold CM.meetK
  rw [List.filter_append]
  by_cases h : CM.hasK b f.1 f.2.1 = true
  · rw [if_pos h, List.filter_cons_of_pos (by simpa using h)]; rfl
  · rw [if_neg h, List.filter_cons_of_neg (by simpa using h)]; rfl

set_option maxRecDepth 100000 in
set_option maxHeartbeats 4000000 in
theorem rMeet (va vb : Value) (xs ys : List Fp) (w : World) (h : RdF w va xs) (hb : RdF w vb ys) (hl : xs.length ≤ 1000) :
    Calls Try.prog 27 #[va, vb] w fun e w' => ∃ v', e = .returned v' ∧ RdF w' v' (CM.meetK xs ys) ∧ Below w.heap.size w w' := by
  obtain ⟨ad, cp, rfl, hc, _⟩ := h.shape
  have H := Lib.hid h
  have HL := Lib.hid hl
  have HG := Lib.hid (fun x m ua ul uc w' (hh : Below w.heap.size w w') => rHas vb ys x m ua ul uc w' (hb.below hh))
  clear h hl hb
  go_enter Try.func27, Try.ntmps27
  go_wp2
  go_loopw [5, 6] (fun u i wr => ∃ k : Nat, k ≤ xs.length ∧ i = .int .i64 k ∧ Hid (OwnF w w.heap.size wr u (CM.meetK (xs.take k) ys)) ∧ Hid (Below w.heap.size w wr)) (fun _ i _ => xs.length - (intOf i).toNat)
  case atStart => exact ⟨0, Nat.zero_le _, rfl, OwnF.nil _ _ _, Below.refl _ _⟩
  case round =>
    obtain ⟨k, hk, rfl, ho, hbl⟩ := hrel
    by_cases hlt : k < xs.length
    · have hq : (k : Int) < (xs.length : Int) := by omega
      have hk2 := List.getElem?_eq_getElem hlt
      generalize xs[k] = f at hk2
      have hnext := mk_snoc (xs.take k) f ys
      rw [← take_snocF hk2] at hnext
      obtain ⟨x, m, cs⟩ := f
      simp only at hnext
      obtain ⟨b, o, da, dl, dc, hi, hbw, c0, c1, c2, hrd⟩ := H.out.at_ k x m cs hk2
      have HT1 := Lib.hid (show Tell1 w (x, m, da, dl, dc) (x, m, cs) from ⟨rfl, rfl, hrd⟩)
      have c0 := below_cell hbl.out c0
      have c1 := below_cell hbl.out c1
      have c2 := below_cell hbl.out c2
      have hbw : b < wr.heap.size := Nat.lt_of_lt_of_le hbw hbl.out.size
      obtain ⟨uq, hu1, hu2, hu3⟩ := ho.out.out
      have hlu : uq.length ≤ 1073741824 := by
        have h1 : (CM.meetK (xs.take k) ys).length ≤ (xs.take k).length := List.length_filter_le _ _
        rw [List.length_take] at h1
        have := HL.out
        omega
      have HTU := Lib.hid hu2
      have HBX := Lib.hid hbl.out
      have hG := HG.out x m da dl dc wr hbl.out
      generalize CM.hasK ys x m = D at hnext hG
      have HGC := Lib.hid hG
      have HNX := Lib.hid hnext
      clear hu2 hu3 hnext hG hk2 hrd ho hbl
      cases D
      · have HNX2 := Lib.hid (HNX.out.trans (by rw [if_neg (by decide), List.append_nil]))
        clear HNX
        go_wp2_with fail
        refine HGC.out.mono ?_
        rintro e w2 ⟨rfl, hh⟩
        have HO3 := Lib.hid (show OwnF w w.heap.size w2 _ (CM.meetK (xs.take (k + 1)) ys) by rw [HNX2.out]; exact ⟨uq, hu1.below hh, HTU.out⟩)
        have HB3 := Lib.hid (bnext HBX.out hh)
        clear HGC HNX2 hu1 HTU HBX c0 c1 c2 hh hi hbw
        go_wp2
        go_roundw
        case rel => exact ⟨k + 1, by omega, by go_num, HO3, HB3⟩
        case measure => simp [intOf]; omega
      · have HNX2 := Lib.hid (HNX.out.trans (by rw [if_pos rfl]))
        clear HNX
        go_wp2_with fail
        refine HGC.out.mono ?_
        rintro e w2 ⟨rfl, hh⟩
        have hu2 := hu1.below hh
        have HB2 := Lib.hid (bnext HBX.out hh)
        have c0 := below_cell hh c0
        have c1 := below_cell hh c1
        have c2 := below_cell hh c2
        have hbw : b < w2.heap.size := Nat.lt_of_lt_of_le hbw hh.size
        have hsz := HB2.out.size
        clear hu1 hh HBX HGC
        go_wp2_with (at_builtin; refine wp_appG1' proE (x, m, da, dl, dc) _ rfl rfl _ _ rfl rfl hu2 rfl hlu hsz ?_)
        intro v3 w3 ho3 hb3 _
        have HO3 := Lib.hid (show OwnF w w.heap.size w3 v3 (CM.meetK (xs.take (k + 1)) ys) by rw [HNX2.out]; exact OwnF.snoc ho3 HTU.out HT1.out)
        have HB3 := Lib.hid (HB2.out.trans hb3)
        clear ho3 hb3 hu2 HTU HT1 c0 c1 c2 HB2 hsz HNX2
        go_wp2
        go_roundw
        case rel => exact ⟨k + 1, by omega, by go_num, HO3, HB3⟩
        case measure => simp [intOf]; omega
    · have hq : ¬ ((k : Int) < (xs.length : Int)) := by omega
      obtain rfl : k = xs.length := by omega
      rw [List.take_length] at ho
      have HR3 := Lib.hid (ho.out.rd hbl.out)
      clear ho
      go_wp2
      go_ret
      exact ⟨_, rfl, HR3.out, hbl.out⟩

set_option maxRecDepth 100000 in
set_option maxHeartbeats 1000000 in
theorem gMeet (va vb : Value) (xs ys : List Fp) (w : World) (h : RdF w va xs) (hb : RdF w vb ys) (hl : xs.length ≤ 1000) (hcl : ∀ f ∈ xs, f.2.2.length ≤ 1073741824) (hy : CM.Ok ys) :
    Calls Try.prog 26 #[va, vb] w fun e w' => ∃ v', e = .returned v' ∧ RdF w' v' (CM.meet xs ys) ∧ Below w.heap.size w w' := by
  have h9 := hy.nine
  have hvo := CM.vo_spec hy
  have hvl := CM.vo_len ys
  have HV := Lib.hid (gVector vb ys w hb (by omega))
  have HR := Lib.hid (fun v2 w2 (h2 : Below w.heap.size w w2) (ho : OwnE w.heap.size w2 v2 (CM.vo ys)) => gRestrict va v2 xs (CM.vo ys) w2 (h.below h2) ho.rdV hvo.1 (by omega) hl hcl)
  have HE := Lib.hid (show CM.rs xs (VM.cnt (CM.vo ys)) = CM.meet xs ys by unfold CM.meet; rw [show VM.cnt (CM.vo ys) = CM.ct ys from funext hvo.2])
  clear h hb hl hcl hy h9 hvo hvl
  go_enter Try.func26, Try.ntmps26
  go_wp2_with fail
  refine HV.out.mono ?_
  rintro e w2 ⟨v2, rfl, ho2, hb2⟩
  have HRC := Lib.hid (HR.out v2 w2 hb2 ho2)
  clear ho2 HV HR
  go_wp2_with fail
  refine HRC.out.mono ?_
  rintro e w3 ⟨v3, rfl, hr3, hb3⟩
  have HR3 := Lib.hid hr3
  clear hr3 HRC
  go_wp2
  go_ret
  exact ⟨_, rfl, by rw [← HE.out]; exact HR3.out, bnext hb2 hb3⟩

end Go.Proofs.Ytacbpphhkkmelaa
