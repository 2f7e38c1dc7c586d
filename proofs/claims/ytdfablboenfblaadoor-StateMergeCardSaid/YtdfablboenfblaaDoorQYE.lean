/-
  The calls of package config's twin state: package sets' at its own kind. Conditions: what comes in reads; further ones at each. (Written by mk_sets.py.)
  The calls of package config that add, encode, decode's twin state: package sets' at its own kind. Conditions: what comes in reads; further ones at each. (Written by mk_sets.py.)
  The call of state.Beyond. Conditions: what comes in reads; the vector is valid.
-/
import Derived.Test.YtdfablboenfblaaDoorQYB
import Derived.Test.YtdfablboenfblaaDoorQYC
import Derived.Test.YtdfablboenfblaaDoorQYD
import Derived.Deep.RegionHeld3
import Derived.Test.YtdfablboenfblaaDoorQSM1
namespace Go.Proofs.YtdfablboenfblaaDoor.ST
open Go.RowKit
open UM (Ef)
open SM (Fp)
open VM (Ent)

set_option maxRecDepth 100000 in
set_option maxHeartbeats 1000000 in
theorem gValidate (v : Value) (fs : List Fp) (w : World) (hT : Tb w) (hfit : FitN fs) (h : RdF w v fs) :
    Calls Tryd.prog 14 #[v] w fun e w' => e = .returned (.int .i64 (SM.errL (0, 0) fs)) ∧ Below w.heap.size w w' := by
  have HE := Lib.hid (cElements w)
  have HS := Lib.hid (fun w' (hb : Below w.heap.size w w') => sValidate v fs w' (hT.below hb) hfit (h.below hb))
  obtain ⟨va, vc, rfl, _, _⟩ := h.shape
  clear h
  go_enter Tryd.func14, Tryd.ntmps14
  go_wp2_with fail
  refine HE.out.mono ?_
  rintro e w1 ⟨rfl, hb1⟩
  have HS1 := Lib.hid (HS.out w1 hb1)
  have HB1 := Lib.hid hb1
  clear HS HE hb1
  go_wp2_with fail
  refine HS1.out.mono ?_
  rintro e w2 ⟨rfl, hb2⟩
  have HB2 := Lib.hid (bnext HB1.out hb2)
  go_wp2
  go_ret
  exact ⟨rfl, HB2.out⟩

set_option maxRecDepth 100000 in
set_option maxHeartbeats 1000000 in
theorem gVector (v : Value) (fs : List Fp) (w : World) (h : RdF w v fs) (hl : fs.length ≤ 1000) :
    Calls Tryd.prog 18 #[v] w fun e w' => ∃ v', e = .returned v' ∧ OwnE w.heap.size w' v' (SM.vo fs) ∧ Below w.heap.size w w' := by
  have HE := Lib.hid (cElements w)
  have HS := Lib.hid (fun w' (hb : Below w.heap.size w w') => sVector v fs w' (h.below hb) hl)
  obtain ⟨va, vc, rfl, _, _⟩ := h.shape
  clear h
  go_enter Tryd.func18, Tryd.ntmps18
  go_wp2_with fail
  refine HE.out.mono ?_
  rintro e w1 ⟨rfl, hb1⟩
  have HS1 := Lib.hid (HS.out w1 hb1)
  have HB1 := Lib.hid hb1
  clear HS HE hb1
  go_wp2_with fail
  refine HS1.out.mono ?_
  rintro e w2 ⟨v', rfl, ho2, hb2⟩
  have HO2 := Lib.hid (ho2.mono HB1.out.size)
  have HB2 := Lib.hid (bnext HB1.out hb2)
  clear ho2
  go_wp2
  go_ret
  exact ⟨_, rfl, HO2.out, HB2.out⟩

set_option maxRecDepth 100000 in
set_option maxHeartbeats 1000000 in
theorem gContains (va vb : Value) (xs ys : List Fp) (w : World) (ha : RdF w va xs) (hb : RdF w vb ys) (hs : SM.Srt xs) (hl : xs.length ≤ 1000) :
    Calls Tryd.prog 20 #[va, vb] w fun e w' => e = .returned (.bool (SM.cons xs ys)) ∧ Below w.heap.size w w' := by
  have HE := Lib.hid (cElements w)
  have HS := Lib.hid (fun w' (hb' : Below w.heap.size w w') => sContains va vb xs ys w' (ha.below hb') (hb.below hb') hs hl)
  obtain ⟨vaa, vac, rfl, _, _⟩ := ha.shape
  obtain ⟨vba, vbc, rfl, _, _⟩ := hb.shape
  clear ha hb hs hl
  go_enter Tryd.func20, Tryd.ntmps20
  go_wp2_with fail
  refine HE.out.mono ?_
  rintro e w1 ⟨rfl, hb1⟩
  have HS1 := Lib.hid (HS.out w1 hb1)
  have HB1 := Lib.hid hb1
  clear HS HE hb1
  go_wp2_with fail
  refine HS1.out.mono ?_
  rintro e w2 ⟨rfl, hb2⟩
  have HB2 := Lib.hid (bnext HB1.out hb2)
  go_wp2
  go_ret
  exact ⟨rfl, HB2.out⟩

set_option maxRecDepth 100000 in
set_option maxHeartbeats 1000000 in
theorem gUnionO (va vb : Value) (xs ys : List Fp) (w : World) (ha : RdF w va xs) (hb : RdF w vb ys) (hlx : xs.length ≤ 1000) (hly : ys.length ≤ 1000) (hcx : ∀ f ∈ xs, f.2.2.2.length ≤ 1073741824) (hcy : ∀ f ∈ ys, f.2.2.2.length ≤ 1073741824) :
    Calls Tryd.prog 24 #[va, vb] w fun e w' => ∃ v', e = .returned v' ∧ OwnD w.heap.size w' v' (SM.un xs ys) ∧ Below w.heap.size w w' := by
  have HE := Lib.hid (cElements w)
  have HS := Lib.hid (fun w' (hb' : Below w.heap.size w w') => sUnion va vb xs ys w' (ha.below hb') (hb.below hb') hlx hly hcx hcy)
  obtain ⟨vaa, vac, rfl, _, _⟩ := ha.shape
  obtain ⟨vba, vbc, rfl, _, _⟩ := hb.shape
  clear ha hb hlx hly hcx hcy
  go_enter Tryd.func24, Tryd.ntmps24
  go_wp2_with fail
  refine HE.out.mono ?_
  rintro e w1 ⟨rfl, hb1⟩
  have HS1 := Lib.hid (HS.out w1 hb1)
  have HB1 := Lib.hid hb1
  clear HS HE hb1
  go_wp2_with fail
  refine HS1.out.mono ?_
  rintro e w2 ⟨v', rfl, ho2, hb2⟩
  have HO2 := Lib.hid (OwnD.mono ho2 HB1.out.size)
  have HB2 := Lib.hid (bnext HB1.out hb2)
  clear ho2
  go_wp2
  go_ret
  exact ⟨_, rfl, HO2.out, HB2.out⟩

theorem gUnion (va vb : Value) (xs ys : List Fp) (w : World) (ha : RdF w va xs) (hb : RdF w vb ys) (hlx : xs.length ≤ 1000) (hly : ys.length ≤ 1000) (hcx : ∀ f ∈ xs, f.2.2.2.length ≤ 1073741824) (hcy : ∀ f ∈ ys, f.2.2.2.length ≤ 1073741824) :
    Calls Tryd.prog 24 #[va, vb] w fun e w' => ∃ v', e = .returned v' ∧ RdF w' v' (SM.un xs ys) ∧ Below w.heap.size w w' :=
  (gUnionO va vb xs ys w ha hb hlx hly hcx hcy).mono (by rintro e w' ⟨v', h1, h2, h3⟩; exact ⟨v', h1, h2.rd, h3⟩)

end Go.Proofs.YtdfablboenfblaaDoor.ST

namespace Go.Proofs.YtdfablboenfblaaDoor.ST
open Go.RowKit
open UM (Ef)
open SM (Fp)
open VM (Ent)

set_option maxRecDepth 100000 in
set_option maxHeartbeats 4000000 in
theorem gAdd (v : Value) (fs : List Fp) (x m t : Int) (sv : Value) (cs : List Ef) (w : World) (h : RdF w v fs) (hs : RdEf w sv cs) (hok : SM.Ok fs) (hT : Tb w) (hfit : ∀ e ∈ cs, NmFit e) :
    Calls Tryd.prog 30 #[v, uv x m t sv] w fun e w' => ∃ v', e = .returned (.tuple #[v', .int .i64 (SM.addU fs (x, m, t, cs)).1]) ∧ RdF w' v' (SM.addU fs (x, m, t, cs)).2 ∧ Below w.heap.size w w' := by
  obtain ⟨ad, cp, rfl, hcp, _⟩ := h.shape
  obtain ⟨da, dc, rfl, hdc, _⟩ := hs.shape
  obtain ⟨w1, HX⟩ := eone w x m t (.slice da cs.length dc)
  have HW := Lib.hid HX.eq
  have HB1 := Lib.hid HX.below
  have HP1 := Lib.hid HX.e
  have HS := Lib.hid (fun w' (hb : Below w1.heap.size w1 w') => sAdd _ fs x m t _ cs w' (h.below (bnext HX.below hb)) (hs.below (bnext HX.below hb)) hok (hT.below (bnext HX.below hb)) hfit)
  obtain ⟨R, hR⟩ : ∃ R, R = SM.addU fs (x, m, t, cs) := ⟨_, rfl⟩
  rw [← hR] at HS ⊢
  clear h hs hok HX hR hT hfit
  go_enter Tryd.func30, Tryd.ntmps30
  go_upto_region 1 with fail
  rw [HW.out]
  refine wp_region_held_drew (S := fun w' => Below w1.heap.size w1 w') (by kernel_rfl) ((Below.refl _ _).drew) (fun ha => ?_)
  replace ha : Below w1.heap.size w1 w1.drew := (Below.refl _ _).drew
  generalize w1.drew = wa at ha ⊢
  refine takeH (i := 1) (v := ?_) rfl (by kernel_rfl) (by kernel_rfl) (by kernel_rfl) (fun _ _ _ h => h) (Or.inl ⟨by rfl, ?_⟩) (by assumption) ?_
  rotate_left
  · (intro w hSw; (try dsimp only at hSw); go_simp; first | done | with_reducible rfl)
  (try simp only [Act.put, List.setIfInBounds_toArray, List.set_cons_zero, List.set_cons_succ])
  refine takeH (i := 2) (v := ?_) rfl (by kernel_rfl) (by kernel_rfl) (by kernel_rfl) (fun _ _ _ h => h) (Or.inl ⟨by rfl, ?_⟩) (by assumption) ?_
  rotate_left
  · (intro w hSw; (try dsimp only at hSw); obtain ⟨p0, p1, p2, p3, _⟩ := (HP1.out.below hSw).cells; go_simp; first | done | with_reducible rfl)
  (try simp only [Act.put, List.setIfInBounds_toArray, List.set_cons_zero, List.set_cons_succ])
  refine wpAnyH_ready (rs := [0]) (by kernel_rfl) (by simp) ?_
  refine stepH rfl (fun K hK => ?_) AllReadyH.nil
  go_simp
  refine (cElements wa).mono ?_
  rintro e wb ⟨rfl, hq⟩
  have hb := bnext ha hq
  go_wp2_with fail
  refine hK.out _ _ (hb) (fun _ => ?_)
  clear hK K
  (try simp only [Act.put, List.setIfInBounds_toArray, List.set_cons_zero, List.set_cons_succ])
  refine wpAnyH_ready (rs := [3]) (by kernel_rfl) (by simp) ?_
  refine stepH rfl (fun K hK => ?_) AllReadyH.nil
  go_simp
  refine (HS.out wb hb).mono ?_
  rintro e wc ⟨vc, rfl, hof, hq⟩
  have hc := bnext hb hq
  go_wp2_with fail
  refine hK.out _ _ (hc) (fun _ => ?_)
  clear hK K
  (try simp only [Act.put, List.setIfInBounds_toArray, List.set_cons_zero, List.set_cons_succ])
  refine takeH (i := 4) (v := ?_) rfl (by kernel_rfl) (by kernel_rfl) (by kernel_rfl) (fun _ _ _ h => h) (Or.inl ⟨by rfl, ?_⟩) (by assumption) ?_
  rotate_left
  · (intro w hSw; (try dsimp only at hSw); go_simp; first | done | with_reducible rfl)
  (try simp only [Act.put, List.setIfInBounds_toArray, List.set_cons_zero, List.set_cons_succ])
  refine takeH (i := 5) (v := ?_) rfl (by kernel_rfl) (by kernel_rfl) (by kernel_rfl) (fun _ _ _ h => h) (Or.inl ⟨by rfl, ?_⟩) (by assumption) ?_
  rotate_left
  · (intro w hSw; (try dsimp only at hSw); go_simp; first | done | with_reducible rfl)
  (try simp only [Act.put, List.setIfInBounds_toArray, List.set_cons_zero, List.set_cons_succ])
  refine takeH (i := 6) (v := ?_) rfl (by kernel_rfl) (by kernel_rfl) (by kernel_rfl) (fun _ _ _ h => h) (Or.inl ⟨by rfl, ?_⟩) (by assumption) ?_
  rotate_left
  · (intro w hSw; (try dsimp only at hSw); go_simp; first | done | with_reducible rfl)
  (try simp only [Act.put, List.setIfInBounds_toArray, List.set_cons_zero, List.set_cons_succ])
  refine takeH (i := 7) (v := ?_) rfl (by kernel_rfl) (by kernel_rfl) (by kernel_rfl) (fun _ _ _ h => h) (Or.inl ⟨by rfl, ?_⟩) (by assumption) ?_
  rotate_left
  · (intro w hSw; (try dsimp only at hSw); go_simp; first | done | with_reducible rfl)
  (try simp only [Act.put, List.setIfInBounds_toArray, List.set_cons_zero, List.set_cons_succ])
  refine wpAnyH_done (by kernel_rfl) ?_ _
  have HOF := Lib.hid hof.rd
  have HBF := Lib.hid (bnext HB1.out hc)
  clear hof ha hb hc HS
  go_wp2
  go_ret2
  exact ⟨_, rfl, HOF.out, HBF.out⟩

set_option maxRecDepth 100000 in
set_option maxHeartbeats 1000000 in
theorem gAppendC (v : Value) (bs : List Int) (u : Value) (fs : List Fp) (w : World) (h : Rd w v bs) (hu : RdF w u fs) (hok : SM.Ok fs) (hfit : SM.Fit fs) (hlen : bs.length ≤ 1000000) :
    Calls Tryd.prog 38 #[v, u] w fun e w' => ∃ v', e = .returned v' ∧ Own w.heap.size w' v' (bs ++ SM.encL fs) ∧ Below w.heap.size w w' := by
  have HE := Lib.hid (cElements w)
  have HS := Lib.hid (fun w' (hb : Below w.heap.size w w') => sAppend v bs u fs w' (h.below hb) (hu.below hb) hok hfit hlen)
  obtain ⟨va, vc, rfl, _⟩ := h.shape
  obtain ⟨ua, uc, rfl, _, _⟩ := hu.shape
  clear h hu hok
  go_enter Tryd.func38, Tryd.ntmps38
  go_wp2_with fail
  refine HE.out.mono ?_
  rintro e w1 ⟨rfl, hb1⟩
  have HS1 := Lib.hid (HS.out w1 hb1)
  have HB1 := Lib.hid hb1
  clear HS HE hb1
  go_wp2_with fail
  refine HS1.out.mono ?_
  rintro e w2 ⟨v', rfl, ho2, hb2⟩
  have HO2 := Lib.hid (ho2.mono HB1.out.size)
  have HB2 := Lib.hid (bnext HB1.out hb2)
  clear ho2
  go_wp2
  go_ret
  exact ⟨_, rfl, HO2.out, HB2.out⟩

set_option maxRecDepth 100000 in
set_option maxHeartbeats 1000000 in
theorem gDecodeC (v : Value) (xs : List Int) (w : World) (hT : Tb w) (h : Rd w v xs) :
    Calls Tryd.prog 39 #[v] w fun e w' => ∃ v', e = .returned (.tuple #[v', .int .i64 ((SM.decL xs).2.1 : Int), .int .i64 (SM.decL xs).1]) ∧ RdF w' v' (SM.decL xs).2.2 ∧ Below w.heap.size w w' := by
  have HE := Lib.hid (cElements w)
  have HS := Lib.hid (fun w' (hb : Below w.heap.size w w') => sDecode v xs w' (hT.below hb) (h.below hb))
  obtain ⟨va, vc, rfl, _⟩ := h.shape
  clear h
  go_enter Tryd.func39, Tryd.ntmps39
  go_wp2_with fail
  refine HE.out.mono ?_
  rintro e w1 ⟨rfl, hb1⟩
  have HS1 := Lib.hid (HS.out w1 hb1)
  have HB1 := Lib.hid hb1
  clear HS HE hb1
  go_wp2_with fail
  refine HS1.out.mono ?_
  rintro e w2 ⟨v', rfl, ho2, hb2⟩
  have HO2 := Lib.hid ho2
  have HB2 := Lib.hid (bnext HB1.out hb2)
  clear ho2
  go_wp2
  go_ret3
  exact ⟨_, rfl, HO2.out, HB2.out⟩

end Go.Proofs.YtdfablboenfblaaDoor.ST

namespace Go.Proofs.YtdfablboenfblaaDoor.ST
open Go.RowKit
open UM (Ef)
open SM (Fp)
open VM (Ent)

theorem bey_snoc (l : List Fp) (f : Fp) (g : Int → Int) : SM.beyAll (l ++ [f]) g = SM.beyAll l g ++ if g f.1 < f.2.1 then [f] else [] := by
  unfold SM.beyAll
  rw [List.filter_append]
  by_cases h : g f.1 < f.2.1
  · rw [if_pos h, List.filter_cons_of_pos (by simpa using h)]; rfl
  · rw [if_neg h, List.filter_cons_of_neg (by simpa using h)]; rfl
theorem bey_len (l : List Fp) (g : Int → Int) : (SM.beyAll l g).length ≤ l.length := List.length_filter_le _ _
theorem bey_mem {l : List Fp} {g : Int → Int} {f : Fp} (h : f ∈ SM.beyAll l g) : f ∈ l := (List.mem_filter.1 h).1

set_option maxRecDepth 100000 in
set_option maxHeartbeats 4000000 in
theorem gBeyond (va vb : Value) (fs : List Fp) (vs : List Ent) (n : Int) (w : World) (h : RdF w va fs) (hb : VX.RdV w vb vs) (hval : VM.Val 0 vs) (hlv : vs.length ≤ 1000) (hl : fs.length ≤ 1000) (hcl : ∀ f ∈ fs, f.2.2.2.length ≤ 1073741824) :
    Calls Tryd.prog 33 #[va, vb, .int .i64 n] w fun e w' => ∃ v', e = .returned (.tuple #[v', .bool (SM.bey fs (VM.cnt vs) n).2]) ∧ RdF w' v' (SM.bey fs (VM.cnt vs) n).1 ∧ Below w.heap.size w w' := by
  obtain ⟨ad, cp, rfl, hc, _⟩ := h.shape
  have H := Lib.hid h
  have HL := Lib.hid hl
  have HCL := Lib.hid hcl
  have HG := Lib.hid (fun x w' (hh : Below w.heap.size w w') => VX.wGet vb vs x w' (hb.below hh) hval hlv)
  clear h hl hcl hb hval hlv
  go_enter Tryd.func33, Tryd.ntmps33
  go_wp2
  go_loopw [8, 13] (fun u i wr => ∃ k : Nat, k ≤ fs.length ∧ i = .int .i64 k ∧ Hid (OwnF w w.heap.size wr u (SM.beyAll (fs.take k) (VM.cnt vs))) ∧ Hid (Below w.heap.size w wr)) (fun _ i _ => fs.length - (intOf i).toNat)
  case atStart => exact ⟨0, Nat.zero_le _, rfl, OwnF.nil _ _ _, Below.refl _ _⟩
  case round =>
    obtain ⟨k, hk, rfl, ho, hbl⟩ := hrel
    by_cases hlt : k < fs.length
    · have hq : (k : Int) < (fs.length : Int) := by omega
      have hk2 := List.getElem?_eq_getElem hlt
      generalize fs[k] = f at hk2
      have hnext := bey_snoc (fs.take k) f (VM.cnt vs)
      rw [← take_snocF hk2] at hnext
      obtain ⟨x, m, t, cs⟩ := f
      simp only at hnext
      obtain ⟨b, o, da, dl, dc, hi, hbw, c0, c1, c2, c3, hrd⟩ := H.out.at_ k x m t cs hk2
      have HT1 := Lib.hid (show Tell1 w (x, m, t, da, dl, dc) (x, m, t, cs) from ⟨rfl, rfl, rfl, hrd⟩)
      have c0 := below_cell hbl.out c0
      have c1 := below_cell hbl.out c1
      have c2 := below_cell hbl.out c2
      have c3 := below_cell hbl.out c3
      obtain ⟨wx, HX⟩ := eone wr x m t (.slice da dl dc)
      obtain ⟨uq, hu1, hu2, hu3⟩ := (ho.out.below HX.below).out
      have hlu : uq.length ≤ 1073741824 := by
        have h1 := bey_len (fs.take k) (VM.cnt vs)
        rw [List.length_take] at h1
        have := HL.out
        omega
      have HTU := Lib.hid hu2
      have HWX := Lib.hid HX.eq
      have HBX := Lib.hid (bnext hbl.out HX.below)
      have HPX := Lib.hid HX.e
      obtain ⟨B, hB⟩ : ∃ B, wr.heap.size = B := ⟨_, rfl⟩
      rw [hB] at HPX
      have HBE := Lib.hid hB
      have hG := fun p : Later wx => Calls.later (HG.out x p.val (bnext HBX.out p.h))
      generalize VM.cnt vs x = N at hnext hG
      have HGC := Lib.hid hG
      have HNX := Lib.hid hnext
      obtain ⟨au, cu, rfl, hcu, hcu2⟩ := hu1.rd.shape
      have HU1 := Lib.hid hu1
      clear HX hu1 hu2 hu3 hnext hG hk2 hrd ho hbl hB
      go_upto_region 5 with fail
      rw [HWX.out, HBE.out]
      clear c0 c1 c2 c3 hi hbw HWX
      obtain ⟨z0, z1, z2, z3⟩ := lat_e HPX.out
      by_cases hm : N < m
      · have HNX2 := Lib.hid (HNX.out.trans (by rw [if_pos hm]))
        clear HNX
        refine wp_region_later (by kernel_rfl) (by kernel_rfl) ?_
        repeat (go_big_quiet_step (first | (go_at_call 59; with_reducible exact HGC.out _)))
        refine wpQuiet_nil ?_
        rintro _ ⟨p', rfl⟩
        have hu2 := HU1.out.below p'.h
        have HP2 := Lib.hid (HPX.out.below p'.h)
        have HB2 := Lib.hid (bnext HBX.out p'.h)
        generalize p'.val = w2 at hu2 HP2 HB2 ⊢
        clear z0 z1 z2 z3 HGC HU1 HPX HBX
        obtain ⟨p0, p1, p2, p3, _⟩ := HP2.out.cells
        have hsz := HB2.out.size
        go_wp2_with (at_builtin; refine wp_appG1' setE (x, m, t, da, dl, dc) _ rfl rfl _ _ rfl rfl hu2 rfl hlu hsz ?_)
        intro v3 w3 ho3 hb3 _
        have HO3 := Lib.hid (show OwnF w w.heap.size w3 v3 (SM.beyAll (fs.take (k + 1)) (VM.cnt vs)) by rw [HNX2.out]; exact OwnF.snoc ho3 HTU.out HT1.out)
        have HB3 := Lib.hid (HB2.out.trans hb3)
        clear ho3 hb3 hu2 HTU HT1 p0 p1 p2 p3 HB2 HP2 hsz HNX2
        go_wp2
        go_roundw
        case rel => exact ⟨k + 1, by omega, by go_num, HO3, HB3⟩
        case measure => simp [intOf]; omega
      · have HNX2 := Lib.hid (HNX.out.trans (by rw [if_neg hm, List.append_nil]))
        have hm' : decide (N < m) = false := decide_eq_false hm
        clear HNX
        refine wp_region_later (by kernel_rfl) (by kernel_rfl) ?_
        repeat (go_big_quiet_step (first | (go_at_call 59; with_reducible exact HGC.out _)))
        refine wpQuiet_nil ?_
        rintro _ ⟨p', rfl⟩
        have HO3 := Lib.hid (show OwnF w w.heap.size p'.val (.slice au uq.length cu) (SM.beyAll (fs.take (k + 1)) (VM.cnt vs)) by rw [HNX2.out]; exact ⟨uq, HU1.out.below p'.h, HTU.out⟩)
        have HB3 := Lib.hid (bnext HBX.out p'.h)
        generalize p'.val = w3 at HO3 HB3 ⊢
        clear z0 z1 z2 z3 HGC HNX2 HU1 HTU HPX HBX
        go_wp2
        go_roundw
        case rel => exact ⟨k + 1, by omega, by go_num, HO3, HB3⟩
        case measure => simp [intOf]; omega
    · have hq : ¬ ((k : Int) < (fs.length : Int)) := by omega
      obtain rfl : k = fs.length := by omega
      rw [List.take_length] at ho
      obtain ⟨R, hR⟩ : ∃ R, R = SM.beyAll fs (VM.cnt vs) := ⟨_, rfl⟩
      have HBY := Lib.hid (show SM.bey fs (VM.cnt vs) n = (R.take n.toNat, decide (n.toNat < R.length)) by rw [hR]; rfl)
      have HRL := Lib.hid (show R.length ≤ 1000 by rw [hR]; have := bey_len fs (VM.cnt vs); have := HL.out; omega)
      have HRC := Lib.hid (show ∀ f ∈ R, f.2.2.2.length ≤ 1073741824 by rw [hR]; exact fun f hf => HCL.out f (bey_mem hf))
      rw [← hR] at ho
      obtain ⟨M, hM⟩ : ∃ M : Nat, M = min n.toNat R.length := ⟨_, rfl⟩
      have HTK := Lib.hid (show R.take M = R.take n.toNat by
        rw [hM]
        rcases Nat.le_total n.toNat R.length with h | h
        · rw [Nat.min_eq_left h]
        · rw [Nat.min_eq_right h, List.take_length, List.take_of_length_le h])
      have HRF := Lib.hid (ho.out.rd hbl.out)
      have HBL := Lib.hid hbl.out
      obtain ⟨ua, uc, rfl, huc, _⟩ := HRF.out.shape
      obtain ⟨vt, hcut, hrt⟩ := HRF.out.cut0S M (by omega)
      have hlt2 : decide (M < R.length) = decide (n.toNat < R.length) := decide_eq_decide.2 (by omega)
      have HLT := Lib.hid hlt2
      have hmn : min (max n 0) (R.length : Int) = (M : Int) := by omega
      have HRT := Lib.hid hrt
      clear ho hbl hR hrt hlt2 HL HCL H HG
      have hML : (M : Int) ≤ (R.length : Int) := by omega
      obtain ⟨bt, hbt⟩ : ∃ bt : Bool, bt = decide (n.toNat < R.length) := ⟨_, rfl⟩
      rw [← hbt] at HBY HLT
      clear hbt
      clear hM hc huc
      go_upto_region 9 with fail
      clear hmn
      refine wp_region_held_drew (S := fun w' => Below wr.heap.size wr w') (by kernel_rfl) ((Below.refl _ _).drew) (fun ha => ?_)
      replace ha : Below wr.heap.size wr wr.drew := (Below.refl _ _).drew
      generalize wr.drew = wa at ha ⊢
      refine takeH (i := 1) (v := ?_) rfl (by kernel_rfl) (by kernel_rfl) (by kernel_rfl) (fun _ _ _ h => h) (Or.inl ⟨by rfl, ?_⟩) (by assumption) ?_
      rotate_left
      · (intro w hSw; (try dsimp only at hSw); go_simp; first | done | with_reducible rfl)
      (try simp only [Act.put, List.setIfInBounds_toArray, List.set_cons_zero, List.set_cons_succ])
      refine takeH (i := 2) (v := ?_) rfl (by kernel_rfl) (by kernel_rfl) (by kernel_rfl) (fun _ _ _ h => h) (Or.inl ⟨by rfl, ?_⟩) (by assumption) ?_
      rotate_left
      · (intro w hSw; (try dsimp only at hSw); go_simp; first | done | with_reducible rfl)
      (try simp only [Act.put, List.setIfInBounds_toArray, List.set_cons_zero, List.set_cons_succ])
      refine takeH (i := 3) (v := ?_) rfl (by kernel_rfl) (by kernel_rfl) (by kernel_rfl) (fun _ _ _ h => h) (Or.inl ⟨by rfl, ?_⟩) (by assumption) ?_
      rotate_left
      · (intro w hSw; (try dsimp only at hSw); go_simp; first | done | with_reducible rfl)
      (try simp only [Act.put, List.setIfInBounds_toArray, List.set_cons_zero, List.set_cons_succ])
      refine takeH (i := 5) (v := ?_) rfl (by kernel_rfl) (by kernel_rfl) (by kernel_rfl) (fun _ _ _ h => h) (Or.inl ⟨by rfl, ?_⟩) (by assumption) ?_
      rotate_left
      · (intro w hSw; (try dsimp only at hSw); go_simp; first | done | with_reducible rfl)
      (try simp only [Act.put, List.setIfInBounds_toArray, List.set_cons_zero, List.set_cons_succ])
      refine takeH (i := 6) (v := ?_) rfl (by kernel_rfl) (by kernel_rfl) (by kernel_rfl) (fun _ _ _ h => h) (Or.inl ⟨by rfl, ?_⟩) (by assumption) ?_
      rotate_left
      · (intro w hSw; (try dsimp only at hSw); go_simp; first | done | with_reducible rfl)
      (try simp only [Act.put, List.setIfInBounds_toArray, List.set_cons_zero, List.set_cons_succ])
      refine takeH (i := 7) (v := ?_) rfl (by kernel_rfl) (by kernel_rfl) (by kernel_rfl) (fun _ _ _ h => h) (Or.inl ⟨by rfl, ?_⟩) (by assumption) ?_
      rotate_left
      · (intro w hSw; (try dsimp only at hSw); go_simp; first | done | with_reducible rfl)
      (try simp only [Act.put, List.setIfInBounds_toArray, List.set_cons_zero, List.set_cons_succ])
      refine takeH (i := 8) (v := ?_) rfl (by kernel_rfl) (by kernel_rfl) (by kernel_rfl) (fun _ _ _ h => h) (Or.inl ⟨by rfl, ?_⟩) (by assumption) ?_
      rotate_left
      · (intro w hSw; (try dsimp only at hSw); go_simp; first | done | with_reducible rfl)
      (try simp only [Act.put, List.setIfInBounds_toArray, List.set_cons_zero, List.set_cons_succ])
      refine wpAnyH_ready (rs := [0]) (by kernel_rfl) (by simp) ?_
      refine stepH rfl (fun K hK => ?_) AllReadyH.nil
      go_simp
      refine (cElements wa).mono ?_
      rintro e wb ⟨rfl, hq⟩
      have hb := bnext ha hq
      go_wp2_with fail
      refine hK.out _ _ (hb) (fun _ => ?_)
      clear hK K
      (try simp only [Act.put, List.setIfInBounds_toArray, List.set_cons_zero, List.set_cons_succ])
      refine wpAnyH_ready (rs := [4]) (by kernel_rfl) (by simp) ?_
      refine stepH rfl (fun K hK => ?_) AllReadyH.nil
      go_simp
      refine (sCopy vt _ wb (HRT.out.below hb) (by rw [List.length_take]; have := HRL.out; omega) (fun f hf => HRC.out f (List.mem_of_mem_take hf))).mono ?_
      rintro e wc ⟨vc, rfl, hof, hq⟩
      have hc := bnext hb hq
      go_wp2_with fail
      refine hK.out _ _ (hc) (fun _ => ?_)
      clear hK K
      (try simp only [Act.put, List.setIfInBounds_toArray, List.set_cons_zero, List.set_cons_succ])
      refine takeH (i := 9) (v := ?_) rfl (by kernel_rfl) (by kernel_rfl) (by kernel_rfl) (fun _ _ _ h => h) (Or.inl ⟨by rfl, ?_⟩) (by assumption) ?_
      rotate_left
      · (intro w hSw; (try dsimp only at hSw); go_simp; first | done | with_reducible rfl)
      (try simp only [Act.put, List.setIfInBounds_toArray, List.set_cons_zero, List.set_cons_succ])
      refine takeH (i := 10) (v := ?_) rfl (by kernel_rfl) (by kernel_rfl) (by kernel_rfl) (fun _ _ _ h => h) (Or.inl ⟨by rfl, ?_⟩) (by assumption) ?_
      rotate_left
      · (intro w hSw; (try dsimp only at hSw); go_simp; first | done | with_reducible rfl)
      (try simp only [Act.put, List.setIfInBounds_toArray, List.set_cons_zero, List.set_cons_succ])
      refine wpAnyH_done (by kernel_rfl) ?_ _
      have HOF := Lib.hid hof.rd
      have HBF := Lib.hid (bnext HBL.out hc)
      clear hof ha hb hc
      go_wp2
      go_ret2
      exact ⟨_, by rw [HBY.out]; show _ = Ending.returned (.tuple #[_, .bool bt]); rw [← HLT.out]; rfl, by rw [HBY.out]; show RdF _ _ (R.take n.toNat); rw [← HTK.out]; exact HOF.out, HBF.out⟩

end Go.Proofs.YtdfablboenfblaaDoor.ST
