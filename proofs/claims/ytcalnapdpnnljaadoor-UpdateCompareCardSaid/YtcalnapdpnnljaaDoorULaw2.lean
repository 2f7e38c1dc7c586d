/-
  The calls of the laws UpdateCompare and UpdateDecode: they return true. Conditions: what UCon's structure says of the program's calls; what came in reads as updates, as bytes. (Written by mk_ulaw2.py.)
-/
import Derived.Deep.RegionHeld3
import Derived.Test.YtcalnapdpnnljaaDoorUCon
namespace Go.Proofs.YtcalnapdpnnljaaDoor
open Go.RowKit
open UM (Ef)

set_option maxRecDepth 100000 in
set_option maxHeartbeats 8000000 in
theorem lUpdateCompare (H : UC) (c q t : Int) (u : Value) (es : List Ef) (d r y : Int) (v : Value) (fs : List Ef) (g m z : Int) (x : Value) (gs : List Ef) (w : World) (hT : Tb w) (hu : RdEf w u es) (hv : RdEf w v fs) (hx : RdEf w x gs) :
    Calls Tryd.prog 5 #[uv c q t u, uv d r y v, uv g m z x] w fun e w' => e = .returned (.bool true) ∧ Below w.heap.size w w' := by
  obtain ⟨a1, k1, rfl, hk1, _⟩ := hu.shape
  obtain ⟨a2, k2, rfl, hk2, _⟩ := hv.shape
  obtain ⟨a3, k3, rfl, hk3, _⟩ := hx.shape
  have o1 := OU.fresh w c q t (.slice a1 es.length k1)
  have b1 := below_fresh w (.cells #[.int .i64 c, .int .i64 q, .int .i64 t, .slice a1 es.length k1] 30)
  have z1 := World.size_alloc w (.cells #[.int .i64 c, .int .i64 q, .int .i64 t, .slice a1 es.length k1] 30)
  obtain ⟨wp, hwp⟩ : ∃ z', w.alloc (.cells #[.int .i64 c, .int .i64 q, .int .i64 t, .slice a1 es.length k1] 30) = z' := ⟨_, rfl⟩
  rw [hwp] at o1 b1 z1
  have o2 := OU.fresh wp d r y (.slice a2 fs.length k2)
  have b2 := below_fresh wp (.cells #[.int .i64 d, .int .i64 r, .int .i64 y, .slice a2 fs.length k2] 30)
  have z2 := World.size_alloc wp (.cells #[.int .i64 d, .int .i64 r, .int .i64 y, .slice a2 fs.length k2] 30)
  obtain ⟨wq, hwq⟩ : ∃ z', wp.alloc (.cells #[.int .i64 d, .int .i64 r, .int .i64 y, .slice a2 fs.length k2] 30) = z' := ⟨_, rfl⟩
  rw [hwq] at o2 b2 z2
  have o3 := OU.fresh wq g m z (.slice a3 gs.length k3)
  have b3 := below_fresh wq (.cells #[.int .i64 g, .int .i64 m, .int .i64 z, .slice a3 gs.length k3] 30)
  obtain ⟨w1, hw1⟩ : ∃ z', wq.alloc (.cells #[.int .i64 g, .int .i64 m, .int .i64 z, .slice a3 gs.length k3] 30) = z' := ⟨_, rfl⟩
  rw [hw1] at o3 b3
  rw [z2, z1] at o3
  rw [z1] at o2
  have HW := Lib.hid (show ((w.alloc (.cells #[.int .i64 c, .int .i64 q, .int .i64 t, .slice a1 es.length k1] 30)).alloc (.cells #[.int .i64 d, .int .i64 r, .int .i64 y, .slice a2 fs.length k2] 30)).alloc (.cells #[.int .i64 g, .int .i64 m, .int .i64 z, .slice a3 gs.length k3] 30) = w1 by rw [hwp, hwq, hw1])
  have HB := Lib.hid (bnext (bnext b1 b2) b3)
  have HT1 := Lib.hid (hT.below HB.out)
  have HX := Lib.hid ((o1.below b2).below b3)
  have HY := Lib.hid (o2.below b3)
  have HZ := Lib.hid o3
  have HU := Lib.hid (hu.below HB.out)
  have HV := Lib.hid (hv.below HB.out)
  have HG := Lib.hid (hx.below HB.out)
  clear hT o1 b1 z1 hwp o2 b2 z2 hwq o3 b3 hw1 hu hv hx
  have HA := Lib.hid (cAwake11 H)
  have HC := Lib.hid (fun w' (hb : Below w1.heap.size w1 w') => H.cmp c q t _ es d r y _ fs w' (HU.out.below hb) (HV.out.below hb))
  have HRC := Lib.hid (fun w' (_ : Below w1.heap.size w1 w') => rCmpU c q t (.slice a1 es.length k1) d r y (.slice a2 fs.length k2) w' ⟨_, _, _, rfl⟩ ⟨_, _, _, rfl⟩)
  have HBab := Lib.hid (fun w' (hb : Below w1.heap.size w1 w') => H.bef c q t _ es d r y _ fs w' (HU.out.below hb) (HV.out.below hb))
  have HRB := Lib.hid (fun w' (_ : Below w1.heap.size w1 w') => rBef c q t (.slice a1 es.length k1) d r y (.slice a2 fs.length k2) w' ⟨_, _, _, rfl⟩ ⟨_, _, _, rfl⟩)
  have HBaa := Lib.hid (fun w' (hb : Below w1.heap.size w1 w') => H.bef c q t _ es c q t _ es w' (HU.out.below hb) (HU.out.below hb))
  have HBba := Lib.hid (fun w' (hb : Below w1.heap.size w1 w') => H.bef d r y _ fs c q t _ es w' (HV.out.below hb) (HU.out.below hb))
  have HBbc := Lib.hid (fun w' (hb : Below w1.heap.size w1 w') => H.bef d r y _ fs g m z _ gs w' (HV.out.below hb) (HG.out.below hb))
  have HBac := Lib.hid (fun w' (hb : Below w1.heap.size w1 w') => H.bef c q t _ es g m z _ gs w' (HU.out.below hb) (HG.out.below hb))
  have HCbc := Lib.hid (fun w' (hb : Below w1.heap.size w1 w') => H.cmp d r y _ fs g m z _ gs w' (HV.out.below hb) (HG.out.below hb))
  have HCac := Lib.hid (fun w' (hb : Below w1.heap.size w1 w') => H.cmp c q t _ es g m z _ gs w' (HU.out.below hb) (HG.out.below hb))
  rw [UM.bef_self] at HBaa
  have HCT := Lib.hid (UM.cmpU_trans (a := c) (b := q) (c := d) (d := r) (e := g) (f := m))
  have HBT := Lib.hid (UM.bef_trans (c := c) (q := q) (t := t) (d := d) (r := r) (u := y) (e := g) (s := m) (v := z))
  have HBO := Lib.hid (UM.bef_total (c := c) (q := q) (t := t) (d := d) (r := r) (u := y))
  have HBB := Lib.hid (UM.bef_both (c := c) (q := q) (t := t) (d := d) (r := r) (u := y))
  generalize UM.cmpU c q d r = C1 at *
  generalize UM.cmpU d r g m = C2 at *
  generalize UM.cmpU c q g m = C3 at *
  generalize UM.bef c q t d r y = B1 at *
  generalize UM.bef d r y c q t = B4 at *
  generalize UM.bef d r y g m z = B2 at *
  generalize UM.bef c q t g m z = B3 at *
  go_enter Tryd.func5, Tryd.ntmps5
  go_upto_region 1 with fail
  rw [HW.out]
  clear HW
  cases B1 with
  | true =>
    obtain rfl : B4 = false := HBB.out (by trivial)
    refine wp_region_held_drew (S := fun w' => Below w1.heap.size w1 w') (by kernel_rfl) ((Below.refl _ _).drew) (fun ha => ?_)
    replace ha : Below w1.heap.size w1 w1.drew := (Below.refl _ _).drew
    generalize w1.drew = wa at ha ⊢
    refine takeH (i := 0) (v := ?_) rfl (by kernel_rfl) (by kernel_rfl) (by kernel_rfl) (fun _ _ _ h => h) (Or.inl ⟨by rfl, ?_⟩) (by assumption) ?_
    rotate_left
    · (intro w hSw; (try dsimp only at hSw); obtain ⟨c0, c1, c2, c3, _⟩ := (HX.out.below hSw).cells; go_simp; first | done | with_reducible rfl)
    (try simp only [Act.put, List.setIfInBounds_toArray, List.set_cons_zero, List.set_cons_succ])
    refine takeH (i := 1) (v := ?_) rfl (by kernel_rfl) (by kernel_rfl) (by kernel_rfl) (fun _ _ _ h => h) (Or.inl ⟨by rfl, ?_⟩) (by assumption) ?_
    rotate_left
    · (intro w hSw; (try dsimp only at hSw); obtain ⟨d0, d1, d2, d3, _⟩ := (HY.out.below hSw).cells; go_simp; first | done | with_reducible rfl)
    (try simp only [Act.put, List.setIfInBounds_toArray, List.set_cons_zero, List.set_cons_succ])
    refine takeH (i := 3) (v := ?_) rfl (by kernel_rfl) (by kernel_rfl) (by kernel_rfl) (fun _ _ _ h => h) (Or.inl ⟨by rfl, ?_⟩) (by assumption) ?_
    rotate_left
    · (intro w hSw; (try dsimp only at hSw); obtain ⟨c0, c1, c2, c3, _⟩ := (HX.out.below hSw).cells; go_simp; first | done | with_reducible rfl)
    (try simp only [Act.put, List.setIfInBounds_toArray, List.set_cons_zero, List.set_cons_succ])
    refine takeH (i := 4) (v := ?_) rfl (by kernel_rfl) (by kernel_rfl) (by kernel_rfl) (fun _ _ _ h => h) (Or.inl ⟨by rfl, ?_⟩) (by assumption) ?_
    rotate_left
    · (intro w hSw; (try dsimp only at hSw); obtain ⟨d0, d1, d2, d3, _⟩ := (HY.out.below hSw).cells; go_simp; first | done | with_reducible rfl)
    (try simp only [Act.put, List.setIfInBounds_toArray, List.set_cons_zero, List.set_cons_succ])
    refine wpAnyH_ready (rs := [2]) (by kernel_rfl) (by simp) ?_
    refine stepH rfl (fun K hK => ?_) AllReadyH.nil
    go_simp
    refine (HC.out wa ha).mono ?_
    rintro e wb ⟨rfl, hq⟩
    have hb := bnext ha hq
    go_wp2_with fail
    refine hK.out _ _ (hb) (fun _ => ?_)
    clear hK K
    (try simp only [Act.put, List.setIfInBounds_toArray, List.set_cons_zero, List.set_cons_succ])
    refine wpAnyH_ready (rs := [5]) (by kernel_rfl) (by simp) ?_
    refine stepH rfl (fun K hK => ?_) AllReadyH.nil
    go_simp
    refine (HRC.out wb hb).mono ?_
    rintro e wc ⟨rfl, hq⟩
    have hc := bnext hb hq
    go_wp2_with fail
    refine hK.out _ _ (hc) (fun _ => ?_)
    clear hK K
    (try simp only [Act.put, List.setIfInBounds_toArray, List.set_cons_zero, List.set_cons_succ])
    refine takeH (i := 6) (v := ?_) rfl (by kernel_rfl) (by kernel_rfl) (by kernel_rfl) (fun _ _ _ h => h) (Or.inl ⟨by rfl, ?_⟩) (by assumption) ?_
    rotate_left
    · (intro w hSw; (try dsimp only at hSw); go_simp; first | done | with_reducible rfl)
    (try simp only [Act.put, List.setIfInBounds_toArray, List.set_cons_zero, List.set_cons_succ])
    refine takeH (i := 7) (v := ?_) rfl (by kernel_rfl) (by kernel_rfl) (by kernel_rfl) (fun _ _ _ h => h) (Or.inl ⟨by rfl, ?_⟩) (by assumption) ?_
    rotate_left
    · (intro w hSw; (try dsimp only at hSw); go_simp; first | done | with_reducible rfl)
    (try simp only [Act.put, List.setIfInBounds_toArray, List.set_cons_zero, List.set_cons_succ])
    refine takeH (i := 8) (v := ?_) rfl (by kernel_rfl) (by kernel_rfl) (by kernel_rfl) (fun _ _ _ h => h) (Or.inl ⟨by rfl, ?_⟩) (by assumption) ?_
    rotate_left
    · (intro w hSw; (try dsimp only at hSw); obtain ⟨c0, c1, c2, c3, _⟩ := (HX.out.below hSw).cells; go_simp; first | done | with_reducible rfl)
    (try simp only [Act.put, List.setIfInBounds_toArray, List.set_cons_zero, List.set_cons_succ])
    refine takeH (i := 9) (v := ?_) rfl (by kernel_rfl) (by kernel_rfl) (by kernel_rfl) (fun _ _ _ h => h) (Or.inl ⟨by rfl, ?_⟩) (by assumption) ?_
    rotate_left
    · (intro w hSw; (try dsimp only at hSw); obtain ⟨d0, d1, d2, d3, _⟩ := (HY.out.below hSw).cells; go_simp; first | done | with_reducible rfl)
    (try simp only [Act.put, List.setIfInBounds_toArray, List.set_cons_zero, List.set_cons_succ])
    refine takeH (i := 11) (v := ?_) rfl (by kernel_rfl) (by kernel_rfl) (by kernel_rfl) (fun _ _ _ h => h) (Or.inl ⟨by rfl, ?_⟩) (by assumption) ?_
    rotate_left
    · (intro w hSw; (try dsimp only at hSw); obtain ⟨c0, c1, c2, c3, _⟩ := (HX.out.below hSw).cells; go_simp; first | done | with_reducible rfl)
    (try simp only [Act.put, List.setIfInBounds_toArray, List.set_cons_zero, List.set_cons_succ])
    refine takeH (i := 12) (v := ?_) rfl (by kernel_rfl) (by kernel_rfl) (by kernel_rfl) (fun _ _ _ h => h) (Or.inl ⟨by rfl, ?_⟩) (by assumption) ?_
    rotate_left
    · (intro w hSw; (try dsimp only at hSw); obtain ⟨d0, d1, d2, d3, _⟩ := (HY.out.below hSw).cells; go_simp; first | done | with_reducible rfl)
    (try simp only [Act.put, List.setIfInBounds_toArray, List.set_cons_zero, List.set_cons_succ])
    refine wpAnyH_ready (rs := [10]) (by kernel_rfl) (by simp) ?_
    refine stepH rfl (fun K hK => ?_) AllReadyH.nil
    go_simp
    refine (HBab.out wc hc).mono ?_
    rintro e wd ⟨rfl, hq⟩
    have hd := bnext hc hq
    go_wp2_with fail
    refine hK.out _ _ (hd) (fun _ => ?_)
    clear hK K
    (try simp only [Act.put, List.setIfInBounds_toArray, List.set_cons_zero, List.set_cons_succ])
    refine wpAnyH_ready (rs := [13]) (by kernel_rfl) (by simp) ?_
    refine stepH rfl (fun K hK => ?_) AllReadyH.nil
    go_simp
    refine (HRB.out wd hd).mono ?_
    rintro e we ⟨rfl, hq⟩
    have he := bnext hd hq
    go_wp2_with fail
    refine hK.out _ _ (he) (fun _ => ?_)
    clear hK K
    (try simp only [Act.put, List.setIfInBounds_toArray, List.set_cons_zero, List.set_cons_succ])
    refine takeH (i := 14) (v := ?_) rfl (by kernel_rfl) (by kernel_rfl) (by kernel_rfl) (fun _ _ _ h => h) (Or.inl ⟨by rfl, ?_⟩) (by assumption) ?_
    rotate_left
    · (intro w hSw; (try dsimp only at hSw); go_simp; first | done | with_reducible rfl)
    (try simp only [Act.put, List.setIfInBounds_toArray, List.set_cons_zero, List.set_cons_succ])
    refine takeH (i := 15) (v := ?_) rfl (by kernel_rfl) (by kernel_rfl) (by kernel_rfl) (fun _ _ _ h => h) (Or.inl ⟨by rfl, ?_⟩) (by assumption) ?_
    rotate_left
    · (intro w hSw; (try dsimp only at hSw); go_simp; first | done | with_reducible rfl)
    (try simp only [Act.put, List.setIfInBounds_toArray, List.set_cons_zero, List.set_cons_succ])
    refine takeH (i := 16) (v := ?_) rfl (by kernel_rfl) (by kernel_rfl) (by kernel_rfl) (fun _ _ _ h => h) (Or.inl ⟨by rfl, ?_⟩) (by assumption) ?_
    rotate_left
    · (intro w hSw; (try dsimp only at hSw); go_simp; first | done | with_reducible rfl)
    (try simp only [Act.put, List.setIfInBounds_toArray, List.set_cons_zero, List.set_cons_succ])
    refine takeH (i := 17) (v := ?_) rfl (by kernel_rfl) (by kernel_rfl) (by kernel_rfl) (fun _ _ _ h => h) (Or.inl ⟨by rfl, ?_⟩) (by assumption) ?_
    rotate_left
    · (intro w hSw; (try dsimp only at hSw); obtain ⟨c0, c1, c2, c3, _⟩ := (HX.out.below hSw).cells; go_simp; first | done | with_reducible rfl)
    (try simp only [Act.put, List.setIfInBounds_toArray, List.set_cons_zero, List.set_cons_succ])
    refine takeH (i := 18) (v := ?_) rfl (by kernel_rfl) (by kernel_rfl) (by kernel_rfl) (fun _ _ _ h => h) (Or.inl ⟨by rfl, ?_⟩) (by assumption) ?_
    rotate_left
    · (intro w hSw; (try dsimp only at hSw); obtain ⟨c0, c1, c2, c3, _⟩ := (HX.out.below hSw).cells; go_simp; first | done | with_reducible rfl)
    (try simp only [Act.put, List.setIfInBounds_toArray, List.set_cons_zero, List.set_cons_succ])
    refine wpAnyH_ready (rs := [19]) (by kernel_rfl) (by simp) ?_
    refine stepH rfl (fun K hK => ?_) AllReadyH.nil
    go_simp
    refine (HBaa.out we he).mono ?_
    rintro e wf ⟨rfl, hq⟩
    have hf := bnext he hq
    go_wp2_with fail
    refine hK.out _ _ (hf) (fun _ => ?_)
    clear hK K
    (try simp only [Act.put, List.setIfInBounds_toArray, List.set_cons_zero, List.set_cons_succ])
    refine takeH (i := 20) (v := ?_) rfl (by kernel_rfl) (by kernel_rfl) (by kernel_rfl) (fun _ _ _ h => h) (Or.inl ⟨by rfl, ?_⟩) (by assumption) ?_
    rotate_left
    · (intro w hSw; (try dsimp only at hSw); go_simp; first | done | with_reducible rfl)
    (try simp only [Act.put, List.setIfInBounds_toArray, List.set_cons_zero, List.set_cons_succ])
    refine takeH (i := 21) (v := ?_) rfl (by kernel_rfl) (by kernel_rfl) (by kernel_rfl) (fun _ _ _ h => h) (Or.inl ⟨by rfl, ?_⟩) (by assumption) ?_
    rotate_left
    · (intro w hSw; (try dsimp only at hSw); go_simp; first | done | with_reducible rfl)
    (try simp only [Act.put, List.setIfInBounds_toArray, List.set_cons_zero, List.set_cons_succ])
    refine takeH (i := 22) (v := ?_) rfl (by kernel_rfl) (by kernel_rfl) (by kernel_rfl) (fun _ _ _ h => h) (Or.inl ⟨by rfl, ?_⟩) (by assumption) ?_
    rotate_left
    · (intro w hSw; (try dsimp only at hSw); obtain ⟨c0, c1, c2, c3, _⟩ := (HX.out.below hSw).cells; go_simp; first | done | with_reducible rfl)
    (try simp only [Act.put, List.setIfInBounds_toArray, List.set_cons_zero, List.set_cons_succ])
    refine takeH (i := 23) (v := ?_) rfl (by kernel_rfl) (by kernel_rfl) (by kernel_rfl) (fun _ _ _ h => h) (Or.inl ⟨by rfl, ?_⟩) (by assumption) ?_
    rotate_left
    · (intro w hSw; (try dsimp only at hSw); obtain ⟨d0, d1, d2, d3, _⟩ := (HY.out.below hSw).cells; go_simp; first | done | with_reducible rfl)
    (try simp only [Act.put, List.setIfInBounds_toArray, List.set_cons_zero, List.set_cons_succ])
    refine wpAnyH_ready (rs := [24]) (by kernel_rfl) (by simp) ?_
    refine stepH rfl (fun K hK => ?_) AllReadyH.nil
    go_simp
    refine (HBab.out wf hf).mono ?_
    rintro e wg ⟨rfl, hq⟩
    have hg := bnext hf hq
    go_wp2_with fail
    refine hK.out _ _ (hg) (fun _ => ?_)
    clear hK K
    (try simp only [Act.put, List.setIfInBounds_toArray, List.set_cons_zero, List.set_cons_succ])
    refine takeH (i := 25) (v := ?_) rfl (by kernel_rfl) (by kernel_rfl) (by kernel_rfl) (fun _ _ _ h => h) (Or.inl ⟨by rfl, ?_⟩) (by assumption) ?_
    rotate_left
    · (intro w hSw; (try dsimp only at hSw); go_simp; first | done | with_reducible rfl)
    (try simp only [Act.put, List.setIfInBounds_toArray, List.set_cons_zero, List.set_cons_succ])
    refine takeH (i := 26) (v := ?_) rfl (by kernel_rfl) (by kernel_rfl) (by kernel_rfl) (fun _ _ _ h => h) (Or.inl ⟨by rfl, ?_⟩) (by assumption) ?_
    rotate_left
    · (intro w hSw; (try dsimp only at hSw); obtain ⟨d0, d1, d2, d3, _⟩ := (HY.out.below hSw).cells; go_simp; first | done | with_reducible rfl)
    (try simp only [Act.put, List.setIfInBounds_toArray, List.set_cons_zero, List.set_cons_succ])
    refine takeH (i := 27) (v := ?_) rfl (by kernel_rfl) (by kernel_rfl) (by kernel_rfl) (fun _ _ _ h => h) (Or.inl ⟨by rfl, ?_⟩) (by assumption) ?_
    rotate_left
    · (intro w hSw; (try dsimp only at hSw); obtain ⟨c0, c1, c2, c3, _⟩ := (HX.out.below hSw).cells; go_simp; first | done | with_reducible rfl)
    (try simp only [Act.put, List.setIfInBounds_toArray, List.set_cons_zero, List.set_cons_succ])
    refine wpAnyH_ready (rs := [28]) (by kernel_rfl) (by simp) ?_
    refine stepH rfl (fun K hK => ?_) AllReadyH.nil
    go_simp
    refine (HBba.out wg hg).mono ?_
    rintro e wh ⟨rfl, hq⟩
    have hh := bnext hg hq
    go_wp2_with fail
    refine hK.out _ _ (hh) (fun _ => ?_)
    clear hK K
    (try simp only [Act.put, List.setIfInBounds_toArray, List.set_cons_zero, List.set_cons_succ])
    refine takeH (i := 29) (v := ?_) rfl (by kernel_rfl) (by kernel_rfl) (by kernel_rfl) (fun _ _ _ h => h) (Or.inl ⟨by rfl, ?_⟩) (by assumption) ?_
    rotate_left
    · (intro w hSw; (try dsimp only at hSw); go_simp; first | done | with_reducible rfl)
    (try simp only [Act.put, List.setIfInBounds_toArray, List.set_cons_zero, List.set_cons_succ])
    refine takeH (i := 30) (v := ?_) rfl (by kernel_rfl) (by kernel_rfl) (by kernel_rfl) (fun _ _ _ h => h) (Or.inl ⟨by rfl, ?_⟩) (by assumption) ?_
    rotate_left
    · (intro w hSw; (try dsimp only at hSw); go_simp; first | done | with_reducible rfl)
    (try simp only [Act.put, List.setIfInBounds_toArray, List.set_cons_zero, List.set_cons_succ])
    refine wpAnyH_done (by kernel_rfl) ?_ _
    have HB1 := Lib.hid hh
    clear ha hb hc hd he hf hg hh
    obtain ⟨c0, c1, c2, c3, _⟩ := (HX.out.below HB1.out).cells
    obtain ⟨d0, d1, d2, d3, _⟩ := (HY.out.below HB1.out).cells
    obtain ⟨e0, e1, e2, e3, _⟩ := (HZ.out.below HB1.out).cells
    go_wp2_with fail
    refine (HRC.out _ HB1.out).mono ?_
    rintro e w21 ⟨rfl, hb21⟩
    have HB21 := Lib.hid (bnext HB1.out hb21)
    clear c0 c1 c2 c3 d0 d1 d2 d3 e0 e1 e2 e3 hb21
    obtain ⟨c0, c1, c2, c3, _⟩ := (HX.out.below HB21.out).cells
    obtain ⟨d0, d1, d2, d3, _⟩ := (HY.out.below HB21.out).cells
    obtain ⟨e0, e1, e2, e3, _⟩ := (HZ.out.below HB21.out).cells
    by_cases k0 : C1 = 0
    · have k0' : (C1 != 0) = false := by simp [k0]
      clear k0
      go_wp2_with fail
      refine (HBab.out _ HB21.out).mono ?_
      rintro e w22 ⟨rfl, hb22⟩
      have HB22 := Lib.hid (bnext HB21.out hb22)
      clear c0 c1 c2 c3 d0 d1 d2 d3 e0 e1 e2 e3 hb22
      obtain ⟨c0, c1, c2, c3, _⟩ := (HX.out.below HB22.out).cells
      obtain ⟨d0, d1, d2, d3, _⟩ := (HY.out.below HB22.out).cells
      obtain ⟨e0, e1, e2, e3, _⟩ := (HZ.out.below HB22.out).cells
      cases B2 with
      | false =>
        go_wp2_with fail
        refine (HBbc.out _ HB22.out).mono ?_
        rintro e w23 ⟨rfl, hb23⟩
        have HB23 := Lib.hid (bnext HB22.out hb23)
        clear c0 c1 c2 c3 d0 d1 d2 d3 e0 e1 e2 e3 hb23
        obtain ⟨c0, c1, c2, c3, _⟩ := (HX.out.below HB23.out).cells
        obtain ⟨d0, d1, d2, d3, _⟩ := (HY.out.below HB23.out).cells
        obtain ⟨e0, e1, e2, e3, _⟩ := (HZ.out.below HB23.out).cells
        go_wp2_with fail
        refine (HC.out _ HB23.out).mono ?_
        rintro e w24 ⟨rfl, hb24⟩
        have HB24 := Lib.hid (bnext HB23.out hb24)
        clear c0 c1 c2 c3 d0 d1 d2 d3 e0 e1 e2 e3 hb24
        obtain ⟨c0, c1, c2, c3, _⟩ := (HX.out.below HB24.out).cells
        obtain ⟨d0, d1, d2, d3, _⟩ := (HY.out.below HB24.out).cells
        obtain ⟨e0, e1, e2, e3, _⟩ := (HZ.out.below HB24.out).cells
        by_cases k1 : (0 : Int) ≤ C1
        · go_wp2_with fail
          refine (HA.out _ (HT1.out.below HB24.out)).mono ?_
          rintro e w26 ⟨rfl, hb26⟩
          have HE26 := Lib.hid (bnext HB.out (bnext HB24.out hb26))
          go_wp2
          go_ret
          exact ⟨rfl, HE26.out⟩
        go_wp2_with fail
        refine (HCbc.out _ HB24.out).mono ?_
        rintro e w27 ⟨rfl, hb27⟩
        have HB27 := Lib.hid (bnext HB24.out hb27)
        clear c0 c1 c2 c3 d0 d1 d2 d3 e0 e1 e2 e3 hb27
        obtain ⟨c0, c1, c2, c3, _⟩ := (HX.out.below HB27.out).cells
        obtain ⟨d0, d1, d2, d3, _⟩ := (HY.out.below HB27.out).cells
        obtain ⟨e0, e1, e2, e3, _⟩ := (HZ.out.below HB27.out).cells
        by_cases k2 : (0 : Int) ≤ C2
        · go_wp2_with fail
          refine (HA.out _ (HT1.out.below HB27.out)).mono ?_
          rintro e w28 ⟨rfl, hb28⟩
          have HE28 := Lib.hid (bnext HB.out (bnext HB27.out hb28))
          go_wp2
          go_ret
          exact ⟨rfl, HE28.out⟩
        have k3 : C3 < 0 := HCT.out (by omega) (by omega)
        go_wp2_with fail
        refine (HCac.out _ HB27.out).mono ?_
        rintro e w29 ⟨rfl, hb29⟩
        have HB29 := Lib.hid (bnext HB27.out hb29)
        clear c0 c1 c2 c3 d0 d1 d2 d3 e0 e1 e2 e3 hb29
        obtain ⟨c0, c1, c2, c3, _⟩ := (HX.out.below HB29.out).cells
        obtain ⟨d0, d1, d2, d3, _⟩ := (HY.out.below HB29.out).cells
        obtain ⟨e0, e1, e2, e3, _⟩ := (HZ.out.below HB29.out).cells
        go_wp2_with fail
        refine (HA.out _ (HT1.out.below HB29.out)).mono ?_
        rintro e w30 ⟨rfl, hb30⟩
        have HE30 := Lib.hid (bnext HB.out (bnext HB29.out hb30))
        go_wp2
        go_ret
        exact ⟨rfl, HE30.out⟩
      | true =>
        obtain rfl : B3 = true := HBT.out (by trivial) (by trivial)
        go_wp2_with fail
        refine (HBbc.out _ HB22.out).mono ?_
        rintro e w23 ⟨rfl, hb23⟩
        have HB23 := Lib.hid (bnext HB22.out hb23)
        clear c0 c1 c2 c3 d0 d1 d2 d3 e0 e1 e2 e3 hb23
        obtain ⟨c0, c1, c2, c3, _⟩ := (HX.out.below HB23.out).cells
        obtain ⟨d0, d1, d2, d3, _⟩ := (HY.out.below HB23.out).cells
        obtain ⟨e0, e1, e2, e3, _⟩ := (HZ.out.below HB23.out).cells
        go_wp2_with fail
        refine (HBac.out _ HB23.out).mono ?_
        rintro e w31 ⟨rfl, hb31⟩
        have HB31 := Lib.hid (bnext HB23.out hb31)
        clear c0 c1 c2 c3 d0 d1 d2 d3 e0 e1 e2 e3 hb31
        obtain ⟨c0, c1, c2, c3, _⟩ := (HX.out.below HB31.out).cells
        obtain ⟨d0, d1, d2, d3, _⟩ := (HY.out.below HB31.out).cells
        obtain ⟨e0, e1, e2, e3, _⟩ := (HZ.out.below HB31.out).cells
        go_wp2_with fail
        refine (HC.out _ HB31.out).mono ?_
        rintro e w32 ⟨rfl, hb32⟩
        have HB32 := Lib.hid (bnext HB31.out hb32)
        clear c0 c1 c2 c3 d0 d1 d2 d3 e0 e1 e2 e3 hb32
        obtain ⟨c0, c1, c2, c3, _⟩ := (HX.out.below HB32.out).cells
        obtain ⟨d0, d1, d2, d3, _⟩ := (HY.out.below HB32.out).cells
        obtain ⟨e0, e1, e2, e3, _⟩ := (HZ.out.below HB32.out).cells
        by_cases k1 : (0 : Int) ≤ C1
        · go_wp2_with fail
          refine (HA.out _ (HT1.out.below HB32.out)).mono ?_
          rintro e w34 ⟨rfl, hb34⟩
          have HE34 := Lib.hid (bnext HB.out (bnext HB32.out hb34))
          go_wp2
          go_ret
          exact ⟨rfl, HE34.out⟩
        go_wp2_with fail
        refine (HCbc.out _ HB32.out).mono ?_
        rintro e w35 ⟨rfl, hb35⟩
        have HB35 := Lib.hid (bnext HB32.out hb35)
        clear c0 c1 c2 c3 d0 d1 d2 d3 e0 e1 e2 e3 hb35
        obtain ⟨c0, c1, c2, c3, _⟩ := (HX.out.below HB35.out).cells
        obtain ⟨d0, d1, d2, d3, _⟩ := (HY.out.below HB35.out).cells
        obtain ⟨e0, e1, e2, e3, _⟩ := (HZ.out.below HB35.out).cells
        by_cases k2 : (0 : Int) ≤ C2
        · go_wp2_with fail
          refine (HA.out _ (HT1.out.below HB35.out)).mono ?_
          rintro e w36 ⟨rfl, hb36⟩
          have HE36 := Lib.hid (bnext HB.out (bnext HB35.out hb36))
          go_wp2
          go_ret
          exact ⟨rfl, HE36.out⟩
        have k3 : C3 < 0 := HCT.out (by omega) (by omega)
        go_wp2_with fail
        refine (HCac.out _ HB35.out).mono ?_
        rintro e w37 ⟨rfl, hb37⟩
        have HB37 := Lib.hid (bnext HB35.out hb37)
        clear c0 c1 c2 c3 d0 d1 d2 d3 e0 e1 e2 e3 hb37
        obtain ⟨c0, c1, c2, c3, _⟩ := (HX.out.below HB37.out).cells
        obtain ⟨d0, d1, d2, d3, _⟩ := (HY.out.below HB37.out).cells
        obtain ⟨e0, e1, e2, e3, _⟩ := (HZ.out.below HB37.out).cells
        go_wp2_with fail
        refine (HA.out _ (HT1.out.below HB37.out)).mono ?_
        rintro e w38 ⟨rfl, hb38⟩
        have HE38 := Lib.hid (bnext HB.out (bnext HB37.out hb38))
        go_wp2
        go_ret
        exact ⟨rfl, HE38.out⟩
    have k0' : (C1 != 0) = true := bne_t k0
    clear k0
    go_wp2_with fail
    refine (HBab.out _ HB21.out).mono ?_
    rintro e w39 ⟨rfl, hb39⟩
    have HB39 := Lib.hid (bnext HB21.out hb39)
    clear c0 c1 c2 c3 d0 d1 d2 d3 e0 e1 e2 e3 hb39
    obtain ⟨c0, c1, c2, c3, _⟩ := (HX.out.below HB39.out).cells
    obtain ⟨d0, d1, d2, d3, _⟩ := (HY.out.below HB39.out).cells
    obtain ⟨e0, e1, e2, e3, _⟩ := (HZ.out.below HB39.out).cells
    go_wp2_with fail
    refine (HBab.out _ HB39.out).mono ?_
    rintro e w40 ⟨rfl, hb40⟩
    have HB40 := Lib.hid (bnext HB39.out hb40)
    clear c0 c1 c2 c3 d0 d1 d2 d3 e0 e1 e2 e3 hb40
    obtain ⟨c0, c1, c2, c3, _⟩ := (HX.out.below HB40.out).cells
    obtain ⟨d0, d1, d2, d3, _⟩ := (HY.out.below HB40.out).cells
    obtain ⟨e0, e1, e2, e3, _⟩ := (HZ.out.below HB40.out).cells
    cases B2 with
    | false =>
      go_wp2_with fail
      refine (HBbc.out _ HB40.out).mono ?_
      rintro e w41 ⟨rfl, hb41⟩
      have HB41 := Lib.hid (bnext HB40.out hb41)
      clear c0 c1 c2 c3 d0 d1 d2 d3 e0 e1 e2 e3 hb41
      obtain ⟨c0, c1, c2, c3, _⟩ := (HX.out.below HB41.out).cells
      obtain ⟨d0, d1, d2, d3, _⟩ := (HY.out.below HB41.out).cells
      obtain ⟨e0, e1, e2, e3, _⟩ := (HZ.out.below HB41.out).cells
      go_wp2_with fail
      refine (HC.out _ HB41.out).mono ?_
      rintro e w42 ⟨rfl, hb42⟩
      have HB42 := Lib.hid (bnext HB41.out hb42)
      clear c0 c1 c2 c3 d0 d1 d2 d3 e0 e1 e2 e3 hb42
      obtain ⟨c0, c1, c2, c3, _⟩ := (HX.out.below HB42.out).cells
      obtain ⟨d0, d1, d2, d3, _⟩ := (HY.out.below HB42.out).cells
      obtain ⟨e0, e1, e2, e3, _⟩ := (HZ.out.below HB42.out).cells
      by_cases k1 : (0 : Int) ≤ C1
      · go_wp2_with fail
        refine (HA.out _ (HT1.out.below HB42.out)).mono ?_
        rintro e w44 ⟨rfl, hb44⟩
        have HE44 := Lib.hid (bnext HB.out (bnext HB42.out hb44))
        go_wp2
        go_ret
        exact ⟨rfl, HE44.out⟩
      go_wp2_with fail
      refine (HCbc.out _ HB42.out).mono ?_
      rintro e w45 ⟨rfl, hb45⟩
      have HB45 := Lib.hid (bnext HB42.out hb45)
      clear c0 c1 c2 c3 d0 d1 d2 d3 e0 e1 e2 e3 hb45
      obtain ⟨c0, c1, c2, c3, _⟩ := (HX.out.below HB45.out).cells
      obtain ⟨d0, d1, d2, d3, _⟩ := (HY.out.below HB45.out).cells
      obtain ⟨e0, e1, e2, e3, _⟩ := (HZ.out.below HB45.out).cells
      by_cases k2 : (0 : Int) ≤ C2
      · go_wp2_with fail
        refine (HA.out _ (HT1.out.below HB45.out)).mono ?_
        rintro e w46 ⟨rfl, hb46⟩
        have HE46 := Lib.hid (bnext HB.out (bnext HB45.out hb46))
        go_wp2
        go_ret
        exact ⟨rfl, HE46.out⟩
      have k3 : C3 < 0 := HCT.out (by omega) (by omega)
      go_wp2_with fail
      refine (HCac.out _ HB45.out).mono ?_
      rintro e w47 ⟨rfl, hb47⟩
      have HB47 := Lib.hid (bnext HB45.out hb47)
      clear c0 c1 c2 c3 d0 d1 d2 d3 e0 e1 e2 e3 hb47
      obtain ⟨c0, c1, c2, c3, _⟩ := (HX.out.below HB47.out).cells
      obtain ⟨d0, d1, d2, d3, _⟩ := (HY.out.below HB47.out).cells
      obtain ⟨e0, e1, e2, e3, _⟩ := (HZ.out.below HB47.out).cells
      go_wp2_with fail
      refine (HA.out _ (HT1.out.below HB47.out)).mono ?_
      rintro e w48 ⟨rfl, hb48⟩
      have HE48 := Lib.hid (bnext HB.out (bnext HB47.out hb48))
      go_wp2
      go_ret
      exact ⟨rfl, HE48.out⟩
    | true =>
      obtain rfl : B3 = true := HBT.out (by trivial) (by trivial)
      go_wp2_with fail
      refine (HBbc.out _ HB40.out).mono ?_
      rintro e w41 ⟨rfl, hb41⟩
      have HB41 := Lib.hid (bnext HB40.out hb41)
      clear c0 c1 c2 c3 d0 d1 d2 d3 e0 e1 e2 e3 hb41
      obtain ⟨c0, c1, c2, c3, _⟩ := (HX.out.below HB41.out).cells
      obtain ⟨d0, d1, d2, d3, _⟩ := (HY.out.below HB41.out).cells
      obtain ⟨e0, e1, e2, e3, _⟩ := (HZ.out.below HB41.out).cells
      go_wp2_with fail
      refine (HBac.out _ HB41.out).mono ?_
      rintro e w49 ⟨rfl, hb49⟩
      have HB49 := Lib.hid (bnext HB41.out hb49)
      clear c0 c1 c2 c3 d0 d1 d2 d3 e0 e1 e2 e3 hb49
      obtain ⟨c0, c1, c2, c3, _⟩ := (HX.out.below HB49.out).cells
      obtain ⟨d0, d1, d2, d3, _⟩ := (HY.out.below HB49.out).cells
      obtain ⟨e0, e1, e2, e3, _⟩ := (HZ.out.below HB49.out).cells
      go_wp2_with fail
      refine (HC.out _ HB49.out).mono ?_
      rintro e w50 ⟨rfl, hb50⟩
      have HB50 := Lib.hid (bnext HB49.out hb50)
      clear c0 c1 c2 c3 d0 d1 d2 d3 e0 e1 e2 e3 hb50
      obtain ⟨c0, c1, c2, c3, _⟩ := (HX.out.below HB50.out).cells
      obtain ⟨d0, d1, d2, d3, _⟩ := (HY.out.below HB50.out).cells
      obtain ⟨e0, e1, e2, e3, _⟩ := (HZ.out.below HB50.out).cells
      by_cases k1 : (0 : Int) ≤ C1
      · go_wp2_with fail
        refine (HA.out _ (HT1.out.below HB50.out)).mono ?_
        rintro e w52 ⟨rfl, hb52⟩
        have HE52 := Lib.hid (bnext HB.out (bnext HB50.out hb52))
        go_wp2
        go_ret
        exact ⟨rfl, HE52.out⟩
      go_wp2_with fail
      refine (HCbc.out _ HB50.out).mono ?_
      rintro e w53 ⟨rfl, hb53⟩
      have HB53 := Lib.hid (bnext HB50.out hb53)
      clear c0 c1 c2 c3 d0 d1 d2 d3 e0 e1 e2 e3 hb53
      obtain ⟨c0, c1, c2, c3, _⟩ := (HX.out.below HB53.out).cells
      obtain ⟨d0, d1, d2, d3, _⟩ := (HY.out.below HB53.out).cells
      obtain ⟨e0, e1, e2, e3, _⟩ := (HZ.out.below HB53.out).cells
      by_cases k2 : (0 : Int) ≤ C2
      · go_wp2_with fail
        refine (HA.out _ (HT1.out.below HB53.out)).mono ?_
        rintro e w54 ⟨rfl, hb54⟩
        have HE54 := Lib.hid (bnext HB.out (bnext HB53.out hb54))
        go_wp2
        go_ret
        exact ⟨rfl, HE54.out⟩
      have k3 : C3 < 0 := HCT.out (by omega) (by omega)
      go_wp2_with fail
      refine (HCac.out _ HB53.out).mono ?_
      rintro e w55 ⟨rfl, hb55⟩
      have HB55 := Lib.hid (bnext HB53.out hb55)
      clear c0 c1 c2 c3 d0 d1 d2 d3 e0 e1 e2 e3 hb55
      obtain ⟨c0, c1, c2, c3, _⟩ := (HX.out.below HB55.out).cells
      obtain ⟨d0, d1, d2, d3, _⟩ := (HY.out.below HB55.out).cells
      obtain ⟨e0, e1, e2, e3, _⟩ := (HZ.out.below HB55.out).cells
      go_wp2_with fail
      refine (HA.out _ (HT1.out.below HB55.out)).mono ?_
      rintro e w56 ⟨rfl, hb56⟩
      have HE56 := Lib.hid (bnext HB.out (bnext HB55.out hb56))
      go_wp2
      go_ret
      exact ⟨rfl, HE56.out⟩
  | false =>
    refine wp_region_held_drew (S := fun w' => Below w1.heap.size w1 w') (by kernel_rfl) ((Below.refl _ _).drew) (fun ha => ?_)
    replace ha : Below w1.heap.size w1 w1.drew := (Below.refl _ _).drew
    generalize w1.drew = wa at ha ⊢
    refine takeH (i := 0) (v := ?_) rfl (by kernel_rfl) (by kernel_rfl) (by kernel_rfl) (fun _ _ _ h => h) (Or.inl ⟨by rfl, ?_⟩) (by assumption) ?_
    rotate_left
    · (intro w hSw; (try dsimp only at hSw); obtain ⟨c0, c1, c2, c3, _⟩ := (HX.out.below hSw).cells; go_simp; first | done | with_reducible rfl)
    (try simp only [Act.put, List.setIfInBounds_toArray, List.set_cons_zero, List.set_cons_succ])
    refine takeH (i := 1) (v := ?_) rfl (by kernel_rfl) (by kernel_rfl) (by kernel_rfl) (fun _ _ _ h => h) (Or.inl ⟨by rfl, ?_⟩) (by assumption) ?_
    rotate_left
    · (intro w hSw; (try dsimp only at hSw); obtain ⟨d0, d1, d2, d3, _⟩ := (HY.out.below hSw).cells; go_simp; first | done | with_reducible rfl)
    (try simp only [Act.put, List.setIfInBounds_toArray, List.set_cons_zero, List.set_cons_succ])
    refine takeH (i := 3) (v := ?_) rfl (by kernel_rfl) (by kernel_rfl) (by kernel_rfl) (fun _ _ _ h => h) (Or.inl ⟨by rfl, ?_⟩) (by assumption) ?_
    rotate_left
    · (intro w hSw; (try dsimp only at hSw); obtain ⟨c0, c1, c2, c3, _⟩ := (HX.out.below hSw).cells; go_simp; first | done | with_reducible rfl)
    (try simp only [Act.put, List.setIfInBounds_toArray, List.set_cons_zero, List.set_cons_succ])
    refine takeH (i := 4) (v := ?_) rfl (by kernel_rfl) (by kernel_rfl) (by kernel_rfl) (fun _ _ _ h => h) (Or.inl ⟨by rfl, ?_⟩) (by assumption) ?_
    rotate_left
    · (intro w hSw; (try dsimp only at hSw); obtain ⟨d0, d1, d2, d3, _⟩ := (HY.out.below hSw).cells; go_simp; first | done | with_reducible rfl)
    (try simp only [Act.put, List.setIfInBounds_toArray, List.set_cons_zero, List.set_cons_succ])
    refine wpAnyH_ready (rs := [2]) (by kernel_rfl) (by simp) ?_
    refine stepH rfl (fun K hK => ?_) AllReadyH.nil
    go_simp
    refine (HC.out wa ha).mono ?_
    rintro e wb ⟨rfl, hq⟩
    have hb := bnext ha hq
    go_wp2_with fail
    refine hK.out _ _ (hb) (fun _ => ?_)
    clear hK K
    (try simp only [Act.put, List.setIfInBounds_toArray, List.set_cons_zero, List.set_cons_succ])
    refine wpAnyH_ready (rs := [5]) (by kernel_rfl) (by simp) ?_
    refine stepH rfl (fun K hK => ?_) AllReadyH.nil
    go_simp
    refine (HRC.out wb hb).mono ?_
    rintro e wc ⟨rfl, hq⟩
    have hc := bnext hb hq
    go_wp2_with fail
    refine hK.out _ _ (hc) (fun _ => ?_)
    clear hK K
    (try simp only [Act.put, List.setIfInBounds_toArray, List.set_cons_zero, List.set_cons_succ])
    refine takeH (i := 6) (v := ?_) rfl (by kernel_rfl) (by kernel_rfl) (by kernel_rfl) (fun _ _ _ h => h) (Or.inl ⟨by rfl, ?_⟩) (by assumption) ?_
    rotate_left
    · (intro w hSw; (try dsimp only at hSw); go_simp; first | done | with_reducible rfl)
    (try simp only [Act.put, List.setIfInBounds_toArray, List.set_cons_zero, List.set_cons_succ])
    refine takeH (i := 7) (v := ?_) rfl (by kernel_rfl) (by kernel_rfl) (by kernel_rfl) (fun _ _ _ h => h) (Or.inl ⟨by rfl, ?_⟩) (by assumption) ?_
    rotate_left
    · (intro w hSw; (try dsimp only at hSw); go_simp; first | done | with_reducible rfl)
    (try simp only [Act.put, List.setIfInBounds_toArray, List.set_cons_zero, List.set_cons_succ])
    refine takeH (i := 8) (v := ?_) rfl (by kernel_rfl) (by kernel_rfl) (by kernel_rfl) (fun _ _ _ h => h) (Or.inl ⟨by rfl, ?_⟩) (by assumption) ?_
    rotate_left
    · (intro w hSw; (try dsimp only at hSw); obtain ⟨c0, c1, c2, c3, _⟩ := (HX.out.below hSw).cells; go_simp; first | done | with_reducible rfl)
    (try simp only [Act.put, List.setIfInBounds_toArray, List.set_cons_zero, List.set_cons_succ])
    refine takeH (i := 9) (v := ?_) rfl (by kernel_rfl) (by kernel_rfl) (by kernel_rfl) (fun _ _ _ h => h) (Or.inl ⟨by rfl, ?_⟩) (by assumption) ?_
    rotate_left
    · (intro w hSw; (try dsimp only at hSw); obtain ⟨d0, d1, d2, d3, _⟩ := (HY.out.below hSw).cells; go_simp; first | done | with_reducible rfl)
    (try simp only [Act.put, List.setIfInBounds_toArray, List.set_cons_zero, List.set_cons_succ])
    refine takeH (i := 11) (v := ?_) rfl (by kernel_rfl) (by kernel_rfl) (by kernel_rfl) (fun _ _ _ h => h) (Or.inl ⟨by rfl, ?_⟩) (by assumption) ?_
    rotate_left
    · (intro w hSw; (try dsimp only at hSw); obtain ⟨c0, c1, c2, c3, _⟩ := (HX.out.below hSw).cells; go_simp; first | done | with_reducible rfl)
    (try simp only [Act.put, List.setIfInBounds_toArray, List.set_cons_zero, List.set_cons_succ])
    refine takeH (i := 12) (v := ?_) rfl (by kernel_rfl) (by kernel_rfl) (by kernel_rfl) (fun _ _ _ h => h) (Or.inl ⟨by rfl, ?_⟩) (by assumption) ?_
    rotate_left
    · (intro w hSw; (try dsimp only at hSw); obtain ⟨d0, d1, d2, d3, _⟩ := (HY.out.below hSw).cells; go_simp; first | done | with_reducible rfl)
    (try simp only [Act.put, List.setIfInBounds_toArray, List.set_cons_zero, List.set_cons_succ])
    refine wpAnyH_ready (rs := [10]) (by kernel_rfl) (by simp) ?_
    refine stepH rfl (fun K hK => ?_) AllReadyH.nil
    go_simp
    refine (HBab.out wc hc).mono ?_
    rintro e wd ⟨rfl, hq⟩
    have hd := bnext hc hq
    go_wp2_with fail
    refine hK.out _ _ (hd) (fun _ => ?_)
    clear hK K
    (try simp only [Act.put, List.setIfInBounds_toArray, List.set_cons_zero, List.set_cons_succ])
    refine wpAnyH_ready (rs := [13]) (by kernel_rfl) (by simp) ?_
    refine stepH rfl (fun K hK => ?_) AllReadyH.nil
    go_simp
    refine (HRB.out wd hd).mono ?_
    rintro e we ⟨rfl, hq⟩
    have he := bnext hd hq
    go_wp2_with fail
    refine hK.out _ _ (he) (fun _ => ?_)
    clear hK K
    (try simp only [Act.put, List.setIfInBounds_toArray, List.set_cons_zero, List.set_cons_succ])
    refine takeH (i := 14) (v := ?_) rfl (by kernel_rfl) (by kernel_rfl) (by kernel_rfl) (fun _ _ _ h => h) (Or.inl ⟨by rfl, ?_⟩) (by assumption) ?_
    rotate_left
    · (intro w hSw; (try dsimp only at hSw); go_simp; first | done | with_reducible rfl)
    (try simp only [Act.put, List.setIfInBounds_toArray, List.set_cons_zero, List.set_cons_succ])
    refine takeH (i := 15) (v := ?_) rfl (by kernel_rfl) (by kernel_rfl) (by kernel_rfl) (fun _ _ _ h => h) (Or.inl ⟨by rfl, ?_⟩) (by assumption) ?_
    rotate_left
    · (intro w hSw; (try dsimp only at hSw); go_simp; first | done | with_reducible rfl)
    (try simp only [Act.put, List.setIfInBounds_toArray, List.set_cons_zero, List.set_cons_succ])
    refine takeH (i := 16) (v := ?_) rfl (by kernel_rfl) (by kernel_rfl) (by kernel_rfl) (fun _ _ _ h => h) (Or.inl ⟨by rfl, ?_⟩) (by assumption) ?_
    rotate_left
    · (intro w hSw; (try dsimp only at hSw); go_simp; first | done | with_reducible rfl)
    (try simp only [Act.put, List.setIfInBounds_toArray, List.set_cons_zero, List.set_cons_succ])
    refine takeH (i := 17) (v := ?_) rfl (by kernel_rfl) (by kernel_rfl) (by kernel_rfl) (fun _ _ _ h => h) (Or.inl ⟨by rfl, ?_⟩) (by assumption) ?_
    rotate_left
    · (intro w hSw; (try dsimp only at hSw); obtain ⟨c0, c1, c2, c3, _⟩ := (HX.out.below hSw).cells; go_simp; first | done | with_reducible rfl)
    (try simp only [Act.put, List.setIfInBounds_toArray, List.set_cons_zero, List.set_cons_succ])
    refine takeH (i := 18) (v := ?_) rfl (by kernel_rfl) (by kernel_rfl) (by kernel_rfl) (fun _ _ _ h => h) (Or.inl ⟨by rfl, ?_⟩) (by assumption) ?_
    rotate_left
    · (intro w hSw; (try dsimp only at hSw); obtain ⟨c0, c1, c2, c3, _⟩ := (HX.out.below hSw).cells; go_simp; first | done | with_reducible rfl)
    (try simp only [Act.put, List.setIfInBounds_toArray, List.set_cons_zero, List.set_cons_succ])
    refine wpAnyH_ready (rs := [19]) (by kernel_rfl) (by simp) ?_
    refine stepH rfl (fun K hK => ?_) AllReadyH.nil
    go_simp
    refine (HBaa.out we he).mono ?_
    rintro e wf ⟨rfl, hq⟩
    have hf := bnext he hq
    go_wp2_with fail
    refine hK.out _ _ (hf) (fun _ => ?_)
    clear hK K
    (try simp only [Act.put, List.setIfInBounds_toArray, List.set_cons_zero, List.set_cons_succ])
    refine takeH (i := 20) (v := ?_) rfl (by kernel_rfl) (by kernel_rfl) (by kernel_rfl) (fun _ _ _ h => h) (Or.inl ⟨by rfl, ?_⟩) (by assumption) ?_
    rotate_left
    · (intro w hSw; (try dsimp only at hSw); go_simp; first | done | with_reducible rfl)
    (try simp only [Act.put, List.setIfInBounds_toArray, List.set_cons_zero, List.set_cons_succ])
    refine takeH (i := 21) (v := ?_) rfl (by kernel_rfl) (by kernel_rfl) (by kernel_rfl) (fun _ _ _ h => h) (Or.inl ⟨by rfl, ?_⟩) (by assumption) ?_
    rotate_left
    · (intro w hSw; (try dsimp only at hSw); go_simp; first | done | with_reducible rfl)
    (try simp only [Act.put, List.setIfInBounds_toArray, List.set_cons_zero, List.set_cons_succ])
    refine takeH (i := 22) (v := ?_) rfl (by kernel_rfl) (by kernel_rfl) (by kernel_rfl) (fun _ _ _ h => h) (Or.inl ⟨by rfl, ?_⟩) (by assumption) ?_
    rotate_left
    · (intro w hSw; (try dsimp only at hSw); obtain ⟨c0, c1, c2, c3, _⟩ := (HX.out.below hSw).cells; go_simp; first | done | with_reducible rfl)
    (try simp only [Act.put, List.setIfInBounds_toArray, List.set_cons_zero, List.set_cons_succ])
    refine takeH (i := 23) (v := ?_) rfl (by kernel_rfl) (by kernel_rfl) (by kernel_rfl) (fun _ _ _ h => h) (Or.inl ⟨by rfl, ?_⟩) (by assumption) ?_
    rotate_left
    · (intro w hSw; (try dsimp only at hSw); obtain ⟨d0, d1, d2, d3, _⟩ := (HY.out.below hSw).cells; go_simp; first | done | with_reducible rfl)
    (try simp only [Act.put, List.setIfInBounds_toArray, List.set_cons_zero, List.set_cons_succ])
    refine wpAnyH_ready (rs := [24]) (by kernel_rfl) (by simp) ?_
    refine stepH rfl (fun K hK => ?_) AllReadyH.nil
    go_simp
    refine (HBab.out wf hf).mono ?_
    rintro e wg ⟨rfl, hq⟩
    have hg := bnext hf hq
    go_wp2_with fail
    refine hK.out _ _ (hg) (fun _ => ?_)
    clear hK K
    (try simp only [Act.put, List.setIfInBounds_toArray, List.set_cons_zero, List.set_cons_succ])
    refine takeH (i := 25) (v := ?_) rfl (by kernel_rfl) (by kernel_rfl) (by kernel_rfl) (fun _ _ _ h => h) (Or.inl ⟨by rfl, ?_⟩) (by assumption) ?_
    rotate_left
    · (intro w hSw; (try dsimp only at hSw); go_simp; first | done | with_reducible rfl)
    (try simp only [Act.put, List.setIfInBounds_toArray, List.set_cons_zero, List.set_cons_succ])
    refine takeH (i := 26) (v := undef) rfl (by kernel_rfl) (by kernel_rfl) (by kernel_rfl) (fun _ _ _ h => h) (Or.inr ⟨by rfl, by rfl⟩) (by assumption) ?_
    (try simp only [Act.put, List.setIfInBounds_toArray, List.set_cons_zero, List.set_cons_succ])
    refine takeH (i := 27) (v := undef) rfl (by kernel_rfl) (by kernel_rfl) (by kernel_rfl) (fun _ _ _ h => h) (Or.inr ⟨by rfl, by rfl⟩) (by assumption) ?_
    (try simp only [Act.put, List.setIfInBounds_toArray, List.set_cons_zero, List.set_cons_succ])
    refine takeH (i := 28) (v := undef) rfl (by kernel_rfl) (by kernel_rfl) (by kernel_rfl) (fun _ _ _ h => h) (Or.inr ⟨by rfl, by rfl⟩) (by assumption) ?_
    (try simp only [Act.put, List.setIfInBounds_toArray, List.set_cons_zero, List.set_cons_succ])
    refine takeH (i := 29) (v := ?_) rfl (by kernel_rfl) (by kernel_rfl) (by kernel_rfl) (fun _ _ _ h => h) (Or.inl ⟨by rfl, ?_⟩) (by assumption) ?_
    rotate_left
    · (intro w hSw; (try dsimp only at hSw); go_simp; first | done | with_reducible rfl)
    (try simp only [Act.put, List.setIfInBounds_toArray, List.set_cons_zero, List.set_cons_succ])
    refine takeH (i := 30) (v := ?_) rfl (by kernel_rfl) (by kernel_rfl) (by kernel_rfl) (fun _ _ _ h => h) (Or.inl ⟨by rfl, ?_⟩) (by assumption) ?_
    rotate_left
    · (intro w hSw; (try dsimp only at hSw); go_simp; first | done | with_reducible rfl)
    (try simp only [Act.put, List.setIfInBounds_toArray, List.set_cons_zero, List.set_cons_succ])
    refine wpAnyH_done (by kernel_rfl) ?_ _
    have HB1 := Lib.hid hg
    clear ha hb hc hd he hf hg
    obtain ⟨c0, c1, c2, c3, _⟩ := (HX.out.below HB1.out).cells
    obtain ⟨d0, d1, d2, d3, _⟩ := (HY.out.below HB1.out).cells
    obtain ⟨e0, e1, e2, e3, _⟩ := (HZ.out.below HB1.out).cells
    go_wp2_with fail
    refine (HRC.out _ HB1.out).mono ?_
    rintro e w57 ⟨rfl, hb57⟩
    have HB57 := Lib.hid (bnext HB1.out hb57)
    clear c0 c1 c2 c3 d0 d1 d2 d3 e0 e1 e2 e3 hb57
    obtain ⟨c0, c1, c2, c3, _⟩ := (HX.out.below HB57.out).cells
    obtain ⟨d0, d1, d2, d3, _⟩ := (HY.out.below HB57.out).cells
    obtain ⟨e0, e1, e2, e3, _⟩ := (HZ.out.below HB57.out).cells
    by_cases k0 : C1 = 0
    · have k0' : (C1 != 0) = false := by simp [k0]
      clear k0
      go_wp2_with fail
      refine (HBab.out _ HB57.out).mono ?_
      rintro e w58 ⟨rfl, hb58⟩
      have HB58 := Lib.hid (bnext HB57.out hb58)
      clear c0 c1 c2 c3 d0 d1 d2 d3 e0 e1 e2 e3 hb58
      obtain ⟨c0, c1, c2, c3, _⟩ := (HX.out.below HB58.out).cells
      obtain ⟨d0, d1, d2, d3, _⟩ := (HY.out.below HB58.out).cells
      obtain ⟨e0, e1, e2, e3, _⟩ := (HZ.out.below HB58.out).cells
      go_wp2_with fail
      refine (HC.out _ HB58.out).mono ?_
      rintro e w59 ⟨rfl, hb59⟩
      have HB59 := Lib.hid (bnext HB58.out hb59)
      clear c0 c1 c2 c3 d0 d1 d2 d3 e0 e1 e2 e3 hb59
      obtain ⟨c0, c1, c2, c3, _⟩ := (HX.out.below HB59.out).cells
      obtain ⟨d0, d1, d2, d3, _⟩ := (HY.out.below HB59.out).cells
      obtain ⟨e0, e1, e2, e3, _⟩ := (HZ.out.below HB59.out).cells
      by_cases k1 : (0 : Int) ≤ C1
      · go_wp2_with fail
        refine (HA.out _ (HT1.out.below HB59.out)).mono ?_
        rintro e w61 ⟨rfl, hb61⟩
        have HE61 := Lib.hid (bnext HB.out (bnext HB59.out hb61))
        go_wp2
        go_ret
        exact ⟨rfl, HE61.out⟩
      go_wp2_with fail
      refine (HCbc.out _ HB59.out).mono ?_
      rintro e w62 ⟨rfl, hb62⟩
      have HB62 := Lib.hid (bnext HB59.out hb62)
      clear c0 c1 c2 c3 d0 d1 d2 d3 e0 e1 e2 e3 hb62
      obtain ⟨c0, c1, c2, c3, _⟩ := (HX.out.below HB62.out).cells
      obtain ⟨d0, d1, d2, d3, _⟩ := (HY.out.below HB62.out).cells
      obtain ⟨e0, e1, e2, e3, _⟩ := (HZ.out.below HB62.out).cells
      by_cases k2 : (0 : Int) ≤ C2
      · go_wp2_with fail
        refine (HA.out _ (HT1.out.below HB62.out)).mono ?_
        rintro e w63 ⟨rfl, hb63⟩
        have HE63 := Lib.hid (bnext HB.out (bnext HB62.out hb63))
        go_wp2
        go_ret
        exact ⟨rfl, HE63.out⟩
      have k3 : C3 < 0 := HCT.out (by omega) (by omega)
      go_wp2_with fail
      refine (HCac.out _ HB62.out).mono ?_
      rintro e w64 ⟨rfl, hb64⟩
      have HB64 := Lib.hid (bnext HB62.out hb64)
      clear c0 c1 c2 c3 d0 d1 d2 d3 e0 e1 e2 e3 hb64
      obtain ⟨c0, c1, c2, c3, _⟩ := (HX.out.below HB64.out).cells
      obtain ⟨d0, d1, d2, d3, _⟩ := (HY.out.below HB64.out).cells
      obtain ⟨e0, e1, e2, e3, _⟩ := (HZ.out.below HB64.out).cells
      go_wp2_with fail
      refine (HA.out _ (HT1.out.below HB64.out)).mono ?_
      rintro e w65 ⟨rfl, hb65⟩
      have HE65 := Lib.hid (bnext HB.out (bnext HB64.out hb65))
      go_wp2
      go_ret
      exact ⟨rfl, HE65.out⟩
    have k0' : (C1 != 0) = true := bne_t k0
    obtain rfl : B4 = true := HBO.out k0 (by trivial)
    clear k0
    go_wp2_with fail
    refine (HBab.out _ HB57.out).mono ?_
    rintro e w66 ⟨rfl, hb66⟩
    have HB66 := Lib.hid (bnext HB57.out hb66)
    clear c0 c1 c2 c3 d0 d1 d2 d3 e0 e1 e2 e3 hb66
    obtain ⟨c0, c1, c2, c3, _⟩ := (HX.out.below HB66.out).cells
    obtain ⟨d0, d1, d2, d3, _⟩ := (HY.out.below HB66.out).cells
    obtain ⟨e0, e1, e2, e3, _⟩ := (HZ.out.below HB66.out).cells
    go_wp2_with fail
    refine (HBba.out _ HB66.out).mono ?_
    rintro e w67 ⟨rfl, hb67⟩
    have HB67 := Lib.hid (bnext HB66.out hb67)
    clear c0 c1 c2 c3 d0 d1 d2 d3 e0 e1 e2 e3 hb67
    obtain ⟨c0, c1, c2, c3, _⟩ := (HX.out.below HB67.out).cells
    obtain ⟨d0, d1, d2, d3, _⟩ := (HY.out.below HB67.out).cells
    obtain ⟨e0, e1, e2, e3, _⟩ := (HZ.out.below HB67.out).cells
    go_wp2_with fail
    refine (HBab.out _ HB67.out).mono ?_
    rintro e w68 ⟨rfl, hb68⟩
    have HB68 := Lib.hid (bnext HB67.out hb68)
    clear c0 c1 c2 c3 d0 d1 d2 d3 e0 e1 e2 e3 hb68
    obtain ⟨c0, c1, c2, c3, _⟩ := (HX.out.below HB68.out).cells
    obtain ⟨d0, d1, d2, d3, _⟩ := (HY.out.below HB68.out).cells
    obtain ⟨e0, e1, e2, e3, _⟩ := (HZ.out.below HB68.out).cells
    go_wp2_with fail
    refine (HC.out _ HB68.out).mono ?_
    rintro e w69 ⟨rfl, hb69⟩
    have HB69 := Lib.hid (bnext HB68.out hb69)
    clear c0 c1 c2 c3 d0 d1 d2 d3 e0 e1 e2 e3 hb69
    obtain ⟨c0, c1, c2, c3, _⟩ := (HX.out.below HB69.out).cells
    obtain ⟨d0, d1, d2, d3, _⟩ := (HY.out.below HB69.out).cells
    obtain ⟨e0, e1, e2, e3, _⟩ := (HZ.out.below HB69.out).cells
    by_cases k1 : (0 : Int) ≤ C1
    · go_wp2_with fail
      refine (HA.out _ (HT1.out.below HB69.out)).mono ?_
      rintro e w71 ⟨rfl, hb71⟩
      have HE71 := Lib.hid (bnext HB.out (bnext HB69.out hb71))
      go_wp2
      go_ret
      exact ⟨rfl, HE71.out⟩
    go_wp2_with fail
    refine (HCbc.out _ HB69.out).mono ?_
    rintro e w72 ⟨rfl, hb72⟩
    have HB72 := Lib.hid (bnext HB69.out hb72)
    clear c0 c1 c2 c3 d0 d1 d2 d3 e0 e1 e2 e3 hb72
    obtain ⟨c0, c1, c2, c3, _⟩ := (HX.out.below HB72.out).cells
    obtain ⟨d0, d1, d2, d3, _⟩ := (HY.out.below HB72.out).cells
    obtain ⟨e0, e1, e2, e3, _⟩ := (HZ.out.below HB72.out).cells
    by_cases k2 : (0 : Int) ≤ C2
    · go_wp2_with fail
      refine (HA.out _ (HT1.out.below HB72.out)).mono ?_
      rintro e w73 ⟨rfl, hb73⟩
      have HE73 := Lib.hid (bnext HB.out (bnext HB72.out hb73))
      go_wp2
      go_ret
      exact ⟨rfl, HE73.out⟩
    have k3 : C3 < 0 := HCT.out (by omega) (by omega)
    go_wp2_with fail
    refine (HCac.out _ HB72.out).mono ?_
    rintro e w74 ⟨rfl, hb74⟩
    have HB74 := Lib.hid (bnext HB72.out hb74)
    clear c0 c1 c2 c3 d0 d1 d2 d3 e0 e1 e2 e3 hb74
    obtain ⟨c0, c1, c2, c3, _⟩ := (HX.out.below HB74.out).cells
    obtain ⟨d0, d1, d2, d3, _⟩ := (HY.out.below HB74.out).cells
    obtain ⟨e0, e1, e2, e3, _⟩ := (HZ.out.below HB74.out).cells
    go_wp2_with fail
    refine (HA.out _ (HT1.out.below HB74.out)).mono ?_
    rintro e w75 ⟨rfl, hb75⟩
    have HE75 := Lib.hid (bnext HB.out (bnext HB74.out hb75))
    go_wp2
    go_ret
    exact ⟨rfl, HE75.out⟩

set_option maxRecDepth 100000 in
set_option maxHeartbeats 4000000 in
theorem lUpdateDecode (H : UC) (v : Value) (xs : List Int) (w : World) (hT : Tb w) (h : Rd w v xs) :
    Calls Tryd.prog 8 #[v] w fun e w' => e = .returned (.bool true) ∧ Below w.heap.size w w' := by
  obtain ⟨a0, c0, rfl, _⟩ := h.shape
  have HA := Lib.hid (cAwake11 H)
  have HV := Lib.hid h
  have HT := Lib.hid hT
  clear h hT
  go_enter Tryd.func8, Tryd.ntmps8
  by_cases h3 : (300 : Int) < (xs.length : Int)
  · go_wp2_with fail
    refine (HA.out _ HT.out).mono ?_
    rintro e w2 ⟨rfl, hb2⟩
    have HB2 := Lib.hid hb2
    go_wp2
    go_ret
    exact ⟨rfl, HB2.out⟩
  have HD := Lib.hid (H.dec _ xs w HT.out HV.out)
  have HR := Lib.hid (fun w' (hb : Below w.heap.size w w') => rDecodeU _ xs w' (HV.out.below hb))
  generalize UM.decU xs = D at HD HR
  obtain ⟨E, N, ⟨c, q, t⟩, es⟩ := D
  dsimp only at HD HR
  go_wp2_with fail
  refine HD.out.mono ?_
  rintro e w2 ⟨s2, rfl, hr2, hb2⟩
  obtain ⟨a2, k2, rfl, _, _⟩ := hr2.shape
  have o2 := OU.fresh w2 c q t (.slice a2 es.length k2)
  have b2 := below_fresh w2 (.cells #[.int .i64 c, .int .i64 q, .int .i64 t, .slice a2 es.length k2] 30)
  obtain ⟨w3, hw3⟩ : ∃ z', w2.alloc (.cells #[.int .i64 c, .int .i64 q, .int .i64 t, .slice a2 es.length k2] 30) = z' := ⟨_, rfl⟩
  rw [hw3] at o2 b2
  have HW3 := Lib.hid hw3
  have HX3 := Lib.hid o2
  have HB3 := Lib.hid (bnext hb2 b2)
  have HR3 := Lib.hid (hr2.below b2)
  obtain ⟨p2, hp2⟩ : ∃ p, p = w2.heap.size := ⟨_, rfl⟩
  rw [← hp2] at HX3
  clear hr2 hb2 o2 b2 hw3 HD
  go_upto_region 4 with fail
  rw [HW3.out, ← hp2]
  clear HW3 hp2
  go_wp2_with fail
  refine (HR.out _ HB3.out).mono ?_
  rintro e w4 ⟨s4, rfl, hr4, hb4⟩
  obtain ⟨a4, k4, rfl, _, _⟩ := hr4.shape
  have o5 := OU.fresh w4 c q t (.slice a4 es.length k4)
  have b5 := below_fresh w4 (.cells #[.int .i64 c, .int .i64 q, .int .i64 t, .slice a4 es.length k4] 30)
  obtain ⟨w5, hw5⟩ : ∃ z', w4.alloc (.cells #[.int .i64 c, .int .i64 q, .int .i64 t, .slice a4 es.length k4] 30) = z' := ⟨_, rfl⟩
  rw [hw5] at o5 b5
  have HW5 := Lib.hid hw5
  have HY5 := Lib.hid o5
  have HX5 := Lib.hid ((HX3.out.below hb4).below b5)
  have HB5 := Lib.hid (bnext (bnext HB3.out hb4) b5)
  have HR5 := Lib.hid ((HR3.out.below hb4).below b5)
  have HS5 := Lib.hid (hr4.below b5)
  obtain ⟨p5, hp5⟩ : ∃ p, p = w4.heap.size := ⟨_, rfl⟩
  rw [← hp5] at HY5
  clear hr4 hb4 o5 b5 hw5 HX3 HB3 HR3 HR
  obtain ⟨c0, c1, c2, c3, _⟩ := HX5.out.cells
  obtain ⟨d0, d1, d2, d3, _⟩ := HY5.out.cells
  have HE := Lib.hid (rEqU c q t _ es c q t _ es w5 HR5.out HS5.out)
  rw [UM.eqU_self] at HE
  go_upto_region 5 with fail
  rw [HW5.out, ← hp5]
  clear HW5 hp5
  go_wp2_with fail
  refine HE.out.mono ?_
  rintro e w6 ⟨rfl, hb6⟩
  have HB6 := Lib.hid (bnext HB5.out hb6)
  go_wp2_with fail
  refine (HA.out _ (HT.out.below HB6.out)).mono ?_
  rintro e w7 ⟨rfl, hb7⟩
  have HB7 := Lib.hid (bnext HB6.out hb7)
  go_wp2
  go_ret
  exact ⟨rfl, HB7.out⟩

end Go.Proofs.YtcalnapdpnnljaaDoor
