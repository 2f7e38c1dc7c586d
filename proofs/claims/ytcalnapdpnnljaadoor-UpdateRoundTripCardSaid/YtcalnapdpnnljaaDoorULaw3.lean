/-
  The call of the law UpdateRoundTrip: it returns true. Conditions: what UCon's structure says of the program's calls; what came in reads as an update and as bytes.
-/
import Derived.Deep.RegionHeld3
import Derived.Test.YtcalnapdpnnljaaDoorUCon
namespace Go.Proofs.YtcalnapdpnnljaaDoor
open Go.RowKit
open UM (Ef)

set_option maxRecDepth 100000 in
set_option maxHeartbeats 4000000 in
theorem lUpdateRoundTrip (H : UC) (c q t : Int) (u : Value) (es : List Ef) (v : Value) (xs : List Int) (w : World) (hT : Tb w) (hu : RdEf w u es) (hf : ∀ e ∈ es, EfFit e) (hv : Rd w v xs) :
    Calls Tryd.prog 7 #[uv c q t u, v] w fun e w' => e = .returned (.bool true) ∧ Below w.heap.size w w' := by
  obtain ⟨a1, k1, rfl, hk1, _⟩ := hu.shape
  obtain ⟨a2, k2, rfl, _⟩ := hv.shape
  have hx := OU.fresh w c q t (.slice a1 es.length k1)
  have hb := below_fresh w (.cells #[.int .i64 c, .int .i64 q, .int .i64 t, .slice a1 es.length k1] 30)
  obtain ⟨w1, hw1⟩ : ∃ z, w.alloc (.cells #[.int .i64 c, .int .i64 q, .int .i64 t, .slice a1 es.length k1] 30) = z := ⟨_, rfl⟩
  rw [hw1] at hb hx
  have HW := Lib.hid hw1
  have HB := Lib.hid hb
  have HX := Lib.hid hx
  have HU := Lib.hid (hu.below hb)
  have HT := Lib.hid (hv.below hb)
  have HF := Lib.hid hf
  have HA := Lib.hid (cAwake11 H)
  have HTB := Lib.hid hT
  clear hT
  obtain ⟨c0, c1, c2, c3, _⟩ := hx.cells
  clear hw1 hb hx hu hv hf
  go_enter Tryd.func7, Tryd.ntmps7
  go_upto_region 1 with fail
  rw [HW.out]
  clear HW
  by_cases h3 : (300 : Int) < (xs.length : Int)
  · go_wp2_with fail
    refine (HA.out _ (by first | exact tbz HTB (by assumption) | exact tbr HTB (by assumption) (by assumption))).mono ?_
    rintro e w2 ⟨rfl, hb2⟩
    have HB2 := Lib.hid (bnext HB.out hb2)
    go_wp2
    go_ret
    exact ⟨rfl, HB2.out⟩
  have HS := Lib.hid (kShort c q t _ es w1 HU.out)
  go_wp2_with fail
  refine HS.out.mono ?_
  rintro e w2 ⟨rfl, hb2⟩
  have HX2 := Lib.hid (HX.out.below hb2)
  have HB2 := Lib.hid (bnext HB.out hb2)
  have HU2 := Lib.hid (HU.out.below hb2)
  have HT2 := Lib.hid (HT.out.below hb2)
  clear hb2 HX HB HU HT HS c0 c1 c2 c3
  obtain ⟨c0, c1, c2, c3, _⟩ := HX2.out.cells
  by_cases hs : es.length ≤ 60
  case neg =>
    rw [decide_eq_false hs]
    go_wp2_with fail
    refine (HA.out _ (by first | exact tbz HTB (by assumption) | exact tbr HTB (by assumption) (by assumption))).mono ?_
    rintro e w3 ⟨rfl, hb3⟩
    have HB3 := Lib.hid (bnext HB2.out hb3)
    go_wp2
    go_ret
    exact ⟨rfl, HB3.out⟩
  rw [decide_eq_true hs]
  clear hs
  have HV := Lib.hid (rValU c q t _ es w2 HU2.out)
  by_cases he : UM.errU c q t es = 0
  case neg =>
    have hne : (UM.errU c q t es != 0) = true := bne_t he
    generalize UM.errU c q t es = E at HV hne he
    clear he
    go_wp2_with fail
    refine HV.out.mono ?_
    rintro e w3 ⟨rfl, hb3⟩
    have HB3 := Lib.hid (bnext HB2.out hb3)
    clear hb3 c0 c1 c2 c3
    go_wp2_with fail
    refine (HA.out _ (by first | exact tbz HTB (by assumption) | exact tbr HTB (by assumption) (by assumption))).mono ?_
    rintro e w4 ⟨rfl, hb4⟩
    have HB4 := Lib.hid (bnext HB3.out hb4)
    go_wp2
    go_ret
    exact ⟨rfl, HB4.out⟩
  have hr64 : ∀ e ∈ es, UM.in64 e := fun e h => (HF.out e h).1
  have hel := UM.encU_len he hr64
  have HAP := Lib.hid (fun w' (h : RdEf w' (.slice a1 es.length k1) es) => H.app (.slice none 0 0) [] c q t _ es w' (Rd.nil w') h he HF.out (by simp))
  have HRA := Lib.hid (fun w' (h : RdEf w' (.slice a1 es.length k1) es) => rAppendU (.slice none 0 0) [] c q t _ es w' (Rd.nil w') h he hr64 (by simp))
  have HDE := Lib.hid (fun v w' (ht : Tb w') (h : Rd w' v (UM.encU c q t es ++ xs)) => (show Calls Tryd.prog 25 #[v] w' fun e w'' => ∃ sv, e = .returned (.tuple #[uv c q t sv, .int .i64 ((UM.encU c q t es).length : Int), .int .i64 0]) ∧ RdEf w'' sv es ∧ Below w'.heap.size w' w'' from by
    have := H.dec v _ w' ht h
    rw [UM.decU_enc he hr64 xs] at this
    exact this))
  rw [he] at HV
  have HEQ := Lib.hid (fun w' s4 (h1 : RdEf w' (.slice a1 es.length k1) es) (h2 : RdEf w' s4 es) => (show Calls Tryd.prog 23 #[uv c q t (.slice a1 es.length k1), uv c q t s4] w' fun e w'' => e = .returned (.bool true) ∧ Below w'.heap.size w' w'' from by
    have := rEqU c q t _ es c q t s4 es w' h1 h2
    rw [UM.eqU_self] at this
    exact this))
  clear hr64 he
  generalize UM.encU c q t es = E at hel HAP HRA HDE
  simp only [List.nil_append] at HAP HRA
  have HEL := Lib.hid hel
  have HXL := Lib.hid (show xs.length ≤ 300 by omega)
  clear hel
  go_wp2_with fail
  refine HV.out.mono ?_
  rintro e w3 ⟨rfl, hb3⟩
  have HX3 := Lib.hid (HX2.out.below hb3)
  have HB3 := Lib.hid (bnext HB2.out hb3)
  have HU3 := Lib.hid (HU2.out.below hb3)
  have HT3 := Lib.hid (HT2.out.below hb3)
  clear hb3 HX2 HB2 HU2 HT2 HV c0 c1 c2 c3 h3
  obtain ⟨c0, c1, c2, c3, _⟩ := HX3.out.cells
  go_wp2_with fail
  refine (HAP.out _ HU3.out).mono ?_
  rintro e w4 ⟨v4, rfl, ho4, hb4⟩
  obtain ⟨a4, k4, rfl, _⟩ := ho4.shape
  have HX4 := Lib.hid (HX3.out.below hb4)
  have HB4 := Lib.hid (bnext HB3.out hb4)
  have HU4 := Lib.hid (HU3.out.below hb4)
  have HT4 := Lib.hid (HT3.out.below hb4)
  have HR4 := Lib.hid ho4
  have hfe := below_empty w4
  have HR4e := Lib.hid (ho4.below hfe)
  have HT4e := Lib.hid (HT4.out.below hfe)
  have HFE := Lib.hid hfe
  have HOE := Lib.hid (own_empty w4)
  have HSZ := Lib.hid hfe.size
  clear hb4 ho4 hfe HX3 HB3 HU3 HT3 HAP c0 c1 c2 c3
  go_wp2_with (at_builtin; refine wp_appS rfl _ _ rfl rfl HOE.out rfl HR4e.out (by simp) (by have := HEL.out; omega) HSZ.out ?_)
  intro v5 w5 ho5 hb5
  have HB5 := Lib.hid (HFE.out.trans hb5)
  have HO5 := Lib.hid ho5
  have HT5 := Lib.hid (HT4.out.below HB5.out)
  have HSZ5 := Lib.hid HB5.out.size
  clear ho5 hb5 HOE HR4e HSZ HFE HT4 HT4e
  go_wp2_with (at_builtin; refine wp_appS rfl _ _ rfl rfl HO5.out rfl HT5.out (by have := HEL.out; omega) (by have := HXL.out; omega) HSZ5.out ?_)
  intro v6 w6 ho6 hb6
  have HB6 := Lib.hid (HB5.out.trans hb6)
  have HR6 := Lib.hid ho6.rd
  clear ho6 hb6 HO5 HT5 HSZ5 HB5
  go_wp2_with fail
  refine (HDE.out _ _ (by first | exact tbz HTB (by assumption) | exact tbr HTB (by assumption) (by assumption)) HR6.out).mono ?_
  rintro e w7 ⟨s7, rfl, hr7, hb7⟩
  obtain ⟨a7, k7, rfl, _, _⟩ := hr7.shape
  have o8 := OU.fresh w7 c q t (.slice a7 es.length k7)
  have b8 := below_fresh w7 (.cells #[.int .i64 c, .int .i64 q, .int .i64 t, .slice a7 es.length k7] 30)
  have hb8 := (HB6.out.trans (hb7.mono HB6.out.size)).trans (b8.mono (Nat.le_trans HB6.out.size hb7.size))
  have hs8 := hr7.below b8
  obtain ⟨w8, hw8⟩ : ∃ z', w7.alloc (.cells #[.int .i64 c, .int .i64 q, .int .i64 t, .slice a7 es.length k7] 30) = z' := ⟨_, rfl⟩
  rw [hw8] at o8 b8 hb8 hs8
  obtain ⟨p8, hp8⟩ : ∃ p, p = w7.heap.size := ⟨_, rfl⟩
  rw [← hp8] at o8
  have HW8 := Lib.hid hw8
  have HX8 := Lib.hid (HX4.out.below hb8)
  have HU8 := Lib.hid (HU4.out.below hb8)
  have HR8 := Lib.hid (HR4.out.below hb8)
  have HB8 := Lib.hid (bnext HB4.out hb8)
  have HY8 := Lib.hid o8
  have HS8 := Lib.hid hs8
  clear hr7 hb7 o8 b8 hb8 hs8 hw8 HX4 HU4 HR4 HB4 HB6 HR6 HDE HEL HXL
  go_upto_region 5 with fail
  rw [HW8.out, ← hp8]
  clear HW8 hp8
  refine wp_region_held_drew (S := fun w' => Below w8.heap.size w8 w') (by kernel_rfl) ((Below.refl _ _).drew) (fun ha => ?_)
  replace ha : Below w8.heap.size w8 w8.drew := (Below.refl _ _).drew
  generalize w8.drew = wa at ha ⊢
  refine takeH (i := 0) (v := ?_) rfl (by kernel_rfl) (by kernel_rfl) (by kernel_rfl) (fun _ _ _ h => h) (Or.inl ⟨by rfl, ?_⟩) (by assumption) ?_
  rotate_left
  · (intro w hSw; (try dsimp only at hSw); go_simp; first | done | with_reducible rfl)
  (try simp only [Act.put, List.setIfInBounds_toArray, List.set_cons_zero, List.set_cons_succ])
  refine takeH (i := 1) (v := ?_) rfl (by kernel_rfl) (by kernel_rfl) (by kernel_rfl) (fun _ _ _ h => h) (Or.inl ⟨by rfl, ?_⟩) (by assumption) ?_
  rotate_left
  · (intro w hSw; (try dsimp only at hSw); have hst := Rd.str (HR8.out.below hSw); go_simp; first | done | with_reducible rfl)
  (try simp only [Act.put, List.setIfInBounds_toArray, List.set_cons_zero, List.set_cons_succ])
  refine takeH (i := 2) (v := ?_) rfl (by kernel_rfl) (by kernel_rfl) (by kernel_rfl) (fun _ _ _ h => h) (Or.inl ⟨by rfl, ?_⟩) (by assumption) ?_
  rotate_left
  · (intro w hSw; (try dsimp only at hSw); obtain ⟨c0, c1, c2, c3, _⟩ := (HX8.out.below hSw).cells; go_simp; first | done | with_reducible rfl)
  (try simp only [Act.put, List.setIfInBounds_toArray, List.set_cons_zero, List.set_cons_succ])
  refine wpAnyH_ready (rs := [3]) (by kernel_rfl) (by simp) ?_
  refine stepH rfl (fun K hK => ?_) AllReadyH.nil
  go_simp
  refine (HRA.out wa (HU8.out.below ha)).mono ?_
  rintro e wb ⟨vb, rfl, hrb, hq⟩
  obtain ⟨ab, cb, rfl, _⟩ := hrb.shape
  have hb := bnext ha hq
  go_wp2_with fail
  refine hK.out _ _ (hb) (fun _ => ?_)
  clear hK K
  (try simp only [Act.put, List.setIfInBounds_toArray, List.set_cons_zero, List.set_cons_succ])
  refine wpAnyH_ready (rs := [4]) (by kernel_rfl) (by simp) ?_
  refine stepH rfl (fun K hK => ?_) AllReadyH.nil
  have hst := Rd.str hrb
  go_simp
  refine hK.out _ _ (hb) (fun _ => ?_)
  clear hK K
  (try simp only [Act.put, List.setIfInBounds_toArray, List.set_cons_zero, List.set_cons_succ])
  refine takeH (i := 5) (v := ?_) rfl (by kernel_rfl) (by kernel_rfl) (by kernel_rfl) (fun _ _ _ h => h) (Or.inl ⟨by rfl, ?_⟩) (by assumption) ?_
  rotate_left
  · (intro w hSw; (try dsimp only at hSw); go_simp; first | done | with_reducible rfl)
  (try simp only [Act.put, List.setIfInBounds_toArray, List.set_cons_zero, List.set_cons_succ])
  refine takeH (i := 6) (v := ?_) rfl (by kernel_rfl) (by kernel_rfl) (by kernel_rfl) (fun _ _ _ h => h) (Or.inl ⟨by rfl, ?_⟩) (by assumption) ?_
  rotate_left
  · (intro w hSw; (try dsimp only at hSw); go_simp; first | done | with_reducible rfl)
  (try simp only [Act.put, List.setIfInBounds_toArray, List.set_cons_zero, List.set_cons_succ])
  refine takeH (i := 7) (v := ?_) rfl (by kernel_rfl) (by kernel_rfl) (by kernel_rfl) (fun _ _ _ h => h) (Or.inl ⟨by rfl, ?_⟩) (by assumption) ?_
  rotate_left
  · (intro w hSw; (try dsimp only at hSw); go_simp; first | done | with_reducible rfl)
  (try simp only [Act.put, List.setIfInBounds_toArray, List.set_cons_zero, List.set_cons_succ])
  refine takeH (i := 8) (v := ?_) rfl (by kernel_rfl) (by kernel_rfl) (by kernel_rfl) (fun _ _ _ h => h) (Or.inl ⟨by rfl, ?_⟩) (by assumption) ?_
  rotate_left
  · (intro w hSw; (try dsimp only at hSw); go_simp; first | done | with_reducible rfl)
  (try simp only [Act.put, List.setIfInBounds_toArray, List.set_cons_zero, List.set_cons_succ])
  refine takeH (i := 9) (v := ?_) rfl (by kernel_rfl) (by kernel_rfl) (by kernel_rfl) (fun _ _ _ h => h) (Or.inl ⟨by rfl, ?_⟩) (by assumption) ?_
  rotate_left
  · (intro w hSw; (try dsimp only at hSw); go_simp; first | done | with_reducible rfl)
  (try simp only [Act.put, List.setIfInBounds_toArray, List.set_cons_zero, List.set_cons_succ])
  refine takeH (i := 10) (v := ?_) rfl (by kernel_rfl) (by kernel_rfl) (by kernel_rfl) (fun _ _ _ h => h) (Or.inl ⟨by rfl, ?_⟩) (by assumption) ?_
  rotate_left
  · (intro w hSw; (try dsimp only at hSw); go_simp; first | done | with_reducible rfl)
  (try simp only [Act.put, List.setIfInBounds_toArray, List.set_cons_zero, List.set_cons_succ])
  refine takeH (i := 11) (v := ?_) rfl (by kernel_rfl) (by kernel_rfl) (by kernel_rfl) (fun _ _ _ h => h) (Or.inl ⟨by rfl, ?_⟩) (by assumption) ?_
  rotate_left
  · (intro w hSw; (try dsimp only at hSw); go_simp; first | done | with_reducible rfl)
  (try simp only [Act.put, List.setIfInBounds_toArray, List.set_cons_zero, List.set_cons_succ])
  refine takeH (i := 12) (v := ?_) rfl (by kernel_rfl) (by kernel_rfl) (by kernel_rfl) (fun _ _ _ h => h) (Or.inl ⟨by rfl, ?_⟩) (by assumption) ?_
  rotate_left
  · (intro w hSw; (try dsimp only at hSw); go_simp; first | done | with_reducible rfl)
  (try simp only [Act.put, List.setIfInBounds_toArray, List.set_cons_zero, List.set_cons_succ])
  refine takeH (i := 13) (v := ?_) rfl (by kernel_rfl) (by kernel_rfl) (by kernel_rfl) (fun _ _ _ h => h) (Or.inl ⟨by rfl, ?_⟩) (by assumption) ?_
  rotate_left
  · (intro w hSw; (try dsimp only at hSw); go_simp; first | done | with_reducible rfl)
  (try simp only [Act.put, List.setIfInBounds_toArray, List.set_cons_zero, List.set_cons_succ])
  refine takeH (i := 14) (v := ?_) rfl (by kernel_rfl) (by kernel_rfl) (by kernel_rfl) (fun _ _ _ h => h) (Or.inl ⟨by rfl, ?_⟩) (by assumption) ?_
  rotate_left
  · (intro w hSw; (try dsimp only at hSw); go_simp; first | done | with_reducible rfl)
  (try simp only [Act.put, List.setIfInBounds_toArray, List.set_cons_zero, List.set_cons_succ])
  refine takeH (i := 15) (v := ?_) rfl (by kernel_rfl) (by kernel_rfl) (by kernel_rfl) (fun _ _ _ h => h) (Or.inl ⟨by rfl, ?_⟩) (by assumption) ?_
  rotate_left
  · (intro w hSw; (try dsimp only at hSw); go_simp; first | done | with_reducible rfl)
  (try simp only [Act.put, List.setIfInBounds_toArray, List.set_cons_zero, List.set_cons_succ])
  refine takeH (i := 16) (v := ?_) rfl (by kernel_rfl) (by kernel_rfl) (by kernel_rfl) (fun _ _ _ h => h) (Or.inl ⟨by rfl, ?_⟩) (by assumption) ?_
  rotate_left
  · (intro w hSw; (try dsimp only at hSw); go_simp; first | done | with_reducible rfl)
  (try simp only [Act.put, List.setIfInBounds_toArray, List.set_cons_zero, List.set_cons_succ])
  refine takeH (i := 17) (v := ?_) rfl (by kernel_rfl) (by kernel_rfl) (by kernel_rfl) (fun _ _ _ h => h) (Or.inl ⟨by rfl, ?_⟩) (by assumption) ?_
  rotate_left
  · (intro w hSw; (try dsimp only at hSw); obtain ⟨c0, c1, c2, c3, _⟩ := (HX8.out.below hSw).cells; go_simp; first | done | with_reducible rfl)
  (try simp only [Act.put, List.setIfInBounds_toArray, List.set_cons_zero, List.set_cons_succ])
  refine takeH (i := 18) (v := ?_) rfl (by kernel_rfl) (by kernel_rfl) (by kernel_rfl) (fun _ _ _ h => h) (Or.inl ⟨by rfl, ?_⟩) (by assumption) ?_
  rotate_left
  · (intro w hSw; (try dsimp only at hSw); obtain ⟨c0, c1, c2, c3, _⟩ := (HY8.out.below hSw).cells; go_simp; first | done | with_reducible rfl)
  (try simp only [Act.put, List.setIfInBounds_toArray, List.set_cons_zero, List.set_cons_succ])
  refine wpAnyH_ready (rs := [19]) (by kernel_rfl) (by simp) ?_
  refine stepH rfl (fun K hK => ?_) AllReadyH.nil
  go_simp
  refine (HEQ.out wb _ (HU8.out.below hb) (HS8.out.below hb)).mono ?_
  rintro e wc ⟨rfl, hq⟩
  have hc := bnext hb hq
  go_wp2_with fail
  refine hK.out _ _ (hc) (fun _ => ?_)
  clear hK K
  (try simp only [Act.put, List.setIfInBounds_toArray, List.set_cons_zero, List.set_cons_succ])
  refine takeH (i := 20) (v := ?_) rfl (by kernel_rfl) (by kernel_rfl) (by kernel_rfl) (fun _ _ _ h => h) (Or.inl ⟨by rfl, ?_⟩) (by assumption) ?_
  rotate_left
  · (intro w hSw; (try dsimp only at hSw); go_simp; first | done | with_reducible rfl)
  (try simp only [Act.put, List.setIfInBounds_toArray, List.set_cons_zero, List.set_cons_succ])
  refine takeH (i := 21) (v := ?_) rfl (by kernel_rfl) (by kernel_rfl) (by kernel_rfl) (fun _ _ _ h => h) (Or.inl ⟨by rfl, ?_⟩) (by assumption) ?_
  rotate_left
  · (intro w hSw; (try dsimp only at hSw); go_simp; first | done | with_reducible rfl)
  (try simp only [Act.put, List.setIfInBounds_toArray, List.set_cons_zero, List.set_cons_succ])
  refine wpAnyH_ready (rs := [22]) (by kernel_rfl) (by simp) ?_
  refine stepH rfl (fun K hK => ?_) AllReadyH.nil
  go_simp
  refine (HA.out wc (by first | exact tbz HTB (by assumption) | exact tbr HTB (by assumption) (by assumption))).mono ?_
  rintro e wd ⟨rfl, hq⟩
  have hd := bnext hc hq
  go_wp2_with fail
  refine hK.out _ _ (hd) (fun _ => ?_)
  clear hK K
  (try simp only [Act.put, List.setIfInBounds_toArray, List.set_cons_zero, List.set_cons_succ])
  refine takeH (i := 23) (v := ?_) rfl (by kernel_rfl) (by kernel_rfl) (by kernel_rfl) (fun _ _ _ h => h) (Or.inl ⟨by rfl, ?_⟩) (by assumption) ?_
  rotate_left
  · (intro w hSw; (try dsimp only at hSw); go_simp; first | done | with_reducible rfl)
  (try simp only [Act.put, List.setIfInBounds_toArray, List.set_cons_zero, List.set_cons_succ])
  refine takeH (i := 24) (v := ?_) rfl (by kernel_rfl) (by kernel_rfl) (by kernel_rfl) (fun _ _ _ h => h) (Or.inl ⟨by rfl, ?_⟩) (by assumption) ?_
  rotate_left
  · (intro w hSw; (try dsimp only at hSw); go_simp; first | done | with_reducible rfl)
  (try simp only [Act.put, List.setIfInBounds_toArray, List.set_cons_zero, List.set_cons_succ])
  refine wpAnyH_done (by kernel_rfl) ?_ _
  have HD := Lib.hid (bnext HB8.out hd)
  clear ha hb hc hd
  go_wp2
  go_ret
  exact ⟨rfl, HD.out⟩

end Go.Proofs.YtcalnapdpnnljaaDoor
