/-
  The call of the law AcceptorAccept: it returns true. Conditions: what comes in reads; the contracts of package acceptor hold.
-/
import Derived.Deep.RegionHeld3
import Derived.Test.YtnkeaphfheminaaACon
import Derived.Test.YtnkeaphfheminaaReg
namespace Go.Proofs.Ytnkeaphfheminaa
open Go.RowKit
open VM (Ent)

set_option maxRecDepth 100000 in
set_option maxHeartbeats 4000000 in
theorem lAcceptorAccept (ct : AT) (a b : Value) (xs ys : List Ent) (w : World) (ha : VX.RdV w a xs) (hb : VX.RdV w b ys) :
    Calls Try.prog 3 #[acv a, b] w fun e w' => e = .returned (.bool true) ∧ Below w.heap.size w w' := by
  obtain ⟨aa, ac, rfl, _, _⟩ := ha.shape
  obtain ⟨ba, bc, rfl, _, _⟩ := hb.shape
  obtain ⟨w0, hw0, hA, hb0⟩ := oneA w (.slice aa xs.length ac)
  have hfr := below_fresh w0 (.cells #[.slice aa xs.length ac, .slice ba ys.length bc] 23)
  have hg := heap_alloc_new w0 (.cells #[.slice aa xs.length ac, .slice ba ys.length bc] 23)
  obtain ⟨w1, hw1⟩ : ∃ w1, w0.alloc (.cells #[.slice aa xs.length ac, .slice ba ys.length bc] 23) = w1 := ⟨_, rfl⟩
  rw [hw1] at hfr hg
  have HF := Lib.hid ((ha.below hb0).below hfr)
  have HT := Lib.hid ((hb.below hb0).below hfr)
  have HV := Lib.hid (kValid _ _ w1 (rdVs_two hg HF.out HT.out))
  have HX := Lib.hid (hA.below hfr)
  have HB := Lib.hid (bnext hb0 hfr)
  have HW := Lib.hid hw0
  have HW1 := Lib.hid hw1
  have c0 := hA.cell
  clear ha hb hw0 hA hb0 hfr hg hw1
  go_enter Try.func3, Try.ntmps3
  go_upto_region 1 with fail
  rw [HW.out]
  go_wp2_with fail
  rw [HW1.out]
  refine HV.out.mono ?_
  rintro e w2 ⟨⟨R, rfl, hR⟩, hb2⟩
  replace HF := Lib.hid (HF.out.below hb2)
  replace HT := Lib.hid (HT.out.below hb2)
  replace HX := Lib.hid (HX.out.below hb2)
  replace HB := Lib.hid (bnext HB.out hb2)
  clear hb2 HV HW HW1 c0
  cases R
  · have HQ := Lib.hid (cAwake15 ct w2)
    clear hR
    go_wp2_with fail
    refine HQ.out.mono ?_
    rintro e w3 ⟨rfl, hb3⟩
    replace HB := Lib.hid (bnext HB.out hb3)
    clear hb3 HQ
    go_wp2
    go_ret
    exact ⟨rfl, HB.out⟩
  have hS := hR rfl
  have hx := hS.each xs (by simp)
  have hy := hS.each ys (by simp)
  clear hR hS
  have HQ := Lib.hid (ct.accept _ _ xs ys w2 HF.out HT.out hx.2 hy.2 (by omega) (by omega))
  have c0 := HX.out.cell
  go_wp2_with fail
  refine HQ.out.mono ?_
  rintro e w3 ⟨v3, rfl, hr3, hb3⟩
  obtain ⟨va, vc, rfl, _, _⟩ := hr3.shape
  clear HQ c0
  replace HF := Lib.hid (HF.out.below hb3)
  replace HT := Lib.hid (HT.out.below hb3)
  replace HX := Lib.hid (HX.out.below hb3)
  replace HB := Lib.hid (bnext HB.out hb3)
  obtain ⟨w4, hw4, hD, hb4⟩ := oneA w3 (.slice va (VM.jn xs ys).length vc)
  replace HF := Lib.hid (HF.out.below hb4)
  replace HT := Lib.hid (HT.out.below hb4)
  replace HX := Lib.hid (HX.out.below hb4)
  replace HB := Lib.hid (bnext HB.out hb4)
  have HR := Lib.hid (hr3.below hb4)
  have HD := Lib.hid hD
  have HW := Lib.hid hw4
  obtain ⟨g4, hg4⟩ : ∃ g, g = w3.heap.size := ⟨_, rfl⟩
  clear hb3 hr3 hw4 hD hb4
  go_upto_region 4 with fail
  rw [HW.out]
  rw [← hg4] at HD ⊢
  clear HW hg4
  have H1 := Lib.hid (fun w' (h : Below w4.heap.size w4 w') => VX.rJoin _ _ xs ys w' (HF.out.below h) (HT.out.below h) hy.2 (by omega) (by omega))
  rw [VM.rj_jn hx.2 hy.2] at H1
  have H2 := Lib.hid (fun u w' (h : Below w4.heap.size w4 w') (hu : VX.RdV w' u (VM.jn xs ys)) => VX.rEqual _ u (VM.jn xs ys) (VM.jn xs ys) w' (HR.out.below h) hu)
  rw [decide_eq_true rfl] at H2
  have H3 := Lib.hid (fun w' (h : Below w4.heap.size w4 w') => VX.rLessEqual _ _ xs ys w' (HF.out.below h) (HT.out.below h))
  clear hx hy
  generalize VM.le xs ys = L at H3 ⊢
  generalize VM.jn xs ys = J at H1 H2 HR HD ⊢
  clear HF HT HR
  have hel : (L == L) = true := by cases L <;> rfl
  refine wp_region_held_drew (S := fun w' => Below w4.heap.size w4 w') (by kernel_rfl) ((Below.refl _ _).drew) (fun ha => ?_)
  replace ha : Below w4.heap.size w4 w4.drew := (Below.refl _ _).drew
  generalize w4.drew = wa at ha ⊢
  refine takeH (i := 0) (v := ?_) rfl (by kernel_rfl) (by kernel_rfl) (by kernel_rfl) (fun _ _ _ h => h) (Or.inl ⟨by rfl, ?_⟩) (by assumption) ?_
  rotate_left
  · (intro w hSw; (try dsimp only at hSw); go_simp; first | done | with_reducible rfl)
  (try simp only [Act.put, List.setIfInBounds_toArray, List.set_cons_zero, List.set_cons_succ])
  refine takeH (i := 2) (v := ?_) rfl (by kernel_rfl) (by kernel_rfl) (by kernel_rfl) (fun _ _ _ h => h) (Or.inl ⟨by rfl, ?_⟩) (by assumption) ?_
  rotate_left
  · (intro w hSw; (try dsimp only at hSw); go_simp; first | done | with_reducible rfl)
  (try simp only [Act.put, List.setIfInBounds_toArray, List.set_cons_zero, List.set_cons_succ])
  refine takeH (i := 4) (v := ?_) rfl (by kernel_rfl) (by kernel_rfl) (by kernel_rfl) (fun _ _ _ h => h) (Or.inl ⟨by rfl, ?_⟩) (by assumption) ?_
  rotate_left
  · (intro w hSw; (try dsimp only at hSw); go_simp; first | done | with_reducible rfl)
  (try simp only [Act.put, List.setIfInBounds_toArray, List.set_cons_zero, List.set_cons_succ])
  refine takeH (i := 1) (v := ?_) rfl (by kernel_rfl) (by kernel_rfl) (by kernel_rfl) (fun _ _ _ h => h) (Or.inl ⟨by rfl, ?_⟩) (by assumption) ?_
  rotate_left
  · (intro w hSw; (try dsimp only at hSw); have hc0 := (HD.out.below hSw).cell; go_simp; first | done | with_reducible rfl)
  (try simp only [Act.put, List.setIfInBounds_toArray, List.set_cons_zero, List.set_cons_succ])
  refine takeH (i := 3) (v := ?_) rfl (by kernel_rfl) (by kernel_rfl) (by kernel_rfl) (fun _ _ _ h => h) (Or.inl ⟨by rfl, ?_⟩) (by assumption) ?_
  rotate_left
  · (intro w hSw; (try dsimp only at hSw); have hc0 := (HX.out.below hSw).cell; go_simp; first | done | with_reducible rfl)
  (try simp only [Act.put, List.setIfInBounds_toArray, List.set_cons_zero, List.set_cons_succ])
  refine wpAnyH_ready (rs := [5]) (by kernel_rfl) (by simp) ?_
  refine stepH rfl (fun K hK => ?_) AllReadyH.nil
  go_simp
  refine (H1.out wa ha).mono ?_
  rintro e wr1 ⟨vj, rfl, hj, hq⟩
  replace hj := hj.rd
  have hr1 := bnext ha hq
  go_wp2_with fail
  refine hK.out _ _ (hr1) (fun _ => ?_)
  clear hK K
  (try simp only [Act.put, List.setIfInBounds_toArray, List.set_cons_zero, List.set_cons_succ])
  refine wpAnyH_ready (rs := [6]) (by kernel_rfl) (by simp) ?_
  refine stepH rfl (fun K hK => ?_) AllReadyH.nil
  go_simp
  refine (H2.out vj wr1 hr1 hj).mono ?_
  rintro e wr2 ⟨rfl, hq⟩
  have hr2 := bnext hr1 hq
  go_wp2_with fail
  refine hK.out _ _ (hr2) (fun _ => ?_)
  clear hK K
  (try simp only [Act.put, List.setIfInBounds_toArray, List.set_cons_zero, List.set_cons_succ])
  refine takeH (i := 7) (v := ?_) rfl (by kernel_rfl) (by kernel_rfl) (by kernel_rfl) (fun _ _ _ h => h) (Or.inl ⟨by rfl, ?_⟩) (by assumption) ?_
  rotate_left
  · (intro w hSw; (try dsimp only at hSw); go_simp; first | done | with_reducible rfl)
  (try simp only [Act.put, List.setIfInBounds_toArray, List.set_cons_zero, List.set_cons_succ])
  refine takeH (i := 8) (v := ?_) rfl (by kernel_rfl) (by kernel_rfl) (by kernel_rfl) (fun _ _ _ h => h) (Or.inl ⟨by rfl, ?_⟩) (by assumption) ?_
  rotate_left
  · (intro w hSw; (try dsimp only at hSw); go_simp; first | done | with_reducible rfl)
  (try simp only [Act.put, List.setIfInBounds_toArray, List.set_cons_zero, List.set_cons_succ])
  refine takeH (i := 9) (v := ?_) rfl (by kernel_rfl) (by kernel_rfl) (by kernel_rfl) (fun _ _ _ h => h) (Or.inl ⟨by rfl, ?_⟩) (by assumption) ?_
  rotate_left
  · (intro w hSw; (try dsimp only at hSw); go_simp; first | done | with_reducible rfl)
  (try simp only [Act.put, List.setIfInBounds_toArray, List.set_cons_zero, List.set_cons_succ])
  refine takeH (i := 10) (v := ?_) rfl (by kernel_rfl) (by kernel_rfl) (by kernel_rfl) (fun _ _ _ h => h) (Or.inl ⟨by rfl, ?_⟩) (by assumption) ?_
  rotate_left
  · (intro w hSw; (try dsimp only at hSw); have hc0 := (HX.out.below hSw).cell; go_simp; first | done | with_reducible rfl)
  (try simp only [Act.put, List.setIfInBounds_toArray, List.set_cons_zero, List.set_cons_succ])
  refine takeH (i := 11) (v := ?_) rfl (by kernel_rfl) (by kernel_rfl) (by kernel_rfl) (fun _ _ _ h => h) (Or.inl ⟨by rfl, ?_⟩) (by assumption) ?_
  rotate_left
  · (intro w hSw; (try dsimp only at hSw); go_simp; first | done | with_reducible rfl)
  (try simp only [Act.put, List.setIfInBounds_toArray, List.set_cons_zero, List.set_cons_succ])
  refine wpAnyH_ready (rs := [12]) (by kernel_rfl) (by simp) ?_
  refine stepH rfl (fun K hK => ?_) AllReadyH.nil
  go_simp
  refine (H3.out wr2 hr2).mono ?_
  rintro e wr3 ⟨rfl, hq⟩
  have hr3 := bnext hr2 hq
  go_wp2_with fail
  refine hK.out _ _ (hr3) (fun _ => ?_)
  clear hK K
  (try simp only [Act.put, List.setIfInBounds_toArray, List.set_cons_zero, List.set_cons_succ])
  refine takeH (i := 13) (v := ?_) rfl (by kernel_rfl) (by kernel_rfl) (by kernel_rfl) (fun _ _ _ h => h) (Or.inl ⟨by rfl, ?_⟩) (by assumption) ?_
  rotate_left
  · (intro w hSw; (try dsimp only at hSw); go_simp; first | done | with_reducible rfl)
  (try simp only [Act.put, List.setIfInBounds_toArray, List.set_cons_zero, List.set_cons_succ])
  refine takeH (i := 14) (v := ?_) rfl (by kernel_rfl) (by kernel_rfl) (by kernel_rfl) (fun _ _ _ h => h) (Or.inl ⟨by rfl, ?_⟩) (by assumption) ?_
  rotate_left
  · (intro w hSw; (try dsimp only at hSw); go_simp; first | done | with_reducible rfl)
  (try simp only [Act.put, List.setIfInBounds_toArray, List.set_cons_zero, List.set_cons_succ])
  refine takeH (i := 15) (v := ?_) rfl (by kernel_rfl) (by kernel_rfl) (by kernel_rfl) (fun _ _ _ h => h) (Or.inl ⟨by rfl, ?_⟩) (by assumption) ?_
  rotate_left
  · (intro w hSw; (try dsimp only at hSw); go_simp; first | done | with_reducible rfl)
  (try simp only [Act.put, List.setIfInBounds_toArray, List.set_cons_zero, List.set_cons_succ])
  refine wpAnyH_ready (rs := [16]) (by kernel_rfl) (by simp) ?_
  refine stepH rfl (fun K hK => ?_) AllReadyH.nil
  go_simp
  refine (cAwake15 ct wr3).mono ?_
  rintro e wr4 ⟨rfl, hq⟩
  have hr4 := bnext hr3 hq
  go_wp2_with fail
  refine hK.out _ _ (hr4) (fun _ => ?_)
  clear hK K
  (try simp only [Act.put, List.setIfInBounds_toArray, List.set_cons_zero, List.set_cons_succ])
  refine takeH (i := 17) (v := ?_) rfl (by kernel_rfl) (by kernel_rfl) (by kernel_rfl) (fun _ _ _ h => h) (Or.inl ⟨by rfl, ?_⟩) (by assumption) ?_
  rotate_left
  · (intro w hSw; (try dsimp only at hSw); go_simp; first | done | with_reducible rfl)
  (try simp only [Act.put, List.setIfInBounds_toArray, List.set_cons_zero, List.set_cons_succ])
  refine takeH (i := 18) (v := ?_) rfl (by kernel_rfl) (by kernel_rfl) (by kernel_rfl) (fun _ _ _ h => h) (Or.inl ⟨by rfl, ?_⟩) (by assumption) ?_
  rotate_left
  · (intro w hSw; (try dsimp only at hSw); go_simp; first | done | with_reducible rfl)
  (try simp only [Act.put, List.setIfInBounds_toArray, List.set_cons_zero, List.set_cons_succ])
  refine wpAnyH_done (by kernel_rfl) ?_ _
  have HZ := Lib.hid (bnext HB.out hr4)
  go_wp2
  go_ret
  exact ⟨rfl, HZ.out⟩
end Go.Proofs.Ytnkeaphfheminaa
