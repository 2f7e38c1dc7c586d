/-
  The law MemberOf: it returns true. Conditions: what came in reads.
-/
import Derived.Test.YtdipheijagjelaaMLaw1
import Derived.Test.YtdipheijagjelaaMROf
namespace Go.Proofs.Ytdipheijagjelaa
open Go.RowKit Go.Joins
open JM (Chg)
open MM (Mem Ent Sm Tri)

set_option maxRecDepth 100000 in
set_option maxHeartbeats 4000000 in
theorem lMemberOf (ad nu : Int) (u : Value) (cs : List Chg) (W : World) (h : RdC W u cs) :
    Calls Try.prog 5 #[pv ad nu u] W fun e w' => e = .returned (.bool true) ∧ Below W.heap.size W w' := by
  obtain ⟨au, cu, rfl, hcu, hlu⟩ := h.shape
  obtain ⟨w1, hw1⟩ : ∃ w1, W.alloc (.cells (pCells ad nu (.slice au cs.length cu)) 41) = w1 := ⟨_, rfl⟩
  have hB := below_fresh W (.cells (pCells ad nu (.slice au cs.length cu)) 41)
  have hP := heap_alloc_new W (.cells (pCells ad nu (.slice au cs.length cu)) 41)
  rw [hw1] at hB hP
  have HC := Lib.hid (h.below hB)
  have HAW := Lib.hid (fun w => cAwake w)
  have HP := Lib.hid hP
  have HB := Lib.hid hB
  have HW := Lib.hid hw1
  clear h hB hP hw1
  obtain ⟨⟨p0, p1, p2⟩, _⟩ := row3_at HP.out
  by_cases h60 : 60 < cs.length
  · have hq : (60 : Int) < (cs.length : Int) := by omega
    go_enter Try.func5, Try.ntmps5
    go_upto_region 1 with fail
    rw [HW.out]
    go_wp2_with fail
    refine (HAW.out w1).mono ?_
    rintro e w2 ⟨rfl, hb2⟩
    go_wp2
    go_ret
    exact ⟨rfl, bnext HB.out hb2⟩
  · have hq : ¬ (60 : Int) < (cs.length : Int) := by omega
    have HV := Lib.hid (fun w (hb : Below w1.heap.size w1 w) => rValidate ad nu (.slice au cs.length cu) cs w (HC.out.below hb))
    by_cases hE : JM.errP ad nu cs = 0
    · rw [hE] at HV
      have HO := Lib.hid (fun w (hb : Below w1.heap.size w1 w) => cOf ad nu (.slice au cs.length cu) cs w (HC.out.below hb) hE)
      have HR := Lib.hid (fun w (hb : Below w1.heap.size w1 w) => rOf ad nu (.slice au cs.length cu) cs w (HC.out.below hb) hE)
      have hok := MM.okS_ofP hE
      generalize MM.ofP ad nu cs = S at HO HR hok
      have HVS := Lib.hid (fun w' (v : Value) (h : RdS w' v S) => by
        have := cValSum v S w' h
        rw [MM.errS_iff.2 hok] at this
        exact this)
      have HEQ := Lib.hid (fun w (u1 u2 : Value) (h1 : RdS w u1 S) (h2 : RdS w u2 S) => by
        have := rEqSum u1 u2 S S w h1 h2
        rw [MM.eqS_self] at this
        exact this)
      clear hok hE
      obtain ⟨Jl, Rl, Wl, rk, rc, rf, rv, ra, rn⟩ := S
      go_enter Try.func5, Try.ntmps5
      go_upto_region 1 with fail
      rw [HW.out]
      go_wp2_with fail
      refine (HV.out w1 (Below.refl _ _)).mono ?_
      rintro e w2 ⟨rfl, hb2⟩
      have HP2 := Lib.hid (below_block HP.out hb2)
      have HB2 := Lib.hid hb2
      clear hb2 p0 p1 p2 HV
      obtain ⟨⟨p0, p1, p2⟩, _⟩ := row3_at HP2.out
      go_wp2_with fail
      refine (HO.out w2 HB2.out).mono ?_
      rintro e w5 ⟨v5, rfl, hr5, hb5⟩
      have hrs := hr5.rd
      obtain ⟨ax, lx, cx, ay, ly, cy, az, lz, cz, hv5⟩ := hrs.shape
      dsimp only at hv5
      subst hv5
      -- the summary's box
      obtain ⟨S0, hS0⟩ : ∃ o, o = Obj.cells (s9 (.slice ax lx cx) (.slice ay ly cy) (.slice az lz cz) rk rc rf rv ra rn) 34 := ⟨_, rfl⟩
      have hb6 := below_fresh w5 S0
      have hx6 := heap_alloc_new w5 S0
      obtain ⟨X, hX⟩ : ∃ X, X = w5.heap.size := ⟨_, rfl⟩
      rw [← hX] at hx6
      have HP3 := Lib.hid (below_block (below_block HP2.out hb5) hb6)
      have HB3 := Lib.hid (bnext (bnext HB2.out hb5) hb6)
      have HSR := Lib.hid (hrs.below hb6)
      generalize hw6 : w5.alloc S0 = w6 at hx6 HP3 HB3 HSR
      rw [hS0] at hx6 hw6
      have HX := Lib.hid hx6
      have HW6 := Lib.hid hw6
      have HXE := Lib.hid hX
      clear hb6 hx6 hw6 hX hS0 S0 hr5 hrs hb5 HO HP2 HB2 p0 p1 p2
      go_upto_region 4 with fail
      rw [HW6.out, ← HXE.out]
      clear HW6 HXE
      refine wp_region_held_drew (S := fun w' => Below w6.heap.size w6 w') (by kernel_rfl) ((Below.refl _ _).drew) (fun ha => ?_)
      replace ha : Below w6.heap.size w6 w6.drew := (Below.refl _ _).drew
      generalize w6.drew = wa at ha ⊢
      refine takeH (i := 0) (v := ?_) rfl (by kernel_rfl) (by kernel_rfl) (by kernel_rfl) (fun _ _ _ h => h) (Or.inl ⟨by rfl, ?_⟩) (by assumption) ?_
      rotate_left
      · (intro w hSw; (try dsimp only at hSw); obtain ⟨⟨s0, s1, s2, s3, s4, s5, s6, s7, s8⟩, _⟩ := row9_at (below_block HX.out hSw); go_simp; first | done | with_reducible rfl)
      (try simp only [Act.put, List.setIfInBounds_toArray, List.set_cons_zero, List.set_cons_succ])
      refine takeH (i := 1) (v := ?_) rfl (by kernel_rfl) (by kernel_rfl) (by kernel_rfl) (fun _ _ _ h => h) (Or.inl ⟨by rfl, ?_⟩) (by assumption) ?_
      rotate_left
      · (intro w hSw; (try dsimp only at hSw); obtain ⟨⟨p0, p1, p2⟩, _⟩ := row3_at (below_block HP3.out hSw); go_simp; first | done | with_reducible rfl)
      (try simp only [Act.put, List.setIfInBounds_toArray, List.set_cons_zero, List.set_cons_succ])
      refine wpAnyH_ready (rs := [2]) (by kernel_rfl) (by simp) ?_
      refine stepH rfl (fun K hK => ?_) AllReadyH.nil
      go_simp
      refine (HR.out wa (bnext HB3.out ha)).mono ?_
      rintro e wb ⟨v2, rfl, hr2, hq⟩
      have hr2 := hr2.rd
      have hr1 := HSR.out.below (bnext ha hq)
      have hb := bnext ha hq
      go_wp2_with fail
      refine hK.out _ _ (hb) (fun _ => ?_)
      clear hK K
      (try simp only [Act.put, List.setIfInBounds_toArray, List.set_cons_zero, List.set_cons_succ])
      refine wpAnyH_ready (rs := [3]) (by kernel_rfl) (by simp) ?_
      refine stepH rfl (fun K hK => ?_) AllReadyH.nil
      go_simp
      refine (HEQ.out wb _ v2 hr1 hr2).mono ?_
      rintro e wc ⟨rfl, hq⟩
      replace hr1 := hr1.below hq
      have hc := bnext hb hq
      go_wp2_with fail
      refine hK.out _ _ (hc) (fun _ => ?_)
      clear hK K
      (try simp only [Act.put, List.setIfInBounds_toArray, List.set_cons_zero, List.set_cons_succ])
      refine takeH (i := 4) (v := ?_) rfl (by kernel_rfl) (by kernel_rfl) (by kernel_rfl) (fun _ _ _ h => h) (Or.inl ⟨by rfl, ?_⟩) (by assumption) ?_
      rotate_left
      · (intro w hSw; (try dsimp only at hSw); go_simp; first | done | with_reducible rfl)
      (try simp only [Act.put, List.setIfInBounds_toArray, List.set_cons_zero, List.set_cons_succ])
      refine takeH (i := 5) (v := ?_) rfl (by kernel_rfl) (by kernel_rfl) (by kernel_rfl) (fun _ _ _ h => h) (Or.inl ⟨by rfl, ?_⟩) (by assumption) ?_
      rotate_left
      · (intro w hSw; (try dsimp only at hSw); obtain ⟨⟨s0, s1, s2, s3, s4, s5, s6, s7, s8⟩, _⟩ := row9_at (below_block HX.out hSw); go_simp; first | done | with_reducible rfl)
      (try simp only [Act.put, List.setIfInBounds_toArray, List.set_cons_zero, List.set_cons_succ])
      refine wpAnyH_ready (rs := [6]) (by kernel_rfl) (by simp) ?_
      refine stepH rfl (fun K hK => ?_) AllReadyH.nil
      go_simp
      refine (HVS.out wc _ hr1).mono ?_
      rintro e wd ⟨rfl, hq⟩
      have hd := bnext hc hq
      go_wp2_with fail
      refine hK.out _ _ (hd) (fun _ => ?_)
      clear hK K
      (try simp only [Act.put, List.setIfInBounds_toArray, List.set_cons_zero, List.set_cons_succ])
      refine takeH (i := 7) (v := ?_) rfl (by kernel_rfl) (by kernel_rfl) (by kernel_rfl) (fun _ _ _ h => h) (Or.inl ⟨by rfl, ?_⟩) (by assumption) ?_
      rotate_left
      · (intro w hSw; (try dsimp only at hSw); go_simp; first | done | with_reducible rfl)
      (try simp only [Act.put, List.setIfInBounds_toArray, List.set_cons_zero, List.set_cons_succ])
      refine takeH (i := 8) (v := ?_) rfl (by kernel_rfl) (by kernel_rfl) (by kernel_rfl) (fun _ _ _ h => h) (Or.inl ⟨by rfl, ?_⟩) (by assumption) ?_
      rotate_left
      · (intro w hSw; (try dsimp only at hSw); go_simp; first | done | with_reducible rfl)
      (try simp only [Act.put, List.setIfInBounds_toArray, List.set_cons_zero, List.set_cons_succ])
      refine takeH (i := 9) (v := ?_) rfl (by kernel_rfl) (by kernel_rfl) (by kernel_rfl) (fun _ _ _ h => h) (Or.inl ⟨by rfl, ?_⟩) (by assumption) ?_
      rotate_left
      · (intro w hSw; (try dsimp only at hSw); go_simp; first | done | with_reducible rfl)
      (try simp only [Act.put, List.setIfInBounds_toArray, List.set_cons_zero, List.set_cons_succ])
      refine wpAnyH_ready (rs := [10]) (by kernel_rfl) (by simp) ?_
      refine stepH rfl (fun K hK => ?_) AllReadyH.nil
      go_simp
      refine (HAW.out wd).mono ?_
      rintro e we ⟨rfl, hq⟩
      have he := bnext hd hq
      go_wp2_with fail
      refine hK.out _ _ (he) (fun _ => ?_)
      clear hK K
      (try simp only [Act.put, List.setIfInBounds_toArray, List.set_cons_zero, List.set_cons_succ])
      refine takeH (i := 11) (v := ?_) rfl (by kernel_rfl) (by kernel_rfl) (by kernel_rfl) (fun _ _ _ h => h) (Or.inl ⟨by rfl, ?_⟩) (by assumption) ?_
      rotate_left
      · (intro w hSw; (try dsimp only at hSw); go_simp; first | done | with_reducible rfl)
      (try simp only [Act.put, List.setIfInBounds_toArray, List.set_cons_zero, List.set_cons_succ])
      refine takeH (i := 12) (v := ?_) rfl (by kernel_rfl) (by kernel_rfl) (by kernel_rfl) (fun _ _ _ h => h) (Or.inl ⟨by rfl, ?_⟩) (by assumption) ?_
      rotate_left
      · (intro w hSw; (try dsimp only at hSw); go_simp; first | done | with_reducible rfl)
      (try simp only [Act.put, List.setIfInBounds_toArray, List.set_cons_zero, List.set_cons_succ])
      refine wpAnyH_done (by kernel_rfl) ?_ _
      clear hr1 hr2
      have HF := Lib.hid (bnext HB.out (bnext HB3.out he))
      clear ha hb hc hd he
      go_wp2
      go_ret
      exact ⟨rfl, HF.out⟩
    · have hne : (JM.errP ad nu cs != 0) = true := bne_t hE
      generalize JM.errP ad nu cs = E at HV hne
      clear hE
      go_enter Try.func5, Try.ntmps5
      go_upto_region 1 with fail
      rw [HW.out]
      go_wp2_with fail
      refine (HV.out w1 (Below.refl _ _)).mono ?_
      rintro e w2 ⟨rfl, hb2⟩
      have HB2 := Lib.hid hb2
      clear hb2 p0 p1 p2 HV
      go_wp2_with fail
      refine (HAW.out w2).mono ?_
      rintro e w3 ⟨rfl, hb3⟩
      go_wp2
      go_ret
      exact ⟨rfl, bnext HB.out (bnext HB2.out hb3)⟩

end Go.Proofs.Ytdipheijagjelaa
