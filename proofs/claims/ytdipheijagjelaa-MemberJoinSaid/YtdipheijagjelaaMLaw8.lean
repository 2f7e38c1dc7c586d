/-
  The law MemberJoin: it returns true. Conditions: what came in reads.
-/
import Derived.Test.YtdipheijagjelaaMLaw1
import Derived.Test.YtdipheijagjelaaMRJn
namespace Go.Proofs.Ytdipheijagjelaa
open Go.RowKit Go.Joins
open MM (Mem Ent Sm Tri)

set_option maxRecDepth 100000 in
set_option maxHeartbeats 8000000 in
theorem lMemberJoin (va vb : Value) (s t : Sm) (W : World) (ha : RdS W va s) (hb : RdS W vb t) :
    Calls Try.prog 6 #[va, vb] W fun e w' => e = .returned (.bool true) ∧ Below W.heap.size W w' := by
  obtain ⟨x, y, z, x', y', z', w2, hva, hvb, hw2, hB, hra, hrb, hA, hBb⟩ := two_sums W va vb s t ha hb
  have HRA := Lib.hid hra
  have HRB := Lib.hid hrb
  have HS1 := Lib.hid (fun w (hb : Below w2.heap.size w2 w) => cShort va s w (hra.below hb))
  have HS2 := Lib.hid (fun w (hb : Below w2.heap.size w2 w) => cShort vb t w (hrb.below hb))
  have HV1 := Lib.hid (fun w (hb : Below w2.heap.size w2 w) => rValSum va s w (hra.below hb))
  have HV2 := Lib.hid (fun w (hb : Below w2.heap.size w2 w) => rValSum vb t w (hrb.below hb))
  have HAW := Lib.hid (fun w => cAwake w)
  have HJN : Hid (MM.errS s = 0 → MM.errS t = 0 → ∃ T : Sm, (∀ w, Below w2.heap.size w2 w → Calls Try.prog 23 #[va, vb] w fun e w' => ∃ v, e = .returned v ∧ RdS w' v T ∧ Below w.heap.size w w') ∧
      (∀ w, Below w2.heap.size w2 w → Calls Try.prog 24 #[va, vb] w fun e w' => ∃ v, e = .returned v ∧ RdS w' v T ∧ Below w.heap.size w w') ∧ MM.errS T = 0) := Lib.hid (fun h1 h2 => by
    have o1 := MM.errS_iff.1 h1
    have o2 := MM.errS_iff.1 h2
    refine ⟨MM.join s t, fun w hb => (cJoin va vb s t w (hra.below hb) (hrb.below hb) (okS_len o1) (okS_len o2)).mono ?_, fun w hb => (rJoin va vb s t w (hra.below hb) (hrb.below hb) o1 o2).mono ?_, MM.errS_iff.2 (MM.okS_join o1 o2)⟩
    · rintro e w' ⟨v, h3, h4, h5⟩
      exact ⟨v, h3, h4.rd, h5⟩
    · rintro e w' ⟨v, h3, h4, h5⟩
      exact ⟨v, h3, h4 w' (Fr.refl _ _) ((hra.below hb).below h5), h5⟩)
  generalize MM.errS s = E1 at HV1 HJN
  generalize MM.errS t = E2 at HV2 HJN
  generalize shortB s = sa at HS1
  generalize shortB t = sb at HS2
  obtain ⟨J, Rm, Ws, k, c, f, v, a, n⟩ := s
  obtain ⟨J', Rm', Ws', k', c', f', v', a', n'⟩ := t
  dsimp only at hva hvb hw2 hA hBb
  subst hva hvb
  have HA := Lib.hid hA
  have HBb := Lib.hid hBb
  have HB := Lib.hid hB
  have HW := Lib.hid hw2
  clear ha hb hra hrb hA hBb hB hw2 HRA HRB
  obtain ⟨⟨a0, a1, a2, a3, a4, a5, a6, a7, a8⟩, _⟩ := row9_at HA.out
  obtain ⟨⟨b0, b1, b2, b3, b4, b5, b6, b7, b8⟩, _⟩ := row9_at HBb.out
  go_enter Try.func6, Try.ntmps6
  go_upto_region 1 with fail
  rw [HW.out]
  go_wp2_with fail
  refine (HS1.out w2 (Below.refl _ _)).mono ?_
  rintro e w3 ⟨rfl, hb3⟩
  have HB3 := Lib.hid hb3
  have HA3 := Lib.hid (below_block HA.out hb3)
  have HBb3 := Lib.hid (below_block HBb.out hb3)
  clear hb3 a0 a1 a2 a3 a4 a5 a6 a7 a8 b0 b1 b2 b3 b4 b5 b6 b7 b8 HA HBb HS1
  cases sa
  · go_wp2_with fail
    refine (HAW.out w3).mono ?_
    rintro e w4 ⟨rfl, hb4⟩
    go_wp2
    go_ret
    exact ⟨rfl, bnext HB.out (bnext HB3.out hb4)⟩
  obtain ⟨⟨b0, b1, b2, b3, b4, b5, b6, b7, b8⟩, _⟩ := row9_at HBb3.out
  go_wp2_with fail
  refine (HS2.out w3 HB3.out).mono ?_
  rintro e w4 ⟨rfl, hb4⟩
  have HB4 := Lib.hid (bnext HB3.out hb4)
  have HA4 := Lib.hid (below_block HA3.out hb4)
  have HBb4 := Lib.hid (below_block HBb3.out hb4)
  clear hb4 b0 b1 b2 b3 b4 b5 b6 b7 b8 HA3 HBb3 HS2 HB3
  cases sb
  · go_wp2_with fail
    refine (HAW.out w4).mono ?_
    rintro e w5 ⟨rfl, hb5⟩
    go_wp2
    go_ret
    exact ⟨rfl, bnext HB.out (bnext HB4.out hb5)⟩
  obtain ⟨⟨a0, a1, a2, a3, a4, a5, a6, a7, a8⟩, _⟩ := row9_at HA4.out
  go_wp2_with fail
  refine (HV1.out w4 HB4.out).mono ?_
  rintro e w5 ⟨rfl, hb5⟩
  have HB5 := Lib.hid (bnext HB4.out hb5)
  have HA5 := Lib.hid (below_block HA4.out hb5)
  have HBb5 := Lib.hid (below_block HBb4.out hb5)
  clear hb5 a0 a1 a2 a3 a4 a5 a6 a7 a8 HA4 HBb4 HV1 HB4
  by_cases hE1 : E1 = 0
  case neg =>
    have hne : (E1 != 0) = true := bne_t hE1
    clear hE1
    go_wp2_with fail
    refine (HAW.out w5).mono ?_
    rintro e w6 ⟨rfl, hb6⟩
    go_wp2
    go_ret
    exact ⟨rfl, bnext HB.out (bnext HB5.out hb6)⟩
  subst hE1
  obtain ⟨⟨b0, b1, b2, b3, b4, b5, b6, b7, b8⟩, _⟩ := row9_at HBb5.out
  go_wp2_with fail
  refine (HV2.out w5 HB5.out).mono ?_
  rintro e w6 ⟨rfl, hb6⟩
  have HB6 := Lib.hid (bnext HB5.out hb6)
  have HA6 := Lib.hid (below_block HA5.out hb6)
  have HBb6 := Lib.hid (below_block HBb5.out hb6)
  clear hb6 b0 b1 b2 b3 b4 b5 b6 b7 b8 HA5 HBb5 HV2 HB5
  by_cases hE2 : E2 = 0
  case neg =>
    have hne : (E2 != 0) = true := bne_t hE2
    clear hE2
    go_wp2_with fail
    refine (HAW.out w6).mono ?_
    rintro e w7 ⟨rfl, hb7⟩
    go_wp2
    go_ret
    exact ⟨rfl, bnext HB.out (bnext HB6.out hb7)⟩
  subst hE2
  obtain ⟨T, hc, hr, hT⟩ := HJN.out (by first | rfl | trivial) (by first | rfl | trivial)
  have HC := Lib.hid hc
  have HR := Lib.hid hr
  have HVS := Lib.hid (fun w' (v : Value) (h : RdS w' v T) => by
    have := cValSum v T w' h
    rw [hT] at this
    exact this)
  have HEQ := Lib.hid (fun w (u1 u2 : Value) (h1 : RdS w u1 T) (h2 : RdS w u2 T) => by
    have := rEqSum u1 u2 T T w h1 h2
    rw [MM.eqS_self] at this
    exact this)
  clear hc hr hT HJN
  obtain ⟨Jl, Rl, Wl, rk, rc, rf, rv, rd, rn⟩ := T
  obtain ⟨⟨a0, a1, a2, a3, a4, a5, a6, a7, a8⟩, _⟩ := row9_at HA6.out
  obtain ⟨⟨b0, b1, b2, b3, b4, b5, b6, b7, b8⟩, _⟩ := row9_at HBb6.out
  go_wp2_with fail
  refine (HC.out w6 HB6.out).mono ?_
  rintro e w7 ⟨v7, rfl, hrs, hb7⟩
  obtain ⟨ax, lx, cx, ay, ly, cy, az, lz, cz, hv7⟩ := hrs.shape
  dsimp only at hv7
  subst hv7
  -- the summary's box
  obtain ⟨S0, hS0⟩ : ∃ o, o = Obj.cells (s9 (.slice ax lx cx) (.slice ay ly cy) (.slice az lz cz) rk rc rf rv rd rn) 34 := ⟨_, rfl⟩
  have hb8 := below_fresh w7 S0
  have hx8 := heap_alloc_new w7 S0
  obtain ⟨X, hX⟩ : ∃ X, X = w7.heap.size := ⟨_, rfl⟩
  rw [← hX] at hx8
  have HA8 := Lib.hid (below_block (below_block HA6.out hb7) hb8)
  have HBb8 := Lib.hid (below_block (below_block HBb6.out hb7) hb8)
  have HB8 := Lib.hid (bnext (bnext HB6.out hb7) hb8)
  have HSR := Lib.hid (hrs.below hb8)
  generalize hw8 : w7.alloc S0 = w8 at hx8 HA8 HBb8 HB8 HSR
  rw [hS0] at hx8 hw8
  have HX := Lib.hid hx8
  have HW8 := Lib.hid hw8
  have HXE := Lib.hid hX
  clear hb8 hx8 hw8 hX hS0 S0 hrs hb7 HC HA6 HBb6 HB6 a0 a1 a2 a3 a4 a5 a6 a7 a8 b0 b1 b2 b3 b4 b5 b6 b7 b8
  go_upto_region 4 with fail
  rw [HW8.out, ← HXE.out]
  clear HW8 HXE
  refine wp_region_held_drew (S := fun w' => Below w8.heap.size w8 w') (by kernel_rfl) ((Below.refl _ _).drew) (fun ha => ?_)
  replace ha : Below w8.heap.size w8 w8.drew := (Below.refl _ _).drew
  generalize w8.drew = wa at ha ⊢
  refine takeH (i := 0) (v := ?_) rfl (by kernel_rfl) (by kernel_rfl) (by kernel_rfl) (fun _ _ _ h => h) (Or.inl ⟨by rfl, ?_⟩) (by assumption) ?_
  rotate_left
  · (intro w hSw; (try dsimp only at hSw); obtain ⟨⟨s0, s1, s2, s3, s4, s5, s6, s7, s8⟩, _⟩ := row9_at (below_block HX.out hSw); go_simp; first | done | with_reducible rfl)
  (try simp only [Act.put, List.setIfInBounds_toArray, List.set_cons_zero, List.set_cons_succ])
  refine takeH (i := 1) (v := ?_) rfl (by kernel_rfl) (by kernel_rfl) (by kernel_rfl) (fun _ _ _ h => h) (Or.inl ⟨by rfl, ?_⟩) (by assumption) ?_
  rotate_left
  · (intro w hSw; (try dsimp only at hSw); obtain ⟨⟨a0, a1, a2, a3, a4, a5, a6, a7, a8⟩, _⟩ := row9_at (below_block HA8.out hSw); go_simp; first | done | with_reducible rfl)
  (try simp only [Act.put, List.setIfInBounds_toArray, List.set_cons_zero, List.set_cons_succ])
  refine takeH (i := 2) (v := ?_) rfl (by kernel_rfl) (by kernel_rfl) (by kernel_rfl) (fun _ _ _ h => h) (Or.inl ⟨by rfl, ?_⟩) (by assumption) ?_
  rotate_left
  · (intro w hSw; (try dsimp only at hSw); obtain ⟨⟨b0, b1, b2, b3, b4, b5, b6, b7, b8⟩, _⟩ := row9_at (below_block HBb8.out hSw); go_simp; first | done | with_reducible rfl)
  (try simp only [Act.put, List.setIfInBounds_toArray, List.set_cons_zero, List.set_cons_succ])
  refine wpAnyH_ready (rs := [3]) (by kernel_rfl) (by simp) ?_
  refine stepH rfl (fun K hK => ?_) AllReadyH.nil
  go_simp
  refine (HR.out wa (bnext HB8.out ha)).mono ?_
  rintro e wb ⟨v2, rfl, hr2, hq⟩
  have hr1 := HSR.out.below (bnext ha hq)
  have hb := bnext ha hq
  go_wp2_with fail
  refine hK.out _ _ (hb) (fun _ => ?_)
  clear hK K
  (try simp only [Act.put, List.setIfInBounds_toArray, List.set_cons_zero, List.set_cons_succ])
  refine wpAnyH_ready (rs := [4]) (by kernel_rfl) (by simp) ?_
  refine stepH rfl (fun K hK => ?_) AllReadyH.nil
  go_simp
  refine (HEQ.out wb _ v2 hr1 hr2).mono ?_
  rintro e wc ⟨rfl, hq⟩
  replace hr1 := hr1.below hq
  have hc := bnext hb hq
  go_wp2_with fail
  refine hK.out _ _ (hc) (fun _ => ?_)
  clear hK K
  (try simp only [Act.put, List.setIfInBounds_toArray, List.set_cons_zero, List.set_cons_succ])
  refine takeH (i := 5) (v := ?_) rfl (by kernel_rfl) (by kernel_rfl) (by kernel_rfl) (fun _ _ _ h => h) (Or.inl ⟨by rfl, ?_⟩) (by assumption) ?_
  rotate_left
  · (intro w hSw; (try dsimp only at hSw); go_simp; first | done | with_reducible rfl)
  (try simp only [Act.put, List.setIfInBounds_toArray, List.set_cons_zero, List.set_cons_succ])
  refine takeH (i := 6) (v := ?_) rfl (by kernel_rfl) (by kernel_rfl) (by kernel_rfl) (fun _ _ _ h => h) (Or.inl ⟨by rfl, ?_⟩) (by assumption) ?_
  rotate_left
  · (intro w hSw; (try dsimp only at hSw); obtain ⟨⟨s0, s1, s2, s3, s4, s5, s6, s7, s8⟩, _⟩ := row9_at (below_block HX.out hSw); go_simp; first | done | with_reducible rfl)
  (try simp only [Act.put, List.setIfInBounds_toArray, List.set_cons_zero, List.set_cons_succ])
  refine wpAnyH_ready (rs := [7]) (by kernel_rfl) (by simp) ?_
  refine stepH rfl (fun K hK => ?_) AllReadyH.nil
  go_simp
  refine (HVS.out wc _ hr1).mono ?_
  rintro e wd ⟨rfl, hq⟩
  have hd := bnext hc hq
  go_wp2_with fail
  refine hK.out _ _ (hd) (fun _ => ?_)
  clear hK K
  (try simp only [Act.put, List.setIfInBounds_toArray, List.set_cons_zero, List.set_cons_succ])
  refine takeH (i := 8) (v := ?_) rfl (by kernel_rfl) (by kernel_rfl) (by kernel_rfl) (fun _ _ _ h => h) (Or.inl ⟨by rfl, ?_⟩) (by assumption) ?_
  rotate_left
  · (intro w hSw; (try dsimp only at hSw); go_simp; first | done | with_reducible rfl)
  (try simp only [Act.put, List.setIfInBounds_toArray, List.set_cons_zero, List.set_cons_succ])
  refine takeH (i := 9) (v := ?_) rfl (by kernel_rfl) (by kernel_rfl) (by kernel_rfl) (fun _ _ _ h => h) (Or.inl ⟨by rfl, ?_⟩) (by assumption) ?_
  rotate_left
  · (intro w hSw; (try dsimp only at hSw); go_simp; first | done | with_reducible rfl)
  (try simp only [Act.put, List.setIfInBounds_toArray, List.set_cons_zero, List.set_cons_succ])
  refine takeH (i := 10) (v := ?_) rfl (by kernel_rfl) (by kernel_rfl) (by kernel_rfl) (fun _ _ _ h => h) (Or.inl ⟨by rfl, ?_⟩) (by assumption) ?_
  rotate_left
  · (intro w hSw; (try dsimp only at hSw); go_simp; first | done | with_reducible rfl)
  (try simp only [Act.put, List.setIfInBounds_toArray, List.set_cons_zero, List.set_cons_succ])
  refine wpAnyH_ready (rs := [11]) (by kernel_rfl) (by simp) ?_
  refine stepH rfl (fun K hK => ?_) AllReadyH.nil
  go_simp
  refine (HAW.out wd).mono ?_
  rintro e we ⟨rfl, hq⟩
  have he := bnext hd hq
  go_wp2_with fail
  refine hK.out _ _ (he) (fun _ => ?_)
  clear hK K
  (try simp only [Act.put, List.setIfInBounds_toArray, List.set_cons_zero, List.set_cons_succ])
  refine takeH (i := 12) (v := ?_) rfl (by kernel_rfl) (by kernel_rfl) (by kernel_rfl) (fun _ _ _ h => h) (Or.inl ⟨by rfl, ?_⟩) (by assumption) ?_
  rotate_left
  · (intro w hSw; (try dsimp only at hSw); go_simp; first | done | with_reducible rfl)
  (try simp only [Act.put, List.setIfInBounds_toArray, List.set_cons_zero, List.set_cons_succ])
  refine takeH (i := 13) (v := ?_) rfl (by kernel_rfl) (by kernel_rfl) (by kernel_rfl) (fun _ _ _ h => h) (Or.inl ⟨by rfl, ?_⟩) (by assumption) ?_
  rotate_left
  · (intro w hSw; (try dsimp only at hSw); go_simp; first | done | with_reducible rfl)
  (try simp only [Act.put, List.setIfInBounds_toArray, List.set_cons_zero, List.set_cons_succ])
  refine wpAnyH_done (by kernel_rfl) ?_ _
  clear hr1 hr2
  have HF := Lib.hid (bnext HB.out (bnext HB8.out he))
  clear ha hb hc hd he
  go_wp2
  go_ret
  exact ⟨rfl, HF.out⟩

end Go.Proofs.Ytdipheijagjelaa
