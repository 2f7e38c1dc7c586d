/-
  The law MemberEncoding: it returns true. Conditions: what came in reads.
-/
import Derived.Test.YtdipheijagjelaaMLaw1
import Derived.Test.YtdipheijagjelaaMRGen
import Derived.Test.YtdipheijagjelaaMRDec
namespace Go.Proofs.Ytdipheijagjelaa
open Go.RowKit Go.Joins
open JM (Chg St)
open MM (Mem Ent Sm Tri)

set_option maxRecDepth 100000 in
set_option maxHeartbeats 16000000 in
theorem lMemberEncoding (u : Value) (k c f : Int) (ms : List Mem) (v : Value) (xs : List Int) (W : World) (h : RdM W u ms) (ht : Rd W v xs) :
    Calls Try.prog 9 #[vw u k c f, v] W fun e w' => e = .returned (.bool true) ∧ Below W.heap.size W w' := by
  obtain ⟨ad, cp, rfl, hcp, hl⟩ := h.shape
  obtain ⟨bd, bp, rfl, hbp⟩ := ht.shape
  obtain ⟨w1, hw1⟩ : ∃ w1, W.alloc (.cells #[.slice ad ms.length cp, .int .i64 k, .int .i64 c, .int .i64 f] 26) = w1 := ⟨_, rfl⟩
  have hB := below_fresh W (.cells #[.slice ad ms.length cp, .int .i64 k, .int .i64 c, .int .i64 f] 26)
  have hG := heap_alloc_new W (.cells #[.slice ad ms.length cp, .int .i64 k, .int .i64 c, .int .i64 f] 26)
  rw [hw1] at hB hG
  have HM := Lib.hid (h.below hB)
  have HT := Lib.hid (ht.below hB)
  have HAW := Lib.hid (fun w => cAwake w)
  have HG := Lib.hid hG
  have HB := Lib.hid hB
  have HW := Lib.hid hw1
  clear h ht hB hG hw1 hcp hl hbp
  obtain ⟨⟨q0, q1, q2, q3⟩, _⟩ := row4_at HG.out
  by_cases h300 : 300 < xs.length
  · have hq : (300 : Int) < (xs.length : Int) := by omega
    go_enter Try.func9, Try.ntmps9
    go_upto_region 1 with fail
    rw [HW.out]
    go_wp2_with fail
    refine (HAW.out w1).mono ?_
    rintro e w2 ⟨rfl, hb2⟩
    go_wp2
    go_ret
    exact ⟨rfl, bnext HB.out hb2⟩
  have hq : ¬ (300 : Int) < (xs.length : Int) := by omega
  by_cases h60 : 60 < ms.length
  · have hq2 : (60 : Int) < (ms.length : Int) := by omega
    go_enter Try.func9, Try.ntmps9
    go_upto_region 1 with fail
    rw [HW.out]
    go_wp2_with fail
    refine (HAW.out w1).mono ?_
    rintro e w2 ⟨rfl, hb2⟩
    go_wp2
    go_ret
    exact ⟨rfl, bnext HB.out hb2⟩
  have hq2 : ¬ (60 : Int) < (ms.length : Int) := by omega
  have HXN := Lib.hid (show xs.length ≤ 300 by omega)
  have HVG := Lib.hid (fun w (hb : Below w1.heap.size w1 w) => rValGen (.slice ad ms.length cp) k c f ms w (HM.out.below hb))
  have HENC := Lib.hid (fun (hg : MM.errG k c f ms = 0) => And.intro (gnum_small hg (by have := gen_len hg; omega)) (And.intro (decG_enc hg (gnum_small hg (by have := gen_len hg; omega)) (gen_len hg) xs) (gen_len hg)))
  have HD1 := Lib.hid (cDecGen _ xs w1 HT.out)
  have HD2 := Lib.hid (fun w (hb : Below w1.heap.size w1 w) => rDecGen _ xs w (HT.out.below hb))
  generalize decG xs = D at HD1 HD2
  obtain ⟨er, n, k', c', f', ms'⟩ := D
  dsimp only at HD1 HD2
  generalize MM.errG k c f ms = E at HVG HENC
  go_enter Try.func9, Try.ntmps9
  go_upto_region 1 with fail
  rw [HW.out]
  go_wp2_with fail
  refine HD1.out.mono ?_
  rintro e w2 ⟨s2, rfl, hr2, hb2⟩
  obtain ⟨a2, c2, hs2, _, _⟩ := hr2.shape
  subst hs2
  -- the first genesis' box
  obtain ⟨S0, hS0⟩ : ∃ o, o = gBox (.slice a2 ms'.length c2) k' c' f' := ⟨_, rfl⟩
  have hb3 := below_fresh w2 S0
  have hx3 := heap_alloc_new w2 S0
  obtain ⟨X1, hX⟩ : ∃ X, X = w2.heap.size := ⟨_, rfl⟩
  rw [← hX] at hx3
  have HBW := Lib.hid (bnext hb2 hb3)
  have HR1 := Lib.hid (hr2.below hb3)
  generalize hw3 : w2.alloc S0 = w3 at hx3 HBW HR1
  rw [hS0] at hx3 hw3
  have HX1 := Lib.hid hx3
  have HW3 := Lib.hid (show w2.alloc (.cells #[.slice a2 ms'.length c2, .int .i64 k', .int .i64 c', .int .i64 f'] 26) = w3 from hw3)
  have HXE := Lib.hid hX
  clear hb2 hb3 hx3 hw3 hX hS0 S0 hr2 q0 q1 q2 q3 HD1
  go_upto_region 4 with fail
  rw [HW3.out, ← HXE.out]
  clear HW3 HXE
  go_wp2_with fail
  refine (HD2.out w3 HBW.out).mono ?_
  rintro e w4 ⟨s4, rfl, hr4, hb4⟩
  obtain ⟨a4, c4, hs4, _, _⟩ := hr4.shape
  subst hs4
  -- the second
  obtain ⟨S0, hS0⟩ : ∃ o, o = gBox (.slice a4 ms'.length c4) k' c' f' := ⟨_, rfl⟩
  have hb5 := below_fresh w4 S0
  have hx5 := heap_alloc_new w4 S0
  obtain ⟨X2, hX⟩ : ∃ X, X = w4.heap.size := ⟨_, rfl⟩
  rw [← hX] at hx5
  replace HBW := Lib.hid (bnext (bnext HBW.out hb4) hb5)
  replace HR1 := Lib.hid (HR1.out.below (bnext hb4 hb5))
  replace HX1 := Lib.hid (below_block (below_block HX1.out hb4) hb5)
  have HR2 := Lib.hid (hr4.below hb5)
  generalize hw5 : w4.alloc S0 = w5 at hx5 HBW HR1 HX1 HR2
  rw [hS0] at hx5 hw5
  have HX2 := Lib.hid hx5
  have HW5 := Lib.hid (show w4.alloc (.cells #[.slice a4 ms'.length c4, .int .i64 k', .int .i64 c', .int .i64 f'] 26) = w5 from hw5)
  have HXE := Lib.hid hX
  clear hb4 hb5 hx5 hw5 hX hS0 S0 hr4 HD2
  go_upto_region 5 with fail
  rw [HW5.out, ← HXE.out]
  clear HW5 HXE
  have HEQ := Lib.hid (show Calls Try.prog 26 #[vw (.slice a2 ms'.length c2) k' c' f', vw (.slice a4 ms'.length c4) k' c' f'] w5 fun e w' => e = .returned (.bool true) ∧ Below w5.heap.size w5 w' from by
    have := rEqView _ _ ms' ms' k' c' f' k' c' f' w5 HR1.out HR2.out
    rw [show decide (ms' = ms' ∧ k' = k' ∧ c' = c' ∧ f' = f') = true by simp] at this
    exact this)
  have hne1 : (((n : Int)) != ((n : Int))) = false := by simp
  have hne2 : (er != er) = false := by simp
  obtain ⟨⟨p0, p1, p2, p3⟩, _⟩ := row4_at HX1.out
  obtain ⟨⟨r0, r1, r2, r3⟩, _⟩ := row4_at HX2.out
  go_wp2_with fail
  refine HEQ.out.mono ?_
  rintro e w6 ⟨rfl, hb6⟩
  replace HBW := Lib.hid (bnext HBW.out hb6)
  have HG6 := Lib.hid (below_block HG.out HBW.out)
  clear hb6 HEQ hne1 hne2 p0 p1 p2 p3 r0 r1 r2 r3 HR1 HR2 HX1 HX2
  obtain ⟨⟨q0, q1, q2, q3⟩, _⟩ := row4_at HG6.out
  go_wp2_with fail
  refine (HVG.out w6 HBW.out).mono ?_
  rintro e w7 ⟨rfl, hb7⟩
  replace HBW := Lib.hid (bnext HBW.out hb7)
  have HG7 := Lib.hid (below_block HG.out HBW.out)
  clear hb7 q0 q1 q2 q3 HG6 HVG
  by_cases hE : E = 0
  case neg =>
    have hne : (E != 0) = true := bne_t hE
    clear hE HENC
    go_wp2_with fail
    refine (HAW.out w7).mono ?_
    rintro e w8 ⟨rfl, hb8⟩
    go_wp2
    go_ret
    exact ⟨rfl, bnext HB.out (bnext HBW.out hb8)⟩
  subst hE
  obtain ⟨hsm, hde, hl12⟩ := HENC.out (by first | rfl | trivial)
  have hle := JM.encN_len _ hsm
  have hgl : (gnum ms k c f).length = 2 * ms.length + 4 := by unfold gnum; rw [List.length_append, List.length_cons, flat_len]; simp
  have HAP := Lib.hid (cAppendGenesis (.slice none 0 0) (.slice ad ms.length cp) [] ms k c f w7 (Rd.nil _) (HM.out.below HBW.out) hsm (by omega) (by simp))
  have HAP2 := Lib.hid (fun w (hb : Below w1.heap.size w1 w) => rAppGen (.slice none 0 0) (.slice ad ms.length cp) [] ms k c f w (Rd.nil _) (HM.out.below hb) hsm (by omega) (by simp))
  rw [List.nil_append] at HAP HAP2
  have hXL : (JM.encN (gnum ms k c f)).length ≤ 1000 := by omega
  generalize JM.encN (gnum ms k c f) = X at HAP HAP2 hde hXL
  have HDE := Lib.hid hde
  have HXLE := Lib.hid hXL
  clear hsm hde hl12 hle hgl hXL HENC
  obtain ⟨⟨q0, q1, q2, q3⟩, _⟩ := row4_at HG7.out
  go_wp2_with fail
  refine HAP.out.mono ?_
  rintro e w8 ⟨v8, rfl, ho8, hb8⟩
  have hr8 := ho8.rd
  obtain ⟨a8, c8, hv8, _⟩ := hr8.shape
  subst hv8
  replace HBW := Lib.hid (bnext HBW.out hb8)
  have hbe := below_empty w8
  have hoe := own_empty w8
  have hre := hr8.below hbe
  have hlE : X.length ≤ 35184372088832 := by have := HXLE.out; omega
  have hse := hbe.size
  have HV := Lib.hid hr8
  have HBE := Lib.hid hbe
  clear ho8 hb8 hr8 hbe HAP q0 q1 q2 q3 HG7
  go_wp2_with (at_builtin; refine wp_appS rfl _ _ rfl rfl hoe rfl hre (by simp) hlE hse ?_)
  intro v9 w9 ho9 hb9
  have hb := HBE.out.trans hb9
  have htl := (HT.out.below HBW.out).below hb
  have hs9 := hb.size
  have hlT : xs.length ≤ 35184372088832 := by have := HXN.out; omega
  have HB9 := Lib.hid hb
  clear hb9 hoe hre hse hb HBE
  go_wp2_with (at_builtin; refine wp_appS rfl _ _ rfl rfl ho9 rfl htl hlE hlT hs9 ?_)
  intro v10 w10 ho10 hb10
  have hb := HB9.out.trans hb10
  replace HBW := Lib.hid (bnext HBW.out hb)
  replace HV := Lib.hid (HV.out.below hb)
  have hC := cDecGen v10 _ w10 ho10.rd
  rw [HDE.out] at hC
  dsimp only at hC
  have HC := Lib.hid hC
  clear hb hb10 ho9 ho10 htl hs9 hlE hlT HB9 hC HDE
  go_wp2_with fail
  refine HC.out.mono ?_
  rintro e w11 ⟨s11, rfl, hr11, hb11⟩
  obtain ⟨a11, c11, hs11, _, _⟩ := hr11.shape
  subst hs11
  -- the third
  obtain ⟨S0, hS0⟩ : ∃ o, o = gBox (.slice a11 ms.length c11) k c f := ⟨_, rfl⟩
  have hb12 := below_fresh w11 S0
  have hx12 := heap_alloc_new w11 S0
  obtain ⟨X3, hX⟩ : ∃ X, X = w11.heap.size := ⟨_, rfl⟩
  rw [← hX] at hx12
  replace HBW := Lib.hid (bnext (bnext HBW.out hb11) hb12)
  replace HV := Lib.hid (HV.out.below (bnext hb11 hb12))
  have HR3 := Lib.hid (hr11.below hb12)
  generalize hw12 : w11.alloc S0 = w12 at hx12 HBW HV HR3
  rw [hS0] at hx12 hw12
  have HX3 := Lib.hid hx12
  have HW12 := Lib.hid (show w11.alloc (.cells #[.slice a11 ms.length c11, .int .i64 k, .int .i64 c, .int .i64 f] 26) = w12 from hw12)
  have HXE := Lib.hid hX
  clear hb11 hb12 hx12 hw12 hX hS0 S0 hr11 HC
  go_upto_region 11 with fail
  rw [HW12.out, ← HXE.out]
  clear HW12 HXE
  have HG12 := Lib.hid (below_block HG.out HBW.out)
  have HM12 := Lib.hid (HM.out.below HBW.out)
  have HEQ := Lib.hid (fun w (h1 : RdM w (.slice ad ms.length cp) ms) (h2 : RdM w (.slice a11 ms.length c11) ms) => (show Calls Try.prog 26 #[vw (.slice ad ms.length cp) k c f, vw (.slice a11 ms.length c11) k c f] w fun e w' => e = .returned (.bool true) ∧ Below w.heap.size w w' from by
    have := rEqView _ _ ms ms k c f k c f w h1 h2
    rw [show decide (ms = ms ∧ k = k ∧ c = c ∧ f = f) = true by simp] at this
    exact this))
  have hNN : ((X.length : Int) == (X.length : Int)) = true := beq_t rfl
  refine wp_region_held_drew (S := fun w' => Below w12.heap.size w12 w') (by kernel_rfl) ((Below.refl _ _).drew) (fun ha => ?_)
  replace ha : Below w12.heap.size w12 w12.drew := (Below.refl _ _).drew
  generalize w12.drew = wa at ha ⊢
  refine takeH (i := 0) (v := ?_) rfl (by kernel_rfl) (by kernel_rfl) (by kernel_rfl) (fun _ _ _ h => h) (Or.inl ⟨by rfl, ?_⟩) (by assumption) ?_
  rotate_left
  · (intro w hSw; (try dsimp only at hSw); go_simp; first | done | with_reducible rfl)
  (try simp only [Act.put, List.setIfInBounds_toArray, List.set_cons_zero, List.set_cons_succ])
  refine takeH (i := 1) (v := ?_) rfl (by kernel_rfl) (by kernel_rfl) (by kernel_rfl) (fun _ _ _ h => h) (Or.inl ⟨by rfl, ?_⟩) (by assumption) ?_
  rotate_left
  · (intro w hSw; (try dsimp only at hSw); have hst := Rd.str (HV.out.below hSw); go_simp; first | done | with_reducible rfl)
  (try simp only [Act.put, List.setIfInBounds_toArray, List.set_cons_zero, List.set_cons_succ])
  refine takeH (i := 2) (v := ?_) rfl (by kernel_rfl) (by kernel_rfl) (by kernel_rfl) (fun _ _ _ h => h) (Or.inl ⟨by rfl, ?_⟩) (by assumption) ?_
  rotate_left
  · (intro w hSw; (try dsimp only at hSw); obtain ⟨⟨q0, q1, q2, q3⟩, _⟩ := row4_at (below_block HG12.out hSw); go_simp; first | done | with_reducible rfl)
  (try simp only [Act.put, List.setIfInBounds_toArray, List.set_cons_zero, List.set_cons_succ])
  refine wpAnyH_ready (rs := [3]) (by kernel_rfl) (by simp) ?_
  refine stepH rfl (fun K hK => ?_) AllReadyH.nil
  go_simp
  refine (HAP2.out wa (bnext HBW.out ha)).mono ?_
  rintro e wb ⟨vb, rfl, hrb, hq⟩
  obtain ⟨ab, cb, hvb, _⟩ := hrb.shape
  subst hvb
  have hb := bnext ha hq
  go_wp2_with fail
  refine hK.out _ _ (hb) (fun _ => ?_)
  clear hK K
  (try simp only [Act.put, List.setIfInBounds_toArray, List.set_cons_zero, List.set_cons_succ])
  refine wpAnyH_ready (rs := [4]) (by kernel_rfl) (by simp) ?_
  refine stepH rfl (fun K hK => ?_) AllReadyH.nil
  have hst := Rd.str hrb
  go_simp
  refine hK.out _ _ (hb) (fun _ => ?_)
  clear hK K
  (try simp only [Act.put, List.setIfInBounds_toArray, List.set_cons_zero, List.set_cons_succ])
  refine takeH (i := 5) (v := ?_) rfl (by kernel_rfl) (by kernel_rfl) (by kernel_rfl) (fun _ _ _ h => h) (Or.inl ⟨by rfl, ?_⟩) (by assumption) ?_
  rotate_left
  · (intro w hSw; (try dsimp only at hSw); go_simp; first | done | with_reducible rfl)
  (try simp only [Act.put, List.setIfInBounds_toArray, List.set_cons_zero, List.set_cons_succ])
  refine takeH (i := 6) (v := ?_) rfl (by kernel_rfl) (by kernel_rfl) (by kernel_rfl) (fun _ _ _ h => h) (Or.inl ⟨by rfl, ?_⟩) (by assumption) ?_
  rotate_left
  · (intro w hSw; (try dsimp only at hSw); go_simp; first | done | with_reducible rfl)
  (try simp only [Act.put, List.setIfInBounds_toArray, List.set_cons_zero, List.set_cons_succ])
  refine takeH (i := 7) (v := ?_) rfl (by kernel_rfl) (by kernel_rfl) (by kernel_rfl) (fun _ _ _ h => h) (Or.inl ⟨by rfl, ?_⟩) (by assumption) ?_
  rotate_left
  · (intro w hSw; (try dsimp only at hSw); go_simp; first | done | with_reducible rfl)
  (try simp only [Act.put, List.setIfInBounds_toArray, List.set_cons_zero, List.set_cons_succ])
  refine takeH (i := 8) (v := ?_) rfl (by kernel_rfl) (by kernel_rfl) (by kernel_rfl) (fun _ _ _ h => h) (Or.inl ⟨by rfl, ?_⟩) (by assumption) ?_
  rotate_left
  · (intro w hSw; (try dsimp only at hSw); go_simp; first | done | with_reducible rfl)
  (try simp only [Act.put, List.setIfInBounds_toArray, List.set_cons_zero, List.set_cons_succ])
  refine takeH (i := 9) (v := ?_) rfl (by kernel_rfl) (by kernel_rfl) (by kernel_rfl) (fun _ _ _ h => h) (Or.inl ⟨by rfl, ?_⟩) (by assumption) ?_
  rotate_left
  · (intro w hSw; (try dsimp only at hSw); go_simp; first | done | with_reducible rfl)
  (try simp only [Act.put, List.setIfInBounds_toArray, List.set_cons_zero, List.set_cons_succ])
  refine takeH (i := 10) (v := ?_) rfl (by kernel_rfl) (by kernel_rfl) (by kernel_rfl) (fun _ _ _ h => h) (Or.inl ⟨by rfl, ?_⟩) (by assumption) ?_
  rotate_left
  · (intro w hSw; (try dsimp only at hSw); go_simp; first | done | with_reducible rfl)
  (try simp only [Act.put, List.setIfInBounds_toArray, List.set_cons_zero, List.set_cons_succ])
  refine takeH (i := 11) (v := ?_) rfl (by kernel_rfl) (by kernel_rfl) (by kernel_rfl) (fun _ _ _ h => h) (Or.inl ⟨by rfl, ?_⟩) (by assumption) ?_
  rotate_left
  · (intro w hSw; (try dsimp only at hSw); go_simp; first | done | with_reducible rfl)
  (try simp only [Act.put, List.setIfInBounds_toArray, List.set_cons_zero, List.set_cons_succ])
  refine takeH (i := 12) (v := ?_) rfl (by kernel_rfl) (by kernel_rfl) (by kernel_rfl) (fun _ _ _ h => h) (Or.inl ⟨by rfl, ?_⟩) (by assumption) ?_
  rotate_left
  · (intro w hSw; (try dsimp only at hSw); go_simp; first | done | with_reducible rfl)
  (try simp only [Act.put, List.setIfInBounds_toArray, List.set_cons_zero, List.set_cons_succ])
  refine takeH (i := 13) (v := ?_) rfl (by kernel_rfl) (by kernel_rfl) (by kernel_rfl) (fun _ _ _ h => h) (Or.inl ⟨by rfl, ?_⟩) (by assumption) ?_
  rotate_left
  · (intro w hSw; (try dsimp only at hSw); go_simp; first | done | with_reducible rfl)
  (try simp only [Act.put, List.setIfInBounds_toArray, List.set_cons_zero, List.set_cons_succ])
  refine takeH (i := 14) (v := ?_) rfl (by kernel_rfl) (by kernel_rfl) (by kernel_rfl) (fun _ _ _ h => h) (Or.inl ⟨by rfl, ?_⟩) (by assumption) ?_
  rotate_left
  · (intro w hSw; (try dsimp only at hSw); go_simp; first | done | with_reducible rfl)
  (try simp only [Act.put, List.setIfInBounds_toArray, List.set_cons_zero, List.set_cons_succ])
  refine takeH (i := 15) (v := ?_) rfl (by kernel_rfl) (by kernel_rfl) (by kernel_rfl) (fun _ _ _ h => h) (Or.inl ⟨by rfl, ?_⟩) (by assumption) ?_
  rotate_left
  · (intro w hSw; (try dsimp only at hSw); go_simp; first | done | with_reducible rfl)
  (try simp only [Act.put, List.setIfInBounds_toArray, List.set_cons_zero, List.set_cons_succ])
  refine takeH (i := 16) (v := ?_) rfl (by kernel_rfl) (by kernel_rfl) (by kernel_rfl) (fun _ _ _ h => h) (Or.inl ⟨by rfl, ?_⟩) (by assumption) ?_
  rotate_left
  · (intro w hSw; (try dsimp only at hSw); go_simp; first | done | with_reducible rfl)
  (try simp only [Act.put, List.setIfInBounds_toArray, List.set_cons_zero, List.set_cons_succ])
  refine takeH (i := 17) (v := ?_) rfl (by kernel_rfl) (by kernel_rfl) (by kernel_rfl) (fun _ _ _ h => h) (Or.inl ⟨by rfl, ?_⟩) (by assumption) ?_
  rotate_left
  · (intro w hSw; (try dsimp only at hSw); go_simp; first | done | with_reducible rfl)
  (try simp only [Act.put, List.setIfInBounds_toArray, List.set_cons_zero, List.set_cons_succ])
  refine takeH (i := 18) (v := ?_) rfl (by kernel_rfl) (by kernel_rfl) (by kernel_rfl) (fun _ _ _ h => h) (Or.inl ⟨by rfl, ?_⟩) (by assumption) ?_
  rotate_left
  · (intro w hSw; (try dsimp only at hSw); obtain ⟨⟨q0, q1, q2, q3⟩, _⟩ := row4_at (below_block HG12.out hSw); go_simp; first | done | with_reducible rfl)
  (try simp only [Act.put, List.setIfInBounds_toArray, List.set_cons_zero, List.set_cons_succ])
  refine takeH (i := 19) (v := ?_) rfl (by kernel_rfl) (by kernel_rfl) (by kernel_rfl) (fun _ _ _ h => h) (Or.inl ⟨by rfl, ?_⟩) (by assumption) ?_
  rotate_left
  · (intro w hSw; (try dsimp only at hSw); go_simp; first | done | with_reducible rfl)
  (try simp only [Act.put, List.setIfInBounds_toArray, List.set_cons_zero, List.set_cons_succ])
  refine takeH (i := 20) (v := ?_) rfl (by kernel_rfl) (by kernel_rfl) (by kernel_rfl) (fun _ _ _ h => h) (Or.inl ⟨by rfl, ?_⟩) (by assumption) ?_
  rotate_left
  · (intro w hSw; (try dsimp only at hSw); obtain ⟨⟨q0, q1, q2, q3⟩, _⟩ := row4_at (below_block HG12.out hSw); go_simp; first | done | with_reducible rfl)
  (try simp only [Act.put, List.setIfInBounds_toArray, List.set_cons_zero, List.set_cons_succ])
  refine takeH (i := 21) (v := ?_) rfl (by kernel_rfl) (by kernel_rfl) (by kernel_rfl) (fun _ _ _ h => h) (Or.inl ⟨by rfl, ?_⟩) (by assumption) ?_
  rotate_left
  · (intro w hSw; (try dsimp only at hSw); go_simp; first | done | with_reducible rfl)
  (try simp only [Act.put, List.setIfInBounds_toArray, List.set_cons_zero, List.set_cons_succ])
  refine takeH (i := 22) (v := ?_) rfl (by kernel_rfl) (by kernel_rfl) (by kernel_rfl) (fun _ _ _ h => h) (Or.inl ⟨by rfl, ?_⟩) (by assumption) ?_
  rotate_left
  · (intro w hSw; (try dsimp only at hSw); go_simp; first | done | with_reducible rfl)
  (try simp only [Act.put, List.setIfInBounds_toArray, List.set_cons_zero, List.set_cons_succ])
  refine takeH (i := 23) (v := ?_) rfl (by kernel_rfl) (by kernel_rfl) (by kernel_rfl) (fun _ _ _ h => h) (Or.inl ⟨by rfl, ?_⟩) (by assumption) ?_
  rotate_left
  · (intro w hSw; (try dsimp only at hSw); obtain ⟨⟨q0, q1, q2, q3⟩, _⟩ := row4_at (below_block HX3.out hSw); go_simp; first | done | with_reducible rfl)
  (try simp only [Act.put, List.setIfInBounds_toArray, List.set_cons_zero, List.set_cons_succ])
  refine takeH (i := 24) (v := ?_) rfl (by kernel_rfl) (by kernel_rfl) (by kernel_rfl) (fun _ _ _ h => h) (Or.inl ⟨by rfl, ?_⟩) (by assumption) ?_
  rotate_left
  · (intro w hSw; (try dsimp only at hSw); go_simp; first | done | with_reducible rfl)
  (try simp only [Act.put, List.setIfInBounds_toArray, List.set_cons_zero, List.set_cons_succ])
  refine takeH (i := 25) (v := ?_) rfl (by kernel_rfl) (by kernel_rfl) (by kernel_rfl) (fun _ _ _ h => h) (Or.inl ⟨by rfl, ?_⟩) (by assumption) ?_
  rotate_left
  · (intro w hSw; (try dsimp only at hSw); obtain ⟨⟨q0, q1, q2, q3⟩, _⟩ := row4_at (below_block HX3.out hSw); go_simp; first | done | with_reducible rfl)
  (try simp only [Act.put, List.setIfInBounds_toArray, List.set_cons_zero, List.set_cons_succ])
  refine takeH (i := 26) (v := ?_) rfl (by kernel_rfl) (by kernel_rfl) (by kernel_rfl) (fun _ _ _ h => h) (Or.inl ⟨by rfl, ?_⟩) (by assumption) ?_
  rotate_left
  · (intro w hSw; (try dsimp only at hSw); go_simp; first | done | with_reducible rfl)
  (try simp only [Act.put, List.setIfInBounds_toArray, List.set_cons_zero, List.set_cons_succ])
  refine wpAnyH_ready (rs := [27]) (by kernel_rfl) (by simp) ?_
  refine stepH rfl (fun K hK => ?_) AllReadyH.nil
  go_simp
  refine (HEQ.out wb (HM12.out.below hb) (HR3.out.below hb)).mono ?_
  rintro e wc ⟨rfl, hq⟩
  have hc := bnext hb hq
  go_wp2_with fail
  refine hK.out _ _ (hc) (fun _ => ?_)
  clear hK K
  (try simp only [Act.put, List.setIfInBounds_toArray, List.set_cons_zero, List.set_cons_succ])
  refine takeH (i := 28) (v := ?_) rfl (by kernel_rfl) (by kernel_rfl) (by kernel_rfl) (fun _ _ _ h => h) (Or.inl ⟨by rfl, ?_⟩) (by assumption) ?_
  rotate_left
  · (intro w hSw; (try dsimp only at hSw); go_simp; first | done | with_reducible rfl)
  (try simp only [Act.put, List.setIfInBounds_toArray, List.set_cons_zero, List.set_cons_succ])
  refine takeH (i := 29) (v := ?_) rfl (by kernel_rfl) (by kernel_rfl) (by kernel_rfl) (fun _ _ _ h => h) (Or.inl ⟨by rfl, ?_⟩) (by assumption) ?_
  rotate_left
  · (intro w hSw; (try dsimp only at hSw); go_simp; first | done | with_reducible rfl)
  (try simp only [Act.put, List.setIfInBounds_toArray, List.set_cons_zero, List.set_cons_succ])
  refine wpAnyH_ready (rs := [30]) (by kernel_rfl) (by simp) ?_
  refine stepH rfl (fun K hK => ?_) AllReadyH.nil
  go_simp
  refine (HAW.out wc).mono ?_
  rintro e wd ⟨rfl, hq⟩
  have hd := bnext hc hq
  go_wp2_with fail
  refine hK.out _ _ (hd) (fun _ => ?_)
  clear hK K
  (try simp only [Act.put, List.setIfInBounds_toArray, List.set_cons_zero, List.set_cons_succ])
  refine takeH (i := 31) (v := ?_) rfl (by kernel_rfl) (by kernel_rfl) (by kernel_rfl) (fun _ _ _ h => h) (Or.inl ⟨by rfl, ?_⟩) (by assumption) ?_
  rotate_left
  · (intro w hSw; (try dsimp only at hSw); go_simp; first | done | with_reducible rfl)
  (try simp only [Act.put, List.setIfInBounds_toArray, List.set_cons_zero, List.set_cons_succ])
  refine takeH (i := 32) (v := ?_) rfl (by kernel_rfl) (by kernel_rfl) (by kernel_rfl) (fun _ _ _ h => h) (Or.inl ⟨by rfl, ?_⟩) (by assumption) ?_
  rotate_left
  · (intro w hSw; (try dsimp only at hSw); go_simp; first | done | with_reducible rfl)
  (try simp only [Act.put, List.setIfInBounds_toArray, List.set_cons_zero, List.set_cons_succ])
  refine wpAnyH_done (by kernel_rfl) ?_ _
  have HF := Lib.hid (bnext HB.out (bnext HBW.out hd))
  clear ha hb hc hd
  go_wp2
  go_ret
  exact ⟨rfl, HF.out⟩

end Go.Proofs.Ytdipheijagjelaa
