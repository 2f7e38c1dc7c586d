/-
  The call of the reference's FormatCommand: what DM.fmt gives. No conditions.
-/
import Derived.Test.YteiicflodobpnaaDoorDDec
import Derived.Test.YteiicflodobpnaaDoorDRef1
namespace Go.Proofs.YteiicflodobpnaaDoor
open Go.RowKit Go.Joins Go.Shelf
open JM (Chg)

theorem rDecZ (n : Int) (w : World) (h0 : 0 ≤ n) (h1 : n ≤ 9999) :
    Calls Tryd.prog 23 #[.int .i64 n] w fun e w' => ∃ S : ByteArray, e = .returned (.string S) ∧ (S.data.toList = Lib.itoa n ∧ S.size ≤ 4) ∧ Below w.heap.size w w' := by
  have h := rDecimal n.toNat w (by omega)
  have e : ((n.toNat : Nat) : Int) = n := by omega
  have e2 : Lib.itoa n = Lib.decDigits n.toNat := by unfold Lib.itoa; rw [if_neg (by omega)]
  rw [e] at h
  rw [e2]
  exact h

set_option maxRecDepth 100000 in
set_option maxHeartbeats 2000000 in
theorem rFormat (k s t v a b c : Int) (w : World) : Calls Tryd.prog 10 #[cv k s t v a b c] w (Fpost (DM.fmt (k, s, t, v, a, b, c)) w) := by
  have hb0 := below_fresh w (cBox k s t v a b c)
  have hx := heap_alloc_new w (cBox k s t v a b c)
  obtain ⟨w1, hw1⟩ : ∃ w1, w.alloc (cBox k s t v a b c) = w1 := ⟨_, rfl⟩
  rw [hw1] at hb0 hx
  have HB0 := Lib.hid hb0
  have HW := Lib.hid hw1
  have HX := Lib.hid hx
  obtain ⟨⟨c0, c1, c2, c3, c4, c5, c6⟩, _⟩ := row7_atF hx
  obtain ⟨V, hV⟩ : ∃ V, (if v = 0 ∧ (k = 3 ∨ k = 4) then (1 : Int) else v) = V := ⟨_, rfl⟩
  have hver : DM.ver (k, s, t, v, a, b, c) = (k, s, t, V, a, b, c) := by
    show (k, s, t, (if v = 0 ∧ (k = 3 ∨ k = 4) then (1 : Int) else v), a, b, c) = _
    rw [hV]
  have HVR := Lib.hid (rVersioned k s t v a b c w1)
  rw [hver] at HVR
  replace HVR : Hid (Calls Tryd.prog 20 #[cv k s t v a b c] w1 fun e w' => e = .returned (cv k s t V a b c) ∧ Below w1.heap.size w1 w') := HVR
  obtain ⟨E, hE⟩ : ∃ E, JM.errC k s t V a b c = E := ⟨_, rfl⟩
  have hEE : JM.errCh (DM.ver (k, s, t, v, a, b, c)) = E := by rw [hver]; exact hE
  have HVC := Lib.hid (fun w' => rValChange k s t V a b c w')
  rw [hE] at HVC
  clear hb0 hw1 hx hV hver hE
  have pre : ∀ (n : Nat), True := fun _ => trivial
  by_cases he : E = 0
  case neg =>
    have h1 : (E == 0) = false := by simpa using he
    have h2 : (E != 0) = true := by simpa using he
    have HF := Lib.hid (fmt_bad (by rw [hEE]; exact he))
    clear he hEE pre
    go_enter Tryd.func10, Tryd.ntmps10
    go_upto_region 1 with fail
    rw [HW.out]
    go_wp2_with fail
    refine HVR.out.mono ?_
    rintro e w2 ⟨rfl, hb2⟩
    go_wp2_with fail
    refine (HVC.out _).mono ?_
    rintro e w3 ⟨rfl, hb3⟩
    go_wp2
    go_ret
    exact ⟨_, rfl, HF.out.symm, bnext HB0.out (bnext hb2 hb3)⟩
  subst he
  obtain ⟨hk, s0, s1, t0, t1, hr⟩ := DM.bounds hEE
  have HS := Lib.hid (fun w' => rDecZ s w' s0 (by omega))
  have HT := Lib.hid (fun w' => rDecZ t w' t0 (by omega))
  have HB := Lib.hid (fun (h : k = 4) w' => rDecZ b w' (hr h).2.1 (by have := (hr h).2.2.1; omega))
  have HC := Lib.hid (fun (h : k = 4) w' => rDecZ c w' (hr h).2.2.2.1 (by have := (hr h).2.2.2.2; omega))
  have HA := Lib.hid (fun (h : k = 4) => (hr h).1)
  have HF := Lib.hid (fmt_eq hEE)
  have HK := Lib.hid hk
  clear hk hEE s0 s1 t0 t1 hr pre
  go_enter Tryd.func10, Tryd.ntmps10
  go_upto_region 1 with fail
  rw [HW.out]
  go_wp2_with fail
  refine HVR.out.mono ?_
  rintro e w2 ⟨rfl, hb2⟩
  go_wp2_with fail
  refine (HVC.out _).mono ?_
  rintro e w3 ⟨rfl, hb3⟩
  have HX3 := Lib.hid (below_block (below_block HX.out hb2) hb3)
  have HB3 := Lib.hid (bnext HB0.out (bnext hb2 hb3))
  clear hb2 hb3 HX HB0 HW HVR HVC c0 c1 c2 c3 c4 c5 c6
  obtain ⟨⟨c0, c1, c2, c3, c4, c5, c6⟩, _⟩ := row7_atF HX3.out
  rcases HK.out with rfl | rfl | rfl | rfl
  · clear HB HC HA HK
    go_wp2_with fail
    refine wp_region_held_drew (S := fun w' => Below w3.heap.size w3 w') (by kernel_rfl) ((Below.refl _ _).drew) (fun ha => ?_)
    replace ha : Below w3.heap.size w3 w3.drew := (Below.refl _ _).drew
    generalize w3.drew = wa at ha ⊢
    refine takeH (i := 0) (v := ?_) rfl (by kernel_rfl) (by kernel_rfl) (by kernel_rfl) (fun _ _ _ h => h) (Or.inl ⟨by rfl, ?_⟩) (by assumption) ?_
    rotate_left
    · (intro w hSw; (try dsimp only at hSw); go_simp; first | done | with_reducible rfl)
    (try simp only [Act.put, List.setIfInBounds_toArray, List.set_cons_zero, List.set_cons_succ])
    refine takeH (i := 5) (v := ?_) rfl (by kernel_rfl) (by kernel_rfl) (by kernel_rfl) (fun _ _ _ h => h) (Or.inl ⟨by rfl, ?_⟩) (by assumption) ?_
    rotate_left
    · (intro w hSw; (try dsimp only at hSw); go_simp; first | done | with_reducible rfl)
    (try simp only [Act.put, List.setIfInBounds_toArray, List.set_cons_zero, List.set_cons_succ])
    refine takeH (i := 1) (v := ?_) rfl (by kernel_rfl) (by kernel_rfl) (by kernel_rfl) (fun _ _ _ h => h) (Or.inl ⟨by rfl, ?_⟩) (by assumption) ?_
    rotate_left
    · (intro w hSw; (try dsimp only at hSw); obtain ⟨⟨d0, d1, d2, d3, d4, d5, d6⟩, _⟩ := row7_atF (below_block HX3.out hSw); go_simp; first | done | with_reducible rfl)
    (try simp only [Act.put, List.setIfInBounds_toArray, List.set_cons_zero, List.set_cons_succ])
    refine takeH (i := 6) (v := ?_) rfl (by kernel_rfl) (by kernel_rfl) (by kernel_rfl) (fun _ _ _ h => h) (Or.inl ⟨by rfl, ?_⟩) (by assumption) ?_
    rotate_left
    · (intro w hSw; (try dsimp only at hSw); obtain ⟨⟨d0, d1, d2, d3, d4, d5, d6⟩, _⟩ := row7_atF (below_block HX3.out hSw); go_simp; first | done | with_reducible rfl)
    (try simp only [Act.put, List.setIfInBounds_toArray, List.set_cons_zero, List.set_cons_succ])
    refine wpAnyH_ready (rs := [2]) (by kernel_rfl) (by simp) ?_
    refine stepH rfl (fun K hK => ?_) AllReadyH.nil
    go_simp
    refine (HS.out wa).mono ?_
    rintro e wb ⟨S, rfl, ⟨hS, hSz⟩, hq⟩
    have HIS := Lib.hid hS
    clear hS
    have z1 : ¬ (9223372036854775807 < 5 + S.size) := by omega
    have z2 : ¬ (9223372036854775807 < 5 + S.size + 8) := by omega
    have hb := bnext ha hq
    go_wp2_with fail
    refine hK.out _ _ (hb) (fun _ => ?_)
    clear hK K
    (try simp only [Act.put, List.setIfInBounds_toArray, List.set_cons_zero, List.set_cons_succ])
    refine takeH (i := 3) (v := ?_) rfl (by kernel_rfl) (by kernel_rfl) (by kernel_rfl) (fun _ _ _ h => h) (Or.inl ⟨by rfl, ?_⟩) (by assumption) ?_
    rotate_left
    · (intro w hSw; (try dsimp only at hSw); go_simp; first | done | with_reducible rfl)
    (try simp only [Act.put, List.setIfInBounds_toArray, List.set_cons_zero, List.set_cons_succ])
    refine takeH (i := 4) (v := ?_) rfl (by kernel_rfl) (by kernel_rfl) (by kernel_rfl) (fun _ _ _ h => h) (Or.inl ⟨by rfl, ?_⟩) (by assumption) ?_
    rotate_left
    · (intro w hSw; (try dsimp only at hSw); go_simp; first | done | with_reducible rfl)
    (try simp only [Act.put, List.setIfInBounds_toArray, List.set_cons_zero, List.set_cons_succ])
    refine wpAnyH_ready (rs := [7]) (by kernel_rfl) (by simp) ?_
    refine stepH rfl (fun K hK => ?_) AllReadyH.nil
    go_simp
    refine (HT.out wb).mono ?_
    rintro e wc ⟨T, rfl, ⟨hT, hTz⟩, hq⟩
    have HIT := Lib.hid hT
    clear hT
    have z3 : ¬ (9223372036854775807 < 5 + S.size + 8 + T.size) := by omega
    have hc := bnext hb hq
    go_wp2_with fail
    refine hK.out _ _ (hc) (fun _ => ?_)
    clear hK K
    (try simp only [Act.put, List.setIfInBounds_toArray, List.set_cons_zero, List.set_cons_succ])
    refine takeH (i := 8) (v := ?_) rfl (by kernel_rfl) (by kernel_rfl) (by kernel_rfl) (fun _ _ _ h => h) (Or.inl ⟨by rfl, ?_⟩) (by assumption) ?_
    rotate_left
    · (intro w hSw; (try dsimp only at hSw); go_simp; first | done | with_reducible rfl)
    (try simp only [Act.put, List.setIfInBounds_toArray, List.set_cons_zero, List.set_cons_succ])
    refine takeH (i := 9) (v := ?_) rfl (by kernel_rfl) (by kernel_rfl) (by kernel_rfl) (fun _ _ _ h => h) (Or.inl ⟨by rfl, ?_⟩) (by assumption) ?_
    rotate_left
    · (intro w hSw; (try dsimp only at hSw); go_simp; first | done | with_reducible rfl)
    (try simp only [Act.put, List.setIfInBounds_toArray])
    refine wpAnyH_done (by kernel_rfl) ?_ _
    have HFB := Lib.hid (bnext HB3.out hc)
    clear ha hb hc
    go_wp2
    go_ret
    exact ⟨_, rfl, by rw [HF.out]; simp [DM.sJoin, DM.sWeight, HIS.out, HIT.out], HFB.out⟩
  · clear HB HC HA HK HT
    go_wp2_with fail
    refine (HS.out _).mono ?_
    rintro e w4 ⟨S, rfl, ⟨hS, hz⟩, hb4⟩
    have HIS := Lib.hid hS
    clear hS
    go_wp2
    go_ret
    exact ⟨_, rfl, by rw [HF.out]; simp [DM.sRemove, HIS.out], bnext HB3.out hb4⟩
  · clear HB HC HA HK
    go_wp2_with fail
    refine wp_region_held_drew (S := fun w' => Below w3.heap.size w3 w') (by kernel_rfl) ((Below.refl _ _).drew) (fun ha => ?_)
    replace ha : Below w3.heap.size w3 w3.drew := (Below.refl _ _).drew
    generalize w3.drew = wa at ha ⊢
    refine takeH (i := 0) (v := ?_) rfl (by kernel_rfl) (by kernel_rfl) (by kernel_rfl) (fun _ _ _ h => h) (Or.inl ⟨by rfl, ?_⟩) (by assumption) ?_
    rotate_left
    · (intro w hSw; (try dsimp only at hSw); go_simp; first | done | with_reducible rfl)
    (try simp only [Act.put, List.setIfInBounds_toArray, List.set_cons_zero, List.set_cons_succ])
    refine takeH (i := 5) (v := ?_) rfl (by kernel_rfl) (by kernel_rfl) (by kernel_rfl) (fun _ _ _ h => h) (Or.inl ⟨by rfl, ?_⟩) (by assumption) ?_
    rotate_left
    · (intro w hSw; (try dsimp only at hSw); go_simp; first | done | with_reducible rfl)
    (try simp only [Act.put, List.setIfInBounds_toArray, List.set_cons_zero, List.set_cons_succ])
    refine takeH (i := 1) (v := ?_) rfl (by kernel_rfl) (by kernel_rfl) (by kernel_rfl) (fun _ _ _ h => h) (Or.inl ⟨by rfl, ?_⟩) (by assumption) ?_
    rotate_left
    · (intro w hSw; (try dsimp only at hSw); obtain ⟨⟨d0, d1, d2, d3, d4, d5, d6⟩, _⟩ := row7_atF (below_block HX3.out hSw); go_simp; first | done | with_reducible rfl)
    (try simp only [Act.put, List.setIfInBounds_toArray, List.set_cons_zero, List.set_cons_succ])
    refine takeH (i := 6) (v := ?_) rfl (by kernel_rfl) (by kernel_rfl) (by kernel_rfl) (fun _ _ _ h => h) (Or.inl ⟨by rfl, ?_⟩) (by assumption) ?_
    rotate_left
    · (intro w hSw; (try dsimp only at hSw); obtain ⟨⟨d0, d1, d2, d3, d4, d5, d6⟩, _⟩ := row7_atF (below_block HX3.out hSw); go_simp; first | done | with_reducible rfl)
    (try simp only [Act.put, List.setIfInBounds_toArray, List.set_cons_zero, List.set_cons_succ])
    refine wpAnyH_ready (rs := [2]) (by kernel_rfl) (by simp) ?_
    refine stepH rfl (fun K hK => ?_) AllReadyH.nil
    go_simp
    refine (HS.out wa).mono ?_
    rintro e wb ⟨S, rfl, ⟨hS, hSz⟩, hq⟩
    have HIS := Lib.hid hS
    clear hS
    have z1 : ¬ (9223372036854775807 < 7 + S.size) := by omega
    have z2 : ¬ (9223372036854775807 < 7 + S.size + 1) := by omega
    have hb := bnext ha hq
    go_wp2_with fail
    refine hK.out _ _ (hb) (fun _ => ?_)
    clear hK K
    (try simp only [Act.put, List.setIfInBounds_toArray, List.set_cons_zero, List.set_cons_succ])
    refine takeH (i := 3) (v := ?_) rfl (by kernel_rfl) (by kernel_rfl) (by kernel_rfl) (fun _ _ _ h => h) (Or.inl ⟨by rfl, ?_⟩) (by assumption) ?_
    rotate_left
    · (intro w hSw; (try dsimp only at hSw); go_simp; first | done | with_reducible rfl)
    (try simp only [Act.put, List.setIfInBounds_toArray, List.set_cons_zero, List.set_cons_succ])
    refine takeH (i := 4) (v := ?_) rfl (by kernel_rfl) (by kernel_rfl) (by kernel_rfl) (fun _ _ _ h => h) (Or.inl ⟨by rfl, ?_⟩) (by assumption) ?_
    rotate_left
    · (intro w hSw; (try dsimp only at hSw); go_simp; first | done | with_reducible rfl)
    (try simp only [Act.put, List.setIfInBounds_toArray, List.set_cons_zero, List.set_cons_succ])
    refine wpAnyH_ready (rs := [7]) (by kernel_rfl) (by simp) ?_
    refine stepH rfl (fun K hK => ?_) AllReadyH.nil
    go_simp
    refine (HT.out wb).mono ?_
    rintro e wc ⟨T, rfl, ⟨hT, hTz⟩, hq⟩
    have HIT := Lib.hid hT
    clear hT
    have z3 : ¬ (9223372036854775807 < 7 + S.size + 1 + T.size) := by omega
    have hc := bnext hb hq
    go_wp2_with fail
    refine hK.out _ _ (hc) (fun _ => ?_)
    clear hK K
    (try simp only [Act.put, List.setIfInBounds_toArray, List.set_cons_zero, List.set_cons_succ])
    refine takeH (i := 8) (v := ?_) rfl (by kernel_rfl) (by kernel_rfl) (by kernel_rfl) (fun _ _ _ h => h) (Or.inl ⟨by rfl, ?_⟩) (by assumption) ?_
    rotate_left
    · (intro w hSw; (try dsimp only at hSw); go_simp; first | done | with_reducible rfl)
    (try simp only [Act.put, List.setIfInBounds_toArray, List.set_cons_zero, List.set_cons_succ])
    refine takeH (i := 9) (v := ?_) rfl (by kernel_rfl) (by kernel_rfl) (by kernel_rfl) (fun _ _ _ h => h) (Or.inl ⟨by rfl, ?_⟩) (by assumption) ?_
    rotate_left
    · (intro w hSw; (try dsimp only at hSw); go_simp; first | done | with_reducible rfl)
    (try simp only [Act.put, List.setIfInBounds_toArray])
    refine wpAnyH_done (by kernel_rfl) ?_ _
    have HFB := Lib.hid (bnext HB3.out hc)
    clear ha hb hc
    go_wp2
    go_ret
    exact ⟨_, rfl, by rw [HF.out]; simp [DM.sWeight, HIS.out, HIT.out], HFB.out⟩
  · have h44 : (4 : Int) = 4 := rfl
    have HB4 := Lib.hid (fun w' => HB.out (by first | rfl | trivial) w')
    have HC4 := Lib.hid (fun w' => HC.out (by first | rfl | trivial) w')
    have HA4 := HA.out (by first | rfl | trivial)
    clear HB HC HA HK HS HT h44
    rcases HA4 with rfl | rfl | rfl | rfl
    · go_wp2
      go_ret
      exact ⟨_, rfl, by rw [HF.out]; rfl, HB3.out⟩
    · go_wp2
      go_ret
      exact ⟨_, rfl, by rw [HF.out]; rfl, HB3.out⟩
    · go_wp2_with fail
      refine (HB4.out _).mono ?_
      rintro e w4 ⟨S, rfl, ⟨hS, hz⟩, hb4⟩
      have HIS := Lib.hid hS
      clear hS
      go_wp2
      go_ret
      exact ⟨_, rfl, by rw [HF.out]; simp [DM.fmtR, DM.sRule, DM.sGrid, HIS.out], bnext HB3.out hb4⟩
    · go_wp2_with fail
      refine (HC4.out _).mono ?_
      rintro e w4 ⟨S, rfl, ⟨hS, hz⟩, hb4⟩
      have HIS := Lib.hid hS
      clear hS
      go_wp2
      go_ret
      exact ⟨_, rfl, by rw [HF.out]; simp [DM.fmtR, DM.sRule, DM.sMask, HIS.out], bnext HB3.out hb4⟩

end Go.Proofs.YteiicflodobpnaaDoor
