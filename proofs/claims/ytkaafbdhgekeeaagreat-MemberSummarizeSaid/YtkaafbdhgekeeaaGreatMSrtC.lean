/-
  The comparison that Of sorts by: by server, then the later version first; behind it lie draws and blocks of its own alone. No conditions.
-/
import Derived.Test.YtkaafbdhgekeeaaGreatMFun
import Derived.Deep.RegionHeld3
import Derived.Sort.Grow
namespace Go.Proofs.YtkaafbdhgekeeaaGreat
open Go.RowKit
open MM (Mem Ent Sm Tri)

/-- Behind w there are draws and new blocks alone. -/
def Gn (w w' : World) : Prop := ∃ q os, w' = Go.Sort.grow (w.drewN q) os
theorem Gn.refl (w : World) : Gn w w := ⟨0, #[], by simp [World.drewN]⟩
theorem Gn.trans {a b c : World} (h : Gn a b) (k : Gn b c) : Gn a c := by
  obtain ⟨q, os, rfl⟩ := h
  obtain ⟨q', os', rfl⟩ := k
  refine ⟨q + q', os ++ os', ?_⟩
  simp [Go.Sort.grow, World.drewN, Array.append_assoc, Nat.add_assoc]
theorem Gn.alloc (w : World) (o : Obj) : Gn w (w.alloc o) := ⟨0, #[o], by rw [Go.Sort.alloc_eq_grow]; simp [World.drewN]⟩
theorem Gn.drew (w : World) : Gn w w.drew := ⟨1, #[], by rw [Go.Sort.grow_empty]; rfl⟩
theorem Gn.below {w w' : World} (h : Gn w w') : Below w.heap.size w w' := by
  obtain ⟨q, os, rfl⟩ := h
  exact ⟨rfl, rfl, rfl, by simp [Go.Sort.grow, World.drewN], fun k hk => by simp [Go.Sort.grow, World.drewN, Array.getElem?_append, hk]⟩
set_option maxRecDepth 100000 in
set_option maxHeartbeats 1000000 in
theorem cCmpSrvG (s t v a n s' t' v' a' n' : Int) (w : World) : Calls Tryz.prog 49 #[wv s t v a n, wv s' t' v' a' n'] w fun e w' => e = .returned (.int .i64 (cmpI s s')) ∧ Gn w w' := by
  have H1 := Lib.hid (cCmp s s')
  generalize cmpI s s' = X at H1
  go_enter Tryz.func49, Tryz.ntmps49
  go_wp2_with fail
  refine (H1.out _).mono ?_
  rintro e w4 ⟨rfl, rfl⟩
  go_wp2
  go_ret
  exact ⟨rfl, (Gn.alloc _ _).trans (Gn.alloc _ _)⟩
/-- By server, then the later version first. -/
def cfW (x y : Ent) : Int := orL [cmpI x.1 y.1, cmpI y.2.2.1 x.2.2.1]
set_option maxRecDepth 100000 in
set_option maxHeartbeats 2000000 in
theorem cSortCmp (s t v a n s' t' v' a' n' : Int) (w : World) : Calls Tryz.prog 47 #[wv s t v a n, wv s' t' v' a' n'] w fun e w' => e = .returned (.int .i64 (cfW (s, t, v, a, n) (s', t', v', a', n'))) ∧ Gn w w' := by
  obtain ⟨w1, hw1, hB, hsz, ⟨p0, p1, p2, p3, p4⟩, q0, q1, q2, q3, q4⟩ := two_boxes w 62 s t v a n s' t' v' a' n'
  have hG : Gn w w1 := by rw [← hw1]; exact (Gn.alloc _ _).trans (Gn.alloc _ _)
  have HW := Lib.hid hw1
  have HG := Lib.hid hG
  have HP := Lib.hid (And.intro p0 (And.intro p1 (And.intro p2 (And.intro p3 p4))))
  have HQ := Lib.hid (And.intro q0 (And.intro q1 (And.intro q2 (And.intro q3 q4))))
  have H1 := Lib.hid (fun w => cCmpSrvG s t v a n s' t' v' a' n' w)
  have H2 := Lib.hid (fun w => cCmp v' v w)
  have HO := Lib.hid (fun z xs w (h : RdI w z xs) => cOrI z xs w h)
  obtain ⟨R, hR⟩ : ∃ R, R = cfW (s, t, v, a, n) (s', t', v', a', n') := ⟨_, rfl⟩
  rw [← hR]
  have HR := Lib.hid (show R = orL [cmpI s s', cmpI v' v] from hR)
  clear hR hw1 hB hsz hG p0 p1 p2 p3 p4 q0 q1 q2 q3 q4
  generalize cmpI s s' = X at H1 HR
  generalize cmpI v' v = Y at H2 HR
  go_enter Tryz.func47, Tryz.ntmps47
  go_wp2
  rw [HW.out]
  refine wp_region_held_drew (S := fun w' => Gn w1 w') (by kernel_rfl) (Gn.drew _) (fun ha => ?_)
  replace ha : Gn w1 w1.drew := Gn.drew _
  generalize w1.drew = wa at ha ⊢
  refine takeH (i := 3) (v := ?_) rfl (by kernel_rfl) (by kernel_rfl) (by kernel_rfl) (fun _ _ _ h => h) (Or.inl ⟨by rfl, ?_⟩) (by assumption) ?_
  rotate_left
  · (intro w hSw; (try dsimp only at hSw); go_simp; first | done | with_reducible rfl)
  (try simp only [Act.put, List.setIfInBounds_toArray, List.set_cons_zero, List.set_cons_succ])
  refine takeH (i := 5) (v := ?_) rfl (by kernel_rfl) (by kernel_rfl) (by kernel_rfl) (fun _ _ _ h => h) (Or.inl ⟨by rfl, ?_⟩) (by assumption) ?_
  rotate_left
  · (intro w hSw; (try dsimp only at hSw); go_simp; first | done | with_reducible rfl)
  (try simp only [Act.put, List.setIfInBounds_toArray, List.set_cons_zero, List.set_cons_succ])
  refine takeH (i := 0) (v := ?_) rfl (by kernel_rfl) (by kernel_rfl) (by kernel_rfl) (fun _ _ _ h => h) (Or.inl ⟨by rfl, ?_⟩) (by assumption) ?_
  rotate_left
  · (intro w hSw; (try dsimp only at hSw); obtain ⟨p0, p1, p2, p3, p4⟩ := HP.out ; replace p0 := below_cell (Gn.below hSw) p0 ; replace p1 := below_cell (Gn.below hSw) p1 ; replace p2 := below_cell (Gn.below hSw) p2 ; replace p3 := below_cell (Gn.below hSw) p3 ; replace p4 := below_cell (Gn.below hSw) p4; go_simp; first | done | with_reducible rfl)
  (try simp only [Act.put, List.setIfInBounds_toArray, List.set_cons_zero, List.set_cons_succ])
  refine takeH (i := 1) (v := ?_) rfl (by kernel_rfl) (by kernel_rfl) (by kernel_rfl) (fun _ _ _ h => h) (Or.inl ⟨by rfl, ?_⟩) (by assumption) ?_
  rotate_left
  · (intro w hSw; (try dsimp only at hSw); obtain ⟨p0, p1, p2, p3, p4⟩ := HQ.out ; replace p0 := below_cell (Gn.below hSw) p0 ; replace p1 := below_cell (Gn.below hSw) p1 ; replace p2 := below_cell (Gn.below hSw) p2 ; replace p3 := below_cell (Gn.below hSw) p3 ; replace p4 := below_cell (Gn.below hSw) p4; go_simp; first | done | with_reducible rfl)
  (try simp only [Act.put, List.setIfInBounds_toArray, List.set_cons_zero, List.set_cons_succ])
  refine takeH (i := 4) (v := ?_) rfl (by kernel_rfl) (by kernel_rfl) (by kernel_rfl) (fun _ _ _ h => h) (Or.inl ⟨by rfl, ?_⟩) (by assumption) ?_
  rotate_left
  · (intro w hSw; (try dsimp only at hSw); obtain ⟨p0, p1, p2, p3, p4⟩ := HQ.out ; replace p2 := below_cell (Gn.below hSw) p2; go_simp; first | done | with_reducible rfl)
  (try simp only [Act.put, List.setIfInBounds_toArray, List.set_cons_zero, List.set_cons_succ])
  refine takeH (i := 6) (v := ?_) rfl (by kernel_rfl) (by kernel_rfl) (by kernel_rfl) (fun _ _ _ h => h) (Or.inl ⟨by rfl, ?_⟩) (by assumption) ?_
  rotate_left
  · (intro w hSw; (try dsimp only at hSw); obtain ⟨p0, p1, p2, p3, p4⟩ := HP.out ; replace p2 := below_cell (Gn.below hSw) p2; go_simp; first | done | with_reducible rfl)
  (try simp only [Act.put, List.setIfInBounds_toArray, List.set_cons_zero, List.set_cons_succ])
  refine wpAnyH_ready (rs := [2]) (by kernel_rfl) (by simp) ?_
  refine stepH rfl (fun K hK => ?_) AllReadyH.nil
  go_simp
  refine (H1.out wa).mono ?_
  rintro e wb ⟨rfl, hq⟩
  have hb := ha.trans hq
  go_wp2_with fail
  refine hK.out _ _ (hb) (fun _ => ?_)
  clear hK K
  (try simp only [Act.put, List.setIfInBounds_toArray, List.set_cons_zero, List.set_cons_succ])
  refine wpAnyH_ready (rs := [7]) (by kernel_rfl) (by simp) ?_
  refine stepH rfl (fun K hK => ?_) AllReadyH.nil
  go_simp
  refine (H2.out wb).mono ?_
  rintro e wc ⟨rfl, rfl⟩
  go_wp2_with fail
  refine hK.out _ _ (hb) (fun _ => ?_)
  clear hK K
  (try simp only [Act.put, List.setIfInBounds_toArray, List.set_cons_zero, List.set_cons_succ])
  have hrd := rd2 wc X Y
  refine wpAnyH_ready (rs := [8]) (by kernel_rfl) (by simp) ?_
  refine stepH rfl (fun K hK => ?_) AllReadyH.nil
  go_simp
  have hc := hb.trans (Gn.alloc wc (.cells #[.int .i64 X, .int .i64 Y] 3))
  refine hK.out _ _ (hc) (fun _ => ?_)
  clear hK K
  (try simp only [Act.put, List.setIfInBounds_toArray, List.set_cons_zero, List.set_cons_succ])
  generalize wc.alloc (.cells #[.int .i64 X, .int .i64 Y] 3) = wd at hc hrd ⊢
  refine wpAnyH_ready (rs := [9]) (by kernel_rfl) (by simp) ?_
  refine stepH rfl (fun K hK => ?_) AllReadyH.nil
  go_simp
  refine (HO.out _ _ wd hrd).mono ?_
  rintro e we ⟨rfl, rfl⟩
  go_wp2_with fail
  refine hK.out _ _ (hc) (fun _ => ?_)
  clear hK K
  (try simp only [Act.put, List.setIfInBounds_toArray, List.set_cons_zero, List.set_cons_succ])
  refine takeH (i := 10) (v := ?_) rfl (by kernel_rfl) (by kernel_rfl) (by kernel_rfl) (fun _ _ _ h => h) (Or.inl ⟨by rfl, ?_⟩) (by assumption) ?_
  rotate_left
  · (intro w hSw; (try dsimp only at hSw); go_simp; first | done | with_reducible rfl)
  (try simp only [Act.put, List.setIfInBounds_toArray, List.set_cons_zero, List.set_cons_succ])
  refine wpAnyH_done (by kernel_rfl) ?_ _
  have HF := Lib.hid (HG.out.trans hc)
  go_wp2
  go_ret
  rw [HR.out]
  exact ⟨rfl, HF.out⟩

set_option maxRecDepth 100000 in
set_option maxHeartbeats 4000000 in
/-- The bits of a number up to 12. -/
theorem cBitsLen (n : Nat) (w : World) (h : n ≤ 12) : Calls Tryz.prog 76 #[.int .u64 n] w fun e w' => (∃ l : Int, e = .returned (.int .i64 l)) ∧ w' = w := by
  have hL : ∀ w, Calls Tryz.prog 90 #[.int .u64 n] w fun e w' => (∃ l : Int, e = .returned (.int .i64 l)) ∧ w' = w := by
    intro w
    have hc : n = 0 ∨ n = 1 ∨ n = 2 ∨ n = 3 ∨ n = 4 ∨ n = 5 ∨ n = 6 ∨ n = 7 ∨ n = 8 ∨ n = 9 ∨ n = 10 ∨ n = 11 ∨ n = 12 := by omega
    rcases hc with rfl | rfl | rfl | rfl | rfl | rfl | rfl | rfl | rfl | rfl | rfl | rfl | rfl
    all_goals
      go_enter Tryz.func90, Tryz.ntmps90
      go_wp2
      go_ret
      exact ⟨⟨_, rfl⟩, rfl⟩
  have H := Lib.hid hL
  clear hL
  go_enter Tryz.func76, Tryz.ntmps76
  go_wp2_with fail
  refine (H.out _).mono ?_
  rintro e w1 ⟨⟨l, rfl⟩, rfl⟩
  go_wp2
  go_ret
  exact ⟨⟨_, rfl⟩, rfl⟩

end Go.Proofs.YtkaafbdhgekeeaaGreat
