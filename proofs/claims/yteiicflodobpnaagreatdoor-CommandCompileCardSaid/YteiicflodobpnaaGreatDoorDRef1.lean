/-
  The call of the reference's versioned: a change with version 1, if its kind has versions and it has version 0. No conditions.
-/
import Derived.Test.YteiicflodobpnaaGreatDoorDPrs
namespace Go.Proofs.YteiicflodobpnaaGreatDoor
open Go.RowKit Go.Joins Go.Shelf
open JM (Chg)

theorem rvr_ret {R : Ending → World → Prop} {a : Act} {w : World} {g : Nat} {k s t v x y z : Int} (hp : a.tmps.getD 2 undef = .pointer (some ⟨g, 0, none⟩)) (hg : w.heap[g]? = some (cBox k s t v x y z))
    (hd : a.defers = []) (hR : R (.returned (cv k s t v x y z)) w) : bodyPost Tryz.prog Tryz.f50 R .ret a w :=
  bodyPost_ret (results_cell_row (P := Tryz.prog) rfl a.tmps w g 52 _ _ _ hp hg Tryz.underlying52 rfl (by kernel_rfl)) hd hR
theorem vr_boxes (w : World) (k s t v a b c : Int) : ∃ w2, (w.alloc (cBox k s t v a b c)).alloc (cBox 0 0 0 0 0 0 0) = w2 ∧ Below w.heap.size w w2 ∧ w2.heap[w.heap.size]? = some (cBox k s t v a b c) ∧ w2.heap[w.heap.size + 1]? = some (cBox 0 0 0 0 0 0 0) := by
  have b1 := below_fresh w (cBox k s t v a b c)
  have h1 := heap_alloc_new w (cBox k s t v a b c)
  have e1 := World.size_alloc w (cBox k s t v a b c)
  generalize w.alloc (cBox k s t v a b c) = w1 at *
  have b2 := below_fresh w1 (cBox 0 0 0 0 0 0 0)
  have h2 := heap_alloc_new w1 (cBox 0 0 0 0 0 0 0)
  rw [e1] at h2
  exact ⟨_, rfl, bnext b1 b2, below_block h1 b2, h2⟩
set_option maxRecDepth 100000 in
set_option maxHeartbeats 1000000 in
theorem rVersioned (k s t v a b c : Int) (w : World) : Calls Tryz.prog 50 #[cv k s t v a b c] w fun e w' => e = .returned (cvT (DM.ver (k, s, t, v, a, b, c))) ∧ Below w.heap.size w w' := by
  obtain ⟨w2, hw, hb, hx, hr⟩ := vr_boxes w k s t v a b c
  have HB := Lib.hid hb
  have HX := Lib.hid hx
  have HR := Lib.hid hr
  have HW := Lib.hid hw
  obtain ⟨⟨c0, c1, c2, c3, c4, c5, c6⟩, f0, f1, f2, f3, f4, f5, f6⟩ := row7_atF hx
  obtain ⟨⟨r0, r1, r2, r3, r4, r5, r6⟩, g0, g1, g2, g3, g4, g5, g6⟩ := row7_atF hr
  clear hb hx hr hw
  by_cases hs : v = 0 ∧ (k = 3 ∨ k = 4)
  case neg =>
    have HV := Lib.hid (show DM.ver (k, s, t, v, a, b, c) = (k, s, t, v, a, b, c) by show (k, s, t, (if v = 0 ∧ (k = 3 ∨ k = 4) then (1 : Int) else v), a, b, c) = _; rw [if_neg hs])
    have hput := row7_putO HR.out (.int .i64 k) (.int .i64 s) (.int .i64 t) (.int .i64 v) (.int .i64 a) (.int .i64 b) (.int .i64 c)
    have HP := Lib.hid hput
    clear hput
    by_cases h3 : k = 3
    · have hv : (v == 0) = false := by simp; intro e; exact hs ⟨e, .inl h3⟩
      have hk : (k == 3) = true := by simp [h3]
      clear h3 hs
      go_enter Tryz.func50, Tryz.ntmps50
      go_upto_region 1 with fail
      rw [HW.out]
      go_wp2
      refine rvr_ret rfl HP.out.1 rfl ⟨by rw [HV.out]; rfl, HB.out.trans (HP.out.2.below (Nat.le_succ _) HB.out.size)⟩
    · have hk : (k == 3) = false := by simpa using h3
      by_cases h4 : k = 4
      · have hv : (v == 0) = false := by simp; intro e; exact hs ⟨e, .inr h4⟩
        have hk4 : (k == 4) = true := by simp [h4]
        clear h3 h4 hs
        go_enter Tryz.func50, Tryz.ntmps50
        go_upto_region 1 with fail
        rw [HW.out]
        go_wp2
        refine rvr_ret rfl HP.out.1 rfl ⟨by rw [HV.out]; rfl, HB.out.trans (HP.out.2.below (Nat.le_succ _) HB.out.size)⟩
      · have hk4 : (k == 4) = false := by simpa using h4
        clear h3 h4 hs
        go_enter Tryz.func50, Tryz.ntmps50
        go_upto_region 1 with fail
        rw [HW.out]
        go_wp2
        refine rvr_ret rfl HP.out.1 rfl ⟨by rw [HV.out]; rfl, HB.out.trans (HP.out.2.below (Nat.le_succ _) HB.out.size)⟩
  obtain ⟨rfl, hk⟩ := hs
  have HV := Lib.hid (show DM.ver (k, s, t, 0, a, b, c) = (k, s, t, 1, a, b, c) by show (k, s, t, (if (0 : Int) = 0 ∧ (k = 3 ∨ k = 4) then (1 : Int) else 0), a, b, c) = _; rw [if_pos ⟨rfl, hk⟩])
  have HX3 := Lib.hid (show (w2.setCell ⟨w.heap.size, 3, none⟩ (.int .i64 1)).heap[w.heap.size]? = some (cBox k s t 1 a b c) from heap_setCell_same w2 w.heap.size 3 _ _ (.int .i64 1) HX.out)
  have HR3 := Lib.hid (show (w2.setCell ⟨w.heap.size, 3, none⟩ (.int .i64 1)).heap[w.heap.size + 1]? = some (cBox 0 0 0 0 0 0 0) from (heap_setCell_other _ _ _ _ (show w.heap.size + 1 ≠ w.heap.size by omega)).trans HR.out)
  have HB3 := Lib.hid (HB.out.setCell (p := ⟨w.heap.size, 3, none⟩) (Nat.le_refl _) (.int .i64 1))
  have hput := row7_putO HR3.out (.int .i64 k) (.int .i64 s) (.int .i64 t) (.int .i64 1) (.int .i64 a) (.int .i64 b) (.int .i64 c)
  have HP := Lib.hid hput
  clear hput
  obtain ⟨⟨d0, d1, d2, d3, d4, d5, d6⟩, _⟩ := row7_atF HX3.out
  obtain ⟨⟨e0, e1, e2, e3, e4, e5, e6⟩, h0, h1, h2, h3, h4, h5, h6⟩ := row7_atF HR3.out
  rcases hk with rfl | rfl
  all_goals
    go_enter Tryz.func50, Tryz.ntmps50
    go_upto_region 1 with fail
    rw [HW.out]
    go_wp2
    refine rvr_ret rfl HP.out.1 rfl ⟨by rw [HV.out]; rfl, HB3.out.trans (HP.out.2.below (Nat.le_succ _) HB3.out.size)⟩

end Go.Proofs.YteiicflodobpnaaGreatDoor
