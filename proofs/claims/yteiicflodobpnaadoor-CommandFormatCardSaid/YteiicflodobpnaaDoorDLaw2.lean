/-
  The law CommandFormat: true. Conditions: the library's variables hold what they are laid with.
-/
import Derived.Test.YteiicflodobpnaaDoorDRFmt
import Derived.Test.YteiicflodobpnaaDoorDFmtM
import Derived.Test.YteiicflodobpnaaDoorDComp
import Derived.Test.YteiicflodobpnaaDoorDAwk
namespace Go.Proofs.YteiicflodobpnaaDoor
open Go.RowKit Go.Joins Go.Shelf
open JM (Chg)

theorem fmt_len {k s t v a b c : Int} (h : JM.errCh (DM.ver (k, s, t, v, a, b, c)) = 0) : 0 < (DM.fmt (k, s, t, v, a, b, c)).length ∧ (DM.fmt (k, s, t, v, a, b, c)).length ≤ 100 := by
  obtain ⟨hk, s0, s1, t0, t1, hr⟩ := DM.bounds h
  rw [fmt_eq h]
  have hs := itoa_len s0 (by omega)
  have ht := itoa_len t0 (by omega)
  rcases hk with rfl | rfl | rfl | rfl
  · rw [if_pos rfl]; simp [DM.sJoin, DM.sWeight]; omega
  · rw [if_neg (by decide), if_pos rfl]; simp [DM.sRemove]; omega
  · rw [if_neg (by decide), if_neg (by decide), if_pos rfl]; simp [DM.sWeight]; omega
  · rw [if_neg (by decide), if_neg (by decide), if_neg (by decide)]
    obtain ⟨_, b0, b1, c0, c1⟩ := hr rfl
    have hb := itoa_len b0 (by omega)
    have hc := itoa_len c0 (by omega)
    unfold DM.fmtR
    split
    · simp [DM.sRule, DM.sMaj]
    split
    · simp [DM.sRule, DM.sWtd]
    split
    · simp [DM.sRule, DM.sGrid]; omega
    · simp [DM.sRule, DM.sMask]; omega

set_option maxRecDepth 100000 in
set_option maxHeartbeats 4000000 in
theorem lFormat0 (k s t v a b c : Int) (w : World) (hV : Vars w)
    (hA : ∀ w', Below w.heap.size w w' → Calls Tryd.prog 6 #[] w' fun e w'' => e = .returned (.bool true) ∧ Below w'.heap.size w' w'') :
    Calls Tryd.prog 4 #[cv k s t v a b c] w fun e w' => e = .returned (.bool true) ∧ Below w.heap.size w w' := by
  have HA := Lib.hid hA
  have HVR := Lib.hid hV
  clear hA
  have hb0 := below_fresh w (cBox k s t v a b c)
  have hx := heap_alloc_new w (cBox k s t v a b c)
  obtain ⟨w1, hw1⟩ : ∃ w1, w.alloc (cBox k s t v a b c) = w1 := ⟨_, rfl⟩
  rw [hw1] at hb0 hx
  have HB0 := Lib.hid hb0
  have HW := Lib.hid hw1
  have HX := Lib.hid hx
  have HF := Lib.hid (cFormat k s t v a b c w1 (hV.below hb0))
  have HG := Lib.hid (fun w' => rFormat k s t v a b c w')
  obtain ⟨⟨c0, c1, c2, c3, c4, c5, c6⟩, _⟩ := row7_atF hx
  obtain ⟨L, hL⟩ : ∃ L, L = DM.fmt (k, s, t, v, a, b, c) := ⟨_, rfl⟩
  rw [← hL] at HF HG
  by_cases he : JM.errCh (DM.ver (k, s, t, v, a, b, c)) = 0
  case neg =>
    have hl : L = [] := by rw [hL]; exact fmt_bad he
    clear hb0 hw1 hx hV he hL
    go_enter Tryd.func4, Tryd.ntmps4
    go_upto_region 1 with fail
    rw [HW.out]
    go_wp2_with fail
    refine HF.out.mono ?_
    rintro e w2 ⟨S, rfl, hS, hb2⟩
    obtain ⟨⟨d0, d1, d2, d3, d4, d5, d6⟩, _⟩ := row7_atF (below_block HX.out hb2)
    have HS := Lib.hid hS
    have HB2 := Lib.hid (bnext HB0.out hb2)
    clear hS hb2 c0 c1 c2 c3 c4 c5 c6 HX HW HF
    go_wp2_with fail
    refine (HG.out _).mono ?_
    rintro e w3 ⟨T, rfl, hT, hb3⟩
    obtain rfl : S = T := str_of (HS.out.trans hT.symm)
    have h1 : (S.toList != S.toList) = false := by simp
    have h2 : S.toList.isEmpty = true := by rw [ByteArray.toList_eq, hT, hl]; rfl
    have HB3 := Lib.hid (bnext HB2.out hb3)
    clear hT hb3 hl
    go_wp2_with fail
    refine (HA.out _ HB3.out).mono ?_
    rintro e w4 ⟨rfl, hb4⟩
    go_wp2
    go_ret
    exact ⟨rfl, bnext HB3.out hb4⟩
  have hlen := fmt_len he
  have hP := DM.prs_fmt he
  have hZ := DM.fmt_zero he
  rw [← hL] at hlen hP hZ
  have HP := Lib.hid (fun (S : ByteArray) (hS : S.data.toList = L) w' (hb : Below w.heap.size w w') => by
    have hz : S.size ≤ 1000000 := by
      have h1 : S.data.toList.length = S.size := by simp
      rw [hS] at h1
      omega
    have := cParse S w' hz (HVR.out.below hb)
    unfold Ppost at this
    rw [hS, hP] at this
    exact (show Calls Tryd.prog 7 #[.string S] w' fun e w'' => e = .returned (.tuple #[cv k s t 0 a b c, .int .i64 0]) ∧ Below w'.heap.size w' w'' from this))
  have HF2 := Lib.hid (fun w' (hb : Below w.heap.size w w') => by
    have := cFormat k s t 0 a b c w' (HVR.out.below hb)
    rw [hZ] at this
    exact this)
  have HE := Lib.hid (show ∀ S : ByteArray, S.data.toList = L → S.toList.isEmpty = false from fun S hS => by
    rw [ByteArray.toList_eq, hS]
    cases hl2 : L with
    | nil => rw [hl2] at hlen; simp at hlen
    | cons x y => rfl)
  clear hb0 hw1 hx hV he hL hlen hP hZ
  go_enter Tryd.func4, Tryd.ntmps4
  go_upto_region 1 with fail
  rw [HW.out]
  go_wp2_with fail
  refine HF.out.mono ?_
  rintro e w2 ⟨S, rfl, hS, hb2⟩
  have HX2 := Lib.hid (below_block HX.out hb2)
  obtain ⟨⟨d0, d1, d2, d3, d4, d5, d6⟩, _⟩ := row7_atF HX2.out
  have HS := Lib.hid hS
  have HB2 := Lib.hid (bnext HB0.out hb2)
  clear hS hb2 c0 c1 c2 c3 c4 c5 c6 HX HW HF
  go_wp2_with fail
  refine (HG.out _).mono ?_
  rintro e w3 ⟨T, rfl, hT, hb3⟩
  obtain rfl : S = T := str_of (HS.out.trans hT.symm)
  have h1 : (S.toList != S.toList) = false := by simp
  have h2 : S.toList.isEmpty = false := HE.out S hT
  have HX3 := Lib.hid (below_block HX2.out hb3)
  have HB3 := Lib.hid (bnext HB2.out hb3)
  clear hT hb3 HE HB2 HX2 d0 d1 d2 d3 d4 d5 d6 HG
  go_wp2_with fail
  refine (HP.out S HS.out _ HB3.out).mono ?_
  rintro e w4 ⟨rfl, hb4⟩
  have HX4 := Lib.hid (below_block HX3.out hb4)
  have HB4 := Lib.hid (bnext HB3.out hb4)
  clear hb4 HB3 HX3 HP h1 h2
  have hlt : w.heap.size < w4.heap.size := (Array.getElem?_eq_some_iff.1 HX4.out).1
  go_upto_region 7 with fail
  have hx5 := heap_alloc_new w4 (cBox k s t 0 a b c)
  have HX5 := Lib.hid (below_block HX4.out (below_fresh w4 (cBox k s t 0 a b c)))
  have HB5 := Lib.hid (bnext HB4.out (below_fresh w4 (cBox k s t 0 a b c)))
  obtain ⟨w5, hw5⟩ : ∃ w5, w4.alloc (cBox k s t 0 a b c) = w5 := ⟨_, rfl⟩
  rw [hw5] at hx5 HX5 HB5 ⊢
  obtain ⟨G, hG⟩ : ∃ G, G = w4.heap.size := ⟨_, rfl⟩
  rw [← hG] at hx5 hlt ⊢
  have HG := Lib.hid hlt
  have HX5b := Lib.hid hx5
  clear hw5 hG hx5 hlt HX4 HB4
  have HY6 := Lib.hid (show (w5.setCell ⟨w.heap.size, 3, none⟩ (.int .i64 0)).heap[w.heap.size]? = some (cBox k s t 0 a b c) from heap_setCell_same w5 w.heap.size 3 _ _ (.int .i64 0) HX5.out)
  have HZ6 := Lib.hid (show (w5.setCell ⟨w.heap.size, 3, none⟩ (.int .i64 0)).heap[G]? = some (cBox k s t 0 a b c) from (heap_setCell_other _ _ _ _ (show G ≠ w.heap.size by have := HG.out; omega)).trans HX5b.out)
  have HB6 := Lib.hid (HB5.out.setCell (p := ⟨w.heap.size, 3, none⟩) (Nat.le_refl _) (.int .i64 0))
  obtain ⟨⟨c0, c1, c2, c3, c4, c5, c6⟩, f0, f1, f2, f3, f4, f5, f6⟩ := row7_atF HX5.out
  go_upto_region 8 with fail
  obtain ⟨w6, hw6⟩ : ∃ w6, w5.setCell ⟨w.heap.size, 3, none⟩ (.int .i64 0) = w6 := ⟨_, rfl⟩
  rw [hw6] at HY6 HZ6 HB6 ⊢
  clear hw6 c0 c1 c2 c3 c4 c5 c6 f0 f1 f2 f3 f4 f5 f6 HX5 HX5b HB5
  obtain ⟨⟨c0, c1, c2, c3, c4, c5, c6⟩, _⟩ := row7_atF HY6.out
  obtain ⟨⟨d0, d1, d2, d3, d4, d5, d6⟩, _⟩ := row7_atF HZ6.out
  go_wp2_with fail
  refine (HF2.out _ HB6.out).mono ?_
  rintro e w7 ⟨T, rfl, hT, hb7⟩
  obtain rfl : S = T := str_of (HS.out.trans hT.symm)
  have h1 : (S.toList == S.toList) = true := by simp
  have HB7 := Lib.hid (bnext HB6.out hb7)
  clear hT hb7 HF2 c0 c1 c2 c3 c4 c5 c6 d0 d1 d2 d3 d4 d5 d6
  go_wp2_with fail
  refine (HA.out _ HB7.out).mono ?_
  rintro e w8 ⟨rfl, hb8⟩
  go_wp2
  go_ret
  exact ⟨rfl, bnext HB7.out hb8⟩

end Go.Proofs.YteiicflodobpnaaDoor
