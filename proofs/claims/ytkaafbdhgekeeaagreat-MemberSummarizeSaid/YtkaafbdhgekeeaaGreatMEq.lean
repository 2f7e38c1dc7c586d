/-
  The calls that compare summaries and views, the program's and the reference's: true just where all is equal. No conditions beyond that they read.
-/
import Derived.Test.YtkaafbdhgekeeaaGreatMVf
namespace Go.Proofs.YtkaafbdhgekeeaaGreat
open Go.RowKit
open MM (Mem Ent Sm Tri)

theorem neq_wv (s t v a n s' t' v' a' n' : Int) (B : Bool) (h : B = decide ((s, t, v, a, n) = (s', t', v', a', n'))) (w : World) :
    (binOp .neq 62 (wv s t v a n) (wv s' t' v' a' n')).run Tryz.prog w = .ok (.bool (!B)) w := by
  rw [h, neq_wgt]; simp

set_option maxRecDepth 100000 in
set_option maxHeartbeats 1000000 in
theorem cEqInts (va vb : Value) (xs ys : List Int) (w : World) (ha : RdI w va xs) (hb : RdI w vb ys) :
    Calls Tryz.prog 37 #[va, vb] w fun e w' => e = .returned (.bool (decide (xs = ys))) ∧ Below w.heap.size w w' := by
  obtain ⟨ad, c, rfl, hc, hl⟩ := ha.shape
  obtain ⟨bd, d, rfl, hd, hld⟩ := hb.shape
  have HA := Lib.hid ha
  have HB := Lib.hid hb
  clear ha hb
  by_cases hlen : xs.length = ys.length
  · obtain ⟨R, hR⟩ : ∃ R, R = decide (xs = ys) := ⟨_, rfl⟩
    rw [← hR]
    have HR := Lib.hid hR
    clear hR
    have HL := Lib.hid hlen
    have hq0 : ((xs.length : Int) != (ys.length : Int)) = false := by simp; omega
    rw [← hlen] at hq0 ⊢
    clear hlen
    go_enter Tryz.func37, Tryz.ntmps37
    go_wp2
    go_loopw [13] (fun i wr => ∃ k : Nat, k ≤ xs.length ∧ i = .int .i64 k ∧ Below w.heap.size w wr ∧ Hid (R = decide (xs.drop k = ys.drop k))) (fun i _ => xs.length - (intOf i).toNat)
    case atStart => exact ⟨0, Nat.zero_le _, rfl, Below.refl _ _, HR.out⟩
    case round =>
      obtain ⟨k, hk, rfl, hbl, he⟩ := hrel
      by_cases hlt : k < xs.length
      · have hlt2 : k < ys.length := by rw [← HL.out]; exact hlt
        have hatx := List.getElem?_eq_getElem hlt
        have haty := List.getElem?_eq_getElem hlt2
        have hdx := Lib.hid (drop_get hlt)
        have hdy := Lib.hid (drop_get hlt2)
        generalize xs[k] = y at hdx hatx
        generalize ys[k] = z at hdy haty
        obtain ⟨b, o, hi, hb, d0⟩ := atI (HA.out.below hbl) k _ hatx
        obtain ⟨bb, oo, hi2, hb2, f0⟩ := atI (HB.out.below hbl) k _ haty
        rw [← HL.out] at hi2
        have hq : (k : Int) < (xs.length : Int) := by omega
        clear HR hatx haty
        have hBB : ∃ B, B = decide (y = z) := ⟨_, rfl⟩
        obtain ⟨B, hB⟩ := hBB
        have hneq : (y != z) = !B := by rw [hB]; rfl
        have e0 := Lib.hid (show R = (B && decide (xs.drop (k + 1) = ys.drop (k + 1))) by
          rw [he.out, hdx.out, hdy.out, hB]
          rw [← Bool.decide_and]
          exact decide_eq_decide.2 List.cons_eq_cons)
        clear he hdx hdy hB
        cases B
        · have e2 := Lib.hid (e0.out.trans (Bool.false_and _))
          clear e0
          go_wp2
          go_quiet (fail)
          go_wp2
          go_ret
          rw [e2.out]
          exact ⟨rfl, hbl.trans (below_drewN _ _ _)⟩
        · have e2 := Lib.hid (e0.out.trans (Bool.true_and _))
          clear e0
          go_wp2
          go_quiet (fail)
          go_wp2
          go_roundw
          case rel => exact ⟨k + 1, by omega, by go_num, hbl.trans (below_drewN _ _ _), e2⟩
          case measure => simp [intOf]; omega
      · have hq : ¬ ((k : Int) < (xs.length : Int)) := by omega
        have e2 := Lib.hid (show R = true by rw [he.out, List.drop_of_length_le (by omega), List.drop_of_length_le (by rw [← HL.out]; omega)]; rfl)
        clear he HR
        go_wp2
        go_ret
        rw [e2.out]
        exact ⟨rfl, hbl⟩
  · have e2 := Lib.hid (show decide (xs = ys) = false from decide_eq_false fun h => hlen (by rw [h]))
    have hq0 : ((xs.length : Int) != (ys.length : Int)) = true := by simp; omega
    clear hlen HA HB
    go_enter Tryz.func37, Tryz.ntmps37
    go_wp2
    go_ret
    rw [e2.out]
    exact ⟨rfl, Below.refl _ _⟩

set_option maxRecDepth 100000 in
set_option maxHeartbeats 1000000 in
theorem cEqWgts (va vb : Value) (xs ys : List Ent) (w : World) (ha : RdW w va xs) (hb : RdW w vb ys) :
    Calls Tryz.prog 38 #[va, vb] w fun e w' => e = .returned (.bool (decide (xs = ys))) ∧ Below w.heap.size w w' := by
  obtain ⟨ad, c, rfl, hc, hl⟩ := ha.shape
  obtain ⟨bd, d, rfl, hd, hld⟩ := hb.shape
  have HA := Lib.hid ha
  have HB := Lib.hid hb
  clear ha hb
  by_cases hlen : xs.length = ys.length
  · obtain ⟨R, hR⟩ : ∃ R, R = decide (xs = ys) := ⟨_, rfl⟩
    rw [← hR]
    have HR := Lib.hid hR
    clear hR
    have HL := Lib.hid hlen
    have hq0 : ((xs.length : Int) != (ys.length : Int)) = false := by simp; omega
    rw [← hlen] at hq0 ⊢
    clear hlen
    have hm := gm_wgt
    go_enter Tryz.func38, Tryz.ntmps38
    go_wp2
    go_loopw [13] (fun i wr => ∃ k : Nat, k ≤ xs.length ∧ i = .int .i64 k ∧ Below w.heap.size w wr ∧ Hid (R = decide (xs.drop k = ys.drop k))) (fun i _ => xs.length - (intOf i).toNat)
    case atStart => exact ⟨0, Nat.zero_le _, rfl, Below.refl _ _, HR.out⟩
    case round =>
      obtain ⟨k, hk, rfl, hbl, he⟩ := hrel
      by_cases hlt : k < xs.length
      · have hlt2 : k < ys.length := by rw [← HL.out]; exact hlt
        have hatx := List.getElem?_eq_getElem hlt
        have haty := List.getElem?_eq_getElem hlt2
        have hdx := Lib.hid (drop_get hlt)
        have hdy := Lib.hid (drop_get hlt2)
        generalize xs[k] = y at hdx hatx
        obtain ⟨k', s', t', v', a'⟩ := y
        generalize ys[k] = z at hdy haty
        obtain ⟨k2, s2, t2, v2, a2⟩ := z
        obtain ⟨b, o, hi, hb, d0, d1, d2, d3, d4⟩ := atW (HA.out.below hbl) k _ _ _ _ _ hatx
        obtain ⟨bb, oo, hi2, hb2, f0, f1, f2, f3, f4⟩ := atW (HB.out.below hbl) k _ _ _ _ _ haty
        rw [← HL.out] at hi2
        have hq : (k : Int) < (xs.length : Int) := by omega
        clear HR hatx haty
        have hBB : ∃ B, B = decide ((k', s', t', v', a') = (k2, s2, t2, v2, a2)) := ⟨_, rfl⟩
        obtain ⟨B, hB⟩ := hBB
        have hneq := neq_wv _ _ _ _ _ _ _ _ _ _ B hB
        have e0 := Lib.hid (show R = (B && decide (xs.drop (k + 1) = ys.drop (k + 1))) by
          rw [he.out, hdx.out, hdy.out, hB]
          rw [← Bool.decide_and]
          exact decide_eq_decide.2 List.cons_eq_cons)
        clear he hdx hdy hB
        cases B
        · have e2 := Lib.hid (e0.out.trans (Bool.false_and _))
          clear e0
          go_wp2
          go_quiet (fail)
          go_wp2
          go_ret
          rw [e2.out]
          exact ⟨rfl, hbl.trans (below_drewN _ _ _)⟩
        · have e2 := Lib.hid (e0.out.trans (Bool.true_and _))
          clear e0
          go_wp2
          go_quiet (fail)
          go_wp2
          go_roundw
          case rel => exact ⟨k + 1, by omega, by go_num, hbl.trans (below_drewN _ _ _), e2⟩
          case measure => simp [intOf]; omega
      · have hq : ¬ ((k : Int) < (xs.length : Int)) := by omega
        have e2 := Lib.hid (show R = true by rw [he.out, List.drop_of_length_le (by omega), List.drop_of_length_le (by rw [← HL.out]; omega)]; rfl)
        clear he HR
        go_wp2
        go_ret
        rw [e2.out]
        exact ⟨rfl, hbl⟩
  · have e2 := Lib.hid (show decide (xs = ys) = false from decide_eq_false fun h => hlen (by rw [h]))
    have hq0 : ((xs.length : Int) != (ys.length : Int)) = true := by simp; omega
    clear hlen HA HB
    go_enter Tryz.func38, Tryz.ntmps38
    go_wp2
    go_ret
    rw [e2.out]
    exact ⟨rfl, Below.refl _ _⟩

set_option maxRecDepth 100000 in
set_option maxHeartbeats 1000000 in
theorem rEqInts (va vb : Value) (xs ys : List Int) (w : World) (ha : RdI w va xs) (hb : RdI w vb ys) :
    Calls Tryz.prog 22 #[va, vb] w fun e w' => e = .returned (.bool (decide (xs = ys))) ∧ Below w.heap.size w w' := by
  obtain ⟨ad, c, rfl, hc, hl⟩ := ha.shape
  obtain ⟨bd, d, rfl, hd, hld⟩ := hb.shape
  have HA := Lib.hid ha
  have HB := Lib.hid hb
  clear ha hb
  by_cases hlen : xs.length = ys.length
  · obtain ⟨R, hR⟩ : ∃ R, R = decide (xs = ys) := ⟨_, rfl⟩
    rw [← hR]
    have HR := Lib.hid hR
    clear hR
    have HL := Lib.hid hlen
    have hq0 : ((xs.length : Int) != (ys.length : Int)) = false := by simp; omega
    rw [← hlen] at hq0 ⊢
    clear hlen
    go_enter Tryz.func22, Tryz.ntmps22
    go_wp2
    go_loopw [5] (fun i wr => ∃ k : Nat, k ≤ xs.length ∧ i = .int .i64 k ∧ Below w.heap.size w wr ∧ Hid (R = decide (xs.drop k = ys.drop k))) (fun i _ => xs.length - (intOf i).toNat)
    case atStart => exact ⟨0, Nat.zero_le _, rfl, Below.refl _ _, HR.out⟩
    case round =>
      obtain ⟨k, hk, rfl, hbl, he⟩ := hrel
      by_cases hlt : k < xs.length
      · have hlt2 : k < ys.length := by rw [← HL.out]; exact hlt
        have hatx := List.getElem?_eq_getElem hlt
        have haty := List.getElem?_eq_getElem hlt2
        have hdx := Lib.hid (drop_get hlt)
        have hdy := Lib.hid (drop_get hlt2)
        generalize xs[k] = y at hdx hatx
        generalize ys[k] = z at hdy haty
        obtain ⟨b, o, hi, hb, d0⟩ := atI (HA.out.below hbl) k _ hatx
        obtain ⟨bb, oo, hi2, hb2, f0⟩ := atI (HB.out.below hbl) k _ haty
        rw [← HL.out] at hi2
        have hq : (k : Int) < (xs.length : Int) := by omega
        clear HR hatx haty
        have hBB : ∃ B, B = decide (y = z) := ⟨_, rfl⟩
        obtain ⟨B, hB⟩ := hBB
        have hneq : (y != z) = !B := by rw [hB]; rfl
        have e0 := Lib.hid (show R = (B && decide (xs.drop (k + 1) = ys.drop (k + 1))) by
          rw [he.out, hdx.out, hdy.out, hB]
          rw [← Bool.decide_and]
          exact decide_eq_decide.2 List.cons_eq_cons)
        clear he hdx hdy hB
        cases B
        · have e2 := Lib.hid (e0.out.trans (Bool.false_and _))
          clear e0
          go_wp2
          go_quiet (fail)
          go_wp2
          go_ret
          rw [e2.out]
          exact ⟨rfl, hbl.trans (below_drewN _ _ _)⟩
        · have e2 := Lib.hid (e0.out.trans (Bool.true_and _))
          clear e0
          go_wp2
          go_quiet (fail)
          go_wp2
          go_roundw
          case rel => exact ⟨k + 1, by omega, by go_num, hbl.trans (below_drewN _ _ _), e2⟩
          case measure => simp [intOf]; omega
      · have hq : ¬ ((k : Int) < (xs.length : Int)) := by omega
        have e2 := Lib.hid (show R = true by rw [he.out, List.drop_of_length_le (by omega), List.drop_of_length_le (by rw [← HL.out]; omega)]; rfl)
        clear he HR
        go_wp2
        go_ret
        rw [e2.out]
        exact ⟨rfl, hbl⟩
  · have e2 := Lib.hid (show decide (xs = ys) = false from decide_eq_false fun h => hlen (by rw [h]))
    have hq0 : ((xs.length : Int) != (ys.length : Int)) = true := by simp; omega
    clear hlen HA HB
    go_enter Tryz.func22, Tryz.ntmps22
    go_wp2
    go_ret
    rw [e2.out]
    exact ⟨rfl, Below.refl _ _⟩

set_option maxRecDepth 100000 in
set_option maxHeartbeats 4000000 in
theorem rEqSum (va vb : Value) (s t : Sm) (w : World) (ha : RdS w va s) (hb : RdS w vb t) :
    Calls Tryz.prog 7 #[va, vb] w fun e w' => e = .returned (.bool (MM.eqS s t)) ∧ Below w.heap.size w w' := by
  obtain ⟨x, y, z, rfl, hj, hr, hw⟩ := ha
  obtain ⟨x', y', z', rfl, hj', hr', hw'⟩ := hb
  obtain ⟨J, R1, W, k, c, f, v, a, n⟩ := s
  obtain ⟨J', R1', W', k', c', f', v', a', n'⟩ := t
  dsimp only at *
  obtain ⟨adw, cw, rfl, hcw, hlw⟩ := hw.shape
  obtain ⟨adw', cw', rfl, hcw', hlw'⟩ := hw'.shape
  have hB := below_fresh w (.cells #[x, y, .slice adw W.length cw, .int .i64 k, .int .i64 c, .int .i64 f, .int .i64 v, .int .i64 a, .int .i64 n] 37)
  have hP := B9.fresh w 37 x y (.slice adw W.length cw) k c f v a n
  generalize hw1 : w.alloc (.cells #[x, y, .slice adw W.length cw, .int .i64 k, .int .i64 c, .int .i64 f, .int .i64 v, .int .i64 a, .int .i64 n] 37) = w1 at hB hP
  have hs1 : w1.heap.size = w.heap.size + 1 := by rw [← hw1]; exact World.size_alloc _ _
  have hB2 := below_fresh w1 (.cells #[x', y', .slice adw' W'.length cw', .int .i64 k', .int .i64 c', .int .i64 f', .int .i64 v', .int .i64 a', .int .i64 n'] 37)
  have hP2 := B9.fresh w1 37 x' y' (.slice adw' W'.length cw') k' c' f' v' a' n'
  have hPb := hP.below hB2
  rw [hs1] at hP2
  generalize hw2 : w1.alloc (.cells #[x', y', .slice adw' W'.length cw', .int .i64 k', .int .i64 c', .int .i64 f', .int .i64 v', .int .i64 a', .int .i64 n'] 37) = w2 at hB2 hP2 hPb
  have hBB := bnext hB hB2
  obtain ⟨R, hR⟩ : ∃ R, R = MM.eqS ⟨J, R1, W, k, c, f, v, a, n⟩ ⟨J', R1', W', k', c', f', v', a', n'⟩ := ⟨_, rfl⟩
  rw [← hR]
  have hR2 : R = (decide (J = J') && decide (R1 = R1') && decide (W = W') && decide (k = k' ∧ c = c' ∧ f = f') && decide ((v, a, n) = (v', a', n'))) := hR
  clear hR
  have h1 := fun w (h : RdI w x J) (h' : RdI w x' J') => rEqInts x x' J J' w h h'
  have h2 := fun w (h : RdI w y R1) (h' : RdI w y' R1') => rEqInts y y' R1 R1' w h h'
  generalize decide (J = J') = b1 at h1 hR2
  generalize decide (R1 = R1') = b2 at h2 hR2
  have H1 := Lib.hid h1
  have H2 := Lib.hid h2
  have HR := Lib.hid hR2
  have HJ := Lib.hid (And.intro (hj.below hBB) (hj'.below hBB))
  have HRr := Lib.hid (And.intro (hr.below hBB) (hr'.below hBB))
  have HE := Lib.hid (And.intro (hw.below hBB) (hw'.below hBB))
  have HB := Lib.hid hBB
  have HP := Lib.hid (And.intro hPb hP2)
  have HW1 := Lib.hid hw1
  have HW2 := Lib.hid hw2
  obtain ⟨_, p0, p1, p2, p3, p4, p5, p6, p7, p8⟩ := hPb
  obtain ⟨_, q0, q1, q2, q3, q4, q5, q6, q7, q8⟩ := hP2
  clear h1 h2 hR2 hj hj' hr hr' hw hw' hBB hP hB hB2 hw1 hs1 hw2
  cases b1
  · have e := Lib.hid (show R = false by rw [HR.out]; rfl)
    go_enter Tryz.func7, Tryz.ntmps7
    go_wp2_with fail
    rw [HW1.out, HW2.out]
    go_wp2_with fail
    refine (H1.out _ HJ.out.1 HJ.out.2).mono ?_
    rintro e w3 ⟨rfl, hb3⟩
    go_wp2
    go_ret
    rw [e.out]
    exact ⟨rfl, bnext HB.out hb3⟩
  cases b2
  · have e := Lib.hid (show R = false by rw [HR.out]; rfl)
    go_enter Tryz.func7, Tryz.ntmps7
    go_wp2_with fail
    rw [HW1.out, HW2.out]
    go_wp2_with fail
    refine (H1.out _ HJ.out.1 HJ.out.2).mono ?_
    rintro e w3 ⟨rfl, hb3⟩
    obtain ⟨_, r0, r1, r2, r3, r4, r5, r6, r7, r8⟩ := HP.out.1.below hb3
    obtain ⟨_, s0, s1, s2, s3, s4, s5, s6, s7, s8⟩ := HP.out.2.below hb3
    clear p0 p1 p2 p3 p4 p5 p6 p7 p8 q0 q1 q2 q3 q4 q5 q6 q7 q8
    go_wp2_with fail
    refine (H2.out _ (HRr.out.1.below hb3) (HRr.out.2.below hb3)).mono ?_
    rintro e w4 ⟨rfl, hb4⟩
    go_wp2
    go_ret
    rw [e.out]
    exact ⟨rfl, bnext HB.out (bnext hb3 hb4)⟩
  by_cases hall : W.length = W'.length ∧ (k = k' ∧ c = c' ∧ f = f') ∧ v = v' ∧ a = a' ∧ n = n'
  · obtain ⟨hlen, ⟨rfl, rfl, rfl⟩, rfl, rfl, rfl⟩ := hall
    have HR0 := Lib.hid (show R = decide (W.drop 0 = W'.drop 0) by rw [HR.out]; simp)
    have HL := Lib.hid hlen
    have hq0 : ((W.length : Int) != (W'.length : Int)) = false := by simp; omega
    clear HR hlen
    have hm := gm_wgt
    have hmr := gm_rule
    go_enter Tryz.func7, Tryz.ntmps7
    go_wp2_with fail
    rw [HW1.out, HW2.out]
    go_wp2_with fail
    refine (H1.out _ HJ.out.1 HJ.out.2).mono ?_
    rintro e w3 ⟨rfl, hb3⟩
    obtain ⟨_, r0, r1, r2, r3, r4, r5, r6, r7, r8⟩ := HP.out.1.below hb3
    obtain ⟨_, s0, s1, s2, s3, s4, s5, s6, s7, s8⟩ := HP.out.2.below hb3
    clear p0 p1 p2 p3 p4 p5 p6 p7 p8 q0 q1 q2 q3 q4 q5 q6 q7 q8
    go_wp2_with fail
    refine (H2.out _ (HRr.out.1.below hb3) (HRr.out.2.below hb3)).mono ?_
    rintro e w4 ⟨rfl, hb4⟩
    have HB4 := Lib.hid (bnext HB.out (bnext hb3 hb4))
    have HP4 := Lib.hid (And.intro (HP.out.1.below (bnext hb3 hb4)) (HP.out.2.below (bnext hb3 hb4)))
    have HE4 := Lib.hid (And.intro (HE.out.1.below (bnext hb3 hb4)) (HE.out.2.below (bnext hb3 hb4)))
    clear hb3 hb4 r0 r1 r2 r3 r4 r5 r6 r7 r8 s0 s1 s2 s3 s4 s5 s6 s7 s8
    obtain ⟨_, r0, r1, r2, r3, r4, r5, r6, r7, r8⟩ := HP4.out.1
    obtain ⟨_, s0, s1, s2, s3, s4, s5, s6, s7, s8⟩ := HP4.out.2
    go_wp2
    go_loopw [5] (fun i wr => ∃ j : Nat, j ≤ W.length ∧ i = .int .i64 j ∧ Below w4.heap.size w4 wr ∧ Hid (R = decide (W.drop j = W'.drop j))) (fun i _ => W.length - (intOf i).toNat)
    case atStart => exact ⟨0, Nat.zero_le _, rfl, Below.refl _ _, HR0⟩
    case round =>
      obtain ⟨j, hj, rfl, hbl, he⟩ := hrel
      clear HR0 r0 r1 r2 r3 r4 r5 r6 r7 r8 s0 s1 s2 s3 s4 s5 s6 s7 s8
      obtain ⟨_, r0, r1, r2, r3, r4, r5, r6, r7, r8⟩ := HP4.out.1.below hbl
      obtain ⟨_, s0, s1, s2, s3, s4, s5, s6, s7, s8⟩ := HP4.out.2.below hbl
      have HBL := Lib.hid (bnext HB4.out hbl)
      by_cases hlt : j < W.length
      · have hlt2 : j < W'.length := by rw [← HL.out]; exact hlt
        have hatx := List.getElem?_eq_getElem hlt
        have haty := List.getElem?_eq_getElem hlt2
        have hdx := Lib.hid (drop_get hlt)
        have hdy := Lib.hid (drop_get hlt2)
        generalize W[j] = e1 at hdx hatx
        obtain ⟨g1, g2, g3, g4, g5⟩ := e1
        generalize W'[j] = e2 at hdy haty
        obtain ⟨h1, h2, h3, h4, h5⟩ := e2
        obtain ⟨b, o, hi, hb, d0, d1, d2, d3, d4⟩ := atW (HE4.out.1.below hbl) j _ _ _ _ _ hatx
        obtain ⟨bb, oo, hi2, hb2, f0, f1, f2, f3, f4⟩ := atW (HE4.out.2.below hbl) j _ _ _ _ _ haty
        have hq : (j : Int) < (W.length : Int) := by omega
        clear hatx haty
        have hBB : ∃ B, B = decide ((g1, g2, g3, g4, g5) = (h1, h2, h3, h4, h5)) := ⟨_, rfl⟩
        obtain ⟨B, hB⟩ := hBB
        have hneq := neq_wv _ _ _ _ _ _ _ _ _ _ B hB
        have e0 := Lib.hid (show R = (B && decide (W.drop (j + 1) = W'.drop (j + 1))) by
          rw [he.out, hdx.out, hdy.out, hB]
          rw [← Bool.decide_and]
          exact decide_eq_decide.2 List.cons_eq_cons)
        clear he hdx hdy hB
        cases B
        · have e2 := Lib.hid (e0.out.trans (Bool.false_and _))
          clear e0
          go_wp2
          go_quiet (fail)
          go_wp2
          go_ret
          rw [e2.out]
          exact ⟨rfl, HBL.out.trans (below_drewN _ _ _)⟩
        · have e2 := Lib.hid (e0.out.trans (Bool.true_and _))
          clear e0
          go_wp2
          go_quiet (fail)
          go_wp2
          go_roundw
          case rel => exact ⟨j + 1, by omega, by go_num, hbl.trans (below_drewN _ _ _), e2⟩
          case measure => simp [intOf]; omega
      · have hq : ¬ ((j : Int) < (W.length : Int)) := by omega
        have e2 := Lib.hid (show R = true by rw [he.out, List.drop_of_length_le (by omega), List.drop_of_length_le (by rw [← HL.out]; omega)]; rfl)
        clear he
        go_wp2
        go_ret
        rw [e2.out]
        exact ⟨rfl, HBL.out⟩
  · have e := Lib.hid (show R = false by
      rw [HR.out]
      simp only [Bool.true_and, Bool.and_eq_false_iff, decide_eq_false_iff_not, Prod.mk.injEq]
      by_cases h1 : W = W'
      · subst h1
        by_cases h2 : k = k' ∧ c = c' ∧ f = f'
        · right; rintro ⟨h3, h4, h5⟩; exact hall ⟨rfl, h2, h3, h4, h5⟩
        · left; right; exact h2
      · left; left; exact h1)
    have HALL := Lib.hid hall
    clear hall
    have hmr := gm_rule
    go_enter Tryz.func7, Tryz.ntmps7
    go_wp2_with fail
    rw [HW1.out, HW2.out]
    go_wp2_with fail
    refine (H1.out _ HJ.out.1 HJ.out.2).mono ?_
    rintro e w3 ⟨rfl, hb3⟩
    obtain ⟨_, r0, r1, r2, r3, r4, r5, r6, r7, r8⟩ := HP.out.1.below hb3
    obtain ⟨_, s0, s1, s2, s3, s4, s5, s6, s7, s8⟩ := HP.out.2.below hb3
    clear p0 p1 p2 p3 p4 p5 p6 p7 p8 q0 q1 q2 q3 q4 q5 q6 q7 q8
    go_wp2_with fail
    refine (H2.out _ (HRr.out.1.below hb3) (HRr.out.2.below hb3)).mono ?_
    rintro e w4 ⟨rfl, hb4⟩
    have HB4 := Lib.hid (bnext HB.out (bnext hb3 hb4))
    have HP4 := Lib.hid (And.intro (HP.out.1.below (bnext hb3 hb4)) (HP.out.2.below (bnext hb3 hb4)))
    clear hb3 hb4 r0 r1 r2 r3 r4 r5 r6 r7 r8 s0 s1 s2 s3 s4 s5 s6 s7 s8
    obtain ⟨_, r0, r1, r2, r3, r4, r5, r6, r7, r8⟩ := HP4.out.1
    obtain ⟨_, s0, s1, s2, s3, s4, s5, s6, s7, s8⟩ := HP4.out.2
    by_cases hlen : W.length = W'.length
    · have hq0 : ((W.length : Int) != (W'.length : Int)) = false := by simp; omega
      by_cases hk : k = k'
      · by_cases hc : c = c'
        · by_cases hf : f = f'
          · subst hk hc hf
            by_cases hv : v = v'
            · by_cases ha : a = a'
              · have hn : (n != n') = true := bne_t (fun hn => HALL.out ⟨hlen, ⟨rfl, rfl, rfl⟩, hv, ha, hn⟩)
                have hv' : (v != v') = false := bne_f hv
                have ha' : (a != a') = false := bne_f ha
                clear hlen hv ha
                go_wp2
                go_ret
                rw [e.out]
                exact ⟨rfl, HB4.out⟩
              · have hv' : (v != v') = false := bne_f hv
                have ha' : (a != a') = true := bne_t ha
                clear hlen hv ha
                go_wp2
                go_ret
                rw [e.out]
                exact ⟨rfl, HB4.out⟩
            · have hv' : (v != v') = true := bne_t hv
              clear hlen hv
              go_wp2
              go_ret
              rw [e.out]
              exact ⟨rfl, HB4.out⟩
          · clear hlen hk
            go_wp2
            go_ret
            rw [e.out]
            exact ⟨rfl, HB4.out⟩
        · clear hlen hk
          go_wp2
          go_ret
          rw [e.out]
          exact ⟨rfl, HB4.out⟩
      · clear hlen
        go_wp2
        go_ret
        rw [e.out]
        exact ⟨rfl, HB4.out⟩
    · have hq0 : ((W.length : Int) != (W'.length : Int)) = true := by simp; omega
      clear hlen
      go_wp2
      go_ret
      rw [e.out]
      exact ⟨rfl, HB4.out⟩

end Go.Proofs.YtkaafbdhgekeeaaGreat
