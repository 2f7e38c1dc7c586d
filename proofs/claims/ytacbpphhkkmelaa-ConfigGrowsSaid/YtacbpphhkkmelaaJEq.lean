/-
  The calls of the reference's CompareProposal and EqualProposal, of slices.Equal and proposal.Equal. Conditions: the changes read.
-/
import Derived.Test.YtacbpphhkkmelaaJCmp
namespace Go.Proofs.Ytacbpphhkkmelaa
open Go.RowKit
open JM (Chg)

instance decChg : DecidableEq Chg := fun a b => inferInstanceAs (Decidable (a = b))

set_option maxRecDepth 100000 in
set_option maxHeartbeats 1000000 in
theorem rCompare (a m : Int) (ua : Option Addr) (ul uc : Nat) (b n : Int) (va : Option Addr) (vl vc : Nat) (w : World) :
    Calls Try.prog 48 #[pv a m (.slice ua ul uc), pv b n (.slice va vl vc)] w fun e w' => e = .returned (.int .i64 (JM.cmpP a m b n)) ∧ Below w.heap.size w w' := by
  obtain ⟨R, hR⟩ : ∃ R, R = JM.cmpP a m b n := ⟨_, rfl⟩
  rw [← hR]
  have HR := Lib.hid hR
  clear hR
  have hs : ∀ o : Obj, (w.alloc o).heap.size = w.heap.size + 1 := fun o => World.size_alloc _ _
  by_cases h1 : a < b
  · have e := Lib.hid (show R = -1 by rw [HR.out]; exact if_pos (.inl h1))
    clear HR
    go_enter Try.func48, Try.ntmps48
    go_wp2
    go_ret
    rw [e.out]
    exact ⟨rfl, bnext (below_fresh _ _) (below_fresh _ _)⟩
  · by_cases h2 : a = b
    · have he : (a == b) = true := beq_t h2
      by_cases h3 : m < n
      · have e := Lib.hid (show R = -1 by rw [HR.out]; exact if_pos (.inr ⟨h2, h3⟩))
        clear HR h2
        go_enter Try.func48, Try.ntmps48
        go_wp2
        go_ret
        rw [e.out]
        exact ⟨rfl, bnext (below_fresh _ _) (below_fresh _ _)⟩
      · by_cases h4 : m = n
        · have e := Lib.hid (show R = 0 by rw [HR.out, JM.cmpP, if_neg (by omega), if_pos ⟨h2, h4⟩])
          have he2 : (m == n) = true := beq_t h4
          have h3 : decide (m < n) = false := decide_eq_false h3
          clear HR h2 h4
          go_enter Try.func48, Try.ntmps48
          go_wp2
          go_ret
          rw [e.out]
          exact ⟨rfl, bnext (below_fresh _ _) (below_fresh _ _)⟩
        · have e := Lib.hid (show R = 1 by rw [HR.out, JM.cmpP, if_neg (by omega), if_neg (by omega)])
          have he2 : (m == n) = false := beq_f h4
          have h3 : decide (m < n) = false := decide_eq_false h3
          clear HR h2 h4
          go_enter Try.func48, Try.ntmps48
          go_wp2
          go_ret
          rw [e.out]
          exact ⟨rfl, bnext (below_fresh _ _) (below_fresh _ _)⟩
    · have he : (a == b) = false := beq_f h2
      have e := Lib.hid (show R = 1 by rw [HR.out, JM.cmpP, if_neg (by omega), if_neg (by omega)])
      clear HR h2
      go_enter Try.func48, Try.ntmps48
      go_wp2
      go_ret
      rw [e.out]
      exact ⟨rfl, bnext (below_fresh _ _) (below_fresh _ _)⟩

theorem neq_cv (k s t v a b c k' s' t' v' a' b' c' : Int) (B : Bool) (h : B = decide ((k, s, t, v, a, b, c) = (k', s', t', v', a', b', c'))) (w : World) :
    (binOp .neq 63 (cv k s t v a b c) (cv k' s' t' v' a' b' c')).run Try.prog w = .ok (.bool (!B)) w := by
  rw [h]; exact neq_chg (k, s, t, v, a, b, c) (k', s', t', v', a', b', c') w

set_option maxRecDepth 100000 in
set_option maxHeartbeats 1000000 in
theorem cEqualS (va vb : Value) (xs ys : List Chg) (w : World) (ha : RdC w va xs) (hb : RdC w vb ys) :
    Calls Try.prog 79 #[va, vb] w fun e w' => e = .returned (.bool (decide (xs = ys))) ∧ Below w.heap.size w w' := by
  obtain ⟨ad, c, rfl, hc, hl⟩ := ha.shape
  obtain ⟨bd, d, rfl, hd, hld⟩ := hb.shape
  have HA := Lib.hid ha
  have HB := Lib.hid hb
  clear ha hb
  by_cases hlen : xs.length = ys.length
  · obtain ⟨R, hR⟩ : ∃ R, R = decide (xs = ys) := ⟨_, rfl⟩
    rw [← hR]
    have HR := Lib.hid hR
    clear hR
    have HL := Lib.hid hlen
    have hq0 : ((xs.length : Int) != (ys.length : Int)) = false := by simp; omega
    rw [← hlen] at hq0 ⊢
    clear hlen
    have hm : Try.prog.eqGuardType Try.prog.depth 63 = false := by kernel_rfl
    go_enter Try.func79, Try.ntmps79
    go_wp2
    go_loopw [13] (fun i wr => ∃ k : Nat, k ≤ xs.length ∧ i = .int .i64 k ∧ Below w.heap.size w wr ∧ Hid (R = decide (xs.drop k = ys.drop k))) (fun i _ => xs.length - (intOf i).toNat)
    case atStart => exact ⟨0, Nat.zero_le _, rfl, Below.refl _ _, HR.out⟩
    case round =>
      obtain ⟨k, hk, rfl, hbl, he⟩ := hrel
      by_cases hlt : k < xs.length
      · have hlt2 : k < ys.length := by rw [← HL.out]; exact hlt
        have hatx := List.getElem?_eq_getElem hlt
        have haty := List.getElem?_eq_getElem hlt2
        have hdx := Lib.hid (drop_get hlt)
        have hdy := Lib.hid (drop_get hlt2)
        generalize xs[k] = y at hdx hatx
        obtain ⟨k', s', t', v', a', b', c'⟩ := y
        generalize ys[k] = z at hdy haty
        obtain ⟨k2, s2, t2, v2, a2, b2, c2⟩ := z
        obtain ⟨b, o, hi, hb, d0, d1, d2, d3, d4, d5, d6⟩ := atC (HA.out.below hbl) k _ _ _ _ _ _ _ hatx
        obtain ⟨bb, oo, hi2, hb2, f0, f1, f2, f3, f4, f5, f6⟩ := atC (HB.out.below hbl) k _ _ _ _ _ _ _ haty
        rw [← HL.out] at hi2
        have hq : (k : Int) < (xs.length : Int) := by omega
        clear HR hatx haty
        have hBB : ∃ B, B = decide ((k', s', t', v', a', b', c') = (k2, s2, t2, v2, a2, b2, c2)) := ⟨_, rfl⟩
        obtain ⟨B, hB⟩ := hBB
        have hneq := neq_cv _ _ _ _ _ _ _ _ _ _ _ _ _ _ B hB
        have e0 := Lib.hid (show R = (B && decide (xs.drop (k + 1) = ys.drop (k + 1))) by
          rw [he.out, hdx.out, hdy.out, hB]
          rw [← Bool.decide_and]
          exact decide_eq_decide.2 List.cons_eq_cons)
        clear he hdx hdy hB
        cases B
        · have e2 := Lib.hid (e0.out.trans (Bool.false_and _))
          clear e0
          go_wp2
          go_quiet (fail)
          go_wp2
          go_ret
          rw [e2.out]
          exact ⟨rfl, hbl.trans (below_drewN _ _ _)⟩
        · have e2 := Lib.hid (e0.out.trans (Bool.true_and _))
          clear e0
          go_wp2
          go_quiet (fail)
          go_wp2
          go_roundw
          case rel => exact ⟨k + 1, by omega, by go_num, hbl.trans (below_drewN _ _ _), e2⟩
          case measure => simp [intOf]; omega
      · have hq : ¬ ((k : Int) < (xs.length : Int)) := by omega
        have e2 := Lib.hid (show R = true by rw [he.out, List.drop_of_length_le (by omega), List.drop_of_length_le (by rw [← HL.out]; omega)]; rfl)
        clear he HR
        go_wp2
        go_ret
        rw [e2.out]
        exact ⟨rfl, hbl⟩
  · have e2 := Lib.hid (show decide (xs = ys) = false from decide_eq_false fun h => hlen (by rw [h]))
    have hq0 : ((xs.length : Int) != (ys.length : Int)) = true := by simp; omega
    clear hlen HA HB
    go_enter Try.func79, Try.ntmps79
    go_wp2
    go_ret
    rw [e2.out]
    exact ⟨rfl, Below.refl _ _⟩

/-- All fields are equal. -/
def eqP (a m : Int) (xs : List Chg) (b n : Int) (ys : List Chg) : Bool := decide (a = b ∧ m = n ∧ xs = ys)

set_option maxRecDepth 100000 in
set_option maxHeartbeats 1000000 in
theorem cEqual (a m : Int) (u : Value) (xs : List Chg) (b n : Int) (v : Value) (ys : List Chg) (w : World) (hx : RdC w u xs) (hy : RdC w v ys) :
    Calls Try.prog 53 #[pv a m u, pv b n v] w fun e w' => e = .returned (.bool (eqP a m xs b n ys)) ∧ Below w.heap.size w w' := by
  obtain ⟨ad, c, rfl, hc, hl⟩ := hx.shape
  obtain ⟨bd, d, rfl, hd, hld⟩ := hy.shape
  have hb0 := below_fresh w (.cells #[.int .i64 a, .int .i64 m, .slice ad xs.length c] 45)
  have hP0 := PBox.fresh w a m (.slice ad xs.length c)
  generalize hw0 : w.alloc (.cells #[.int .i64 a, .int .i64 m, .slice ad xs.length c] 45) = w0 at hb0 hP0
  have hb1 := below_fresh w0 (.cells #[.int .i64 b, .int .i64 n, .slice bd ys.length d] 45)
  have hP1 := PBox.fresh w0 b n (.slice bd ys.length d)
  have hP0' := hP0.below hb1
  have hs0 : w0.heap.size = w.heap.size + 1 := by rw [← hw0]; exact World.size_alloc _ _
  rw [hs0] at hP1
  generalize hw1 : w0.alloc (.cells #[.int .i64 b, .int .i64 n, .slice bd ys.length d] 45) = w1 at hb1 hP0' hP1
  have HB := Lib.hid (bnext hb0 hb1)
  have HX := Lib.hid (hx.below HB.out)
  have HY := Lib.hid (hy.below HB.out)
  have HW0 := Lib.hid hw0
  have HW1 := Lib.hid hw1
  have hcm := cCompare a m ad xs.length c b n bd ys.length d w1
  have HP0 := Lib.hid hP0'
  have HP1 := Lib.hid hP1
  obtain ⟨p0, p1, p2⟩ := hP0'
  obtain ⟨q0, q1, q2⟩ := hP1
  clear hb0 hP0 hb1 hw0 hw1 hs0 hx hy
  obtain ⟨R, hR⟩ : ∃ R, R = eqP a m xs b n ys := ⟨_, rfl⟩
  rw [← hR]
  have HC := Lib.hid hcm
  have hz := @JM.cmpP_zero a m b n
  clear hcm
  generalize JM.cmpP a m b n = X at HC hz
  by_cases hX : X = 0
  · have e := Lib.hid (show R = decide (xs = ys) by rw [hR, eqP]; exact decide_eq_decide.2 ⟨fun h => h.2.2, fun h => ⟨(hz.1 hX).1, (hz.1 hX).2, h⟩⟩)
    clear hR hz
    subst hX
    go_enter Try.func53, Try.ntmps53
    go_wp2_with fail
    rw [HW0.out, HW1.out]
    refine HC.out.mono ?_
    rintro e w2 ⟨rfl, hb2⟩
    have HB2 := Lib.hid (bnext HB.out hb2)
    have he := cEqualS _ _ xs ys w2 (HX.out.below hb2) (HY.out.below hb2)
    rw [← e.out] at he
    have HE := Lib.hid he
    clear he
    obtain ⟨p0', p1', p2'⟩ := HP0.out.below hb2
    obtain ⟨q0', q1', q2'⟩ := HP1.out.below hb2
    clear p0 p1 p2 q0 q1 q2 hb2
    go_wp2_with fail
    refine HE.out.mono ?_
    rintro e w3 ⟨rfl, hb3⟩
    go_wp2
    go_ret
    exact ⟨rfl, bnext HB2.out hb3⟩
  · have e := Lib.hid (show R = false by rw [hR, eqP]; exact decide_eq_false (fun h => hX (hz.2 ⟨h.1, h.2.1⟩)))
    have hne : (X == 0) = false := beq_f hX
    clear hR hz hX
    go_enter Try.func53, Try.ntmps53
    go_wp2_with fail
    rw [HW0.out, HW1.out]
    refine HC.out.mono ?_
    rintro e w2 ⟨rfl, hb2⟩
    have HB2 := Lib.hid (bnext HB.out hb2)
    clear p0 p1 p2 q0 q1 q2 hb2
    go_wp2
    go_ret
    rw [e.out]
    exact ⟨rfl, HB2.out⟩

set_option maxRecDepth 100000 in
set_option maxHeartbeats 1000000 in
theorem rEqual (a m : Int) (u : Value) (xs : List Chg) (b n : Int) (v : Value) (ys : List Chg) (w : World) (hx : RdC w u xs) (hy : RdC w v ys) :
    Calls Try.prog 56 #[pv a m u, pv b n v] w fun e w' => e = .returned (.bool (eqP a m xs b n ys)) ∧ Below w.heap.size w w' := by
  obtain ⟨ad, c, rfl, hc, hl⟩ := hx.shape
  obtain ⟨bd, d, rfl, hd, hld⟩ := hy.shape
  have hb0 := below_fresh w (.cells #[.int .i64 a, .int .i64 m, .slice ad xs.length c] 45)
  have hP0 := PBox.fresh w a m (.slice ad xs.length c)
  generalize hw0 : w.alloc (.cells #[.int .i64 a, .int .i64 m, .slice ad xs.length c] 45) = w0 at hb0 hP0
  have hb1 := below_fresh w0 (.cells #[.int .i64 b, .int .i64 n, .slice bd ys.length d] 45)
  have hP1 := PBox.fresh w0 b n (.slice bd ys.length d)
  have hP0' := hP0.below hb1
  have hs0 : w0.heap.size = w.heap.size + 1 := by rw [← hw0]; exact World.size_alloc _ _
  rw [hs0] at hP1
  generalize hw1 : w0.alloc (.cells #[.int .i64 b, .int .i64 n, .slice bd ys.length d] 45) = w1 at hb1 hP0' hP1
  have HB := Lib.hid (bnext hb0 hb1)
  have HA := Lib.hid (hx.below HB.out)
  have HBB := Lib.hid (hy.below HB.out)
  have HW0 := Lib.hid hw0
  have HW1 := Lib.hid hw1
  have HP0 := Lib.hid hP0'
  have HP1 := Lib.hid hP1
  obtain ⟨p0, p1, p2⟩ := hP0'
  obtain ⟨q0, q1, q2⟩ := hP1
  clear hb0 hP0 hb1 hw0 hw1 hs0 hx hy
  obtain ⟨R, hR⟩ : ∃ R, R = eqP a m xs b n ys := ⟨_, rfl⟩
  rw [← hR]
  by_cases h1 : a = b
  · have h1' : (a != b) = false := bne_f h1
    by_cases h2 : m = n
    · have h2' : (m != n) = false := bne_f h2
      have hR2 : R = decide (xs = ys) := by rw [hR, eqP]; exact decide_eq_decide.2 ⟨fun h => h.2.2, fun h => ⟨h1, h2, h⟩⟩
      clear hR h1 h2
      by_cases hlen : xs.length = ys.length
      · have HR := Lib.hid hR2
        clear hR2
        have HL := Lib.hid hlen
        have hq0 : ((xs.length : Int) != (ys.length : Int)) = false := by simp; omega
        clear hlen
        have hm : Try.prog.eqGuardType Try.prog.depth 63 = false := by kernel_rfl
        go_enter Try.func56, Try.ntmps56
        go_wp2
        rw [HW0.out, HW1.out]
        go_wp2
        clear p0 p1 p2 q0 q1 q2
        go_loopw [5] (fun i wr => ∃ k : Nat, k ≤ xs.length ∧ i = .int .i64 k ∧ Below w1.heap.size w1 wr ∧ Hid (R = decide (xs.drop k = ys.drop k))) (fun i _ => xs.length - (intOf i).toNat)
        case atStart => exact ⟨0, Nat.zero_le _, rfl, Below.refl _ _, HR.out⟩
        case round =>
          obtain ⟨k, hk, rfl, hbl, he⟩ := hrel
          obtain ⟨p0, p1, p2⟩ := HP0.out.below hbl
          obtain ⟨q0, q1, q2⟩ := HP1.out.below hbl
          by_cases hlt : k < xs.length
          · have hlt2 : k < ys.length := by rw [← HL.out]; exact hlt
            have hatx := List.getElem?_eq_getElem hlt
            have haty := List.getElem?_eq_getElem hlt2
            have hdx := Lib.hid (drop_get hlt)
            have hdy := Lib.hid (drop_get hlt2)
            generalize xs[k] = y at hdx hatx
            obtain ⟨k', s', t', v', a', b', c'⟩ := y
            generalize ys[k] = z at hdy haty
            obtain ⟨k2, s2, t2, v2, a2, b2, c2⟩ := z
            obtain ⟨b, o, hi, hb, d0, d1, d2, d3, d4, d5, d6⟩ := atC (HA.out.below hbl) k _ _ _ _ _ _ _ hatx
            obtain ⟨bb, oo, hi2, hb2, f0, f1, f2, f3, f4, f5, f6⟩ := atC (HBB.out.below hbl) k _ _ _ _ _ _ _ haty
            have hq : (k : Int) < (xs.length : Int) := by omega
            clear HR hatx haty
            have hBB : ∃ B, B = decide ((k', s', t', v', a', b', c') = (k2, s2, t2, v2, a2, b2, c2)) := ⟨_, rfl⟩
            obtain ⟨B, hB⟩ := hBB
            have hneq := neq_cv _ _ _ _ _ _ _ _ _ _ _ _ _ _ B hB
            have e0 := Lib.hid (show R = (B && decide (xs.drop (k + 1) = ys.drop (k + 1))) by
              rw [he.out, hdx.out, hdy.out, hB]
              rw [← Bool.decide_and]
              exact decide_eq_decide.2 List.cons_eq_cons)
            clear he hdx hdy hB
            cases B
            · have e2 := Lib.hid (e0.out.trans (Bool.false_and _))
              clear e0
              go_wp2
              go_quiet (fail)
              go_wp2
              go_ret
              rw [e2.out]
              exact ⟨rfl, bnext HB.out (hbl.trans (below_drewN _ _ _))⟩
            · have e2 := Lib.hid (e0.out.trans (Bool.true_and _))
              clear e0
              go_wp2
              go_quiet (fail)
              go_wp2
              go_roundw
              case rel => exact ⟨k + 1, by omega, by go_num, hbl.trans (below_drewN _ _ _), e2⟩
              case measure => simp [intOf]; omega
          · have hq : ¬ ((k : Int) < (xs.length : Int)) := by omega
            have e2 := Lib.hid (show R = true by rw [he.out, List.drop_of_length_le (by omega), List.drop_of_length_le (by rw [← HL.out]; omega)]; rfl)
            clear he HR
            go_wp2
            go_ret
            rw [e2.out]
            exact ⟨rfl, bnext HB.out hbl⟩
      · have e2 := Lib.hid (show R = false from hR2.trans (decide_eq_false fun h => hlen (by rw [h])))
        have hq0 : ((xs.length : Int) != (ys.length : Int)) = true := by simp; omega
        clear hlen HA HBB hR2
        go_enter Try.func56, Try.ntmps56
        go_wp2
        rw [HW0.out, HW1.out]
        go_wp2
        go_ret
        rw [e2.out]
        exact ⟨rfl, HB.out⟩
    · have h2' : (m != n) = true := bne_t h2
      have e2 := Lib.hid (show R = false by rw [hR, eqP]; exact decide_eq_false (fun h => h2 h.2.1))
      clear hR h1 h2
      go_enter Try.func56, Try.ntmps56
      go_wp2
      rw [HW0.out, HW1.out]
      go_wp2
      go_ret
      rw [e2.out]
      exact ⟨rfl, HB.out⟩
  · have h1' : (a != b) = true := bne_t h1
    have e2 := Lib.hid (show R = false by rw [hR, eqP]; exact decide_eq_false (fun h => h1 h.1))
    clear hR h1
    go_enter Try.func56, Try.ntmps56
    go_wp2
    rw [HW0.out, HW1.out]
    go_wp2
    go_ret
    rw [e2.out]
    exact ⟨rfl, HB.out⟩

end Go.Proofs.Ytacbpphhkkmelaa
