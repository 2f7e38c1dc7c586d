/-
  The calls of proposal.Compare and the reference's CompareProposal: each returns the order of the identifiers. No conditions.
  The calls of the reference's CompareProposal and EqualProposal, of slices.Equal and proposal.Equal. Conditions: the changes read.
  The calls of proposal.Append and of the reference's AppendProposal, and of what appends numbers: the bytes of the encoding. Conditions: the bytes, numbers and changes read; the numbers are from 0 to 2^31 - 1.
  The calls of the reference's Numbers and AppendProposal: the bytes of the encoding. Conditions: the bytes, numbers and changes read; the numbers are from 0 to 2^31 - 1.
-/
import Derived.StillTailTactics
import Derived.Test.YthfpafnljnnndaaGreatSKC
import Derived.Deep.RegionHeld3
import Derived.Deep.CutRange
import Derived.Test.YthfpafnljnnndaaGreatSKB
namespace Go.Proofs.YthfpafnljnnndaaGreat
open Go.RowKit
open JM (Chg)

theorem cNaN (x : Int) (w : World) : Calls Tryz.prog 136 #[.int .i64 x] w fun e w' => e = .returned (.bool false) ∧ w' = w := by
  have hx : (x != x) = false := by simp
  go_enter Tryz.func136, Tryz.ntmps136
  go_wp2
  go_ret
  exact ⟨rfl, rfl⟩
def cmpI (x y : Int) : Int := if x < y then -1 else if y < x then 1 else 0
set_option maxHeartbeats 1000000 in
theorem cCmp (x y : Int) (w : World) : Calls Tryz.prog 109 #[.int .i64 x, .int .i64 y] w fun e w' => e = .returned (.int .i64 (cmpI x y)) ∧ w' = w := by
  have H := Lib.hid cNaN
  obtain ⟨R, hR⟩ : ∃ R, R = cmpI x y := ⟨_, rfl⟩
  rw [← hR]
  have HR := Lib.hid hR
  clear hR
  by_cases h1 : x < y
  · have e := Lib.hid (show R = -1 by rw [HR.out]; exact if_pos h1)
    go_enter Tryz.func109, Tryz.ntmps109
    go_wp2_with (go_at_call 136; refine (H.out _ _).mono ?_; rintro e w1 ⟨rfl, rfl⟩)
    go_ret
    rw [e.out]
    exact ⟨rfl, rfl⟩
  · by_cases h2 : y < x
    · have e := Lib.hid (show R = 1 by rw [HR.out, cmpI, if_neg h1, if_pos h2])
      go_enter Tryz.func109, Tryz.ntmps109
      go_wp2_with (go_at_call 136; refine (H.out _ _).mono ?_; rintro e w1 ⟨rfl, rfl⟩)
      go_ret
      rw [e.out]
      exact ⟨rfl, rfl⟩
    · have e := Lib.hid (show R = 0 by rw [HR.out, cmpI, if_neg h1, if_neg h2])
      go_enter Tryz.func109, Tryz.ntmps109
      go_wp2_with (go_at_call 136; refine (H.out _ _).mono ?_; rintro e w1 ⟨rfl, rfl⟩)
      go_ret
      rw [e.out]
      exact ⟨rfl, rfl⟩

set_option maxRecDepth 100000 in
set_option maxHeartbeats 1000000 in
theorem cOr (g : Nat) (x y : Int) (w : World) (h0 : w.cell? ⟨g, 0, none⟩ = some (.int .i64 x)) (h1 : w.cell? ⟨g, 1, none⟩ = some (.int .i64 y)) :
    Calls Tryz.prog 126 #[.slice (some ⟨g, 0, none⟩) 2 2] w fun e w' => e = .returned (.int .i64 (if x ≠ 0 then x else y)) ∧ w' = w := by
  obtain ⟨R, hR⟩ : ∃ R, R = if x ≠ 0 then x else y := ⟨_, rfl⟩
  rw [← hR]
  have HR := Lib.hid hR
  clear hR
  by_cases hx : x = 0
  · subst hx
    have e := Lib.hid (show R = y by rw [HR.out]; rfl)
    clear HR
    by_cases hy : y = 0
    · subst hy
      go_enter Tryz.func126, Tryz.ntmps126
      go_wp2
      refine wp_loop_rounds 3 ?_
      rw [rounds_succ]
      go_wp2
      rw [rounds_succ]
      go_wp2
      rw [rounds_succ]
      go_wp2
      go_ret
      rw [e.out]
      exact ⟨rfl, rfl⟩
    · have hne : (y != 0) = true := bne_t hy
      go_enter Tryz.func126, Tryz.ntmps126
      go_wp2
      refine wp_loop_rounds 3 ?_
      rw [rounds_succ]
      go_wp2
      rw [rounds_succ]
      go_wp2
      go_ret
      rw [e.out]
      exact ⟨rfl, rfl⟩
  · have e := Lib.hid (show R = x by rw [HR.out]; exact if_pos hx)
    have hne : (x != 0) = true := bne_t hx
    clear HR
    go_enter Tryz.func126, Tryz.ntmps126
    go_wp2
    refine wp_loop_rounds 3 ?_
    rw [rounds_succ]
    go_wp2
    go_ret
    rw [e.out]
    exact ⟨rfl, rfl⟩

theorem cmpP_or (a m b n : Int) : (if cmpI a b ≠ 0 then cmpI a b else cmpI m n) = JM.cmpP a m b n := by
  unfold cmpI JM.cmpP; (repeat' split) <;> omega

set_option maxRecDepth 100000 in
set_option maxHeartbeats 1000000 in
theorem cCompare (a m : Int) (ua : Option Addr) (ul uc : Nat) (b n : Int) (va : Option Addr) (vl vc : Nat) (w : World) :
    Calls Tryz.prog 94 #[pv a m (.slice ua ul uc), pv b n (.slice va vl vc)] w fun e w' => e = .returned (.int .i64 (JM.cmpP a m b n)) ∧ Below w.heap.size w w' := by
  have hb0 := below_fresh w (.cells #[.int .i64 a, .int .i64 m, .slice ua ul uc] 70)
  have hP0 := PBox.fresh w a m (.slice ua ul uc)
  generalize hw0 : w.alloc (.cells #[.int .i64 a, .int .i64 m, .slice ua ul uc] 70) = w0 at hb0 hP0
  have hb1 := below_fresh w0 (.cells #[.int .i64 b, .int .i64 n, .slice va vl vc] 70)
  have hP1 := PBox.fresh w0 b n (.slice va vl vc)
  have hP0' := hP0.below hb1
  have hs0 : w0.heap.size = w.heap.size + 1 := by rw [← hw0]; exact World.size_alloc _ _
  have HB := Lib.hid (bnext hb0 hb1)
  have H1 := Lib.hid (cCmp a b)
  have H2 := Lib.hid (cCmp m n)
  have e := Lib.hid (cmpP_or a m b n)
  generalize cmpI a b = X at H1 e
  generalize cmpI m n = Y at H2 e
  generalize JM.cmpP a m b n = R at e
  rw [hs0] at hP1
  obtain ⟨p0, p1, p2⟩ := hP0'
  obtain ⟨q0, q1, q2⟩ := hP1
  have HW0 := Lib.hid hw0
  generalize hw1 : w0.alloc (.cells #[.int .i64 b, .int .i64 n, .slice va vl vc] 70) = w1 at HB p0 p1 p2 q0 q1 q2
  have HW1 := Lib.hid hw1
  clear hw1
  clear hb0 hP0 hb1 hw0 hs0
  go_enter Tryz.func94, Tryz.ntmps94
  go_wp2
  rw [HW0.out, HW1.out]
  refine wp_region_still_tail 10 (by kernel_rfl) (by kernel_rfl) ?_
  simp only [List.take_succ_cons, List.take_zero, List.drop_succ_cons, List.drop_zero]
  iterate 4 still_step
  still_call (H1.out _)
  iterate 4 still_step
  still_call (H2.out _)
  refine wpStill_nil ?_
  change wpList _ _ _ _ _ w1.drew
  have HB2 := Lib.hid (HB.out.drew)
  generalize w1.drew = w2 at HB2 ⊢
  have hb3 := below_fresh w2 (.cells #[.int .i64 X, .int .i64 Y] 3)
  go_wp2_with fail
  refine (cOr w2.heap.size X Y _ (by simp [World.cell?_alloc_new]) (by simp [World.cell?_alloc_new])).mono ?_
  rintro e w4 ⟨rfl, rfl⟩
  rw [e.out]
  go_wp2
  go_ret
  exact ⟨rfl, bnext HB2.out hb3⟩

end Go.Proofs.YthfpafnljnnndaaGreat

namespace Go.Proofs.YthfpafnljnnndaaGreat
open Go.RowKit
open JM (Chg)

instance decChg : DecidableEq Chg := fun a b => inferInstanceAs (Decidable (a = b))

set_option maxRecDepth 100000 in
set_option maxHeartbeats 1000000 in
theorem rCompare (a m : Int) (ua : Option Addr) (ul uc : Nat) (b n : Int) (va : Option Addr) (vl vc : Nat) (w : World) :
    Calls Tryz.prog 57 #[pv a m (.slice ua ul uc), pv b n (.slice va vl vc)] w fun e w' => e = .returned (.int .i64 (JM.cmpP a m b n)) ∧ Below w.heap.size w w' := by
  obtain ⟨R, hR⟩ : ∃ R, R = JM.cmpP a m b n := ⟨_, rfl⟩
  rw [← hR]
  have HR := Lib.hid hR
  clear hR
  have hs : ∀ o : Obj, (w.alloc o).heap.size = w.heap.size + 1 := fun o => World.size_alloc _ _
  by_cases h1 : a < b
  · have e := Lib.hid (show R = -1 by rw [HR.out]; exact if_pos (.inl h1))
    clear HR
    go_enter Tryz.func57, Tryz.ntmps57
    go_wp2
    go_ret
    rw [e.out]
    exact ⟨rfl, bnext (below_fresh _ _) (below_fresh _ _)⟩
  · by_cases h2 : a = b
    · have he : (a == b) = true := beq_t h2
      by_cases h3 : m < n
      · have e := Lib.hid (show R = -1 by rw [HR.out]; exact if_pos (.inr ⟨h2, h3⟩))
        clear HR h2
        go_enter Tryz.func57, Tryz.ntmps57
        go_wp2
        go_ret
        rw [e.out]
        exact ⟨rfl, bnext (below_fresh _ _) (below_fresh _ _)⟩
      · by_cases h4 : m = n
        · have e := Lib.hid (show R = 0 by rw [HR.out, JM.cmpP, if_neg (by omega), if_pos ⟨h2, h4⟩])
          have he2 : (m == n) = true := beq_t h4
          have h3 : decide (m < n) = false := decide_eq_false h3
          clear HR h2 h4
          go_enter Tryz.func57, Tryz.ntmps57
          go_wp2
          go_ret
          rw [e.out]
          exact ⟨rfl, bnext (below_fresh _ _) (below_fresh _ _)⟩
        · have e := Lib.hid (show R = 1 by rw [HR.out, JM.cmpP, if_neg (by omega), if_neg (by omega)])
          have he2 : (m == n) = false := beq_f h4
          have h3 : decide (m < n) = false := decide_eq_false h3
          clear HR h2 h4
          go_enter Tryz.func57, Tryz.ntmps57
          go_wp2
          go_ret
          rw [e.out]
          exact ⟨rfl, bnext (below_fresh _ _) (below_fresh _ _)⟩
    · have he : (a == b) = false := beq_f h2
      have e := Lib.hid (show R = 1 by rw [HR.out, JM.cmpP, if_neg (by omega), if_neg (by omega)])
      clear HR h2
      go_enter Tryz.func57, Tryz.ntmps57
      go_wp2
      go_ret
      rw [e.out]
      exact ⟨rfl, bnext (below_fresh _ _) (below_fresh _ _)⟩

theorem neq_cv (k s t v a b c k' s' t' v' a' b' c' : Int) (B : Bool) (h : B = decide ((k, s, t, v, a, b, c) = (k', s', t', v', a', b', c'))) (w : World) :
    (binOp .neq 67 (cv k s t v a b c) (cv k' s' t' v' a' b' c')).run Tryz.prog w = .ok (.bool (!B)) w := by
  rw [h]; exact neq_chg (k, s, t, v, a, b, c) (k', s', t', v', a', b', c') w

set_option maxRecDepth 100000 in
set_option maxHeartbeats 1000000 in
theorem cEqualS (va vb : Value) (xs ys : List Chg) (w : World) (ha : RdC w va xs) (hb : RdC w vb ys) :
    Calls Tryz.prog 127 #[va, vb] w fun e w' => e = .returned (.bool (decide (xs = ys))) ∧ Below w.heap.size w w' := by
  obtain ⟨ad, c, rfl, hc, hl⟩ := ha.shape
  obtain ⟨bd, d, rfl, hd, hld⟩ := hb.shape
  have HA := Lib.hid ha
  have HB := Lib.hid hb
  clear ha hb
  by_cases hlen : xs.length = ys.length
  · obtain ⟨R, hR⟩ : ∃ R, R = decide (xs = ys) := ⟨_, rfl⟩
    rw [← hR]
    have HR := Lib.hid hR
    clear hR
    have HL := Lib.hid hlen
    have hq0 : ((xs.length : Int) != (ys.length : Int)) = false := by simp; omega
    rw [← hlen] at hq0 ⊢
    clear hlen
    have hm : Tryz.prog.eqGuardType Tryz.prog.depth 67 = false := by kernel_rfl
    go_enter Tryz.func127, Tryz.ntmps127
    go_wp2
    go_loopw [13] (fun i wr => ∃ k : Nat, k ≤ xs.length ∧ i = .int .i64 k ∧ Below w.heap.size w wr ∧ Hid (R = decide (xs.drop k = ys.drop k))) (fun i _ => xs.length - (intOf i).toNat)
    case atStart => exact ⟨0, Nat.zero_le _, rfl, Below.refl _ _, HR.out⟩
    case round =>
      obtain ⟨k, hk, rfl, hbl, he⟩ := hrel
      by_cases hlt : k < xs.length
      · have hlt2 : k < ys.length := by rw [← HL.out]; exact hlt
        have hatx := List.getElem?_eq_getElem hlt
        have haty := List.getElem?_eq_getElem hlt2
        have hdx := Lib.hid (drop_get hlt)
        have hdy := Lib.hid (drop_get hlt2)
        generalize xs[k] = y at hdx hatx
        obtain ⟨k', s', t', v', a', b', c'⟩ := y
        generalize ys[k] = z at hdy haty
        obtain ⟨k2, s2, t2, v2, a2, b2, c2⟩ := z
        obtain ⟨b, o, hi, hb, d0, d1, d2, d3, d4, d5, d6⟩ := atC (HA.out.below hbl) k _ _ _ _ _ _ _ hatx
        obtain ⟨bb, oo, hi2, hb2, f0, f1, f2, f3, f4, f5, f6⟩ := atC (HB.out.below hbl) k _ _ _ _ _ _ _ haty
        rw [← HL.out] at hi2
        have hq : (k : Int) < (xs.length : Int) := by omega
        clear HR hatx haty
        have hBB : ∃ B, B = decide ((k', s', t', v', a', b', c') = (k2, s2, t2, v2, a2, b2, c2)) := ⟨_, rfl⟩
        obtain ⟨B, hB⟩ := hBB
        have hneq := neq_cv _ _ _ _ _ _ _ _ _ _ _ _ _ _ B hB
        have e0 := Lib.hid (show R = (B && decide (xs.drop (k + 1) = ys.drop (k + 1))) by
          rw [he.out, hdx.out, hdy.out, hB]
          rw [← Bool.decide_and]
          exact decide_eq_decide.2 List.cons_eq_cons)
        clear he hdx hdy hB
        cases B
        · have e2 := Lib.hid (e0.out.trans (Bool.false_and _))
          clear e0
          go_wp2
          go_quiet (fail)
          go_wp2
          go_ret
          rw [e2.out]
          exact ⟨rfl, hbl.trans (below_drewN _ _ _)⟩
        · have e2 := Lib.hid (e0.out.trans (Bool.true_and _))
          clear e0
          go_wp2
          go_quiet (fail)
          go_wp2
          go_roundw
          case rel => exact ⟨k + 1, by omega, by go_num, hbl.trans (below_drewN _ _ _), e2⟩
          case measure => simp [intOf]; omega
      · have hq : ¬ ((k : Int) < (xs.length : Int)) := by omega
        have e2 := Lib.hid (show R = true by rw [he.out, List.drop_of_length_le (by omega), List.drop_of_length_le (by rw [← HL.out]; omega)]; rfl)
        clear he HR
        go_wp2
        go_ret
        rw [e2.out]
        exact ⟨rfl, hbl⟩
  · have e2 := Lib.hid (show decide (xs = ys) = false from decide_eq_false fun h => hlen (by rw [h]))
    have hq0 : ((xs.length : Int) != (ys.length : Int)) = true := by simp; omega
    clear hlen HA HB
    go_enter Tryz.func127, Tryz.ntmps127
    go_wp2
    go_ret
    rw [e2.out]
    exact ⟨rfl, Below.refl _ _⟩

/-- All fields are equal. -/
def eqP (a m : Int) (xs : List Chg) (b n : Int) (ys : List Chg) : Bool := decide (a = b ∧ m = n ∧ xs = ys)

set_option maxRecDepth 100000 in
set_option maxHeartbeats 1000000 in
theorem cEqual (a m : Int) (u : Value) (xs : List Chg) (b n : Int) (v : Value) (ys : List Chg) (w : World) (hx : RdC w u xs) (hy : RdC w v ys) :
    Calls Tryz.prog 95 #[pv a m u, pv b n v] w fun e w' => e = .returned (.bool (eqP a m xs b n ys)) ∧ Below w.heap.size w w' := by
  obtain ⟨ad, c, rfl, hc, hl⟩ := hx.shape
  obtain ⟨bd, d, rfl, hd, hld⟩ := hy.shape
  have hb0 := below_fresh w (.cells #[.int .i64 a, .int .i64 m, .slice ad xs.length c] 70)
  have hP0 := PBox.fresh w a m (.slice ad xs.length c)
  generalize hw0 : w.alloc (.cells #[.int .i64 a, .int .i64 m, .slice ad xs.length c] 70) = w0 at hb0 hP0
  have hb1 := below_fresh w0 (.cells #[.int .i64 b, .int .i64 n, .slice bd ys.length d] 70)
  have hP1 := PBox.fresh w0 b n (.slice bd ys.length d)
  have hP0' := hP0.below hb1
  have hs0 : w0.heap.size = w.heap.size + 1 := by rw [← hw0]; exact World.size_alloc _ _
  rw [hs0] at hP1
  generalize hw1 : w0.alloc (.cells #[.int .i64 b, .int .i64 n, .slice bd ys.length d] 70) = w1 at hb1 hP0' hP1
  have HB := Lib.hid (bnext hb0 hb1)
  have HX := Lib.hid (hx.below HB.out)
  have HY := Lib.hid (hy.below HB.out)
  have HW0 := Lib.hid hw0
  have HW1 := Lib.hid hw1
  have hcm := cCompare a m ad xs.length c b n bd ys.length d w1
  have HP0 := Lib.hid hP0'
  have HP1 := Lib.hid hP1
  obtain ⟨p0, p1, p2⟩ := hP0'
  obtain ⟨q0, q1, q2⟩ := hP1
  clear hb0 hP0 hb1 hw0 hw1 hs0 hx hy
  obtain ⟨R, hR⟩ : ∃ R, R = eqP a m xs b n ys := ⟨_, rfl⟩
  rw [← hR]
  have HC := Lib.hid hcm
  have hz := @JM.cmpP_zero a m b n
  clear hcm
  generalize JM.cmpP a m b n = X at HC hz
  by_cases hX : X = 0
  · have e := Lib.hid (show R = decide (xs = ys) by rw [hR, eqP]; exact decide_eq_decide.2 ⟨fun h => h.2.2, fun h => ⟨(hz.1 hX).1, (hz.1 hX).2, h⟩⟩)
    clear hR hz
    subst hX
    go_enter Tryz.func95, Tryz.ntmps95
    go_wp2_with fail
    rw [HW0.out, HW1.out]
    refine HC.out.mono ?_
    rintro e w2 ⟨rfl, hb2⟩
    have HB2 := Lib.hid (bnext HB.out hb2)
    have he := cEqualS _ _ xs ys w2 (HX.out.below hb2) (HY.out.below hb2)
    rw [← e.out] at he
    have HE := Lib.hid he
    clear he
    obtain ⟨p0', p1', p2'⟩ := HP0.out.below hb2
    obtain ⟨q0', q1', q2'⟩ := HP1.out.below hb2
    clear p0 p1 p2 q0 q1 q2 hb2
    go_wp2_with fail
    refine HE.out.mono ?_
    rintro e w3 ⟨rfl, hb3⟩
    go_wp2
    go_ret
    exact ⟨rfl, bnext HB2.out hb3⟩
  · have e := Lib.hid (show R = false by rw [hR, eqP]; exact decide_eq_false (fun h => hX (hz.2 ⟨h.1, h.2.1⟩)))
    have hne : (X == 0) = false := beq_f hX
    clear hR hz hX
    go_enter Tryz.func95, Tryz.ntmps95
    go_wp2_with fail
    rw [HW0.out, HW1.out]
    refine HC.out.mono ?_
    rintro e w2 ⟨rfl, hb2⟩
    have HB2 := Lib.hid (bnext HB.out hb2)
    clear p0 p1 p2 q0 q1 q2 hb2
    go_wp2
    go_ret
    rw [e.out]
    exact ⟨rfl, HB2.out⟩

set_option maxRecDepth 100000 in
set_option maxHeartbeats 1000000 in
theorem rEqual (a m : Int) (u : Value) (xs : List Chg) (b n : Int) (v : Value) (ys : List Chg) (w : World) (hx : RdC w u xs) (hy : RdC w v ys) :
    Calls Tryz.prog 55 #[pv a m u, pv b n v] w fun e w' => e = .returned (.bool (eqP a m xs b n ys)) ∧ Below w.heap.size w w' := by
  obtain ⟨ad, c, rfl, hc, hl⟩ := hx.shape
  obtain ⟨bd, d, rfl, hd, hld⟩ := hy.shape
  have hb0 := below_fresh w (.cells #[.int .i64 a, .int .i64 m, .slice ad xs.length c] 70)
  have hP0 := PBox.fresh w a m (.slice ad xs.length c)
  generalize hw0 : w.alloc (.cells #[.int .i64 a, .int .i64 m, .slice ad xs.length c] 70) = w0 at hb0 hP0
  have hb1 := below_fresh w0 (.cells #[.int .i64 b, .int .i64 n, .slice bd ys.length d] 70)
  have hP1 := PBox.fresh w0 b n (.slice bd ys.length d)
  have hP0' := hP0.below hb1
  have hs0 : w0.heap.size = w.heap.size + 1 := by rw [← hw0]; exact World.size_alloc _ _
  rw [hs0] at hP1
  generalize hw1 : w0.alloc (.cells #[.int .i64 b, .int .i64 n, .slice bd ys.length d] 70) = w1 at hb1 hP0' hP1
  have HB := Lib.hid (bnext hb0 hb1)
  have HA := Lib.hid (hx.below HB.out)
  have HBB := Lib.hid (hy.below HB.out)
  have HW0 := Lib.hid hw0
  have HW1 := Lib.hid hw1
  have HP0 := Lib.hid hP0'
  have HP1 := Lib.hid hP1
  obtain ⟨p0, p1, p2⟩ := hP0'
  obtain ⟨q0, q1, q2⟩ := hP1
  clear hb0 hP0 hb1 hw0 hw1 hs0 hx hy
  obtain ⟨R, hR⟩ : ∃ R, R = eqP a m xs b n ys := ⟨_, rfl⟩
  rw [← hR]
  by_cases h1 : a = b
  · have h1' : (a != b) = false := bne_f h1
    by_cases h2 : m = n
    · have h2' : (m != n) = false := bne_f h2
      have hR2 : R = decide (xs = ys) := by rw [hR, eqP]; exact decide_eq_decide.2 ⟨fun h => h.2.2, fun h => ⟨h1, h2, h⟩⟩
      clear hR h1 h2
      by_cases hlen : xs.length = ys.length
      · have HR := Lib.hid hR2
        clear hR2
        have HL := Lib.hid hlen
        have hq0 : ((xs.length : Int) != (ys.length : Int)) = false := by simp; omega
        clear hlen
        have hm : Tryz.prog.eqGuardType Tryz.prog.depth 67 = false := by kernel_rfl
        go_enter Tryz.func55, Tryz.ntmps55
        go_wp2
        rw [HW0.out, HW1.out]
        go_wp2
        clear p0 p1 p2 q0 q1 q2
        go_loopw [5] (fun i wr => ∃ k : Nat, k ≤ xs.length ∧ i = .int .i64 k ∧ Below w1.heap.size w1 wr ∧ Hid (R = decide (xs.drop k = ys.drop k))) (fun i _ => xs.length - (intOf i).toNat)
        case atStart => exact ⟨0, Nat.zero_le _, rfl, Below.refl _ _, HR.out⟩
        case round =>
          obtain ⟨k, hk, rfl, hbl, he⟩ := hrel
          obtain ⟨p0, p1, p2⟩ := HP0.out.below hbl
          obtain ⟨q0, q1, q2⟩ := HP1.out.below hbl
          by_cases hlt : k < xs.length
          · have hlt2 : k < ys.length := by rw [← HL.out]; exact hlt
            have hatx := List.getElem?_eq_getElem hlt
            have haty := List.getElem?_eq_getElem hlt2
            have hdx := Lib.hid (drop_get hlt)
            have hdy := Lib.hid (drop_get hlt2)
            generalize xs[k] = y at hdx hatx
            obtain ⟨k', s', t', v', a', b', c'⟩ := y
            generalize ys[k] = z at hdy haty
            obtain ⟨k2, s2, t2, v2, a2, b2, c2⟩ := z
            obtain ⟨b, o, hi, hb, d0, d1, d2, d3, d4, d5, d6⟩ := atC (HA.out.below hbl) k _ _ _ _ _ _ _ hatx
            obtain ⟨bb, oo, hi2, hb2, f0, f1, f2, f3, f4, f5, f6⟩ := atC (HBB.out.below hbl) k _ _ _ _ _ _ _ haty
            have hq : (k : Int) < (xs.length : Int) := by omega
            clear HR hatx haty
            have hBB : ∃ B, B = decide ((k', s', t', v', a', b', c') = (k2, s2, t2, v2, a2, b2, c2)) := ⟨_, rfl⟩
            obtain ⟨B, hB⟩ := hBB
            have hneq := neq_cv _ _ _ _ _ _ _ _ _ _ _ _ _ _ B hB
            have e0 := Lib.hid (show R = (B && decide (xs.drop (k + 1) = ys.drop (k + 1))) by
              rw [he.out, hdx.out, hdy.out, hB]
              rw [← Bool.decide_and]
              exact decide_eq_decide.2 List.cons_eq_cons)
            clear he hdx hdy hB
            cases B
            · have e2 := Lib.hid (e0.out.trans (Bool.false_and _))
              clear e0
              go_wp2
              go_quiet (fail)
              go_wp2
              go_ret
              rw [e2.out]
              exact ⟨rfl, bnext HB.out (hbl.trans (below_drewN _ _ _))⟩
            · have e2 := Lib.hid (e0.out.trans (Bool.true_and _))
              clear e0
              go_wp2
              go_quiet (fail)
              go_wp2
              go_roundw
              case rel => exact ⟨k + 1, by omega, by go_num, hbl.trans (below_drewN _ _ _), e2⟩
              case measure => simp [intOf]; omega
          · have hq : ¬ ((k : Int) < (xs.length : Int)) := by omega
            have e2 := Lib.hid (show R = true by rw [he.out, List.drop_of_length_le (by omega), List.drop_of_length_le (by rw [← HL.out]; omega)]; rfl)
            clear he HR
            go_wp2
            go_ret
            rw [e2.out]
            exact ⟨rfl, bnext HB.out hbl⟩
      · have e2 := Lib.hid (show R = false from hR2.trans (decide_eq_false fun h => hlen (by rw [h])))
        have hq0 : ((xs.length : Int) != (ys.length : Int)) = true := by simp; omega
        clear hlen HA HBB hR2
        go_enter Tryz.func55, Tryz.ntmps55
        go_wp2
        rw [HW0.out, HW1.out]
        go_wp2
        go_ret
        rw [e2.out]
        exact ⟨rfl, HB.out⟩
    · have h2' : (m != n) = true := bne_t h2
      have e2 := Lib.hid (show R = false by rw [hR, eqP]; exact decide_eq_false (fun h => h2 h.2.1))
      clear hR h1 h2
      go_enter Tryz.func55, Tryz.ntmps55
      go_wp2
      rw [HW0.out, HW1.out]
      go_wp2
      go_ret
      rw [e2.out]
      exact ⟨rfl, HB.out⟩
  · have h1' : (a != b) = true := bne_t h1
    have e2 := Lib.hid (show R = false by rw [hR, eqP]; exact decide_eq_false (fun h => h1 h.1))
    clear hR h1
    go_enter Tryz.func55, Tryz.ntmps55
    go_wp2
    rw [HW0.out, HW1.out]
    go_wp2
    go_ret
    rw [e2.out]
    exact ⟨rfl, HB.out⟩

end Go.Proofs.YthfpafnljnnndaaGreat

namespace Go.Proofs.YthfpafnljnnndaaGreat
open Go.RowKit
open JM (Chg)

theorem KeepsX.at {e t : TypeId} {w w' : World} (h : KeepsX e w w') {g : Nat} {cur : Array Value} {fr : Nat × Nat} (hg : w.heap[g]? = some (.cells cur t fr)) (ht : t ≠ e) : w'.heap[g]? = some (.cells cur t fr) := by
  have hlt : g < w.heap.size := (Array.getElem?_eq_some_iff.1 hg).1
  rw [h g hlt (fun cur' fr' he => by rw [hg] at he; cases he; exact ht rfl), hg]
theorem below_block {w w' : World} {g : Nat} {o : Obj} (hg : w.heap[g]? = some o) (hb : Below w.heap.size w w') : w'.heap[g]? = some o := by
  have hlt : g < w.heap.size := (Array.getElem?_eq_some_iff.1 hg).1
  rw [hb.block g hlt, hg]

section
variable {w : World} {ops : Array Oper} {rest : List Oper} {o : Oper} {a : Act} {Q : Exit → Act → World → Prop} {base : Nat} {v : Value} {ys : List Int}
end

theorem CBox.of {w : World} {g : Nat} {k s t v a b c : Int} (h : w.heap[g]? = some (.cells #[.int .i64 k, .int .i64 s, .int .i64 t, .int .i64 v, .int .i64 a, .int .i64 b, .int .i64 c] 67 (0, 0))) : CBox w g k s t v a b c := by
  refine ⟨?_, ?_, ?_, ?_, ?_, ?_, ?_⟩ <;> simp [World.cell?, h]

/-- Block g is a slice of numbers, written out. -/
def IBlk (w : World) (g : Nat) (l : List Int) : Prop := w.heap[g]? = some (.cells (cellsOf encI l).toArray 3 (0, 0))
theorem IBlk.rd {w : World} {g : Nat} {l : List Int} (h : IBlk w g l) (hl : l.length ≤ maxLen) : RdI w (.slice (some ⟨g, 0, none⟩) l.length l.length) l := by
  refine OwnG.rd (e := 3) (base := g) ⟨⟨cellsOf_length hlI.2 l, .inr ⟨g, l.length, (cellsOf encI l).toArray, rfl, Nat.le_refl _, h, Nat.le_refl _, hl, by simp [cellsOf_length hlI.2], by rw [List.take_of_length_le]; simp [cellsOf_length hlI.2]⟩⟩, hlI⟩

end Go.Proofs.YthfpafnljnnndaaGreat

namespace Go.Proofs.YthfpafnljnnndaaGreat
open Go.RowKit
open JM (Chg)

end Go.Proofs.YthfpafnljnnndaaGreat
