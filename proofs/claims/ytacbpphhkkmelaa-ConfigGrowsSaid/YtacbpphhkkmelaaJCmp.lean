/-
  The calls of proposal.Compare and the reference's CompareProposal: each returns the order of the identifiers. No conditions.
-/
import Derived.StillTailTactics
import Derived.Test.YtacbpphhkkmelaaJProp
namespace Go.Proofs.Ytacbpphhkkmelaa
open Go.RowKit
open JM (Chg)

theorem cNaN (x : Int) (w : World) : Calls Try.prog 95 #[.int .i64 x] w fun e w' => e = .returned (.bool false) ∧ w' = w := by
  have hx : (x != x) = false := by simp
  go_enter Try.func95, Try.ntmps95
  go_wp2
  go_ret
  exact ⟨rfl, rfl⟩
def cmpI (x y : Int) : Int := if x < y then -1 else if y < x then 1 else 0
set_option maxHeartbeats 1000000 in
theorem cCmp (x y : Int) (w : World) : Calls Try.prog 75 #[.int .i64 x, .int .i64 y] w fun e w' => e = .returned (.int .i64 (cmpI x y)) ∧ w' = w := by
  have H := Lib.hid cNaN
  obtain ⟨R, hR⟩ : ∃ R, R = cmpI x y := ⟨_, rfl⟩
  rw [← hR]
  have HR := Lib.hid hR
  clear hR
  by_cases h1 : x < y
  · have e := Lib.hid (show R = -1 by rw [HR.out]; exact if_pos h1)
    go_enter Try.func75, Try.ntmps75
    go_wp2_with (go_at_call 95; refine (H.out _ _).mono ?_; rintro e w1 ⟨rfl, rfl⟩)
    go_ret
    rw [e.out]
    exact ⟨rfl, rfl⟩
  · by_cases h2 : y < x
    · have e := Lib.hid (show R = 1 by rw [HR.out, cmpI, if_neg h1, if_pos h2])
      go_enter Try.func75, Try.ntmps75
      go_wp2_with (go_at_call 95; refine (H.out _ _).mono ?_; rintro e w1 ⟨rfl, rfl⟩)
      go_ret
      rw [e.out]
      exact ⟨rfl, rfl⟩
    · have e := Lib.hid (show R = 0 by rw [HR.out, cmpI, if_neg h1, if_neg h2])
      go_enter Try.func75, Try.ntmps75
      go_wp2_with (go_at_call 95; refine (H.out _ _).mono ?_; rintro e w1 ⟨rfl, rfl⟩)
      go_ret
      rw [e.out]
      exact ⟨rfl, rfl⟩

set_option maxRecDepth 100000 in
set_option maxHeartbeats 1000000 in
theorem cOr (g : Nat) (x y : Int) (w : World) (h0 : w.cell? ⟨g, 0, none⟩ = some (.int .i64 x)) (h1 : w.cell? ⟨g, 1, none⟩ = some (.int .i64 y)) :
    Calls Try.prog 74 #[.slice (some ⟨g, 0, none⟩) 2 2] w fun e w' => e = .returned (.int .i64 (if x ≠ 0 then x else y)) ∧ w' = w := by
  obtain ⟨R, hR⟩ : ∃ R, R = if x ≠ 0 then x else y := ⟨_, rfl⟩
  rw [← hR]
  have HR := Lib.hid hR
  clear hR
  by_cases hx : x = 0
  · subst hx
    have e := Lib.hid (show R = y by rw [HR.out]; rfl)
    clear HR
    by_cases hy : y = 0
    · subst hy
      go_enter Try.func74, Try.ntmps74
      go_wp2
      refine wp_loop_rounds 3 ?_
      rw [rounds_succ]
      go_wp2
      rw [rounds_succ]
      go_wp2
      rw [rounds_succ]
      go_wp2
      go_ret
      rw [e.out]
      exact ⟨rfl, rfl⟩
    · have hne : (y != 0) = true := bne_t hy
      go_enter Try.func74, Try.ntmps74
      go_wp2
      refine wp_loop_rounds 3 ?_
      rw [rounds_succ]
      go_wp2
      rw [rounds_succ]
      go_wp2
      go_ret
      rw [e.out]
      exact ⟨rfl, rfl⟩
  · have e := Lib.hid (show R = x by rw [HR.out]; exact if_pos hx)
    have hne : (x != 0) = true := bne_t hx
    clear HR
    go_enter Try.func74, Try.ntmps74
    go_wp2
    refine wp_loop_rounds 3 ?_
    rw [rounds_succ]
    go_wp2
    go_ret
    rw [e.out]
    exact ⟨rfl, rfl⟩

theorem cmpP_or (a m b n : Int) : (if cmpI a b ≠ 0 then cmpI a b else cmpI m n) = JM.cmpP a m b n := by
  unfold cmpI JM.cmpP; (repeat' split) <;> omega

set_option maxRecDepth 100000 in
set_option maxHeartbeats 1000000 in
theorem cCompare (a m : Int) (ua : Option Addr) (ul uc : Nat) (b n : Int) (va : Option Addr) (vl vc : Nat) (w : World) :
    Calls Try.prog 45 #[pv a m (.slice ua ul uc), pv b n (.slice va vl vc)] w fun e w' => e = .returned (.int .i64 (JM.cmpP a m b n)) ∧ Below w.heap.size w w' := by
  have hb0 := below_fresh w (.cells #[.int .i64 a, .int .i64 m, .slice ua ul uc] 45)
  have hP0 := PBox.fresh w a m (.slice ua ul uc)
  generalize hw0 : w.alloc (.cells #[.int .i64 a, .int .i64 m, .slice ua ul uc] 45) = w0 at hb0 hP0
  have hb1 := below_fresh w0 (.cells #[.int .i64 b, .int .i64 n, .slice va vl vc] 45)
  have hP1 := PBox.fresh w0 b n (.slice va vl vc)
  have hP0' := hP0.below hb1
  have hs0 : w0.heap.size = w.heap.size + 1 := by rw [← hw0]; exact World.size_alloc _ _
  have HB := Lib.hid (bnext hb0 hb1)
  have H1 := Lib.hid (cCmp a b)
  have H2 := Lib.hid (cCmp m n)
  have e := Lib.hid (cmpP_or a m b n)
  generalize cmpI a b = X at H1 e
  generalize cmpI m n = Y at H2 e
  generalize JM.cmpP a m b n = R at e
  rw [hs0] at hP1
  obtain ⟨p0, p1, p2⟩ := hP0'
  obtain ⟨q0, q1, q2⟩ := hP1
  have HW0 := Lib.hid hw0
  generalize hw1 : w0.alloc (.cells #[.int .i64 b, .int .i64 n, .slice va vl vc] 45) = w1 at HB p0 p1 p2 q0 q1 q2
  have HW1 := Lib.hid hw1
  clear hw1
  clear hb0 hP0 hb1 hw0 hs0
  go_enter Try.func45, Try.ntmps45
  go_wp2
  rw [HW0.out, HW1.out]
  refine wp_region_still_tail 10 (by kernel_rfl) (by kernel_rfl) ?_
  simp only [List.take_succ_cons, List.take_zero, List.drop_succ_cons, List.drop_zero]
  iterate 4 still_step
  still_call (H1.out _)
  iterate 4 still_step
  still_call (H2.out _)
  refine wpStill_nil ?_
  change wpList _ _ _ _ _ w1.drew
  have HB2 := Lib.hid (HB.out.drew)
  generalize w1.drew = w2 at HB2 ⊢
  have hb3 := below_fresh w2 (.cells #[.int .i64 X, .int .i64 Y] 3)
  go_wp2_with fail
  refine (cOr w2.heap.size X Y _ (by simp [World.cell?_alloc_new]) (by simp [World.cell?_alloc_new])).mono ?_
  rintro e w4 ⟨rfl, rfl⟩
  rw [e.out]
  go_wp2
  go_ret
  exact ⟨rfl, bnext HB2.out hb3⟩

end Go.Proofs.Ytacbpphhkkmelaa
