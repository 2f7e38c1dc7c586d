/-
  The calls EqualView of the reference and Equal of the program: true just where all is equal. No conditions beyond that they read.
-/
import Derived.Test.YtkaafbdhgekeeaaGreatMEq
namespace Go.Proofs.YtkaafbdhgekeeaaGreat
open Go.RowKit
open MM (Mem Ent Sm Tri)

theorem neq_mv (s t s' t' : Int) (B : Bool) (h : B = decide ((s, t) = (s', t'))) (w : World) :
    (binOp .neq 48 (mv s t) (mv s' t')).run Tryz.prog w = .ok (.bool (!B)) w := by
  rw [h, neq_mem]; simp
set_option maxRecDepth 100000 in
set_option maxHeartbeats 4000000 in
theorem cEqSum (va vb : Value) (s t : Sm) (w : World) (ha : RdS w va s) (hb : RdS w vb t) :
    Calls Tryz.prog 16 #[va, vb] w fun e w' => e = .returned (.bool (MM.eqS s t)) ∧ Below w.heap.size w w' := by
  obtain ⟨x, y, z, rfl, hj, hr, hw⟩ := ha
  obtain ⟨x', y', z', rfl, hj', hr', hw'⟩ := hb
  obtain ⟨J, R1, W, k, c, f, v, a, n⟩ := s
  obtain ⟨J', R1', W', k', c', f', v', a', n'⟩ := t
  dsimp only at *
  have hB := below_fresh w (.cells #[x, y, z, .int .i64 k, .int .i64 c, .int .i64 f, .int .i64 v, .int .i64 a, .int .i64 n] 37)
  have hP := B9.fresh w 37 x y z k c f v a n
  generalize hw1 : w.alloc (.cells #[x, y, z, .int .i64 k, .int .i64 c, .int .i64 f, .int .i64 v, .int .i64 a, .int .i64 n] 37) = w1 at hB hP
  have hs1 : w1.heap.size = w.heap.size + 1 := by rw [← hw1]; exact World.size_alloc _ _
  have hB2 := below_fresh w1 (.cells #[x', y', z', .int .i64 k', .int .i64 c', .int .i64 f', .int .i64 v', .int .i64 a', .int .i64 n'] 37)
  have hP2 := B9.fresh w1 37 x' y' z' k' c' f' v' a' n'
  have hPb := hP.below hB2
  rw [hs1] at hP2
  generalize hw2 : w1.alloc (.cells #[x', y', z', .int .i64 k', .int .i64 c', .int .i64 f', .int .i64 v', .int .i64 a', .int .i64 n'] 37) = w2 at hB2 hP2 hPb
  have hBB := bnext hB hB2
  obtain ⟨R, hR⟩ : ∃ R, R = MM.eqS ⟨J, R1, W, k, c, f, v, a, n⟩ ⟨J', R1', W', k', c', f', v', a', n'⟩ := ⟨_, rfl⟩
  rw [← hR]
  have hR2 : R = (decide (J = J') && decide (R1 = R1') && decide (W = W') && decide (k = k' ∧ c = c' ∧ f = f') && decide ((v, a, n) = (v', a', n'))) := hR
  clear hR
  have h1 := fun p : Later w2 => Calls.later (cEqInts x x' J J' p.val ((hj.below hBB).below p.h) ((hj'.below hBB).below p.h))
  have h2 := fun p : Later w2 => Calls.later (cEqInts y y' R1 R1' p.val ((hr.below hBB).below p.h) ((hr'.below hBB).below p.h))
  have h3 := fun p : Later w2 => Calls.later (cEqWgts z z' W W' p.val ((hw.below hBB).below p.h) ((hw'.below hBB).below p.h))
  have H4 := Lib.hid (fun p : Later w2 => Calls.later (cRuleOrigin x y z k c f v a n p.val))
  have H5 := Lib.hid (fun p : Later w2 => Calls.later (cRuleOrigin x' y' z' k' c' f' v' a' n' p.val))
  have heq := fun w => eql_rule k c f k' c' f' w
  have heo := fun w => eql_org v a n v' a' n' w
  have htb : decide ((v, a, n) = (v', a', n')) = decide (v = v' ∧ a = a' ∧ n = n') := by simp
  rw [htb] at hR2
  clear htb
  generalize decide (J = J') = b1 at h1 hR2
  generalize decide (R1 = R1') = b2 at h2 hR2
  generalize decide (W = W') = b3 at h3 hR2
  generalize decide (k = k' ∧ c = c' ∧ f = f') = zb at heq hR2
  generalize decide (v = v' ∧ a = a' ∧ n = n') = tb at heo hR2
  have H1 := Lib.hid h1
  have H2 := Lib.hid h2
  have H3 := Lib.hid h3
  have HR := Lib.hid hR2
  have HB := Lib.hid hBB
  have HW1 := Lib.hid hw1
  have HW2 := Lib.hid hw2
  have HP := Lib.hid (And.intro hPb hP2)
  clear h1 h2 h3 hR2 hj hj' hr hr' hw hw' hBB hP hB hB2 hw1 hs1 hw2 hPb hP2
  have P0 : ∀ p : Later w2, p.val.cell? ⟨w.heap.size, 0, none⟩ = some x := fun p => (HP.out.1.below p.h).2.1
  have P1 : ∀ p : Later w2, p.val.cell? ⟨w.heap.size, 1, none⟩ = some y := fun p => (HP.out.1.below p.h).2.2.1
  have P2 : ∀ p : Later w2, p.val.cell? ⟨w.heap.size, 2, none⟩ = some z := fun p => (HP.out.1.below p.h).2.2.2.1
  have P3 : ∀ p : Later w2, p.val.cell? ⟨w.heap.size, 3, none⟩ = some (.int .i64 k) := fun p => (HP.out.1.below p.h).2.2.2.2.1
  have P4 : ∀ p : Later w2, p.val.cell? ⟨w.heap.size, 4, none⟩ = some (.int .i64 c) := fun p => (HP.out.1.below p.h).2.2.2.2.2.1
  have P5 : ∀ p : Later w2, p.val.cell? ⟨w.heap.size, 5, none⟩ = some (.int .i64 f) := fun p => (HP.out.1.below p.h).2.2.2.2.2.2.1
  have P6 : ∀ p : Later w2, p.val.cell? ⟨w.heap.size, 6, none⟩ = some (.int .i64 v) := fun p => (HP.out.1.below p.h).2.2.2.2.2.2.2.1
  have P7 : ∀ p : Later w2, p.val.cell? ⟨w.heap.size, 7, none⟩ = some (.int .i64 a) := fun p => (HP.out.1.below p.h).2.2.2.2.2.2.2.2.1
  have P8 : ∀ p : Later w2, p.val.cell? ⟨w.heap.size, 8, none⟩ = some (.int .i64 n) := fun p => (HP.out.1.below p.h).2.2.2.2.2.2.2.2.2
  have Q0 : ∀ p : Later w2, p.val.cell? ⟨w.heap.size + 1, 0, none⟩ = some x' := fun p => (HP.out.2.below p.h).2.1
  have Q1 : ∀ p : Later w2, p.val.cell? ⟨w.heap.size + 1, 1, none⟩ = some y' := fun p => (HP.out.2.below p.h).2.2.1
  have Q2 : ∀ p : Later w2, p.val.cell? ⟨w.heap.size + 1, 2, none⟩ = some z' := fun p => (HP.out.2.below p.h).2.2.2.1
  have Q3 : ∀ p : Later w2, p.val.cell? ⟨w.heap.size + 1, 3, none⟩ = some (.int .i64 k') := fun p => (HP.out.2.below p.h).2.2.2.2.1
  have Q4 : ∀ p : Later w2, p.val.cell? ⟨w.heap.size + 1, 4, none⟩ = some (.int .i64 c') := fun p => (HP.out.2.below p.h).2.2.2.2.2.1
  have Q5 : ∀ p : Later w2, p.val.cell? ⟨w.heap.size + 1, 5, none⟩ = some (.int .i64 f') := fun p => (HP.out.2.below p.h).2.2.2.2.2.2.1
  have Q6 : ∀ p : Later w2, p.val.cell? ⟨w.heap.size + 1, 6, none⟩ = some (.int .i64 v') := fun p => (HP.out.2.below p.h).2.2.2.2.2.2.2.1
  have Q7 : ∀ p : Later w2, p.val.cell? ⟨w.heap.size + 1, 7, none⟩ = some (.int .i64 a') := fun p => (HP.out.2.below p.h).2.2.2.2.2.2.2.2.1
  have Q8 : ∀ p : Later w2, p.val.cell? ⟨w.heap.size + 1, 8, none⟩ = some (.int .i64 n') := fun p => (HP.out.2.below p.h).2.2.2.2.2.2.2.2.2
  have hmr := gm_rule
  have hmo := gm_org
  have hc6 : b1 = false ∨ (b1 = true ∧ b2 = false) ∨ (b1 = true ∧ b2 = true ∧ b3 = false) ∨ (b1 = true ∧ b2 = true ∧ b3 = true ∧ zb = false) ∨ (b1 = true ∧ b2 = true ∧ b3 = true ∧ zb = true) := by
    cases b1 <;> cases b2 <;> cases b3 <;> cases zb <;> simp
  rcases hc6 with rfl | ⟨rfl, rfl⟩ | ⟨rfl, rfl, rfl⟩ | ⟨rfl, rfl, rfl, rfl⟩ | ⟨rfl, rfl, rfl, rfl⟩
  all_goals
    go_enter Tryz.func16, Tryz.ntmps16
    go_wp2
    rw [HW1.out, HW2.out]
    refine wp_region_later (by kernel_rfl) (by kernel_rfl) ?_
    repeat (go_big_quiet_step (first | (with_reducible exact H1.out _) | (with_reducible exact H2.out _) | (with_reducible exact H3.out _) | (with_reducible exact H4.out _) | (with_reducible exact H5.out _)))
    refine wpQuiet_nil ?_
    rintro _ ⟨p', rfl⟩
    have HB2 := Lib.hid (bnext HB.out p'.h)
    generalize p'.val = w3 at HB2 ⊢
    go_wp2
    go_ret
    rw [HR.out]
    refine ⟨?_, HB2.out⟩
    simp

end Go.Proofs.YtkaafbdhgekeeaaGreat
