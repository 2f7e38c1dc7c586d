/-
  The calls of the laws ProposalChange, ProposalValidate, ProposalEqual: each true. Conditions: what came in reads.
-/
import Derived.Test.YthljcenejglcpaaKC
import Derived.Test.YthljcenejglcpaaJAwake
namespace Go.Proofs.Ythljcenejglcpaa
open Go.RowKit
open JM (Chg)

set_option maxRecDepth 100000 in
set_option maxHeartbeats 4000000 in
theorem lProposalChange (k s t v a b c : Int) (w : World) : Calls Try.prog 3 #[cv k s t v a b c] w fun e w' => e = .returned (.bool true) ∧ Below w.heap.size w w' := by
  have hf := below_fresh w (.cells #[.int .i64 k, .int .i64 s, .int .i64 t, .int .i64 v, .int .i64 a, .int .i64 b, .int .i64 c] 25)
  have hc := CBox.fresh w k s t v a b c
  generalize hw0 : w.alloc (.cells #[.int .i64 k, .int .i64 s, .int .i64 t, .int .i64 v, .int .i64 a, .int .i64 b, .int .i64 c] 25) = w0 at hf hc
  have HW0 := Lib.hid hw0
  have HF := Lib.hid hf
  have HC := Lib.hid hc
  have h1 := fun w => cValChange k s t v a b c w
  have h2 := fun w => rValChange k s t v a b c w
  generalize JM.errC k s t v a b c = er at h1 h2
  have heq : (er == er) = true := by simp
  have c0 : ∀ p : Later w0, p.val.cell? ⟨w.heap.size, 0, none⟩ = some (.int .i64 k) := fun p => (HC.out.below p.h).1
  have c1 : ∀ p : Later w0, p.val.cell? ⟨w.heap.size, 1, none⟩ = some (.int .i64 s) := fun p => (HC.out.below p.h).2.1
  have c2 : ∀ p : Later w0, p.val.cell? ⟨w.heap.size, 2, none⟩ = some (.int .i64 t) := fun p => (HC.out.below p.h).2.2.1
  have c3 : ∀ p : Later w0, p.val.cell? ⟨w.heap.size, 3, none⟩ = some (.int .i64 v) := fun p => (HC.out.below p.h).2.2.2.1
  have c4 : ∀ p : Later w0, p.val.cell? ⟨w.heap.size, 4, none⟩ = some (.int .i64 a) := fun p => (HC.out.below p.h).2.2.2.2.1
  have c5 : ∀ p : Later w0, p.val.cell? ⟨w.heap.size, 5, none⟩ = some (.int .i64 b) := fun p => (HC.out.below p.h).2.2.2.2.2.1
  have c6 : ∀ p : Later w0, p.val.cell? ⟨w.heap.size, 6, none⟩ = some (.int .i64 c) := fun p => (HC.out.below p.h).2.2.2.2.2.2
  have C1 := Lib.hid (fun p : Later w0 => Calls.later (h1 p.val))
  have C2 := Lib.hid (fun p : Later w0 => Calls.later (h2 p.val))
  have C3 := Lib.hid (fun p : Later w0 => Calls.later (cAwake p.val))
  clear hf hc hw0 h1 h2
  go_enter Try.func3, Try.ntmps3
  go_wp2
  rw [HW0.out]
  refine wp_region_later (by kernel_rfl) (by kernel_rfl) ?_
  repeat (go_big_quiet_step (first | (go_at_call 10; with_reducible exact C1.out _) | (go_at_call 11; with_reducible exact C2.out _) | (go_at_call 12; with_reducible exact C3.out _)))
  refine wpQuiet_nil ?_
  rintro _ ⟨p, rfl⟩
  go_wp2
  go_ret
  exact ⟨rfl, bnext HF.out p.h⟩

set_option maxRecDepth 100000 in
set_option maxHeartbeats 4000000 in
theorem lProposalValidate (a n : Int) (v : Value) (cs : List Chg) (w : World) (h : RdC w v cs) : Calls Try.prog 4 #[pv a n v] w fun e w' => e = .returned (.bool true) ∧ Below w.heap.size w w' := by
  obtain ⟨ad, cp, rfl, hcp, hl⟩ := h.shape
  have hf := below_fresh w (.cells #[.int .i64 a, .int .i64 n, .slice ad cs.length cp] 32)
  have hp := PBox.fresh w a n (.slice ad cs.length cp)
  have hr := h.below hf
  generalize hw0 : w.alloc (.cells #[.int .i64 a, .int .i64 n, .slice ad cs.length cp] 32) = w0 at hf hp hr
  have HW0 := Lib.hid hw0
  have HF := Lib.hid hf
  have HP := Lib.hid hp
  have HR := Lib.hid hr
  have HA := Lib.hid cAwake
  clear h hf hp hr hw0
  by_cases h100 : 100 < cs.length
  · have hz : (100 : Int) < (cs.length : Int) := by omega
    obtain ⟨p0, p1, p2⟩ := HP.out
    go_enter Try.func4, Try.ntmps4
    go_wp2_with fail
    rw [HW0.out]
    refine (HA.out _).mono ?_
    rintro e w2 ⟨rfl, hb2⟩
    go_wp2
    go_ret
    exact ⟨rfl, bnext HF.out hb2⟩
  · have hz : ¬ (100 : Int) < (cs.length : Int) := by omega
    have h1 := fun w h => cValidate a n (.slice ad cs.length cp) cs w h
    have h2 := fun w h => rValidate a n (.slice ad cs.length cp) cs w h
    generalize JM.errP a n cs = er at h1 h2
    have heq : (er == er) = true := by simp
    have c0 : ∀ p : Later w0, p.val.cell? ⟨w.heap.size, 0, none⟩ = some (.int .i64 a) := fun p => (HP.out.below p.h).1
    have c1 : ∀ p : Later w0, p.val.cell? ⟨w.heap.size, 1, none⟩ = some (.int .i64 n) := fun p => (HP.out.below p.h).2.1
    have c2 : ∀ p : Later w0, p.val.cell? ⟨w.heap.size, 2, none⟩ = some (.slice ad cs.length cp) := fun p => (HP.out.below p.h).2.2
    have C1 := Lib.hid (fun p : Later w0 => Calls.later (h1 p.val (HR.out.below p.h)))
    have C2 := Lib.hid (fun p : Later w0 => Calls.later (h2 p.val (HR.out.below p.h)))
    have C3 := Lib.hid (fun p : Later w0 => Calls.later (cAwake p.val))
    obtain ⟨p0, p1, p2⟩ := HP.out
    clear h1 h2
    go_enter Try.func4, Try.ntmps4
    go_wp2
    rw [HW0.out]
    go_wp2
    refine wp_region_later (by kernel_rfl) (by kernel_rfl) ?_
    repeat (go_big_quiet_step (first | (go_at_call 13; with_reducible exact C1.out _) | (go_at_call 14; with_reducible exact C2.out _) | (go_at_call 12; with_reducible exact C3.out _)))
    refine wpQuiet_nil ?_
    rintro _ ⟨p, rfl⟩
    go_wp2
    go_ret
    exact ⟨rfl, bnext HF.out p.h⟩

theorem boxes2 (w w0 w1 : World) (a m b n : Int) (u v : Value) (h0 : w.alloc (.cells #[.int .i64 a, .int .i64 m, u] 32) = w0) (h1 : w0.alloc (.cells #[.int .i64 b, .int .i64 n, v] 32) = w1) :
    PBox w1 w.heap.size a m u ∧ PBox w1 (w.heap.size + 1) b n v ∧ Below w.heap.size w w1 ∧ w1.heap.size = w.heap.size + 1 + 1 := by
  have hb0 : Below w.heap.size w w0 := by rw [← h0]; exact below_fresh _ _
  have hb1 : Below w0.heap.size w0 w1 := by rw [← h1]; exact below_fresh _ _
  have hs0 : w0.heap.size = w.heap.size + 1 := by rw [← h0]; exact World.size_alloc _ _
  have hs1 : w1.heap.size = w0.heap.size + 1 := by rw [← h1]; exact World.size_alloc _ _
  have p0 : PBox w0 w.heap.size a m u := by rw [← h0]; exact PBox.fresh _ _ _ _
  have p1 : PBox w1 w0.heap.size b n v := by rw [← h1]; exact PBox.fresh _ _ _ _
  rw [hs0] at p1
  exact ⟨p0.below hb1, p1, bnext hb0 hb1, by rw [hs1, hs0]⟩

set_option maxRecDepth 100000 in
set_option maxHeartbeats 4000000 in
theorem lProposalEqual (a m : Int) (u : Value) (xs : List Chg) (b n : Int) (v : Value) (ys : List Chg) (w : World) (hx : RdC w u xs) (hy : RdC w v ys) :
    Calls Try.prog 6 #[pv a m u, pv b n v] w fun e w' => e = .returned (.bool true) ∧ Below w.heap.size w w' := by
  obtain ⟨ad, cp, rfl, hcp, _⟩ := hx.shape
  obtain ⟨bd, dp, rfl, hdp, _⟩ := hy.shape
  obtain ⟨w0, hw0⟩ : ∃ w0, w.alloc (.cells #[.int .i64 a, .int .i64 m, .slice ad xs.length cp] 32) = w0 := ⟨_, rfl⟩
  obtain ⟨w1, hw1⟩ : ∃ w1, w0.alloc (.cells #[.int .i64 b, .int .i64 n, .slice bd ys.length dp] 32) = w1 := ⟨_, rfl⟩
  obtain ⟨hp0, hp1, hb, _⟩ := boxes2 w w0 w1 a m b n _ _ hw0 hw1
  have HW0 := Lib.hid hw0
  have HW1 := Lib.hid hw1
  have HB := Lib.hid hb
  have HP0 := Lib.hid hp0
  have HP1 := Lib.hid hp1
  have HX := Lib.hid (hx.below hb)
  have HY := Lib.hid (hy.below hb)
  have HA := Lib.hid cAwake
  obtain ⟨p0, p1, p2⟩ := hp0
  obtain ⟨q0, q1, q2⟩ := hp1
  clear hw0 hw1 hb hx hy
  by_cases h1 : 100 < xs.length
  · have hz : (100 : Int) < (xs.length : Int) := by omega
    go_enter Try.func6, Try.ntmps6
    go_wp2_with fail
    rw [HW0.out, HW1.out]
    go_wp2_with fail
    refine (HA.out _).mono ?_
    rintro e w2 ⟨rfl, hb2⟩
    go_wp2
    go_ret
    exact ⟨rfl, bnext HB.out hb2⟩
  by_cases h2 : 100 < ys.length
  · have hz : ¬ (100 : Int) < (xs.length : Int) := by omega
    have hz2 : (100 : Int) < (ys.length : Int) := by omega
    go_enter Try.func6, Try.ntmps6
    go_wp2_with fail
    rw [HW0.out, HW1.out]
    go_wp2_with fail
    refine (HA.out _).mono ?_
    rintro e w2 ⟨rfl, hb2⟩
    go_wp2
    go_ret
    exact ⟨rfl, bnext HB.out hb2⟩
  · have hz : ¬ (100 : Int) < (xs.length : Int) := by omega
    have hz2 : ¬ (100 : Int) < (ys.length : Int) := by omega
    have e1 := fun w h h' => cEqual a m (.slice ad xs.length cp) xs b n (.slice bd ys.length dp) ys w h h'
    have e2 := fun w h h' => rEqual a m (.slice ad xs.length cp) xs b n (.slice bd ys.length dp) ys w h h'
    have e3 := fun w h => cEqual a m (.slice ad xs.length cp) xs a m (.slice ad xs.length cp) xs w h h
    rw [show eqP a m xs a m xs = true from decide_eq_true ⟨rfl, rfl, rfl⟩] at e3
    generalize eqP a m xs b n ys = R at e1 e2
    have heq : (R == R) = true := by simp
    have c0 : ∀ p : Later w1, p.val.cell? ⟨w.heap.size, 0, none⟩ = some (.int .i64 a) := fun p => (HP0.out.below p.h).1
    have c1 : ∀ p : Later w1, p.val.cell? ⟨w.heap.size, 1, none⟩ = some (.int .i64 m) := fun p => (HP0.out.below p.h).2.1
    have c2 : ∀ p : Later w1, p.val.cell? ⟨w.heap.size, 2, none⟩ = some (.slice ad xs.length cp) := fun p => (HP0.out.below p.h).2.2
    have d0 : ∀ p : Later w1, p.val.cell? ⟨w.heap.size + 1, 0, none⟩ = some (.int .i64 b) := fun p => (HP1.out.below p.h).1
    have d1 : ∀ p : Later w1, p.val.cell? ⟨w.heap.size + 1, 1, none⟩ = some (.int .i64 n) := fun p => (HP1.out.below p.h).2.1
    have d2 : ∀ p : Later w1, p.val.cell? ⟨w.heap.size + 1, 2, none⟩ = some (.slice bd ys.length dp) := fun p => (HP1.out.below p.h).2.2
    have C1 := Lib.hid (fun p : Later w1 => Calls.later (e1 p.val (HX.out.below p.h) (HY.out.below p.h)))
    have C2 := Lib.hid (fun p : Later w1 => Calls.later (e2 p.val (HX.out.below p.h) (HY.out.below p.h)))
    have C3 := Lib.hid (fun p : Later w1 => Calls.later (e3 p.val (HX.out.below p.h)))
    have C4 := Lib.hid (fun p : Later w1 => Calls.later (cAwake p.val))
    clear e1 e2 e3
    go_enter Try.func6, Try.ntmps6
    go_wp2
    rw [HW0.out, HW1.out]
    go_wp2
    refine wp_region_later (by kernel_rfl) (by kernel_rfl) ?_
    repeat (go_big_quiet_step (first | (go_at_call 17; with_reducible exact C1.out _) | (go_at_call 18; with_reducible exact C2.out _) | (go_at_call 17; with_reducible exact C3.out _) | (go_at_call 12; with_reducible exact C4.out _)))
    refine wpQuiet_nil ?_
    rintro _ ⟨p, rfl⟩
    go_wp2
    go_ret
    exact ⟨rfl, bnext HB.out p.h⟩

end Go.Proofs.Ythljcenejglcpaa
