/-
  The calls of ValidateRule and ValidateView, the program's and the reference's: each returns the error that the plain mathematics says. No conditions beyond that the members read.
-/
import Derived.Test.YtbbgjckiooejhaaQBase
namespace Go.Proofs.Ytbbgjckiooejhaa
open Go.RowKit
open QM (Mem)

theorem beq_t {a b : Int} (h : a = b) : (a == b) = true := by simpa using h
theorem beq_f {a b : Int} (h : a ≠ b) : (a == b) = false := by simpa using h
theorem bne_t {a b : Int} (h : a ≠ b) : (a != b) = true := by simpa using h
theorem bne_f {a b : Int} (h : a = b) : (a != b) = false := by simpa using h

set_option maxHeartbeats 1000000 in
theorem cValRule (k c f : Int) (w : World) : Calls Try.prog 12 #[rl k c f] w fun e w' => e = .returned (.int .i64 (QM.errR k c f)) ∧ Below w.heap.size w w' := by
  obtain ⟨R, hR⟩ : ∃ R, R = QM.errR k c f := ⟨_, rfl⟩
  rw [← hR]
  have HR := Lib.hid hR
  clear hR
  go_enter Try.func12, Try.ntmps12
  go_wp2
  go_quiet (fail)
  go_wp2
  all_goals
    go_ret
    refine ⟨ret_int ?_, (below_fresh _ _).trans (below_drewN _ _ _)⟩
    rw [HR.out]
    clear HR
    unfold QM.errR
    simp only [beq_iff_eq, beq_eq_false_iff_ne, decide_eq_true_eq, decide_eq_false_iff_not, Bool.not_eq_true', Bool.not_eq_false', ne_eq] at *
    (repeat' split) <;> omega

set_option maxRecDepth 100000 in
set_option maxHeartbeats 1000000 in
theorem rValRule (k c f : Int) (w : World) : Calls Try.prog 13 #[rl k c f] w fun e w' => e = .returned (.int .i64 (QM.errR k c f)) ∧ Below w.heap.size w w' := by
  obtain ⟨R, hR⟩ : ∃ R, R = QM.errR k c f := ⟨_, rfl⟩
  rw [← hR]
  have HR := Lib.hid hR
  clear hR
  have hs := fun w => rServer c w
  obtain ⟨S, hS⟩ : ∃ S, S = QM.isSrv c := ⟨_, rfl⟩
  rw [← hS] at hs
  have HS := Lib.hid (show S = true ↔ 1 ≤ c ∧ c ≤ 12 by rw [hS]; exact isSrv_iff)
  clear hS
  have HC := Lib.hid hs
  clear hs
  cases S
  all_goals
    go_enter Try.func13, Try.ntmps13
    go_wp2_with (go_at_call 31; refine (HC.out _).mono ?_; rintro e w1 ⟨rfl, rfl⟩)
    all_goals
      go_ret
      refine ⟨ret_int ?_, below_fresh _ _⟩
      rw [HR.out]
      have hx := HS.out
      simp only [true_iff, false_iff, reduceCtorEq] at hx
      clear HR HC HS
      unfold QM.errR
      simp only [bne_iff_ne, bne_eq_false_iff_eq, ne_eq] at *
      (repeat' split) <;> omega

end Go.Proofs.Ytbbgjckiooejhaa
