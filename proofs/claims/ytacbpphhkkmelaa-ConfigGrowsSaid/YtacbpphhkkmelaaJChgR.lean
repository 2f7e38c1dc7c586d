/-
  The call of the reference's ValidateChange: it returns the error that the plain mathematics says. No conditions.
-/
import Derived.Test.YtacbpphhkkmelaaJChg
namespace Go.Proofs.Ytacbpphhkkmelaa
open Go.RowKit
open JM (Chg)

theorem fit_pos {n m : Int} (h : 1 ≤ m) : (JM.fit n m = false) = (n < 1 ∨ m < n) := by
  unfold JM.fit; rw [if_neg (by omega), decide_eq_false_iff_not]; exact propext (by omega)
theorem fit_zero {n : Int} : (JM.fit n 0 = false) = (n ≠ 0) := by
  unfold JM.fit; rw [if_pos (by omega), decide_eq_false_iff_not]; exact propext (by omega)

set_option maxRecDepth 100000 in
set_option maxHeartbeats 4000000 in
theorem rValChange (k s t v a b c : Int) (w : World) : Calls Try.prog 77 #[cv k s t v a b c] w fun e w' => e = .returned (.int .i64 (JM.errC k s t v a b c)) ∧ Below w.heap.size w w' := by
  obtain ⟨R, hR⟩ : ∃ R, R = JM.errC k s t v a b c := ⟨_, rfl⟩
  rw [← hR]
  have hneq := fun w => neq_rule a b c 0 0 0 w
  obtain ⟨Z, hZ⟩ : ∃ Z : Bool, Z = decide (a = 0 ∧ b = 0 ∧ c = 0) := ⟨_, rfl⟩
  rw [← hZ] at hneq
  have HZ := Lib.hid (show Z = true ↔ a = 0 ∧ b = 0 ∧ c = 0 by rw [hZ]; exact decide_eq_true_iff)
  clear hZ
  have hv := fun w => rValRule a b c w
  have hs := fun w => rServer s w
  obtain ⟨S, hS⟩ : ∃ S, S = JM.isSrv s := ⟨_, rfl⟩
  rw [← hS] at hs
  have HS := Lib.hid (show S = true ↔ 1 ≤ s ∧ s ≤ 12 by rw [hS]; exact JM.isSrv_iff)
  have HC := Lib.hid hs
  clear hS hs
  have hm : Try.prog.eqGuardType Try.prog.depth 61 = false := by kernel_rfl
  have hcase : (k < 1 ∨ 4 < k) ∨ k = 1 ∨ k = 2 ∨ k = 3 ∨ k = 4 := by omega
  rcases hcase with hk | rfl | rfl | rfl | rfl
  · have HR := Lib.hid (hR.trans (errC_kind hk))
    clear hR
    have m1 : (k == 1) = false := beq_f (by omega)
    have m2 : (k == 2) = false := beq_f (by omega)
    have m3 : (k == 3) = false := beq_f (by omega)
    have m4 : (k == 4) = false := beq_f (by omega)
    clear hk
    go_enter Try.func77, Try.ntmps77
    go_wp2
    go_quiet (fail)
    go_wp2
    go_ret
    rw [HR.out]
    exact ⟨rfl, (below_fresh _ _).trans (below_drewN _ _ _)⟩
  · have hR2 : R = if s < 1 ∨ 12 < s then 9 else if t < 1 ∨ 9 < t then 9 else if v ≠ 0 then 9 else if a = 0 ∧ b = 0 ∧ c = 0 then 0 else 2 := by
      refine hR.trans ((errC_of (by omega)).trans ?_)
      show (if JM.fit s 12 = false then _ else if JM.fit t 9 = false then _ else if JM.fit v 0 = false then _ else _) = _
      (try simp only [fit_pos, Int.reduceLE])
      (try simp only [fit_zero])
      rfl
    have HR := Lib.hid hR2
    clear hR hR2
    cases S <;> cases Z
    all_goals
      go_enter Try.func77, Try.ntmps77
      go_wp2
      go_quiet (fail)
      go_wp2_with (go_at_call 96; refine (HC.out _).mono ?_; rintro e w1 ⟨rfl, rfl⟩)
      all_goals
        go_ret
        refine ⟨ret_int ?_, by first | exact (below_fresh _ _).trans (below_drewN _ _ _) | exact bnext ((below_fresh _ _).trans (below_drewN _ _ _)) hb2⟩
        rw [HR.out]
        have hz := HZ.out
        have hx := HS.out
        (try simp only [true_iff, false_iff, reduceCtorEq] at hz hx)
        clear HR HC HS HZ
        (try simp only [bne_iff_ne, bne_eq_false_iff_eq, ne_eq] at *)
        (repeat' split) <;> omega
  · have hR2 : R = if s < 1 ∨ 12 < s then 9 else if t ≠ 0 then 9 else if v ≠ 0 then 9 else if a = 0 ∧ b = 0 ∧ c = 0 then 0 else 2 := by
      refine hR.trans ((errC_of (by omega)).trans ?_)
      show (if JM.fit s 12 = false then _ else if JM.fit t 0 = false then _ else if JM.fit v 0 = false then _ else _) = _
      (try simp only [fit_pos, Int.reduceLE])
      (try simp only [fit_zero])
      rfl
    have HR := Lib.hid hR2
    clear hR hR2
    cases S <;> cases Z
    all_goals
      go_enter Try.func77, Try.ntmps77
      go_wp2
      go_quiet (fail)
      go_wp2_with (go_at_call 96; refine (HC.out _).mono ?_; rintro e w1 ⟨rfl, rfl⟩)
      all_goals
        go_ret
        refine ⟨ret_int ?_, by first | exact (below_fresh _ _).trans (below_drewN _ _ _) | exact bnext ((below_fresh _ _).trans (below_drewN _ _ _)) hb2⟩
        rw [HR.out]
        have hz := HZ.out
        have hx := HS.out
        (try simp only [true_iff, false_iff, reduceCtorEq] at hz hx)
        clear HR HC HS HZ
        (try simp only [bne_iff_ne, bne_eq_false_iff_eq, ne_eq] at *)
        (repeat' split) <;> omega
  · have hR2 : R = if s < 1 ∨ 12 < s then 9 else if t < 1 ∨ 9 < t then 9 else if v < 1 ∨ 1000 < v then 9 else if a = 0 ∧ b = 0 ∧ c = 0 then 0 else 2 := by
      refine hR.trans ((errC_of (by omega)).trans ?_)
      show (if JM.fit s 12 = false then _ else if JM.fit t 9 = false then _ else if JM.fit v 1000 = false then _ else _) = _
      (try simp only [fit_pos, Int.reduceLE])
      (try simp only [fit_zero])
      rfl
    have HR := Lib.hid hR2
    clear hR hR2
    cases S <;> cases Z
    all_goals
      go_enter Try.func77, Try.ntmps77
      go_wp2
      go_quiet (fail)
      go_wp2_with (go_at_call 96; refine (HC.out _).mono ?_; rintro e w1 ⟨rfl, rfl⟩)
      all_goals
        go_ret
        refine ⟨ret_int ?_, by first | exact (below_fresh _ _).trans (below_drewN _ _ _) | exact bnext ((below_fresh _ _).trans (below_drewN _ _ _)) hb2⟩
        rw [HR.out]
        have hz := HZ.out
        have hx := HS.out
        (try simp only [true_iff, false_iff, reduceCtorEq] at hz hx)
        clear HR HC HS HZ
        (try simp only [bne_iff_ne, bne_eq_false_iff_eq, ne_eq] at *)
        (repeat' split) <;> omega
  · have hR2 : R = if s ≠ 0 then 9 else if t ≠ 0 then 9 else if v < 1 ∨ 1000 < v then 9 else JM.errR a b c := by
      refine hR.trans ((errC_of (by omega)).trans ?_)
      show (if JM.fit s 0 = false then _ else if JM.fit t 0 = false then _ else if JM.fit v 1000 = false then _ else _) = _
      (try simp only [fit_pos, Int.reduceLE])
      (try simp only [fit_zero])
      rfl
    have HR := Lib.hid hR2
    clear hR hR2
    generalize JM.errR a b c = ER at HR hv
    have HV := Lib.hid hv
    clear hv hneq
    go_enter Try.func77, Try.ntmps77
    go_wp2
    go_quiet (fail)
    go_wp2_with (go_at_call 97; refine (HV.out _).mono ?_; rintro e w2 ⟨rfl, hb2⟩)
    all_goals
      go_ret
      refine ⟨ret_int ?_, by first | exact (below_fresh _ _).trans (below_drewN _ _ _) | exact bnext ((below_fresh _ _).trans (below_drewN _ _ _)) hb2⟩
      rw [HR.out]
      have hz := HZ.out
      have hx := HS.out
      (try simp only [true_iff, false_iff, reduceCtorEq] at hz hx)
      clear HR HC HS HZ
      (try simp only [bne_iff_ne, bne_eq_false_iff_eq, ne_eq] at *)
      (repeat' split) <;> omega

end Go.Proofs.Ytacbpphhkkmelaa
