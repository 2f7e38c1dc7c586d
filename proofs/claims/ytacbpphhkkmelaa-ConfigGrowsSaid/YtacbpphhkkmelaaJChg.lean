/-
  The call of the program's ValidateChange: it returns the error that the plain mathematics says. No conditions.
-/
import Derived.Test.YtacbpphhkkmelaaJBase
namespace Go.Proofs.Ytacbpphhkkmelaa
open Go.RowKit
open JM (Chg)

theorem errC_kind {k s t v a b c : Int} (h : k < 1 ∨ 4 < k) : JM.errC k s t v a b c = 10 := by unfold JM.errC; rw [if_pos h]
theorem errC_of {k s t v a b c : Int} (h : ¬ (k < 1 ∨ 4 < k)) : JM.errC k s t v a b c = if JM.fit s (JM.srvOf k) = false then 9 else if JM.fit t (JM.wtOf k) = false then 9 else if JM.fit v (JM.verOf k) = false then 9 else if k = 4 then JM.errR a b c else if a = 0 ∧ b = 0 ∧ c = 0 then 0 else 2 := by
  unfold JM.errC; rw [if_neg h]

set_option maxRecDepth 100000 in
set_option maxHeartbeats 2000000 in
theorem cValChange (k s t v a b c : Int) (w : World) : Calls Try.prog 72 #[cv k s t v a b c] w fun e w' => e = .returned (.int .i64 (JM.errC k s t v a b c)) ∧ Below w.heap.size w w' := by
  obtain ⟨R, hR⟩ : ∃ R, R = JM.errC k s t v a b c := ⟨_, rfl⟩
  rw [← hR]
  have heq := eql_rule
  have hm : Try.prog.eqGuardType Try.prog.depth 61 = false := by kernel_rfl
  have hcase : (k < 1 ∨ 4 < k) ∨ k = 1 ∨ k = 2 ∨ k = 3 ∨ k = 4 := by omega
  rcases hcase with hk | rfl | rfl | rfl | rfl
  · have HR := Lib.hid (hR.trans (errC_kind hk))
    clear hR
    have m1 : (k == 1) = false := beq_f (by omega)
    have m2 : (k == 2) = false := beq_f (by omega)
    have m3 : (k == 3) = false := beq_f (by omega)
    have m4 : (k == 4) = false := beq_f (by omega)
    clear hk
    go_enter Try.func72, Try.ntmps72
    go_wp2
    go_ret
    rw [HR.out]
    exact ⟨rfl, below_fresh _ _⟩
  · have hR : R = if JM.fit s 12 = false then 9 else if JM.fit t 9 = false then 9 else if JM.fit v 0 = false then 9 else (if a = 0 ∧ b = 0 ∧ c = 0 then 0 else 2) := hR.trans (errC_of (by omega))
    have f1 := fun w => cFits s 12 w
    have f2 := fun w => cFits t 9 w
    have f3 := fun w => cFits v 0 w
    obtain ⟨Z, hZ, hd⟩ : ∃ Z : Int, Z = (if a = 0 ∧ b = 0 ∧ c = 0 then 0 else 2) ∧ ((decide (a = 0 ∧ b = 0 ∧ c = 0) = true ∧ Z = 0) ∨ (decide (a = 0 ∧ b = 0 ∧ c = 0) = false ∧ Z = 2)) := by
      by_cases hz : a = 0 ∧ b = 0 ∧ c = 0
      · exact ⟨0, (if_pos hz).symm, .inl ⟨decide_eq_true hz, rfl⟩⟩
      · exact ⟨2, (if_neg hz).symm, .inr ⟨decide_eq_false hz, rfl⟩⟩
    rw [← hZ] at hR
    clear hZ
    have hq := fun w => heq a b c 0 0 0 w
    clear heq
    rcases hd with ⟨hd, rfl⟩ | ⟨hd, rfl⟩
    all_goals
     rw [hd] at hq
     clear hd
     generalize JM.fit s 12 = B1 at hR f1
     generalize JM.fit t 9 = B2 at hR f2
     generalize JM.fit v 0 = B3 at hR f3
     have HR := Lib.hid hR
     have F1 := Lib.hid f1
     have F2 := Lib.hid f2
     have F3 := Lib.hid f3
     clear hR f1 f2 f3
     cases B1 <;> cases B2 <;> cases B3
     all_goals
       go_enter Try.func72, Try.ntmps72
       go_wp2_with (first | (go_at_call 71; refine (by first | with_reducible exact F1.out _ | with_reducible exact F2.out _ | with_reducible exact F3.out _ : Calls _ _ _ _ _).mono ?_; rintro e w1 ⟨rfl, rfl⟩))
       all_goals
         go_ret
         rw [HR.out]
         exact ⟨rfl, below_fresh _ _⟩
  · have hR : R = if JM.fit s 12 = false then 9 else if JM.fit t 0 = false then 9 else if JM.fit v 0 = false then 9 else (if a = 0 ∧ b = 0 ∧ c = 0 then 0 else 2) := hR.trans (errC_of (by omega))
    have f1 := fun w => cFits s 12 w
    have f2 := fun w => cFits t 0 w
    have f3 := fun w => cFits v 0 w
    obtain ⟨Z, hZ, hd⟩ : ∃ Z : Int, Z = (if a = 0 ∧ b = 0 ∧ c = 0 then 0 else 2) ∧ ((decide (a = 0 ∧ b = 0 ∧ c = 0) = true ∧ Z = 0) ∨ (decide (a = 0 ∧ b = 0 ∧ c = 0) = false ∧ Z = 2)) := by
      by_cases hz : a = 0 ∧ b = 0 ∧ c = 0
      · exact ⟨0, (if_pos hz).symm, .inl ⟨decide_eq_true hz, rfl⟩⟩
      · exact ⟨2, (if_neg hz).symm, .inr ⟨decide_eq_false hz, rfl⟩⟩
    rw [← hZ] at hR
    clear hZ
    have hq := fun w => heq a b c 0 0 0 w
    clear heq
    rcases hd with ⟨hd, rfl⟩ | ⟨hd, rfl⟩
    all_goals
     rw [hd] at hq
     clear hd
     generalize JM.fit s 12 = B1 at hR f1
     generalize JM.fit t 0 = B2 at hR f2
     generalize JM.fit v 0 = B3 at hR f3
     have HR := Lib.hid hR
     have F1 := Lib.hid f1
     have F2 := Lib.hid f2
     have F3 := Lib.hid f3
     clear hR f1 f2 f3
     cases B1 <;> cases B2 <;> cases B3
     all_goals
       go_enter Try.func72, Try.ntmps72
       go_wp2_with (first | (go_at_call 71; refine (by first | with_reducible exact F1.out _ | with_reducible exact F2.out _ | with_reducible exact F3.out _ : Calls _ _ _ _ _).mono ?_; rintro e w1 ⟨rfl, rfl⟩))
       all_goals
         go_ret
         rw [HR.out]
         exact ⟨rfl, below_fresh _ _⟩
  · have hR : R = if JM.fit s 12 = false then 9 else if JM.fit t 9 = false then 9 else if JM.fit v 1000 = false then 9 else (if a = 0 ∧ b = 0 ∧ c = 0 then 0 else 2) := hR.trans (errC_of (by omega))
    have f1 := fun w => cFits s 12 w
    have f2 := fun w => cFits t 9 w
    have f3 := fun w => cFits v 1000 w
    obtain ⟨Z, hZ, hd⟩ : ∃ Z : Int, Z = (if a = 0 ∧ b = 0 ∧ c = 0 then 0 else 2) ∧ ((decide (a = 0 ∧ b = 0 ∧ c = 0) = true ∧ Z = 0) ∨ (decide (a = 0 ∧ b = 0 ∧ c = 0) = false ∧ Z = 2)) := by
      by_cases hz : a = 0 ∧ b = 0 ∧ c = 0
      · exact ⟨0, (if_pos hz).symm, .inl ⟨decide_eq_true hz, rfl⟩⟩
      · exact ⟨2, (if_neg hz).symm, .inr ⟨decide_eq_false hz, rfl⟩⟩
    rw [← hZ] at hR
    clear hZ
    have hq := fun w => heq a b c 0 0 0 w
    clear heq
    rcases hd with ⟨hd, rfl⟩ | ⟨hd, rfl⟩
    all_goals
     rw [hd] at hq
     clear hd
     generalize JM.fit s 12 = B1 at hR f1
     generalize JM.fit t 9 = B2 at hR f2
     generalize JM.fit v 1000 = B3 at hR f3
     have HR := Lib.hid hR
     have F1 := Lib.hid f1
     have F2 := Lib.hid f2
     have F3 := Lib.hid f3
     clear hR f1 f2 f3
     cases B1 <;> cases B2 <;> cases B3
     all_goals
       go_enter Try.func72, Try.ntmps72
       go_wp2_with (first | (go_at_call 71; refine (by first | with_reducible exact F1.out _ | with_reducible exact F2.out _ | with_reducible exact F3.out _ : Calls _ _ _ _ _).mono ?_; rintro e w1 ⟨rfl, rfl⟩))
       all_goals
         go_ret
         rw [HR.out]
         exact ⟨rfl, below_fresh _ _⟩
  · have hR : R = if JM.fit s 0 = false then 9 else if JM.fit t 0 = false then 9 else if JM.fit v 1000 = false then 9 else JM.errR a b c := hR.trans (errC_of (by omega))
    have f1 := fun w => cFits s 0 w
    have f2 := fun w => cFits t 0 w
    have f3 := fun w => cFits v 1000 w
    have hv := fun w => cValRule a b c w
    generalize JM.errR a b c = ER at hR hv
    have HV := Lib.hid hv
    clear hv heq
    generalize JM.fit s 0 = B1 at hR f1
    generalize JM.fit t 0 = B2 at hR f2
    generalize JM.fit v 1000 = B3 at hR f3
    have HR := Lib.hid hR
    have F1 := Lib.hid f1
    have F2 := Lib.hid f2
    have F3 := Lib.hid f3
    clear hR f1 f2 f3
    cases B1 <;> cases B2 <;> cases B3
    all_goals
      go_enter Try.func72, Try.ntmps72
      go_wp2_with (first | (go_at_call 71; refine (by first | with_reducible exact F1.out _ | with_reducible exact F2.out _ | with_reducible exact F3.out _ : Calls _ _ _ _ _).mono ?_; rintro e w1 ⟨rfl, rfl⟩) | (go_at_call 92; refine (HV.out _).mono ?_; rintro e w2 ⟨rfl, hb2⟩))
      all_goals
        go_ret
        rw [HR.out]
        exact ⟨rfl, (by first | exact below_fresh _ _ | exact bnext (below_fresh _ _) hb2)⟩

end Go.Proofs.Ytacbpphhkkmelaa
