/-
  The calls that validate a summary's lists, the program's and the reference's: servers in range, ascending. No conditions beyond that the lists read.
-/
import Derived.Test.YtkaafbdhgekeeaaGreatMVal
namespace Go.Proofs.YtkaafbdhgekeeaaGreat
open Go.RowKit
open MM (Mem Ent Sm Tri)

set_option maxRecDepth 100000 in
set_option maxHeartbeats 1000000 in
theorem cAllS (v : Value) (xs : List Int) (w : World) (h : RdI w v xs) : Calls Tryz.prog 70 #[v] w fun e w' => e = .returned (.bool (MM.allS xs)) ∧ w = w' := by
  obtain ⟨ad, c, rfl, hc, hl⟩ := h.shape
  have H := Lib.hid h
  clear h
  obtain ⟨R, hR⟩ : ∃ R, R = MM.allS xs := ⟨_, rfl⟩
  rw [← hR]
  have HR := Lib.hid (show R = MM.allS (xs.drop 0) from hR)
  clear hR
  go_enter Tryz.func70, Tryz.ntmps70
  go_wp2
  go_loop [7] (fun i => ∃ k : Nat, k ≤ xs.length ∧ i = .int .i64 k ∧ Hid (R = MM.allS (xs.drop k))) (fun i => xs.length - (intOf i).toNat)
  case atStart => exact ⟨0, Nat.zero_le _, rfl, HR⟩
  case round =>
    obtain ⟨k, hk, rfl, he⟩ := hrel
    clear HR
    by_cases hlt : k < xs.length
    · obtain ⟨b, o, hi, hb, c0⟩ := atI H.out k xs[k] (List.getElem?_eq_getElem hlt)
      have hq : (k : Int) < (xs.length : Int) := by omega
      have hdx := Lib.hid (drop_get hlt)
      generalize xs[k] = x at c0 hdx
      have e1 := Lib.hid (show R = (JM.isSrv x && MM.allS (xs.drop (k + 1))) by rw [he.out, hdx.out]; rfl)
      have HC := Lib.hid (fun w => mIsServer x w)
      generalize JM.isSrv x = s at e1 HC
      clear he hdx
      cases s
      · have e2 := Lib.hid (show R = false from e1.out)
        clear e1
        go_wp2_with (go_at_call 72; refine (HC.out _).mono ?_; rintro e w1 ⟨rfl, rfl⟩)
        go_ret
        rw [e2.out]
        exact ⟨rfl, rfl⟩
      · have e2 := Lib.hid (show R = MM.allS (xs.drop (k + 1)) from e1.out)
        clear e1
        go_wp2_with (go_at_call 72; refine (HC.out _).mono ?_; rintro e w1 ⟨rfl, rfl⟩)
        go_round
        case rel => exact ⟨k + 1, by omega, by go_num, e2⟩
        case measure => simp [intOf]; omega
    · have hq : ¬ ((k : Int) < (xs.length : Int)) := by omega
      have e2 := Lib.hid (show R = true by rw [he.out, List.drop_of_length_le (by omega)]; rfl)
      clear he
      go_wp2
      go_ret
      rw [e2.out]
      exact ⟨rfl, rfl⟩

set_option maxRecDepth 100000 in
set_option maxHeartbeats 1000000 in
theorem cAsc (v : Value) (xs : List Int) (w : World) (h : RdI w v xs) : Calls Tryz.prog 71 #[v] w fun e w' => e = .returned (.bool (MM.asc xs)) ∧ Below w.heap.size w w' := by
  obtain ⟨ad, c, rfl, hc, hl⟩ := h.shape
  have H := Lib.hid h
  clear h
  obtain ⟨R, hR⟩ : ∃ R, R = MM.asc xs := ⟨_, rfl⟩
  rw [← hR]
  have HR := Lib.hid (show R = MM.asc (xs.drop 0) from hR)
  clear hR
  go_enter Tryz.func71, Tryz.ntmps71
  go_wp2
  go_loopw [3] (fun i wr => ∃ k : Nat, k ≤ xs.length ∧ i = .int .i64 ((k : Int) + 1) ∧ Below w.heap.size w wr ∧ Hid (R = MM.asc (xs.drop k))) (fun i _ => xs.length - (intOf i).toNat)
  case atStart => exact ⟨0, Nat.zero_le _, rfl, Below.refl _ _, HR⟩
  case round =>
    obtain ⟨k, hk, rfl, hbl, he⟩ := hrel
    clear HR
    by_cases hlt : k + 1 < xs.length
    · obtain ⟨b, o, hi, hb, c0⟩ := atI (H.out.below hbl) k (xs[k]'(by omega)) (List.getElem?_eq_getElem (by omega))
      obtain ⟨b2, o2, hi2, hb2, d0⟩ := atI (H.out.below hbl) (k + 1) xs[k + 1] (List.getElem?_eq_getElem hlt)
      rw [show ((k + 1 : Nat) : Int) = (k : Int) + 1 by omega] at hi2
      have hq : (k : Int) + 1 < (xs.length : Int) := by omega
      have hz : (k : Int) + 1 - 1 = (k : Int) := by omega
      have hdx := Lib.hid (drop_get (show k < xs.length by omega))
      have hdy := Lib.hid (drop_get hlt)
      generalize xs[k]'(by omega) = x at c0 hdx
      generalize xs[k + 1] = y at d0 hdy
      have e1 := Lib.hid (show R = (decide (x < y) && MM.asc (xs.drop (k + 1))) by rw [he.out, hdx.out, hdy.out]; rfl)
      clear he hdx hdy
      by_cases hxy : x < y
      · have e2 := Lib.hid (show R = MM.asc (xs.drop (k + 1)) by rw [e1.out, decide_eq_true hxy]; rfl)
        have hle : ¬ y ≤ x := by omega
        clear e1
        go_wp2
        go_quiet (fail)
        go_wp2
        go_roundw
        case rel => exact ⟨k + 1, by omega, by go_num, hbl.trans (below_drewN _ _ _), e2⟩
        case measure => simp [intOf]; omega
      · have e2 := Lib.hid (show R = false by rw [e1.out, decide_eq_false hxy]; rfl)
        have hle : y ≤ x := by omega
        clear e1
        go_wp2
        go_quiet (fail)
        go_wp2
        go_ret
        rw [e2.out]
        exact ⟨rfl, hbl.trans (below_drewN _ _ _)⟩
    · have hq : ¬ ((k : Int) + 1 < (xs.length : Int)) := by omega
      have e2 := Lib.hid (show R = true by
        rw [he.out]
        by_cases h1 : k < xs.length
        · rw [drop_get h1, List.drop_of_length_le (by omega)]; rfl
        · rw [List.drop_of_length_le (by omega)]; rfl)
      clear he
      go_wp2
      go_ret
      rw [e2.out]
      exact ⟨rfl, hbl⟩

set_option maxRecDepth 100000 in
set_option maxHeartbeats 1000000 in
theorem cValServers (u v : Value) (js rs : List Int) (w : World) (hu : RdI w u js) (hv : RdI w v rs) :
    Calls Tryz.prog 41 #[u, v] w fun e w' => e = .returned (.int .i64 (MM.errL js rs)) ∧ Below w.heap.size w w' := by
  have h1 := fun w (h : RdI w u js) => cAllS u js w h
  have h2 := fun w (h : RdI w v rs) => cAllS v rs w h
  have h3 := fun w (h : RdI w u js) => cAsc u js w h
  have h4 := fun w (h : RdI w v rs) => cAsc v rs w h
  unfold MM.errL
  generalize MM.allS js = a1 at h1
  generalize MM.allS rs = a2 at h2
  generalize MM.asc js = a3 at h3
  generalize MM.asc rs = a4 at h4
  obtain ⟨R, hR⟩ : ∃ R, R = (if (a1 && a2) = true then (if (a3 && a4) = true then (0 : Int) else 7) else 9) := ⟨_, rfl⟩
  rw [← hR]
  have HR := Lib.hid hR
  have H1 := Lib.hid h1
  have H2 := Lib.hid h2
  have H3 := Lib.hid h3
  have H4 := Lib.hid h4
  have HU := Lib.hid hu
  have HV := Lib.hid hv
  clear hR h1 h2 h3 h4 hu hv
  cases a1
  · go_enter Tryz.func41, Tryz.ntmps41
    go_wp2_with fail
    refine (H1.out _ HU.out).mono ?_
    rintro e w1 ⟨rfl, rfl⟩
    go_wp2
    go_ret
    rw [HR.out]
    exact ⟨rfl, Below.refl _ _⟩
  cases a2
  · go_enter Tryz.func41, Tryz.ntmps41
    go_wp2_with fail
    refine (H1.out _ HU.out).mono ?_
    rintro e w1 ⟨rfl, rfl⟩
    go_wp2_with fail
    refine (H2.out _ HV.out).mono ?_
    rintro e w1 ⟨rfl, rfl⟩
    go_wp2
    go_ret
    rw [HR.out]
    exact ⟨rfl, Below.refl _ _⟩
  cases a3
  · go_enter Tryz.func41, Tryz.ntmps41
    go_wp2_with fail
    refine (H1.out _ HU.out).mono ?_
    rintro e w1 ⟨rfl, rfl⟩
    go_wp2_with fail
    refine (H2.out _ HV.out).mono ?_
    rintro e w1 ⟨rfl, rfl⟩
    go_wp2_with fail
    refine (H3.out _ HU.out).mono ?_
    rintro e w1 ⟨rfl, hb⟩
    go_wp2
    go_ret
    rw [HR.out]
    exact ⟨rfl, hb⟩
  cases a4
  all_goals
    go_enter Tryz.func41, Tryz.ntmps41
    go_wp2_with fail
    refine (H1.out _ HU.out).mono ?_
    rintro e w1 ⟨rfl, rfl⟩
    go_wp2_with fail
    refine (H2.out _ HV.out).mono ?_
    rintro e w1 ⟨rfl, rfl⟩
    go_wp2_with fail
    refine (H3.out _ HU.out).mono ?_
    rintro e w1 ⟨rfl, hb⟩
    go_wp2_with fail
    refine (H4.out _ (HV.out.below hb)).mono ?_
    rintro e w2 ⟨rfl, hb2⟩
    go_wp2
    go_ret
    rw [HR.out]
    exact ⟨rfl, bnext hb hb2⟩

end Go.Proofs.YtkaafbdhgekeeaaGreat
