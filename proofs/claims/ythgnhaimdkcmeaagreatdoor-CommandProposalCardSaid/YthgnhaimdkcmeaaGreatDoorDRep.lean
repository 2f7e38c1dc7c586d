/-
  The calls of command.has and what it calls; small functions of command. Conditions: what came in reads.
-/
import Derived.Test.YthgnhaimdkcmeaaGreatDoorKC
import Derived.Test.YthgnhaimdkcmeaaGreatDoorDForm
import Derived.Test.YthgnhaimdkcmeaaGreatDoorGB
namespace Go.Proofs.YthgnhaimdkcmeaaGreatDoor
open Go.RowKit Go.Joins
open JM (Chg)
open MM (Mem Ent Sm Tri)

set_option maxRecDepth 100000 in
set_option maxHeartbeats 1000000 in
theorem cHas1 (g g2 : Nat) (k s : Int) (k' s' t' v' a' b' c' : Int) (w : World) (h0 : w.cell? ⟨g, 0, none⟩ = some (.int .i64 k)) (h1 : w.cell? ⟨g2, 0, none⟩ = some (.int .i64 s)) :
    Calls Tryz.prog 51 #[cv k' s' t' v' a' b' c', .pointer (some ⟨g, 0, none⟩), .pointer (some ⟨g2, 0, none⟩)] w fun e w' => e = .returned (.bool (k' == k && s' == s)) ∧ Below w.heap.size w w' := by
  have hb := below_fresh w (.cells #[.int .i64 k', .int .i64 s', .int .i64 t', .int .i64 v', .int .i64 a', .int .i64 b', .int .i64 c'] 49)
  have d0 := below_cell hb h0
  have d1 := below_cell hb h1
  clear h0 h1
  cases hk : (k' == k)
  · go_enter Tryz.func51, Tryz.ntmps51
    go_wp2
    go_ret
    exact ⟨rfl, hb⟩
  · cases hs : (s' == s)
    all_goals
      go_enter Tryz.func51, Tryz.ntmps51
      go_wp2
      go_ret
      exact ⟨rfl, hb⟩

set_option maxRecDepth 100000 in
set_option maxHeartbeats 1000000 in
theorem dIndexFunc (v : Value) (xs : List Chg) (k s : Int) (g g2 : Nat) (w : World) (h : RdC w v xs) (h0 : w.cell? ⟨g, 0, none⟩ = some (.int .i64 k)) (h1 : w.cell? ⟨g2, 0, none⟩ = some (.int .i64 s)) :
    Calls Tryz.prog 63 #[v, .func (.func 51) #[] #[.pointer (some ⟨g, 0, none⟩), .pointer (some ⟨g2, 0, none⟩)]] w fun e w' => ∃ r : Int, e = .returned (.int .i64 r) ∧ decide (0 ≤ r) = xs.any (fun y => y.1 == k && y.2.1 == s) ∧ Below w.heap.size w w' := by
  have eF := enters_of Tryz.func51 (by kernel_rfl) rfl
  obtain ⟨ad, c, rfl, hc, hl⟩ := h.shape
  obtain ⟨R, hR⟩ : ∃ R, R = xs.any (fun y => y.1 == k && y.2.1 == s) := ⟨_, rfl⟩
  rw [← hR]
  have HR := Lib.hid hR
  have HX := Lib.hid h
  have H0 := Lib.hid h0
  have H1 := Lib.hid h1
  clear hR h h0 h1
  go_enter Tryz.func63, Tryz.ntmps63
  go_wp2
  go_loopw [8] (fun i wr => ∃ j : Nat, j ≤ xs.length ∧ i = .int .i64 j ∧ Below w.heap.size w wr ∧ Hid (R = (xs.drop j).any (fun y => y.1 == k && y.2.1 == s))) (fun i _ => xs.length - (intOf i).toNat)
  case atStart => exact ⟨0, Nat.zero_le _, rfl, Below.refl _ _, HR.out⟩
  case round =>
    obtain ⟨j, hk, rfl, hbl, he⟩ := hrel
    by_cases hlt : j < xs.length
    · have hq : (j : Int) < (xs.length : Int) := by omega
      have hdx := Lib.hid (drop_get hlt)
      have hat := List.getElem?_eq_getElem hlt
      generalize xs[j] = y at hdx hat
      obtain ⟨k', s', t', v', a', b', c'⟩ := y
      obtain ⟨b, o, hi, hb, d0, d1, d2, d3, d4, d5, d6⟩ := atC (HX.out.below hbl) j _ _ _ _ _ _ _ hat
      have hS := Lib.hid (cHas1 g g2 k s k' s' t' v' a' b' c' wr (below_cell hbl H0.out) (below_cell hbl H1.out))
      have e2 := Lib.hid (show R = ((k' == k && s' == s) || (xs.drop (j + 1)).any (fun y => y.1 == k && y.2.1 == s)) by rw [he.out, hdx.out]; rfl)
      clear he hdx hat
      generalize (k' == k && s' == s) = B at hS e2
      cases B
      · have e3 := Lib.hid (show R = (xs.drop (j + 1)).any (fun y => y.1 == k && y.2.1 == s) by rw [e2.out, Bool.false_or])
        clear e2
        go_wp2_with (go_at_call 51; refine hS.out.mono ?_; rintro e w4 ⟨rfl, h4⟩)
        go_roundw
        case rel => exact ⟨j + 1, by omega, by go_num, bnext hbl h4, e3⟩
        case measure => simp [intOf]; omega
      · have e3 := Lib.hid (show R = true by rw [e2.out, Bool.true_or])
        clear e2
        go_wp2_with (go_at_call 51; refine hS.out.mono ?_; rintro e w4 ⟨rfl, h4⟩)
        go_ret
        exact ⟨_, rfl, by rw [e3.out]; exact decide_eq_true (by omega), bnext hbl h4⟩
    · have hq : ¬ ((j : Int) < (xs.length : Int)) := by omega
      have e2 := Lib.hid (show R = false by rw [he.out, List.drop_of_length_le (by omega)]; rfl)
      clear he HR
      go_wp2
      go_ret
      exact ⟨_, rfl, by rw [e2.out]; rfl, hbl⟩

set_option maxRecDepth 100000 in
set_option maxHeartbeats 1000000 in
theorem dContainsFunc (v : Value) (xs : List Chg) (k s : Int) (g g2 : Nat) (w : World) (h : RdC w v xs) (h0 : w.cell? ⟨g, 0, none⟩ = some (.int .i64 k)) (h1 : w.cell? ⟨g2, 0, none⟩ = some (.int .i64 s)) :
    Calls Tryz.prog 50 #[v, .func (.func 51) #[] #[.pointer (some ⟨g, 0, none⟩), .pointer (some ⟨g2, 0, none⟩)]] w fun e w' => e = .returned (.bool (xs.any (fun y => y.1 == k && y.2.1 == s))) ∧ Below w.heap.size w w' := by
  have HI := Lib.hid (dIndexFunc v xs k s g g2 w h h0 h1)
  generalize xs.any (fun y => y.1 == k && y.2.1 == s) = R at HI
  clear h h0 h1
  go_enter Tryz.func50, Tryz.ntmps50
  go_wp2_with fail
  refine HI.out.mono ?_
  rintro e w1 ⟨r, rfl, hr, hb⟩
  clear HI
  go_wp2
  go_ret
  exact ⟨rfl, hb⟩

set_option maxRecDepth 100000 in
set_option maxHeartbeats 1000000 in
theorem cHas (v : Value) (xs : List Chg) (k s : Int) (w : World) (h : RdC w v xs) :
    Calls Tryz.prog 35 #[v, .int .i64 k, .int .i64 s] w fun e w' => e = .returned (.bool (DM.has xs k s)) ∧ Below w.heap.size w w' := by
  have hmf : ∀ (fn : Fn) (first cap : Array Value) (w : World), (Instr.makeFunc fn first cap).run Tryz.prog w = .ok (.func fn first cap) w := fun _ _ _ _ => rfl
  have hb := (below_fresh w (.cells #[.int .i64 k] 3)).trans ((below_fresh (w.alloc (.cells #[.int .i64 k] 3)) (.cells #[.int .i64 s] 3)).mono (by simp))
  have HC := Lib.hid (dContainsFunc v xs k s w.heap.size (w.heap.size + 1) ((w.alloc (.cells #[.int .i64 k] 3)).alloc (.cells #[.int .i64 s] 3)) (h.below hb) (by simp [World.cell?_alloc_old]) (by rw [← World.size_alloc w (.cells #[.int .i64 k] 3)]; simp))
  obtain ⟨ad, cp, rfl, hc, hl⟩ := h.shape
  have HB := Lib.hid hb
  clear h hb
  have HD : Hid (xs.any (fun y => y.1 == k && y.2.1 == s) = DM.has xs k s) := Lib.hid rfl
  rw [HD.out] at HC
  generalize DM.has xs k s = R at HC HD ⊢
  go_enter Tryz.func35, Tryz.ntmps35
  go_wp2_with fail
  refine HC.out.mono ?_
  rintro e w1 ⟨rfl, hb1⟩
  go_wp2
  go_ret
  exact ⟨rfl, bnext HB.out hb1⟩

set_option maxRecDepth 100000 in
theorem cNext (v : Int) (w : World) (h0 : 0 ≤ v) : Calls Tryz.prog 37 #[.int .i64 v] w fun e w' => e = .returned (.int .i64 (if v < 1000 then v + 1 else 1001)) ∧ Below w.heap.size w w' := by
  obtain ⟨R, hR⟩ : ∃ R : Int, R = if v < 1000 then v + 1 else 1001 := ⟨_, rfl⟩
  rw [← hR]
  have HR := Lib.hid hR
  clear hR
  by_cases h : v < 1000
  · have h2 : ¬ (1000 < v) := by omega
    go_enter Tryz.func37, Tryz.ntmps37
    go_wp2
    go_ret
    exact ⟨ret_int (by rw [HR.out, if_pos h]), Below.refl _ _⟩
  · by_cases h2 : 1000 < v
    all_goals
      go_enter Tryz.func37, Tryz.ntmps37
      go_wp2
      go_ret
      exact ⟨ret_int (by rw [HR.out, if_neg (by omega)] <;> first | rfl | omega), Below.refl _ _⟩

end Go.Proofs.YthgnhaimdkcmeaaGreatDoor
