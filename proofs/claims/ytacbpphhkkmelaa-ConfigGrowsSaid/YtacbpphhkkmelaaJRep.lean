/-
  The call of proposal.repeats: whether an earlier change is of the same kind and for the same server. Conditions: the earlier changes read.
-/
import Derived.Shelf.Abstract
import Derived.Test.YtacbpphhkkmelaaJBase
namespace Go.Proofs.Ytacbpphhkkmelaa
open Go.RowKit Go.Shelf
open JM (Chg)

set_option maxRecDepth 100000 in
set_option maxHeartbeats 1000000 in
theorem cSim (g : Nat) (k s : Int) (k' s' t' v' a' b' c' : Int) (w : World) (h0 : w.cell? ⟨g, 0, none⟩ = some (.int .i64 k)) (h1 : w.cell? ⟨g, 1, none⟩ = some (.int .i64 s)) :
    Calls Try.prog 94 #[cv k' s' t' v' a' b' c', .pointer (some ⟨g, 0, none⟩)] w fun e w' => e = .returned (.bool (k' == k && s' == s)) ∧ Below w.heap.size w w' := by
  have hb := below_fresh w (.cells #[.int .i64 k', .int .i64 s', .int .i64 t', .int .i64 v', .int .i64 a', .int .i64 b', .int .i64 c'] 63)
  have d0 := below_cell hb h0
  have d1 := below_cell hb h1
  clear h0 h1
  cases hk : (k' == k)
  · go_enter Try.func94, Try.ntmps94
    go_wp2
    go_ret
    exact ⟨rfl, hb⟩
  · cases hs : (s' == s)
    all_goals
      go_enter Try.func94, Try.ntmps94
      go_wp2
      go_ret
      exact ⟨rfl, hb⟩

set_option maxRecDepth 100000 in
set_option maxHeartbeats 1000000 in
theorem cIndexFunc (v : Value) (xs : List Chg) (x : Chg) (g : Nat) (w : World) (h : RdC w v xs) (h0 : w.cell? ⟨g, 0, none⟩ = some (.int .i64 x.1)) (h1 : w.cell? ⟨g, 1, none⟩ = some (.int .i64 x.2.1)) :
    Calls Try.prog 101 #[v, .func (.func 94) #[] #[.pointer (some ⟨g, 0, none⟩)]] w fun e w' => ∃ r : Int, e = .returned (.int .i64 r) ∧ decide (0 ≤ r) = xs.any (fun y => JM.sim y x) ∧ Below w.heap.size w w' := by
  have eF := enters_of Try.func94 (by kernel_rfl) rfl
  obtain ⟨ad, c, rfl, hc, hl⟩ := h.shape
  obtain ⟨R, hR⟩ : ∃ R, R = xs.any (fun y => JM.sim y x) := ⟨_, rfl⟩
  rw [← hR]
  have HR := Lib.hid hR
  have HX := Lib.hid h
  have H0 := Lib.hid h0
  have H1 := Lib.hid h1
  clear hR h h0 h1
  go_enter Try.func101, Try.ntmps101
  go_wp2
  go_loopw [8] (fun i wr => ∃ k : Nat, k ≤ xs.length ∧ i = .int .i64 k ∧ Below w.heap.size w wr ∧ Hid (R = (xs.drop k).any (fun y => JM.sim y x))) (fun i _ => xs.length - (intOf i).toNat)
  case atStart => exact ⟨0, Nat.zero_le _, rfl, Below.refl _ _, HR.out⟩
  case round =>
    obtain ⟨k, hk, rfl, hbl, he⟩ := hrel
    by_cases hlt : k < xs.length
    · have hq : (k : Int) < (xs.length : Int) := by omega
      have hdx := Lib.hid (drop_get hlt)
      have hat := List.getElem?_eq_getElem hlt
      generalize xs[k] = y at hdx hat
      obtain ⟨k', s', t', v', a', b', c'⟩ := y
      obtain ⟨b, o, hi, hb, d0, d1, d2, d3, d4, d5, d6⟩ := atC (HX.out.below hbl) k _ _ _ _ _ _ _ hat
      have hS := Lib.hid (cSim g x.1 x.2.1 k' s' t' v' a' b' c' wr (below_cell hbl H0.out) (below_cell hbl H1.out))
      have e2 := Lib.hid (show R = ((k' == x.1 && s' == x.2.1) || (xs.drop (k + 1)).any (fun y => JM.sim y x)) by rw [he.out, hdx.out]; rfl)
      clear he hdx hat
      generalize (k' == x.1 && s' == x.2.1) = B at hS e2
      cases B
      · have e3 := Lib.hid (show R = (xs.drop (k + 1)).any (fun y => JM.sim y x) by rw [e2.out, Bool.false_or])
        clear e2
        go_wp2_with (go_at_call 94; refine hS.out.mono ?_; rintro e w4 ⟨rfl, h4⟩)
        go_roundw
        case rel => exact ⟨k + 1, by omega, by go_num, bnext hbl h4, e3⟩
        case measure => simp [intOf]; omega
      · have e3 := Lib.hid (show R = true by rw [e2.out, Bool.true_or])
        clear e2
        go_wp2_with (go_at_call 94; refine hS.out.mono ?_; rintro e w4 ⟨rfl, h4⟩)
        go_ret
        exact ⟨_, rfl, by rw [e3.out]; exact decide_eq_true (by omega), bnext hbl h4⟩
    · have hq : ¬ ((k : Int) < (xs.length : Int)) := by omega
      have e2 := Lib.hid (show R = false by rw [he.out, List.drop_of_length_le (by omega)]; rfl)
      clear he HR
      go_wp2
      go_ret
      exact ⟨_, rfl, by rw [e2.out]; rfl, hbl⟩

set_option maxRecDepth 100000 in
set_option maxHeartbeats 1000000 in
theorem cContainsFunc (v : Value) (xs : List Chg) (x : Chg) (g : Nat) (w : World) (h : RdC w v xs) (h0 : w.cell? ⟨g, 0, none⟩ = some (.int .i64 x.1)) (h1 : w.cell? ⟨g, 1, none⟩ = some (.int .i64 x.2.1)) :
    Calls Try.prog 93 #[v, .func (.func 94) #[] #[.pointer (some ⟨g, 0, none⟩)]] w fun e w' => e = .returned (.bool (xs.any (fun y => JM.sim y x))) ∧ Below w.heap.size w w' := by
  have HI := Lib.hid (cIndexFunc v xs x g w h h0 h1)
  generalize xs.any (fun y => JM.sim y x) = R at HI
  clear h h0 h1
  go_enter Try.func93, Try.ntmps93
  go_wp2_with fail
  refine HI.out.mono ?_
  rintro e w1 ⟨r, rfl, hr, hb⟩
  clear HI
  go_wp2
  go_ret
  exact ⟨rfl, hb⟩

set_option maxRecDepth 100000 in
set_option maxHeartbeats 1000000 in
theorem cRepeats (x : Chg) (v : Value) (xs : List Chg) (w : World) (h : RdC w v xs) :
    Calls Try.prog 73 #[cvT x, v] w fun e w' => e = .returned (.bool (xs.any (fun y => JM.sim y x))) ∧ Below w.heap.size w w' := by
  have hmf : ∀ (fn : Fn) (first cap : Array Value) (w : World), (Instr.makeFunc fn first cap).run Try.prog w = .ok (.func fn first cap) w := fun _ _ _ _ => rfl
  obtain ⟨k, s, t, y, a, b, c⟩ := x
  have hb := below_fresh w (.cells #[.int .i64 k, .int .i64 s, .int .i64 t, .int .i64 y, .int .i64 a, .int .i64 b, .int .i64 c] 63)
  have HC := Lib.hid (cContainsFunc v xs (k, s, t, y, a, b, c) w.heap.size (w.alloc (.cells #[.int .i64 k, .int .i64 s, .int .i64 t, .int .i64 y, .int .i64 a, .int .i64 b, .int .i64 c] 63)) (h.below hb) (by simp [World.cell?_alloc_new]) (by simp [World.cell?_alloc_new]))
  obtain ⟨ad, cp, rfl, hc, hl⟩ := h.shape
  have HB := Lib.hid hb
  clear h hb
  generalize xs.any (fun y_1 => JM.sim y_1 (k, s, t, y, a, b, c)) = R at HC
  show Calls Try.prog 73 #[cv k s t y a b c, _] w _
  go_enter Try.func73, Try.ntmps73
  go_wp2_with fail
  refine HC.out.mono ?_
  rintro e w1 ⟨rfl, hb1⟩
  go_wp2
  go_ret
  exact ⟨rfl, bnext HB.out hb1⟩

end Go.Proofs.Ytacbpphhkkmelaa
