/-
  The call of the reference's EqualInts. Conditions: both lists read. (Stage 7's text MEq has the same.)
-/
import Derived.Test.YtkgkhofkhjgnbaaGreatGMid
namespace Go.Proofs.YtkgkhofkhjgnbaaGreat
open Go.RowKit Go.Joins Go.Shelf
open JM (Chg)
open CM (Fp)
open VM (Ent)

set_option maxRecDepth 100000 in
set_option maxHeartbeats 1000000 in
theorem rEqInts (va vb : Value) (xs ys : List Int) (w : World) (ha : RdI w va xs) (hb : RdI w vb ys) :
    Calls Tryz.prog 24 #[va, vb] w fun e w' => e = .returned (.bool (decide (xs = ys))) ∧ Below w.heap.size w w' := by
  obtain ⟨ad, c, rfl, hc, hl⟩ := ha.shape
  obtain ⟨bd, d, rfl, hd, hld⟩ := hb.shape
  have HA := Lib.hid ha
  have HB := Lib.hid hb
  clear ha hb
  by_cases hlen : xs.length = ys.length
  · obtain ⟨R, hR⟩ : ∃ R, R = decide (xs = ys) := ⟨_, rfl⟩
    rw [← hR]
    have HR := Lib.hid hR
    clear hR
    have HL := Lib.hid hlen
    have hq0 : ((xs.length : Int) != (ys.length : Int)) = false := by simp; omega
    rw [← hlen] at hq0 ⊢
    clear hlen
    go_enter Tryz.func24, Tryz.ntmps24
    go_wp2
    go_loopw [5] (fun i wr => ∃ k : Nat, k ≤ xs.length ∧ i = .int .i64 k ∧ Below w.heap.size w wr ∧ Hid (R = decide (xs.drop k = ys.drop k))) (fun i _ => xs.length - (intOf i).toNat)
    case atStart => exact ⟨0, Nat.zero_le _, rfl, Below.refl _ _, HR.out⟩
    case round =>
      obtain ⟨k, hk, rfl, hbl, he⟩ := hrel
      by_cases hlt : k < xs.length
      · have hlt2 : k < ys.length := by rw [← HL.out]; exact hlt
        have hatx := List.getElem?_eq_getElem hlt
        have haty := List.getElem?_eq_getElem hlt2
        have hdx := Lib.hid (drop_get hlt)
        have hdy := Lib.hid (drop_get hlt2)
        generalize xs[k] = y at hdx hatx
        generalize ys[k] = z at hdy haty
        obtain ⟨b, o, hi, hb, d0⟩ := atI (HA.out.below hbl) k _ hatx
        obtain ⟨bb, oo, hi2, hb2, f0⟩ := atI (HB.out.below hbl) k _ haty
        rw [← HL.out] at hi2
        have hq : (k : Int) < (xs.length : Int) := by omega
        clear HR hatx haty
        have hBB : ∃ B, B = decide (y = z) := ⟨_, rfl⟩
        obtain ⟨B, hB⟩ := hBB
        have hneq : (y != z) = !B := by rw [hB]; rfl
        have e0 := Lib.hid (show R = (B && decide (xs.drop (k + 1) = ys.drop (k + 1))) by
          rw [he.out, hdx.out, hdy.out, hB]
          rw [← Bool.decide_and]
          exact decide_eq_decide.2 List.cons_eq_cons)
        clear he hdx hdy hB
        cases B
        · have e2 := Lib.hid (e0.out.trans (Bool.false_and _))
          clear e0
          go_wp2
          go_quiet (fail)
          go_wp2
          go_ret
          rw [e2.out]
          exact ⟨rfl, hbl.trans (below_drewN _ _ _)⟩
        · have e2 := Lib.hid (e0.out.trans (Bool.true_and _))
          clear e0
          go_wp2
          go_quiet (fail)
          go_wp2
          go_roundw
          case rel => exact ⟨k + 1, by omega, by go_num, hbl.trans (below_drewN _ _ _), e2⟩
          case measure => simp [intOf]; omega
      · have hq : ¬ ((k : Int) < (xs.length : Int)) := by omega
        have e2 := Lib.hid (show R = true by rw [he.out, List.drop_of_length_le (by omega), List.drop_of_length_le (by rw [← HL.out]; omega)]; rfl)
        clear he HR
        go_wp2
        go_ret
        rw [e2.out]
        exact ⟨rfl, hbl⟩
  · have e2 := Lib.hid (show decide (xs = ys) = false from decide_eq_false fun h => hlen (by rw [h]))
    have hq0 : ((xs.length : Int) != (ys.length : Int)) = true := by simp; omega
    clear hlen HA HB
    go_enter Tryz.func24, Tryz.ntmps24
    go_wp2
    go_ret
    rw [e2.out]
    exact ⟨rfl, Below.refl _ _⟩

end Go.Proofs.YtkgkhofkhjgnbaaGreat
