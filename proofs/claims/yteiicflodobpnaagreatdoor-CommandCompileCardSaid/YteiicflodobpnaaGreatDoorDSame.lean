/-
  The call of the law's same, of two lists of changes: whether they are equal. No conditions beyond that the lists read.
-/
import Derived.Test.YteiicflodobpnaaGreatDoorDPrs
namespace Go.Proofs.YteiicflodobpnaaGreatDoor
open Go.RowKit Go.Joins Go.Shelf
open JM (Chg)

set_option maxRecDepth 100000 in
set_option maxHeartbeats 1000000 in
theorem lSame (u v : Value) (xs ys : List Chg) (w : World) (hx : RdC w u xs) (hy : RdC w v ys) :
    Calls Tryz.prog 9 #[u, v] w fun e w' => e = .returned (.bool (decide (xs = ys))) ∧ Below w.heap.size w w' := by
  obtain ⟨ad, c, rfl, hc, hl⟩ := hx.shape
  obtain ⟨bd, d, rfl, hd, hld⟩ := hy.shape
  have HA := Lib.hid hx
  have HBB := Lib.hid hy
  clear hx hy
  obtain ⟨R, hR⟩ : ∃ R, R = decide (xs = ys) := ⟨_, rfl⟩
  rw [← hR]
  by_cases hlen : xs.length = ys.length
  · have HR := Lib.hid hR
    clear hR
    have HL := Lib.hid hlen
    have hq0 : ((xs.length : Int) != (ys.length : Int)) = false := by simp; omega
    clear hlen
    have hm : Tryz.prog.eqGuardType Tryz.prog.depth 52 = false := by kernel_rfl
    go_enter Tryz.func9, Tryz.ntmps9
    go_wp2
    go_loopw [5] (fun i wr => ∃ k : Nat, k ≤ xs.length ∧ i = .int .i64 k ∧ Below w.heap.size w wr ∧ Hid (R = decide (xs.drop k = ys.drop k))) (fun i _ => xs.length - (intOf i).toNat)
    case atStart => exact ⟨0, Nat.zero_le _, rfl, Below.refl _ _, HR.out⟩
    case round =>
      obtain ⟨k, hk, rfl, hbl, he⟩ := hrel
      by_cases hlt : k < xs.length
      · have hlt2 : k < ys.length := by rw [← HL.out]; exact hlt
        have hatx := List.getElem?_eq_getElem hlt
        have haty := List.getElem?_eq_getElem hlt2
        have hdx := Lib.hid (drop_get hlt)
        have hdy := Lib.hid (drop_get hlt2)
        generalize xs[k] = y at hdx hatx
        obtain ⟨k', s', t', v', a', b', c'⟩ := y
        generalize ys[k] = z at hdy haty
        obtain ⟨k2, s2, t2, v2, a2, b2, c2⟩ := z
        obtain ⟨b, o, hi, hb, d0, d1, d2, d3, d4, d5, d6⟩ := atC (HA.out.below hbl) k _ _ _ _ _ _ _ hatx
        obtain ⟨bb, oo, hi2, hb2, f0, f1, f2, f3, f4, f5, f6⟩ := atC (HBB.out.below hbl) k _ _ _ _ _ _ _ haty
        have hq : (k : Int) < (xs.length : Int) := by omega
        clear HR hatx haty
        have hBB : ∃ B, B = decide ((k', s', t', v', a', b', c') = (k2, s2, t2, v2, a2, b2, c2)) := ⟨_, rfl⟩
        obtain ⟨B, hB⟩ := hBB
        have hneq := neq_cv _ _ _ _ _ _ _ _ _ _ _ _ _ _ B hB
        have e0 := Lib.hid (show R = (B && decide (xs.drop (k + 1) = ys.drop (k + 1))) by
          rw [he.out, hdx.out, hdy.out, hB]
          rw [← Bool.decide_and]
          exact decide_eq_decide.2 List.cons_eq_cons)
        clear he hdx hdy hB
        cases B
        · have e2 := Lib.hid (e0.out.trans (Bool.false_and _))
          clear e0
          go_wp2
          go_quiet (fail)
          go_wp2
          go_ret
          rw [e2.out]
          exact ⟨rfl, hbl.trans (below_drewN _ _ _)⟩
        · have e2 := Lib.hid (e0.out.trans (Bool.true_and _))
          clear e0
          go_wp2
          go_quiet (fail)
          go_wp2
          go_roundw
          case rel => exact ⟨k + 1, by omega, by go_num, hbl.trans (below_drewN _ _ _), e2⟩
          case measure => simp [intOf]; omega
      · have hq : ¬ ((k : Int) < (xs.length : Int)) := by omega
        have e2 := Lib.hid (show R = true by rw [he.out, List.drop_of_length_le (by omega), List.drop_of_length_le (by rw [← HL.out]; omega)]; rfl)
        clear he HR
        go_wp2
        go_ret
        rw [e2.out]
        exact ⟨rfl, hbl⟩
  · have e2 := Lib.hid (show R = false from hR.trans (decide_eq_false fun h => hlen (by rw [h])))
    have hq0 : ((xs.length : Int) != (ys.length : Int)) = true := by simp; omega
    clear hlen HA HBB hR
    go_enter Tryz.func9, Tryz.ntmps9
    go_wp2
    go_ret
    rw [e2.out]
    exact ⟨rfl, Below.refl _ _⟩

end Go.Proofs.YteiicflodobpnaaGreatDoor
