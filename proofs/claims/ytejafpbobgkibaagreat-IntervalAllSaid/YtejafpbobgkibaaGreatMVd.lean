/-
  The calls that validate a summary's lists, the program's and the reference's: servers in range, ascending. No conditions beyond that the lists read.
-/
import Derived.Test.YtejafpbobgkibaaGreatMVal
namespace Go.Proofs.YtejafpbobgkibaaGreat
open Go.RowKit
open MM (Mem Ent Sm Tri)

set_option maxRecDepth 100000 in
set_option maxHeartbeats 1000000 in
theorem rAsc (v : Value) (xs : List Int) (w : World) (h : RdI w v xs) : Calls Tryz.prog 36 #[v] w fun e w' => e = .returned (.bool (MM.asc xs)) ∧ Below w.heap.size w w' := by
  obtain ⟨ad, c, rfl, hc, hl⟩ := h.shape
  have H := Lib.hid h
  clear h
  obtain ⟨R, hR⟩ : ∃ R, R = MM.asc xs := ⟨_, rfl⟩
  rw [← hR]
  have HR := Lib.hid (show R = MM.asc (xs.drop 0) from hR)
  clear hR
  go_enter Tryz.func36, Tryz.ntmps36
  go_wp2
  go_loopw [3] (fun i wr => ∃ k : Nat, k ≤ xs.length ∧ i = .int .i64 ((k : Int) + 1) ∧ Below w.heap.size w wr ∧ Hid (R = MM.asc (xs.drop k))) (fun i _ => xs.length - (intOf i).toNat)
  case atStart => exact ⟨0, Nat.zero_le _, rfl, Below.refl _ _, HR⟩
  case round =>
    obtain ⟨k, hk, rfl, hbl, he⟩ := hrel
    clear HR
    by_cases hlt : k + 1 < xs.length
    · obtain ⟨b, o, hi, hb, c0⟩ := atI (H.out.below hbl) k (xs[k]'(by omega)) (List.getElem?_eq_getElem (by omega))
      obtain ⟨b2, o2, hi2, hb2, d0⟩ := atI (H.out.below hbl) (k + 1) xs[k + 1] (List.getElem?_eq_getElem hlt)
      rw [show ((k + 1 : Nat) : Int) = (k : Int) + 1 by omega] at hi2
      have hq : (k : Int) + 1 < (xs.length : Int) := by omega
      have hz : (k : Int) + 1 - 1 = (k : Int) := by omega
      have hdx := Lib.hid (drop_get (show k < xs.length by omega))
      have hdy := Lib.hid (drop_get hlt)
      generalize xs[k]'(by omega) = x at c0 hdx
      generalize xs[k + 1] = y at d0 hdy
      have e1 := Lib.hid (show R = (decide (x < y) && MM.asc (xs.drop (k + 1))) by rw [he.out, hdx.out, hdy.out]; rfl)
      clear he hdx hdy
      by_cases hxy : x < y
      · have e2 := Lib.hid (show R = MM.asc (xs.drop (k + 1)) by rw [e1.out, decide_eq_true hxy]; rfl)
        have hle : ¬ y ≤ x := by omega
        clear e1
        go_wp2
        go_quiet (fail)
        go_wp2
        go_roundw
        case rel => exact ⟨k + 1, by omega, by go_num, hbl.trans (below_drewN _ _ _), e2⟩
        case measure => simp [intOf]; omega
      · have e2 := Lib.hid (show R = false by rw [e1.out, decide_eq_false hxy]; rfl)
        have hle : y ≤ x := by omega
        clear e1
        go_wp2
        go_quiet (fail)
        go_wp2
        go_ret
        rw [e2.out]
        exact ⟨rfl, hbl.trans (below_drewN _ _ _)⟩
    · have hq : ¬ ((k : Int) + 1 < (xs.length : Int)) := by omega
      have e2 := Lib.hid (show R = true by
        rw [he.out]
        by_cases h1 : k < xs.length
        · rw [drop_get h1, List.drop_of_length_le (by omega)]; rfl
        · rw [List.drop_of_length_le (by omega)]; rfl)
      clear he
      go_wp2
      go_ret
      rw [e2.out]
      exact ⟨rfl, hbl⟩

end Go.Proofs.YtejafpbobgkibaaGreat
