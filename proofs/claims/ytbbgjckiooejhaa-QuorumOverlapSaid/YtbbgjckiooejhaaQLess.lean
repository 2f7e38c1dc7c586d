/-
  The call of the reference's Less: the lexicographic order. Conditions: the lists read.
-/
import Derived.Test.YtbbgjckiooejhaaQRef
namespace Go.Proofs.Ytbbgjckiooejhaa
open Go.RowKit
open QM (Mem)

set_option maxRecDepth 100000 in
set_option maxHeartbeats 1000000 in
theorem rLess (v u : Value) (xs ys : List Int) (w : World) (h : RdI w v xs) (g : RdI w u ys) :
    Calls Try.prog 43 #[v, u] w fun e w' => e = .returned (.bool (QM.lex xs ys)) ∧ Below w.heap.size w w' := by
  obtain ⟨ad, c, rfl, hc, hl⟩ := h.shape
  obtain ⟨bd, d, rfl, hd, hm⟩ := g.shape
  have H := Lib.hid h
  have G := Lib.hid g
  clear h g
  obtain ⟨R, hR⟩ : ∃ R, R = QM.lex xs ys := ⟨_, rfl⟩
  rw [← hR]
  have HR := Lib.hid hR
  clear hR
  go_enter Try.func43, Try.ntmps43
  go_wp2
  go_loopw [5] (fun i wr => ∃ k : Nat, k ≤ xs.length ∧ k ≤ ys.length ∧ i = .int .i64 k ∧ Hid (R = QM.lex (xs.drop k) (ys.drop k)) ∧ Hid (Below w.heap.size w wr)) (fun i _ => xs.length - (intOf i).toNat)
  case atStart => exact ⟨0, Nat.zero_le _, Nat.zero_le _, rfl, HR.out, Below.refl _ _⟩
  case round =>
    obtain ⟨k, hk, hky, rfl, he, hb⟩ := hrel
    clear HR
    by_cases hlt : k < xs.length
    · have hq : (k : Int) < (xs.length : Int) := by omega
      by_cases hlt2 : k < ys.length
      · obtain ⟨b1, o1, hi1, hb1, c0⟩ := atI (H.out.below hb.out) k xs[k] (List.getElem?_eq_getElem hlt)
        obtain ⟨b2, o2, hi2, hb2, d0⟩ := atI (G.out.below hb.out) k ys[k] (List.getElem?_eq_getElem hlt2)
        have hq2 : (k : Int) < (ys.length : Int) := by omega
        have he2 := he.out
        rw [drop_get hlt, drop_get hlt2, QM.lex] at he2
        generalize xs[k] = x at c0 he2
        generalize ys[k] = y at d0 he2
        clear he
        by_cases hxy : x = y
        · rw [if_pos hxy] at he2
          have HE := Lib.hid he2
          have hne : (x != y) = false := by rw [hxy]; simp
          clear he2 hxy
          go_wp2
          go_quiet (fail)
          go_wp2
          go_round
          case rel => exact ⟨k + 1, by omega, by omega, by go_num, HE, hb.out.trans (below_drewN _ _ _)⟩
          case measure => simp [intOf]; omega
        · rw [if_neg hxy] at he2
          have HE := Lib.hid he2
          have hne : (x != y) = true := bne_t hxy
          clear he2 hxy
          go_wp2
          go_quiet (fail)
          go_wp2
          go_quiet (fail)
          go_wp2
          go_ret
          rw [HE.out]
          exact ⟨rfl, (hb.out.trans (below_drewN _ _ _)).trans (below_drewN _ _ _)⟩
      · have hq2 : ¬ (k : Int) < (ys.length : Int) := by omega
        have HE := Lib.hid (show R = decide ((xs.length : Int) < (ys.length : Int)) by
          rw [he.out, List.drop_of_length_le (by omega : ys.length ≤ k), decide_eq_false (by omega)]
          cases xs.drop k <;> rfl)
        clear he
        go_wp2
        go_ret
        refine ⟨ret_bool ?_, hb.out⟩
        rw [HE.out]
        try simp
    · have hq : ¬ (k : Int) < (xs.length : Int) := by omega
      have HE := Lib.hid (show R = decide ((xs.length : Int) < (ys.length : Int)) by
        rw [he.out, List.drop_of_length_le (by omega : xs.length ≤ k)]
        by_cases h2 : k < ys.length
        · rw [drop_get h2, decide_eq_true (by omega)]; rfl
        · rw [List.drop_of_length_le (by omega : ys.length ≤ k), decide_eq_false (by omega)]; rfl)
      clear he
      go_wp2
      go_ret
      refine ⟨ret_bool ?_, hb.out⟩
      rw [HE.out]
      try simp

end Go.Proofs.Ytbbgjckiooejhaa
