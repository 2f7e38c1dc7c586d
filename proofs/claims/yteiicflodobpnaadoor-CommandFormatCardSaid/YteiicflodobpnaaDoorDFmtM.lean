/-
  Plain mathematics: a valid change's words are read as that change without its version.
-/
import Derived.Test.YteiicflodobpnaaDoorDFmt
namespace Go.Proofs.YteiicflodobpnaaDoor.DM
open JM (Chg)

theorem itoa_isN {n : Int} (h0 : 0 ≤ n) (h1 : n ≤ 9999) : isN (Lib.itoa n) = true ∧ (val (Lib.itoa n) : Int) = n := by
  have h := isN_itoa (n := n.toNat) (by omega)
  have e : Lib.itoa n = Lib.decDigits n.toNat := by unfold Lib.itoa; rw [if_neg (by omega)]
  rw [e, h.2]
  exact ⟨h.1, by omega⟩
theorem isN_no {l : List UInt8} (h : isN l = true) : (32 : UInt8) ∉ l := by
  unfold isN at h
  simp only [Bool.and_eq_true] at h
  intro hm
  have := List.all_eq_true.1 h.2 _ hm
  exact absurd this (by decide)
theorem two {a b : List UInt8} (ha : (32 : UInt8) ∉ a) (hb : (32 : UInt8) ∉ b) : sp 32 (a ++ 32 :: b) = [a, b] := by rw [sp_hit ha, sp_none hb]
theorem three {a b c : List UInt8} (ha : (32 : UInt8) ∉ a) (hb : (32 : UInt8) ∉ b) (hc : (32 : UInt8) ∉ c) : sp 32 (a ++ 32 :: (b ++ 32 :: c)) = [a, b, c] := by rw [sp_hit ha, two hb hc]
theorem four {a b c d : List UInt8} (ha : (32 : UInt8) ∉ a) (hb : (32 : UInt8) ∉ b) (hc : (32 : UInt8) ∉ c) (hd : (32 : UInt8) ∉ d) : sp 32 (a ++ 32 :: (b ++ 32 :: (c ++ 32 :: d))) = [a, b, c, d] := by rw [sp_hit ha, three hb hc hd]
theorem errC_v {k s t v v' a b c : Int} (h : JM.errC k s t v a b c = 0) (hf : JM.fit v' (JM.verOf k) = true) : JM.errC k s t v' a b c = 0 := by
  unfold JM.errC at h ⊢
  by_cases h1 : k < 1 ∨ 4 < k
  · rw [if_pos h1] at h; cases h
  rw [if_neg h1] at h ⊢
  by_cases h2 : JM.fit s (JM.srvOf k) = false
  · rw [if_pos h2] at h; cases h
  rw [if_neg h2] at h ⊢
  by_cases h3 : JM.fit t (JM.wtOf k) = false
  · rw [if_pos h3] at h; cases h
  rw [if_neg h3] at h ⊢
  by_cases h4 : JM.fit v (JM.verOf k) = false
  · rw [if_pos h4] at h; cases h
  rw [if_neg h4] at h
  rw [if_neg (by rw [hf]; simp)]
  exact h
theorem ver_zero {k s t v a b c : Int} (h : JM.errCh (ver (k, s, t, v, a, b, c)) = 0) : JM.errCh (ver (k, s, t, 0, a, b, c)) = 0 := by
  refine errC_v (v := if v = 0 ∧ (k = 3 ∨ k = 4) then 1 else v) h ?_
  unfold JM.verOf
  by_cases hk : k = 3 ∨ k = 4
  · rw [if_pos hk, if_pos ⟨rfl, hk⟩]; decide
  · rw [if_neg hk, if_neg (fun h => hk h.2)]; decide
theorem full {k s t v a b c : Int} (h : JM.errCh (ver (k, s, t, v, a, b, c)) = 0) :
    (k = 1 ∧ a = 0 ∧ b = 0 ∧ c = 0) ∨ (k = 2 ∧ t = 0 ∧ a = 0 ∧ b = 0 ∧ c = 0) ∨ (k = 3 ∧ a = 0 ∧ b = 0 ∧ c = 0) ∨ (k = 4 ∧ s = 0 ∧ t = 0 ∧ ((a = 1 ∧ b = 0 ∧ c = 0) ∨ (a = 2 ∧ b = 0 ∧ c = 0) ∨ (a = 3 ∧ c = 0) ∨ (a = 4 ∧ b = 0))) := by
  unfold ver JM.errCh JM.errC at h
  dsimp only at h
  by_cases h1 : k < 1 ∨ 4 < k
  · rw [if_pos h1] at h; cases h
  rw [if_neg h1] at h
  by_cases h2 : JM.fit s (JM.srvOf k) = false
  · rw [if_pos h2] at h; cases h
  rw [if_neg h2] at h
  by_cases h3 : JM.fit t (JM.wtOf k) = false
  · rw [if_pos h3] at h; cases h
  rw [if_neg h3] at h
  have b2 := fit_bd h2 (by unfold JM.srvOf; split <;> omega)
  have b3 := fit_bd h3 (by unfold JM.wtOf; split <;> omega)
  unfold JM.srvOf at b2
  unfold JM.wtOf at b3
  by_cases h4 : JM.fit (if v = 0 ∧ (k = 3 ∨ k = 4) then 1 else v) (JM.verOf k) = false
  · rw [if_pos h4] at h; cases h
  rw [if_neg h4] at h
  by_cases hk : k = 4
  · rw [if_pos hk] at h b2
    rw [if_neg (by omega)] at b3
    unfold JM.errR at h
    have hs : s = 0 := by omega
    have ht : t = 0 := by omega
    clear h1 h2 h3 h4 b2 b3
    refine .inr (.inr (.inr ⟨hk, hs, ht, ?_⟩))
    clear hk hs ht
    by_cases g1 : a < 1 ∨ 4 < a
    · rw [if_pos g1] at h; cases h
    rw [if_neg g1] at h
    by_cases g2 : (a = 3 ∧ (b < 1 ∨ 12 < b)) ∨ (a ≠ 3 ∧ b ≠ 0)
    · rw [if_pos g2] at h; cases h
    rw [if_neg g2] at h
    by_cases g3 : (a = 4 ∧ (c < 0 ∨ 12 < c)) ∨ (a ≠ 4 ∧ c ≠ 0)
    · rw [if_pos g3] at h; cases h
    clear h
    have ha : a = 1 ∨ a = 2 ∨ a = 3 ∨ a = 4 := by omega
    rcases ha with rfl | rfl | rfl | rfl <;> omega
  · rw [if_neg hk] at h
    by_cases g : a = 0 ∧ b = 0 ∧ c = 0
    · by_cases h2 : k = 2
      · rw [if_neg (by omega)] at b3
        exact .inr (.inl ⟨h2, by omega, g⟩)
      · by_cases h5 : k = 1
        · exact .inl ⟨h5, g⟩
        · exact .inr (.inr (.inl ⟨by omega, g⟩))
    · rw [if_neg g] at h; cases h
theorem words_fmt {k s t v a b c : Int} (h : JM.errCh (ver (k, s, t, v, a, b, c)) = 0) : frm (sp 32 (fmt (k, s, t, v, a, b, c))) = some (k, s, t, 0, a, b, c) := by
  obtain ⟨hk, s0, s1, t0, t1, hr⟩ := bounds h
  rw [fmt_eq h]
  obtain ⟨is, vs⟩ := itoa_isN s0 (by omega)
  obtain ⟨it, vt⟩ := itoa_isN t0 (by omega)
  rcases full h with ⟨rfl, rfl, rfl, rfl⟩ | ⟨rfl, rfl, rfl, rfl, rfl⟩ | ⟨rfl, rfl, rfl, rfl⟩ | ⟨rfl, rfl, rfl, hr2⟩
  · rw [if_pos rfl]
    have e : sp 32 (sJoin ++ 32 :: Lib.itoa s ++ 32 :: sWeight ++ 32 :: Lib.itoa t) = [sJoin, Lib.itoa s, sWeight, Lib.itoa t] := by
      rw [← four (a := sJoin) (by decide) (isN_no is) (c := sWeight) (by decide) (isN_no it)]
      simp
    rw [e]
    rw [frm]
    rw [if_pos ⟨rfl, is, rfl, it⟩, vs, vt]
  · rw [if_neg (by decide), if_pos rfl, two (by decide) (isN_no is)]
    rw [frm]
    rw [if_neg (fun h => absurd h.1 (by decide)), if_pos ⟨rfl, is⟩, vs]
  · rw [if_neg (by decide), if_neg (by decide), if_pos rfl]
    have e : sp 32 (sWeight ++ 32 :: Lib.itoa s ++ 32 :: Lib.itoa t) = [sWeight, Lib.itoa s, Lib.itoa t] := by
      rw [← three (a := sWeight) (by decide) (isN_no is) (isN_no it)]
      simp
    rw [e]
    rw [frm]
    rw [if_pos ⟨rfl, is, it⟩, vs, vt]
  · rw [if_neg (by decide), if_neg (by decide), if_neg (by decide)]
    obtain ⟨_, b0, b1, c0, c1⟩ := hr rfl
    obtain ⟨ib, vb⟩ := itoa_isN b0 (by omega)
    obtain ⟨ic, vc⟩ := itoa_isN c0 (by omega)
    unfold fmtR
    rcases hr2 with ⟨rfl, rfl, rfl⟩ | ⟨rfl, rfl, rfl⟩ | ⟨rfl, rfl⟩ | ⟨rfl, rfl⟩
    · rfl
    · rfl
    · rw [if_neg (by decide), if_neg (by decide), if_pos rfl]
      have e : sp 32 (sRule ++ 32 :: sGrid ++ 32 :: Lib.itoa b) = [sRule, sGrid, Lib.itoa b] := by
        rw [← three (a := sRule) (by decide) (b := sGrid) (by decide) (isN_no ib)]
        simp
      rw [e]
      rw [frm]
      rw [if_neg (fun h => absurd h.1 (by decide)), if_pos ⟨rfl, rfl, ib⟩, vb]
    · rw [if_neg (by decide), if_neg (by decide), if_neg (by decide)]
      have e : sp 32 (sRule ++ 32 :: sMask ++ 32 :: Lib.itoa c) = [sRule, sMask, Lib.itoa c] := by
        rw [← three (a := sRule) (by decide) (b := sMask) (by decide) (isN_no ic)]
        simp
      rw [e]
      rw [frm]
      rw [if_neg (fun h => absurd h.1 (by decide)), if_neg (fun h => absurd h.2.1 (by decide)), if_pos ⟨rfl, rfl, ic⟩, vc]
theorem prs_fmt {k s t v a b c : Int} (h : JM.errCh (ver (k, s, t, v, a, b, c)) = 0) : prs (fmt (k, s, t, v, a, b, c)) = ((k, s, t, 0, a, b, c), 0) := by
  unfold prs
  rw [words_fmt h]
  dsimp only
  rw [if_pos (ver_zero h)]
theorem fmt_zero {k s t v a b c : Int} (h : JM.errCh (ver (k, s, t, v, a, b, c)) = 0) : fmt (k, s, t, 0, a, b, c) = fmt (k, s, t, v, a, b, c) := by
  rw [fmt_eq h, fmt_eq (ver_zero h)]

end Go.Proofs.YteiicflodobpnaaDoor.DM
