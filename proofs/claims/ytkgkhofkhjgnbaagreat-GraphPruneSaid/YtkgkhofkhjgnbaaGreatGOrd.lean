/-
  The mathematics of GraphOrders' own loop: the proposals that are added, by administrator; the orders, step by step, none of them large. No program. No conditions beyond those that each lemma names.
-/
import Derived.Test.YtkgkhofkhjgnbaaGreatGPart
namespace Go.Proofs.YtkgkhofkhjgnbaaGreat.IM
open JM (Chg)
open CM (Fp)

/-- The proposals of an administrator among the first i that the lower configuration has not. -/
def newT (fa ft : List Fp) (c : Int) (i : Nat) : Nat := ((ft.take i).filter fun f => decide (f.1 = c) && !CM.conk fa [f]).length
theorem conk_one (fa : List Fp) (f : Fp) : CM.conk fa [f] = CM.hasK fa f.1 f.2.1 := by unfold CM.conk; simp
theorem newT_hit {fa ft : List Fp} {c : Int} {i : Nat} {f : Fp} (h : ft[i]? = some f) (h1 : f.1 = c) (h2 : CM.conk fa [f] = false) : newT fa ft c (i + 1) = newT fa ft c i + 1 := by
  unfold newT; rw [filter_hit h (by simp [h1, h2]), List.length_append]; rfl
theorem newT_miss {fa ft : List Fp} {c : Int} {i : Nat} {f : Fp} (h : ft[i]? = some f) (h1 : f.1 ≠ c ∨ CM.conk fa [f] = true) : newT fa ft c (i + 1) = newT fa ft c i := by
  unfold newT; rw [filter_miss h (by rcases h1 with h1 | h1 <;> simp [h1])]
theorem len_split {α : Type} (L : List α) (p q : α → Bool) : (L.filter p).length = (L.filter fun x => p x && q x).length + (L.filter fun x => p x && !q x).length := by
  induction L with
  | nil => rfl
  | cons x L ih =>
    simp only [List.filter_cons]
    cases p x <;> cases q x <;> simp <;> omega
theorem newT_all {fa ft : List Fp} (oa : CM.Ok fa) (ot : CM.Ok ft) (ta : CM.cons ft fa = true) (c : Int) : CM.ct ft c = CM.ct fa c + (newT fa ft c ft.length : Int) := by
  have hfa : CM.ct fa c = ((ft.filter fun f => decide (f.1 = c) && CM.conk fa [f]).length : Int) := by
    have e := rs_sub oa ot ta
    have h1 : fa.filter (fun f => decide (f.1 = c)) = ft.filter fun f => decide (f.1 = c) && CM.conk fa [f] := by
      conv => lhs; rw [← e]
      unfold CM.rs
      rw [List.filter_filter]
      refine List.filter_congr fun f hf => ?_
      have hn := CM.errF_num (ot.all f hf)
      rw [conk_one, Bool.eq_iff_iff, Bool.and_eq_true, Bool.and_eq_true, decide_eq_true_eq, decide_eq_true_eq, oa.has f.1 f.2.1 (by omega)]
    unfold CM.ct
    rw [h1]
  rw [hfa]
  unfold CM.ct newT
  rw [List.take_length, len_split ft (fun f => decide (f.1 = c)) (fun f => CM.conk fa [f])]
  exact Int.natCast_add _ _
theorem newT_le (fa ft : List Fp) (c : Int) (i : Nat) : newT fa ft c i ≤ newT fa ft c ft.length := by
  have hs : ∀ (k i : Nat), newT fa ft c i ≤ newT fa ft c (i + k) := by
    intro k i
    unfold newT
    exact (List.Sublist.filter _ (List.take_sublist_take_left (by omega))).length_le
  by_cases h : i ≤ ft.length
  · have := hs (ft.length - i) i
    rwa [show i + (ft.length - i) = ft.length by omega] at this
  · unfold newT
    rw [List.take_of_length_le (by omega), List.take_length]
    exact Nat.le_refl _
/-- The orders and the proposals behind j administrators. -/
def os (N : Nat → Nat) : Nat → Nat × Nat
  | 0 => (1, 0)
  | j + 1 => (ordS (os N j).1 (os N j).2 (N j), (os N j).2 + N j)
theorem os_three (N : Nat → Nat) : os N 3 = (ord3 (N 0) (N 1) (N 2), N 0 + N 1 + N 2) := by
  simp [os, ord3]
theorem os_b1 : ∀ m, m < 4 → ordS 1 0 m ≤ 1680 := by decide +kernel
theorem os_b2 : ∀ a, a < 4 → ∀ m, m < 4 → ordS (ordS 1 0 a) a m ≤ 1680 := by decide +kernel
theorem os_b3 : ∀ a, a < 4 → ∀ b, b < 4 → ∀ m, m < 4 → ordS (ordS (ordS 1 0 a) a b) (a + b) m ≤ 1680 := by decide +kernel
theorem os_bd {N : Nat → Nat} (hN : ∀ j, N j < 4) {j m : Nat} (hj : j < 3) (hm : m < 4) : ordS (os N j).1 (os N j).2 m ≤ 1680 ∧ (os N j).2 ≤ 6 := by
  have h3 : j = 0 ∨ j = 1 ∨ j = 2 := by omega
  have n0 := hN 0
  have n1 := hN 1
  rcases h3 with rfl | rfl | rfl
  · exact ⟨os_b1 m hm, by simp [os]⟩
  · have := os_b2 (N 0) n0 m hm
    simp [os]
    exact ⟨this, by omega⟩
  · have := os_b3 (N 0) n0 (N 1) n1 m hm
    simp [os]
    exact ⟨this, by omega⟩
end Go.Proofs.YtkgkhofkhjgnbaaGreat.IM
