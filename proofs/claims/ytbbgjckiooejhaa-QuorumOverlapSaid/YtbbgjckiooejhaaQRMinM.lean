/-
  The reference's search for minimal quorums, plain: subsets by their numbers, each inserted at its place. No Go. Conditions: the members are valid.
-/
import Derived.Test.YtbbgjckiooejhaaQSub
namespace Go.Proofs.Ytbbgjckiooejhaa
open QM (Mem)

theorem getD_lt {ms : List Mem} (hv : QM.Val 0 ms) {i j : Nat} (hij : i < j) (hj : j < ms.length) : (ms.getD i (0, 0)).1 < (ms.getD j (0, 0)).1 := by
  rw [getD_mem (by omega), getD_mem hj]
  have ha := hv.asc
  rw [List.pairwise_map, List.pairwise_iff_getElem] at ha
  exact ha i j (by omega) hj hij
theorem range_asc : ∀ n, (List.range n).Pairwise (· < ·)
  | 0 => List.Pairwise.nil
  | n + 1 => by
    rw [List.range_succ]
    refine List.pairwise_append.2 ⟨range_asc n, by simp, fun x hx y hy => ?_⟩
    rw [List.mem_range] at hx
    rw [List.mem_singleton] at hy
    omega
theorem sbs_asc {ms : List Mem} (hv : QM.Val 0 ms) (m : Nat) : QM.Asc (sbs ms m ms.length) := by
  unfold sbs QM.Asc
  rw [List.pairwise_map]
  have h1 := (range_asc ms.length).filter fun i => m.testBit i
  refine List.Pairwise.imp_of_mem (fun {a b} _ hb hab => ?_) h1
  exact getD_lt hv hab (List.mem_range.1 (List.mem_filter.1 hb).1)
theorem sbs_in {ms : List Mem} (m : Nat) : ∀ x ∈ sbs ms m ms.length, ∃ a ∈ ms, a.1 = x := fun x hx => by
  unfold sbs at hx
  obtain ⟨i, hi, rfl⟩ := List.mem_map.1 hx
  have hl := List.mem_range.1 (List.mem_filter.1 hi).1
  refine ⟨ms.getD i (0, 0), ?_, rfl⟩
  rw [getD_mem hl]
  exact List.getElem_mem hl
theorem sbs_inj {ms : List Mem} (hv : QM.Val 0 ms) {a b : Nat} (ha : a < 2 ^ ms.length) (hb : b < 2 ^ ms.length) (h : sbs ms a ms.length = sbs ms b ms.length) : a = b := by
  apply Nat.eq_of_testBit_eq
  intro i
  by_cases hi : i < ms.length
  · rw [← sbs_mem hv a hi, ← sbs_mem hv b hi, h]
  · rw [Nat.testBit_lt_two_pow (Nat.lt_of_lt_of_le ha (Nat.pow_le_pow_right (by decide) (by omega))), Nat.testBit_lt_two_pow (Nat.lt_of_lt_of_le hb (Nat.pow_le_pow_right (by decide) (by omega)))]
/-- An ascending list of members is one of the subsets. -/
theorem sbs_of {ms : List Mem} (hv : QM.Val 0 ms) {q : List Int} (ha : QM.Asc q) (hm : ∀ x ∈ q, ∃ m ∈ ms, m.1 = x) : ∃ m, m < 2 ^ ms.length ∧ q = sbs ms m ms.length := by
  obtain ⟨m, hlt, hb⟩ := mask_exists (fun i => decide ((ms.getD i (0, 0)).1 ∈ q)) ms.length
  refine ⟨m, hlt, QM.asc_ext ha (sbs_asc hv m) fun x => ?_⟩
  have key : ∀ i, i < ms.length → ((ms.getD i (0, 0)).1 ∈ q ↔ (ms.getD i (0, 0)).1 ∈ sbs ms m ms.length) := fun i hi => by
    have h1 := sbs_mem hv m hi
    rw [hb i hi] at h1
    exact (decide_eq_decide.1 h1).symm
  constructor
  · intro hx
    obtain ⟨a, ha', rfl⟩ := hm x hx
    obtain ⟨i, hi, rfl⟩ := List.getElem_of_mem ha'
    have := key i hi
    rw [getD_mem hi] at this
    exact this.1 hx
  · intro hx
    obtain ⟨a, ha', rfl⟩ := sbs_in m x hx
    obtain ⟨i, hi, rfl⟩ := List.getElem_of_mem ha'
    have := key i hi
    rw [getD_mem hi] at this
    exact this.2 hx
theorem asc_nodup {q : List Int} (h : QM.Asc q) : q.Nodup := h.imp fun h => by omega
/-- A list without one of its elements. -/
theorem mem_without : ∀ {q : List Int} (_ : q.Nodup) {j : Nat} (hj : j < q.length) (y : Int), y ∈ q.take j ++ q.drop (j + 1) ↔ y ∈ q ∧ y ≠ q[j]
  | [], _, j, hj, _ => absurd hj (Nat.not_lt_zero j)
  | x :: q, hn, 0, hj, y => by
    obtain ⟨h1, h2⟩ := List.nodup_cons.1 hn
    simp only [List.take_zero, List.nil_append, Nat.zero_add, List.drop_succ_cons, List.drop_zero, List.mem_cons, List.getElem_cons_zero]
    constructor
    · intro hy; exact ⟨.inr hy, fun e => h1 (e ▸ hy)⟩
    · rintro ⟨h | h, h3⟩
      · exact absurd h h3
      · exact h
  | x :: q, hn, j + 1, hj, y => by
    obtain ⟨h1, h2⟩ := List.nodup_cons.1 hn
    have hj' : j < q.length := by simpa using hj
    have ih := mem_without h2 hj' y
    simp only [List.take_succ_cons, List.cons_append, List.drop_succ_cons, List.mem_cons, List.getElem_cons_succ]
    rw [ih]
    have hne : x ≠ q[j] := fun e => h1 (by rw [e]; exact List.getElem_mem hj')
    constructor
    · rintro (h | ⟨h, h3⟩)
      · exact ⟨.inl h, by rw [h]; exact hne⟩
      · exact ⟨.inr h, h3⟩
    · rintro ⟨h | h, h3⟩
      · exact .inl h
      · exact .inr ⟨h, h3⟩

section
variable {k c f : Int} {ms : List Mem}
/-- Minimal, by what the reference asks. -/
theorem isMin_iff (hv : QM.Val 0 ms) (m : Nat) (hq : QM.isQ k c f ms (fun x => decide (x ∈ sbs ms m ms.length)) = true) :
    QM.IsMin (QM.isQ k c f ms) ms (sbs ms m ms.length) ↔ ∀ j, j < (sbs ms m ms.length).length → QM.isQ k c f ms (fun x => decide (x ∈ (sbs ms m ms.length).take j ++ (sbs ms m ms.length).drop (j + 1))) = false := by
  have ha := sbs_asc hv m
  have hi := sbs_in (ms := ms) m
  generalize sbs ms m ms.length = q at *
  have key : ∀ j (hj : j < q.length), QM.isQ k c f ms (fun x => decide (x ∈ q.take j ++ q.drop (j + 1))) = QM.isQ k c f ms (fun y => decide (y ∈ q) && decide (y ≠ q[j])) := fun j hj => by
    refine QM.isQ_congr fun a _ => ?_
    rw [Bool.eq_iff_iff, decide_eq_true_iff, Bool.and_eq_true, decide_eq_true_iff, decide_eq_true_iff]
    exact mem_without (asc_nodup ha) hj a.1
  constructor
  · rintro ⟨_, _, _, h⟩ j hj
    rw [key j hj]
    exact h _ (List.getElem_mem hj)
  · intro h
    refine ⟨ha, hi, hq, fun x hx => ?_⟩
    obtain ⟨j, hj, rfl⟩ := List.getElem_of_mem hx
    rw [← key j hj]
    exact h j hj
/-- The minimal quorums among the subsets with numbers below M, in order. -/
def RMin (k c f : Int) (ms : List Mem) (M : Nat) (ls : List (List Int)) : Prop :=
  ls.Pairwise (fun a b => QM.lex a b = true) ∧ ∀ q, q ∈ ls ↔ ∃ m, m < M ∧ q = sbs ms m ms.length ∧ QM.IsMin (QM.isQ k c f ms) ms q
theorem RMin.start (hr : QM.errR k c f = 0) (hv : QM.Val 0 ms) : RMin k c f ms 1 [] := by
  refine ⟨List.Pairwise.nil, fun q => ⟨(fun h => by cases h), ?_⟩⟩
  rintro ⟨m, hm, rfl, h⟩
  obtain rfl : m = 0 := by omega
  have h1 : sbs ms 0 ms.length = [] := by unfold sbs; simp
  have h2 := h.2.2.1
  rw [h1] at h2
  have h3 := QM.isQ_none (k := k) (c := c) (f := f) hr hv
  simp at h2
  rw [h3] at h2
  cases h2
theorem RMin.done (hv : QM.Val 0 ms) {ls : List (List Int)} (h : RMin k c f ms (2 ^ ms.length) ls) : QM.MinL (QM.isQ k c f ms) ms ls := by
  refine ⟨h.1, fun q => (h.2 q).trans ⟨fun ⟨_, _, _, h3⟩ => h3, fun h3 => ?_⟩⟩
  obtain ⟨m, hm, he⟩ := sbs_of hv h3.1 h3.2.1
  exact ⟨m, hm, he, h3⟩
theorem RMin.pass {M : Nat} {ls : List (List Int)} (h : RMin k c f ms M ls) (hn : ¬ QM.IsMin (QM.isQ k c f ms) ms (sbs ms M ms.length)) : RMin k c f ms (M + 1) ls := by
  refine ⟨h.1, fun q => (h.2 q).trans ⟨fun ⟨m, h1, h2⟩ => ⟨m, by omega, h2⟩, fun ⟨m, h1, h2, h3⟩ => ?_⟩⟩
  by_cases e : m = M
  · subst e; rw [h2] at h3; exact absurd h3 hn
  · exact ⟨m, by omega, h2, h3⟩
theorem RMin.fresh (hv : QM.Val 0 ms) {M : Nat} (hM : M < 2 ^ ms.length) {ls : List (List Int)} (h : RMin k c f ms M ls) : sbs ms M ms.length ∉ ls := fun hm => by
  obtain ⟨m, h1, h2, _⟩ := (h.2 _).1 hm
  have := sbs_inj hv hM (by omega) h2
  omega
/-- All that is ahead of the place is smaller. -/
theorem ahead_less {ls : List (List Int)} (h : ls.Pairwise (fun a b => QM.lex a b = true)) {q : List Int} (hq : q ∉ ls) {j : Nat} (hj : j ≤ ls.length) (hz : j = 0 ∨ ∃ x, ls[j - 1]? = some x ∧ QM.lex q x = false) : ∀ x ∈ ls.take j, QM.lex x q = true := by
  rcases hz with rfl | ⟨y, hy, hl⟩
  · intro x hx; simp at hx
  · intro x hx
    obtain ⟨hy1, rfl⟩ := List.getElem?_eq_some_iff.1 hy
    have hlast : QM.lex ls[j - 1] q = true := by
      cases he : QM.lex ls[j - 1] q with
      | true => rfl
      | false =>
        have := QM.lex_total _ _ hl he
        exact absurd (this ▸ List.getElem_mem hy1) hq
    obtain ⟨i, hi, rfl⟩ := List.getElem_of_mem hx
    rw [List.length_take] at hi
    rw [List.getElem_take]
    by_cases e : i = j - 1
    · subst e; exact hlast
    · exact QM.lex_trans _ _ _ (List.pairwise_iff_getElem.1 h i (j - 1) (by omega) hy1 (by omega)) hlast
theorem RMin.put {M : Nat} {ls : List (List Int)} (h : RMin k c f ms M ls) (hn : QM.IsMin (QM.isQ k c f ms) ms (sbs ms M ms.length)) {j : Nat}
    (h1 : ∀ x ∈ ls.take j, QM.lex x (sbs ms M ms.length) = true) (h2 : ∀ x ∈ ls.drop j, QM.lex (sbs ms M ms.length) x = true) : RMin k c f ms (M + 1) (ls.take j ++ [sbs ms M ms.length] ++ ls.drop j) := by
  have hp := h.1
  rw [← List.take_append_drop j ls, List.pairwise_append] at hp
  refine ⟨?_, fun q => ?_⟩
  · rw [List.append_assoc, List.pairwise_append]
    refine ⟨hp.1, ?_, fun x hx y hy => ?_⟩
    · rw [List.singleton_append, List.pairwise_cons]
      exact ⟨h2, hp.2.1⟩
    · rw [List.singleton_append, List.mem_cons] at hy
      rcases hy with rfl | hy
      · exact h1 x hx
      · exact hp.2.2 x hx y hy
  · have hmem : q ∈ ls.take j ++ [sbs ms M ms.length] ++ ls.drop j ↔ q ∈ ls ∨ q = sbs ms M ms.length := by
      conv => rhs; lhs; rw [← List.take_append_drop j ls]
      simp only [List.mem_append, List.mem_singleton]
      constructor
      · rintro ((h | h) | h)
        · exact .inl (.inl h)
        · exact .inr h
        · exact .inl (.inr h)
      · rintro ((h | h) | h)
        · exact .inl (.inl h)
        · exact .inr h
        · exact .inl (.inr h)
    rw [hmem, h.2 q]
    constructor
    · rintro (⟨m, g1, g2⟩ | g)
      · exact ⟨m, by omega, g2⟩
      · exact ⟨M, by omega, g, g ▸ hn⟩
    · rintro ⟨m, g1, g2, g3⟩
      by_cases e : m = M
      · subst e; exact .inr g2
      · exact .inl ⟨m, by omega, g2, g3⟩
end

end Go.Proofs.Ytbbgjckiooejhaa
