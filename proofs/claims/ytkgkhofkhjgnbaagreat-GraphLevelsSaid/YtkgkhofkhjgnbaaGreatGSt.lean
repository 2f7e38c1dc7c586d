/-
  The mathematics of the first steps towards a node: what going backwards through the edges leaves at each node. No program. No conditions beyond those that each lemma names.
-/
import Derived.Test.YtkgkhofkhjgnbaaGreatGFwd
namespace Go.Proofs.YtkgkhofkhjgnbaaGreat.GM
/-- One edge more, going backwards. -/
def stU (s : Nat → Option Nat) (e : Ed) : Nat → Option Nat := if (s e.2).isSome then fun v => if v = e.1 then some e.2 else s v else s
def st0 (t : Nat) : Nat → Option Nat := fun v => if v = t then some t else none
def stf (t : Nat) (l : List Ed) : Nat → Option Nat := l.foldl stU (st0 t)
theorem stf_snoc (t : Nat) (l : List Ed) (e : Ed) : stf t (l ++ [e]) = stU (stf t l) e := by unfold stf; rw [List.foldl_append]; rfl
/-- An edge that leads on. -/
def ok (W : Nat → Nat) (v : Nat) (e : Ed) : Bool := decide (e.1 = v) && decide (0 < W e.2)
/-- What stands at v when the edges l are done. -/
def sq (W : Nat → Nat) (t : Nat) (l : List Ed) (v : Nat) : Option Nat := if v = t then some t else (l.find? (ok W v)).map (·.2)
theorem sum_pos {l : List Ed} {F : Ed → Nat} : 0 < (l.map F).sum ↔ ∃ e ∈ l, 0 < F e := by
  induction l with
  | nil => simp
  | cons e l ih =>
    rw [List.map_cons, List.sum_cons]
    constructor
    · intro h
      by_cases h1 : 0 < F e
      · exact ⟨e, by simp, h1⟩
      · obtain ⟨e', h2, h3⟩ := ih.1 (by omega)
        exact ⟨e', by simp [h2], h3⟩
    · rintro ⟨e', h2, h3⟩
      rcases List.mem_cons.1 h2 with rfl | h2
      · omega
      · have := ih.2 ⟨e', h2, h3⟩; omega
section
variable {W : Nat → Nat} {es : List Ed} {t : Nat} (hW1 : W t = 1) (hWr : ∀ v, v ≠ t → W v = ((es.filter fun e => decide (e.1 = v)).map fun e => W e.2).sum) (hup : ∀ e ∈ es, e.1 < e.2) (h0 : ∀ v, t < v → W v = 0) (hasc : es.Pairwise fun a b => a.1 ≤ b.1)
include hWr in
theorem w_pos {v : Nat} (hv : v ≠ t) : 0 < W v ↔ ∃ e ∈ es, e.1 = v ∧ 0 < W e.2 := by
  rw [hWr v hv, sum_pos]
  constructor
  · rintro ⟨e, he, h⟩
    obtain ⟨h1, h2⟩ := List.mem_filter.1 he
    exact ⟨e, h1, of_decide_eq_true h2, h⟩
  · rintro ⟨e, he, h1, h⟩
    exact ⟨e, List.mem_filter.2 ⟨he, decide_eq_true h1⟩, h⟩
include hW1 hWr hup h0 hasc
theorem sq_step {k : Nat} {e : Ed} (hk : es[k]? = some e) : stU (sq W t (es.drop (k + 1))) e = sq W t (es.drop k) := by
  have hkl := (List.getElem?_eq_some_iff.1 hk).1
  have hke := (List.getElem?_eq_some_iff.1 hk).2
  have hem := List.mem_of_getElem? hk
  have hue := hup e hem
  have hd : es.drop k = e :: es.drop (k + 1) := by rw [List.drop_eq_getElem_cons hkl, hke]
  have hiff : (sq W t (es.drop (k + 1)) e.2).isSome = true ↔ 0 < W e.2 := by
    unfold sq
    by_cases h2 : e.2 = t
    · rw [if_pos h2, h2, hW1]; simp
    · rw [if_neg h2, Option.isSome_map, List.find?_isSome, w_pos hWr h2]
      constructor
      · rintro ⟨e', he', h3⟩
        unfold ok at h3
        rw [Bool.and_eq_true, decide_eq_true_eq, decide_eq_true_eq] at h3
        exact ⟨e', List.mem_of_mem_drop he', h3.1, h3.2⟩
      · rintro ⟨e', he', h3, h4⟩
        refine ⟨e', ?_, by unfold ok; rw [Bool.and_eq_true, decide_eq_true_eq, decide_eq_true_eq]; exact ⟨h3, h4⟩⟩
        obtain ⟨j, hj⟩ := List.mem_iff_getElem?.1 he'
        have hjk : k < j := by
          obtain ⟨jl, je⟩ := List.getElem?_eq_some_iff.1 hj
          by_cases hh : k < j
          · exact hh
          · exfalso
            by_cases heq : j = k
            · subst heq
              rw [hk] at hj
              injection hj with hj
              subst hj
              omega
            · have := List.pairwise_iff_getElem.1 hasc j k jl hkl (by omega)
              rw [je, hke] at this
              omega
        refine List.mem_iff_getElem?.2 ⟨j - (k + 1), ?_⟩
        rw [List.getElem?_drop, show k + 1 + (j - (k + 1)) = j by omega]
        exact hj
  funext v
  unfold stU
  by_cases hw : 0 < W e.2
  · rw [if_pos (hiff.2 hw)]
    have het : e.1 ≠ t := by
      rintro h
      have := h0 e.2 (by omega)
      omega
    by_cases hv : v = e.1
    · subst hv
      rw [if_pos rfl]
      unfold sq
      rw [if_neg het, hd, List.find?_cons_of_pos (by unfold ok; simp [hw])]
      rfl
    · rw [if_neg hv]
      unfold sq
      rw [hd, List.find?_cons_of_neg (by unfold ok; simp; intro h; exact absurd h.symm hv)]
  · have hf : ¬ (sq W t (es.drop (k + 1)) e.2).isSome = true := fun h => hw (hiff.1 h)
    rw [if_neg hf]
    unfold sq
    rw [hd, List.find?_cons_of_neg (by unfold ok; simp; intro _; omega)]
end
/-- The places n - 1, .., n - k. -/
def dn (n : Nat) : (k : Nat) → k ≤ n → List (Fin n)
  | 0, _ => []
  | k + 1, h => dn n k (by omega) ++ [⟨n - 1 - k, by omega⟩]
theorem dn_len (n : Nat) : ∀ (k : Nat) (h : k ≤ n), (dn n k h).length = k
  | 0, _ => rfl
  | k + 1, h => by rw [dn, List.length_append, dn_len n k]; rfl
section
variable {W : Nat → Nat} {es : List Ed} {t : Nat} (hW1 : W t = 1) (hWr : ∀ v, v ≠ t → W v = ((es.filter fun e => decide (e.1 = v)).map fun e => W e.2).sum) (hup : ∀ e ∈ es, e.1 < e.2) (h0 : ∀ v, t < v → W v = 0) (hasc : es.Pairwise fun a b => a.1 ≤ b.1)
include hW1 hWr hup h0 hasc
theorem stf_dn : ∀ (k : Nat) (h : k ≤ es.length), stf t ((dn es.length k h).map fun i => es[i]) = sq W t (es.drop (es.length - k))
  | 0, _ => by
    rw [Nat.sub_zero, List.drop_length]
    funext v
    unfold sq
    rfl
  | k + 1, h => by
    have hl : es.length - 1 - k < es.length := by omega
    rw [dn, List.map_append, List.map_cons, List.map_nil, stf_snoc, stf_dn k (by omega), show es.length - k = (es.length - (k + 1)) + 1 by omega]
    refine sq_step hW1 hWr hup h0 hasc ?_
    rw [List.getElem?_eq_getElem (by omega)]
    congr 1
    show es[es.length - (k + 1)] = es[es.length - 1 - k]
    congr 1
    omega
theorem stf_all : stf t ((dn es.length es.length (Nat.le_refl _)).map fun i => es[i]) = sq W t es := by
  rw [stf_dn hW1 hWr hup h0 hasc, Nat.sub_self, List.drop_zero]
end
end Go.Proofs.YtkgkhofkhjgnbaaGreat.GM
