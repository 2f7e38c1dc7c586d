/-
  The mathematics of paths: what counting level by level gives is the number of paths; bounds. Nodes are numbers, each with a level; an edge leads one level up. No program. No conditions beyond those that each lemma names.
-/
import Derived.Test.YtkgkhofkhjgnbaaGreatGMath
namespace Go.Proofs.YtkgkhofkhjgnbaaGreat.GM

abbrev Ed := Nat × Nat
section
variable (ln : Nat → Nat) (es : List Ed) (tgt : Nat)
/-- One edge, at a level. -/
def stp (lv : Nat) (W : List Int) (e : Ed) : List Int := if ln e.1 = lv ∧ e.1 ≠ tgt then W.set e.1 (W.getD e.1 0 + W.getD e.2 0) else W
/-- The first k edges, at a level. -/
def prt (lv : Nat) (W : List Int) (k : Nat) : List Int := (es.take k).foldl (stp ln tgt lv) W
/-- After d levels. -/
def run (n : Nat) : Nat → List Int
  | 0 => (List.replicate n (0 : Int)).set tgt 1
  | d + 1 => prt ln es tgt (ln tgt - 1 - d) (run n d) es.length
/-- The number of paths of at most d steps. -/
def pth : Nat → Nat → Nat
  | 0, i => if i = tgt then 1 else 0
  | d + 1, i => if i = tgt then 1 else ((es.filter fun e => decide (e.1 = i)).map fun e => pth d e.2).sum
/-- The number of paths from i. -/
def ways (i : Nat) : Nat := if i = tgt then 1 else if ln i < ln tgt then pth es tgt (ln tgt - ln i) i else 0
end
section
variable {ln : Nat → Nat} {es : List Ed} {tgt : Nat}
theorem stp_len (lv : Nat) (W : List Int) (e : Ed) : (stp ln tgt lv W e).length = W.length := by unfold stp; split <;> simp
theorem prt_zero (lv : Nat) (W : List Int) : prt ln es tgt lv W 0 = W := rfl
theorem prt_succ {lv : Nat} {W : List Int} {k : Nat} {e : Ed} (h : es[k]? = some e) : prt ln es tgt lv W (k + 1) = stp ln tgt lv (prt ln es tgt lv W k) e := by
  unfold prt
  rw [List.take_add_one, h, List.foldl_append]; rfl
theorem prt_len (lv : Nat) (W : List Int) (k : Nat) : (prt ln es tgt lv W k).length = W.length := by
  unfold prt
  have : ∀ (l : List Ed) (W : List Int), (l.foldl (stp ln tgt lv) W).length = W.length := by
    intro l
    induction l with
    | nil => intro W; rfl
    | cons e l ih => intro W; rw [List.foldl_cons, ih, stp_len]
  exact this _ W
theorem run_len (n d : Nat) : (run ln es tgt n d).length = n := by
  induction d with
  | zero => simp [run]
  | succ d ih => rw [run, prt_len, ih]
theorem pth_tgt (d : Nat) : pth es tgt d tgt = 1 := by cases d <;> simp [pth]
theorem pth_succ {d i : Nat} (h : i ≠ tgt) : pth es tgt (d + 1) i = ((es.filter fun e => decide (e.1 = i)).map fun e => pth es tgt d e.2).sum := by
  show (if i = tgt then 1 else _) = _
  rw [if_neg h]
/-- The sum over the first k edges that leave i. -/
def psum (es : List Ed) (tgt d i k : Nat) : Nat := (((es.take k).filter fun e => decide (e.1 = i)).map fun e => pth es tgt d e.2).sum
theorem psum_hit {d i k : Nat} {e : Ed} (h : es[k]? = some e) (he : e.1 = i) : psum es tgt d i (k + 1) = psum es tgt d i k + pth es tgt d e.2 := by
  unfold psum
  rw [List.take_add_one, h, List.filter_append]
  simp [he]
theorem psum_miss {d i k : Nat} {e : Ed} (h : es[k]? = some e) (he : ¬ e.1 = i) : psum es tgt d i (k + 1) = psum es tgt d i k := by
  unfold psum
  rw [List.take_add_one, h, List.filter_append]
  simp [he]
theorem psum_mono {d i k : Nat} (hk : k < es.length) : psum es tgt d i k ≤ psum es tgt d i (k + 1) := by
  have h := List.getElem?_eq_getElem hk
  by_cases he : es[k].1 = i
  · rw [psum_hit h he]; omega
  · rw [psum_miss h he]; exact Nat.le_refl _
theorem psum_le {d i : Nat} : ∀ {k : Nat}, k ≤ es.length → psum es tgt d i k ≤ psum es tgt d i es.length := by
  have : ∀ (m k : Nat), k + m = es.length → psum es tgt d i k ≤ psum es tgt d i es.length := by
    intro m
    induction m with
    | zero => intro k hk; rw [show k = es.length by omega]; exact Nat.le_refl _
    | succ m ih => intro k hk; exact Nat.le_trans (psum_mono (by omega)) (ih (k + 1) (by omega))
  intro k hk
  exact this (es.length - k) k (by omega)
theorem psum_all (d i : Nat) : psum es tgt d i es.length = ((es.filter fun e => decide (e.1 = i)).map fun e => pth es tgt d e.2).sum := by unfold psum; rw [List.take_length]
/-- What stands at i when d levels are done. -/
def at_ (ln : Nat → Nat) (es : List Ed) (tgt d i : Nat) : Int := if i = tgt then 1 else if ln tgt - d ≤ ln i ∧ ln i < ln tgt then (pth es tgt (ln tgt - ln i) i : Int) else 0
/-- What stands at i in the next level when k edges are done. -/
def mid (ln : Nat → Nat) (es : List Ed) (tgt d k i : Nat) : Int := if ln i = ln tgt - 1 - d ∧ i ≠ tgt then (psum es tgt d i k : Int) else at_ ln es tgt d i
theorem prt_mid {n : Nat} (hes : ∀ e ∈ es, e.1 < n ∧ e.2 < n ∧ ln e.2 = ln e.1 + 1) {d : Nat} (hd : d < ln tgt) {W : List Int} (hW : W.length = n) (h : ∀ i, i < n → W.getD i 0 = at_ ln es tgt d i) :
    ∀ k, k ≤ es.length → ∀ i, i < n → (prt ln es tgt (ln tgt - 1 - d) W k).getD i 0 = mid ln es tgt d k i := by
  intro k
  induction k with
  | zero =>
    intro _ i hi
    rw [prt_zero, h i hi]
    unfold mid
    by_cases hc : ln i = ln tgt - 1 - d ∧ i ≠ tgt
    · rw [if_pos hc]
      unfold at_
      rw [if_neg hc.2, if_neg (by omega)]
      simp [psum]
    · rw [if_neg hc]
  | succ k ih =>
    intro hk i hi
    have hek := List.getElem?_eq_getElem (show k < es.length by omega)
    generalize es[k] = e at hek
    obtain ⟨h1, h2, h3⟩ := hes e (List.mem_of_getElem? hek)
    have ih := ih (by omega)
    rw [prt_succ hek]
    have hlen : (prt ln es tgt (ln tgt - 1 - d) W k).length = n := by rw [prt_len, hW]
    unfold stp
    by_cases hc : ln e.1 = ln tgt - 1 - d ∧ e.1 ≠ tgt
    · rw [if_pos hc, ih e.1 h1, ih e.2 h2]
      have hv2 : mid ln es tgt d k e.2 = (pth es tgt d e.2 : Int) := by
        unfold mid
        rw [if_neg (by omega)]
        unfold at_
        by_cases h2t : e.2 = tgt
        · rw [if_pos h2t, h2t, pth_tgt]; rfl
        · rw [if_neg h2t]
          by_cases hd0 : d = 0
          · subst hd0
            rw [if_neg (by omega)]
            simp [pth, h2t]
          · rw [if_pos (by omega), show ln tgt - ln e.2 = d by omega]
      have hv1 : mid ln es tgt d k e.1 = (psum es tgt d e.1 k : Int) := by unfold mid; rw [if_pos hc]
      rw [hv1, hv2]
      by_cases hie : i = e.1
      · subst hie
        rw [List.getD_eq_getElem?_getD, List.getElem?_set_self (by omega)]
        unfold mid
        rw [if_pos hc, psum_hit hek rfl]
        simp
      · rw [List.getD_eq_getElem?_getD, List.getElem?_set_ne (fun h => hie h.symm), ← List.getD_eq_getElem?_getD, ih i hi]
        unfold mid
        rw [psum_miss hek (fun h => hie h.symm)]
    · rw [if_neg hc, ih i hi]
      unfold mid
      by_cases hi2 : ln i = ln tgt - 1 - d ∧ i ≠ tgt
      · rw [if_pos hi2, if_pos hi2, psum_miss hek (fun he => hc (by rw [he]; exact hi2))]
      · rw [if_neg hi2, if_neg hi2]
theorem run_at {n : Nat} (hto : tgt < n) (hes : ∀ e ∈ es, e.1 < n ∧ e.2 < n ∧ ln e.2 = ln e.1 + 1) : ∀ {d : Nat}, d ≤ ln tgt → ∀ i, i < n → (run ln es tgt n d).getD i 0 = at_ ln es tgt d i
  | 0, _, i, hi => by
    unfold run at_
    by_cases h : i = tgt
    · subst h
      rw [if_pos rfl, List.getD_eq_getElem?_getD, List.getElem?_set_self (by simp; omega)]; rfl
    · rw [if_neg h, if_neg (by omega), List.getD_eq_getElem?_getD, List.getElem?_set_ne (fun e => h e.symm)]
      simp [hi]
  | d + 1, hd, i, hi => by
    rw [run, prt_mid hes (by omega) (run_len n d) (run_at hto hes (by omega)) es.length (Nat.le_refl _) i hi]
    unfold mid
    by_cases hc : ln i = ln tgt - 1 - d ∧ i ≠ tgt
    · rw [if_pos hc, psum_all]
      unfold at_
      rw [if_neg hc.2, if_pos (by omega), show ln tgt - ln i = d + 1 by omega]
      rw [pth_succ hc.2]
    · rw [if_neg hc]
      unfold at_
      by_cases ht : i = tgt
      · rw [if_pos ht, if_pos ht]
      · rw [if_neg ht, if_neg ht]
        by_cases hr : ln tgt - d ≤ ln i ∧ ln i < ln tgt
        · rw [if_pos hr, if_pos (by omega)]
        · rw [if_neg hr, if_neg (by omega)]
theorem run_ways {n : Nat} (hto : tgt < n) (hes : ∀ e ∈ es, e.1 < n ∧ e.2 < n ∧ ln e.2 = ln e.1 + 1) {i : Nat} (hi : i < n) : (run ln es tgt n (ln tgt)).getD i 0 = (ways ln es tgt i : Int) := by
  rw [run_at hto hes (Nat.le_refl _) i hi]
  unfold at_ ways
  by_cases h : i = tgt
  · rw [if_pos h, if_pos h]; rfl
  · rw [if_neg h, if_neg h]
    by_cases hl : ln i < ln tgt
    · rw [if_pos (by omega), if_pos hl]
    · rw [if_neg (by omega), if_neg hl]; rfl
/-- Bounds: at most c edges leave a node. -/
theorem pth_le {c : Nat} (hc : ∀ i, (es.filter fun e => decide (e.1 = i)).length ≤ c) (h1 : 1 ≤ c) : ∀ d i, pth es tgt d i ≤ c ^ d
  | 0, i => by unfold pth; split <;> simp
  | d + 1, i => by
    unfold pth
    split
    · exact Nat.one_le_pow _ _ h1
    · have hs : ∀ (l : List Ed), (l.map fun e => pth es tgt d e.2).sum ≤ l.length * c ^ d := by
        intro l
        induction l with
        | nil => simp
        | cons e l ih =>
          rw [List.map_cons, List.sum_cons, List.length_cons, Nat.add_mul, Nat.one_mul]
          have := pth_le hc h1 d e.2
          omega
      exact Nat.le_trans (hs _) (by rw [Nat.pow_succ, Nat.mul_comm (c ^ d)]; exact Nat.mul_le_mul_right _ (hc i))
theorem mid_bd {c D : Nat} (hc : ∀ i, (es.filter fun e => decide (e.1 = i)).length ≤ c) (h1 : 1 ≤ c) (hD : ln tgt ≤ D) {d k : Nat} (hd : d < ln tgt) (hk : k ≤ es.length) (i : Nat) : 0 ≤ mid ln es tgt d k i ∧ mid ln es tgt d k i ≤ (c ^ D : Nat) := by
  have hp : ∀ m, m ≤ D → c ^ m ≤ c ^ D := fun m hm => Nat.pow_le_pow_right (by omega) hm
  have h0 : 1 ≤ c ^ D := Nat.one_le_pow _ _ h1
  unfold mid
  by_cases hcc : ln i = ln tgt - 1 - d ∧ i ≠ tgt
  · rw [if_pos hcc]
    have a1 := psum_le (es := es) (tgt := tgt) (d := d) (i := i) hk
    have a2 := pth_le (tgt := tgt) hc h1 (d + 1) i
    rw [pth_succ hcc.2, ← psum_all] at a2
    have := hp (d + 1) (by omega)
    omega
  · rw [if_neg hcc]
    unfold at_
    split
    · omega
    · split
      · rename_i hr
        have := pth_le (tgt := tgt) hc h1 (ln tgt - ln i) i
        have := hp (ln tgt - ln i) (by omega)
        omega
      · omega
end
end Go.Proofs.YtkgkhofkhjgnbaaGreat.GM
