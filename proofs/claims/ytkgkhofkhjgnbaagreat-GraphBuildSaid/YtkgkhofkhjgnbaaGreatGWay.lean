/-
  The mathematics of the paths of an interval's graph: their number from node to node, the orders in which proposals can be added, that the reference's path grows by one at each step. No program. No conditions beyond those that each lemma names.
-/
import Derived.Test.YtkgkhofkhjgnbaaGreatGEdg
namespace Go.Proofs.YtkgkhofkhjgnbaaGreat.IM
open JM (Chg)
open CM (Fp)

theorem sum3 (G : Int → Nat) (p : Int → Bool) : ((([203, 202, 201] : List Int).filter p).map G).sum = (if p 203 = true then G 203 else 0) + ((if p 202 = true then G 202 else 0) + (if p 201 = true then G 201 else 0)) := by
  simp only [List.filter_cons, List.filter_nil]
  cases p 203 <;> cases p 202 <;> cases p 201 <;> simp
theorem nodup_at {α : Type} {L : List α} (h : L.Pairwise (· ≠ ·)) {i j : Nat} {x : α} (hi : L[i]? = some x) (hj : L[j]? = some x) : i = j := by
  obtain ⟨i1, e1⟩ := List.getElem?_eq_some_iff.1 hi
  obtain ⟨j1, e2⟩ := List.getElem?_eq_some_iff.1 hj
  have hp := List.pairwise_iff_getElem.1 h
  by_cases h1 : i < j
  · exact absurd (e1.trans e2.symm) (hp i j i1 j1 h1)
  · by_cases h2 : j < i
    · exact absurd (e2.trans e1.symm) (hp j i j1 i1 h2)
    · omega
section
variable {fa fb : List Fp} (o1 : CM.Ok fa) (o2 : CM.Ok fb)
include o1 o2
theorem all_last (hc : CM.cons fb fa = true) : (all fa fb)[(all fa fb).length - 1]? = some fb := by
  rw [← List.getLast?_eq_getElem?]; exact (all_ends o1 o2 hc).2
theorem all_first (hc : CM.cons fb fa = true) : (all fa fb)[0]? = some fa := by
  rw [← List.head?_eq_getElem?]; exact (all_ends o1 o2 hc).1
theorem top_of {x : List Fp} (hx : x ∈ all fa fb) (h1 : CM.ct fb 201 = CM.ct x 201) (h2 : CM.ct fb 202 = CM.ct x 202) (h3 : CM.ct fb 203 = CM.ct x 203) : x = fb := by
  obtain ⟨ox, _, xb⟩ := all_within o1 o2 x hx
  have hf : CM.ct x = CM.ct fb := by
    funext c
    by_cases hr : 201 ≤ c ∧ c < 204
    · have : c = 201 ∨ c = 202 ∨ c = 203 := by omega
      rcases this with rfl | rfl | rfl <;> omega
    · rw [ct_out ox c hr, ct_out o2 c hr]
  rw [← rs_sub ox o2 xb, hf, rs_sub o2 o2 (cons_refl fb)]
theorem pth_all (hc : CM.cons fb fa = true) : ∀ (d i a b c : Nat) (x : List Fp), (all fa fb)[i]? = some x → CM.ct fb 201 = CM.ct x 201 + a → CM.ct fb 202 = CM.ct x 202 + b → CM.ct fb 203 = CM.ct x 203 + c → a + b + c = d →
    GM.pth (edgK (all fa fb)) ((all fa fb).length - 1) d i = tr d a b c
  | 0, i, a, b, c, x, hi, h1, h2, h3, hd => by
    have hx := List.mem_of_getElem? hi
    have e := top_of o1 o2 hx (by omega) (by omega) (by omega)
    subst e
    rw [nodup_at (all_nodup o1 o2) hi (all_last o1 o2 hc), GM.pth_tgt]
    rfl
  | d + 1, i, a, b, c, x, hi, h1, h2, h3, hd => by
    have hx := List.mem_of_getElem? hi
    obtain ⟨hil, hie⟩ := List.getElem?_eq_some_iff.1 hi
    have hne : i ≠ (all fa fb).length - 1 := by
      intro e
      rw [e, all_last o1 o2 hc] at hi
      injection hi with hi
      subst hi
      omega
    have hgd : (all fa fb).getD i [] = x := by rw [List.getD_eq_getElem?_getD, hi]; rfl
    rw [GM.pth_succ hne, edg_out, if_pos hil]
    have hr : ((row2 (all fa fb) i (all fa fb).length).map fun e => GM.pth (edgK (all fa fb)) ((all fa fb).length - 1) d e.2) = ((all fa fb).filter (cov x)).map fun y => tr d (CM.ct fb 201 - CM.ct y 201).toNat (CM.ct fb 202 - CM.ct y 202).toNat (CM.ct fb 203 - CM.ct y 203).toNat := by
      rw [← filter_at]
      unfold row2
      rw [List.map_map]
      have hp : (fun j => isE (all fa fb) i j) = fun j => cov x ((all fa fb).getD j []) := by
        funext j
        unfold isE cov
        rw [hgd]
      rw [hp]
      refine List.map_congr_left fun j hj => ?_
      obtain ⟨hj1, hj2⟩ := List.mem_filter.1 hj
      have hjl := List.mem_range.1 hj1
      have hje := List.getElem?_eq_getElem hjl
      have hgj : (all fa fb).getD j [] = (all fa fb)[j] := by rw [List.getD_eq_getElem?_getD, hje]; rfl
      rw [hgj] at hj2 ⊢
      generalize (all fa fb)[j] = y at hje hj2 ⊢
      have hy := List.mem_of_getElem? hje
      have hyu : y ∈ ups fb x := by rw [← ups_eq o1 o2 hx]; exact List.mem_filter.2 ⟨hy, hj2⟩
      unfold ups at hyu
      obtain ⟨q, hq, rfl⟩ := List.mem_map.1 hyu
      obtain ⟨hq3, hq⟩ := List.mem_filter.1 hq
      have hct := ct_up o1 o2 hx (of_decide_eq_true hq)
      have hq := of_decide_eq_true hq
      have c1 := hct 201
      have c2 := hct 202
      have c3 := hct 203
      refine pth_all hc d j _ _ _ _ hje ?_ ?_ ?_ ?_
      all_goals
        simp at hq3
        rcases hq3 with rfl | rfl | rfl <;> simp at c1 c2 c3 <;> omega
    rw [hr, ups_eq o1 o2 hx]
    unfold ups
    rw [List.map_map, sum3]
    have ht : ∀ q : Int, CM.ct x q < CM.ct fb q → ∀ c, CM.ct (up fb x q) c = CM.ct x c + if c = q then 1 else 0 := fun q hq c => ct_up o1 o2 hx hq c
    have p3 : (decide (CM.ct x 203 < CM.ct fb 203) = true) = (0 < c) := by simp; omega
    have p2 : (decide (CM.ct x 202 < CM.ct fb 202) = true) = (0 < b) := by simp; omega
    have p1 : (decide (CM.ct x 201 < CM.ct fb 201) = true) = (0 < a) := by simp; omega
    simp only [p1, p2, p3, Function.comp]
    show _ = (if 0 < c then tr d a b (c - 1) else 0) + ((if 0 < b then tr d a (b - 1) c else 0) + (if 0 < a then tr d (a - 1) b c else 0))
    congr 1
    · split
      · have := ht 203 (by omega)
        rw [this, this, this]
        congr 1 <;> simp <;> omega
      · rfl
    · congr 1
      · split
        · have := ht 202 (by omega)
          rw [this, this, this]
          congr 1 <;> simp <;> omega
        · rfl
      · split
        · have := ht 201 (by omega)
          rw [this, this, this]
          congr 1 <;> simp <;> omega
        · rfl
end
theorem tr_pos : ∀ (d a b c : Nat), a + b + c = d → 0 < tr d a b c
  | 0, _, _, _, _ => by unfold tr; omega
  | d + 1, a, b, c, h => by
    unfold tr
    by_cases h1 : 0 < c
    · rw [if_pos h1]; have := tr_pos d a b (c - 1) (by omega); omega
    · by_cases h2 : 0 < b
      · rw [if_pos h2]; have := tr_pos d a (b - 1) c (by omega); omega
      · have h3 : 0 < a := by omega
        rw [if_pos h3]; have := tr_pos d (a - 1) b c (by omega); omega
/-! ### Orders -/
/-- The orders behind m proposals more of one administrator, s being there. -/
def ordS (o s : Nat) : Nat → Nat
  | 0 => o
  | m + 1 => ordS o s m * (s + (m + 1)) / (m + 1)
def ord3 (a b c : Nat) : Nat := ordS (ordS (ordS 1 0 a) a b) (a + b) c
theorem tr_ord : ∀ a, a < 4 → ∀ b, b < 4 → ∀ c, c < 4 → tr (a + b + c) a b c = ord3 a b c := by decide +kernel
theorem ord_le : ∀ a, a < 4 → ∀ b, b < 4 → ∀ c, c < 4 → ord3 a b c ≤ 1680 := by decide +kernel
/-! ### The reference's path -/
theorem pos_of {L : List (List Fp)} {t a d : Nat} (ht : t < L.length) (ha : a < L.length) (hl : lnL L a + d = lnL L t) : 0 < pv L (edgK L) a t ↔ 0 < GM.pth (edgK L) t d a := by
  rw [pv_ways ha ht]
  unfold GM.ways
  by_cases h : a = t
  · subst h; rw [if_pos rfl, GM.pth_tgt]; simp
  · rw [if_neg h]
    by_cases h2 : lnL L a < lnL L t
    · rw [if_pos h2, show lnL L t - lnL L a = d by omega]; omega
    · obtain rfl : d = 0 := by omega
      rw [if_neg h2]
      simp [GM.pth, h]
theorem pgo_path {L : List (List Fp)} {t : Nat} (ht : t < L.length) : ∀ (d k a : Nat) (out : List Int), a < L.length → lnL L a + d = lnL L t → d ≤ k → 0 < GM.pth (edgK L) t d a →
    ∃ rest : List Int, pgo L (edgK L) t k a out = out ++ rest ∧ rest.length = d ∧ ∀ (i : Nat) (y : Int), rest[i]? = some y → ∃ m : Nat, y = (m : Int) ∧ m < L.length ∧ lnL L m = lnL L a + 1 + i
  | 0, k, a, out, ha, hl, _, hp => by
    have h : a = t := by
      by_cases h : a = t
      · exact h
      · simp [GM.pth, h] at hp
    refine ⟨[], by rw [pgo_at k out (by rw [h]), List.append_nil], rfl, fun i y hy => ?_⟩
    simp at hy
  | d + 1, k, a, out, ha, hl, hk, hp => by
    obtain ⟨k, rfl⟩ : ∃ q, k = q + 1 := ⟨k - 1, by omega⟩
    have hne : a ≠ t := by rintro rfl; omega
    have hne2 : (a : Int) ≠ (t : Int) := by omega
    rw [GM.pth_succ hne] at hp
    obtain ⟨e, he, hep⟩ : ∃ e ∈ (edgK L).filter (fun e => decide (e.1 = a)), 0 < GM.pth (edgK L) t d e.2 := by
      generalize (edgK L).filter (fun e => decide (e.1 = a)) = l at hp
      induction l with
      | nil => simp at hp
      | cons e l ih =>
        by_cases h : 0 < GM.pth (edgK L) t d e.2
        · exact ⟨e, by simp, h⟩
        · rw [List.map_cons, List.sum_cons] at hp
          obtain ⟨e', h1, h2⟩ := ih (by omega)
          exact ⟨e', by simp [h1], h2⟩
    obtain ⟨hem, hea⟩ := List.mem_filter.1 he
    have hea := of_decide_eq_true hea
    have hs : ((edgK L).find? (okE L (edgK L) t a)).isSome = true := by
      rw [List.find?_isSome]
      refine ⟨e, hem, ?_⟩
      obtain ⟨q1, q2, q3⟩ := edg_ok L e hem
      unfold okE
      rw [Bool.and_eq_true, decide_eq_true_eq]
      refine ⟨by rw [hea]; exact beq_self_eq_true _, (pos_of ht q2 (by rw [q3, hea]; omega)).2 hep⟩
    obtain ⟨e2, he2⟩ := Option.isSome_iff_exists.1 hs
    have hm2 := List.mem_of_find?_eq_some he2
    have hk2 := List.find?_some he2
    obtain ⟨q1, q2, q3⟩ := edg_ok L e2 hm2
    unfold okE at hk2
    rw [Bool.and_eq_true, decide_eq_true_eq, beq_iff_eq] at hk2
    have e21 : e2.1 = a := by have := hk2.1; omega
    have hl2 : lnL L e2.2 + d = lnL L t := by rw [q3, e21]; omega
    obtain ⟨rest, r1, r2, r3⟩ := pgo_path ht d k e2.2 (out ++ [(e2.2 : Int)]) q2 hl2 (by omega) ((pos_of ht q2 hl2).1 hk2.2)
    refine ⟨(e2.2 : Int) :: rest, ?_, by rw [List.length_cons, r2], fun i y hy => ?_⟩
    · rw [pgo_some out hne2 he2, r1, List.append_assoc]; rfl
    · cases i with
      | zero =>
        simp at hy
        exact ⟨e2.2, hy.symm, q2, by rw [q3, e21]⟩
      | succ i =>
        rw [List.getElem?_cons_succ] at hy
        obtain ⟨m, m1, m2, m3⟩ := r3 i y hy
        exact ⟨m, m1, m2, by rw [m3, q3, e21]; omega⟩
section
variable {fa fb : List Fp} (o1 : CM.Ok fa) (o2 : CM.Ok fb)
include o1 o2
/-- The interval's graph: the number of paths from its first node to its last, and the path. -/
theorem orders (hc : CM.cons fb fa = true) : ∃ a b c : Nat, a < 4 ∧ b < 4 ∧ c < 4 ∧ CM.ct fb 201 = CM.ct fa 201 + a ∧ CM.ct fb 202 = CM.ct fa 202 + b ∧ CM.ct fb 203 = CM.ct fa 203 + c ∧ fb.length = fa.length + (a + b + c) ∧
    pv (all fa fb) (edgK (all fa fb)) 0 (((all fa fb).length : Int) - 1) = (ord3 a b c : Int) ∧
    (pathV (all fa fb) (edgK (all fa fb)) 0 (((all fa fb).length : Int) - 1)).length = a + b + c + 1 ∧
    ∀ (i : Nat) (y : Int), (pathV (all fa fb) (edgK (all fa fb)) 0 (((all fa fb).length : Int) - 1))[i]? = some y → ∃ m : Nat, y = (m : Int) ∧ m < (all fa fb).length ∧ lnL (all fa fb) m = fa.length + i := by
  have m1 := ct_mono o1 o2 hc 201
  have m2 := ct_mono o1 o2 hc 202
  have m3 := ct_mono o1 o2 hc 203
  have u1 := o2.ct3 201
  have u2 := o2.ct3 202
  have u3 := o2.ct3 203
  have p1 := CM.ct_pos fa 201
  have p2 := CM.ct_pos fa 202
  have p3 := CM.ct_pos fa 203
  obtain ⟨a, ha⟩ : ∃ a : Nat, CM.ct fb 201 = CM.ct fa 201 + a := ⟨(CM.ct fb 201 - CM.ct fa 201).toNat, by omega⟩
  obtain ⟨b, hb⟩ : ∃ b : Nat, CM.ct fb 202 = CM.ct fa 202 + b := ⟨(CM.ct fb 202 - CM.ct fa 202).toNat, by omega⟩
  obtain ⟨c, hcc⟩ : ∃ c : Nat, CM.ct fb 203 = CM.ct fa 203 + c := ⟨(CM.ct fb 203 - CM.ct fa 203).toNat, by omega⟩
  have s1 := CM.ct_sum o1.all
  have s2 := CM.ct_sum o2.all
  have hlen : fb.length = fa.length + (a + b + c) := by omega
  have hN : (all fa fb).length = (a + 1) * (b + 1) * (c + 1) := by
    have := all_len o1 o2 hc
    rw [show CM.ct fb 201 - CM.ct fa 201 + 1 = ((a + 1 : Nat) : Int) by omega, show CM.ct fb 202 - CM.ct fa 202 + 1 = ((b + 1 : Nat) : Int) by omega, show CM.ct fb 203 - CM.ct fa 203 + 1 = ((c + 1 : Nat) : Int) by omega, ← Int.natCast_mul, ← Int.natCast_mul] at this
    exact Int.ofNat.inj this
  have hDN : a + b + c + 1 ≤ (all fa fb).length := by
    rw [hN]
    have : ∀ a, a < 4 → ∀ b, b < 4 → ∀ c, c < 4 → a + b + c + 1 ≤ (a + 1) * (b + 1) * (c + 1) := by decide
    exact this a (by omega) b (by omega) c (by omega)
  have hf := all_first o1 o2 hc
  have hl := all_last o1 o2 hc
  have hpos : 0 < (all fa fb).length := by omega
  have hlt : (all fa fb).length - 1 < (all fa fb).length := by omega
  have hpth := pth_all o1 o2 hc (a + b + c) 0 a b c fa hf ha hb hcc rfl
  have l0 : lnL (all fa fb) 0 = fa.length := lnL_of hf
  have l1 : lnL (all fa fb) ((all fa fb).length - 1) = fb.length := lnL_of hl
  have hcast : ((all fa fb).length : Int) - 1 = (((all fa fb).length - 1 : Nat) : Int) := by omega
  have hz : (0 : Int) = ((0 : Nat) : Int) := rfl
  have hlv : lnL (all fa fb) 0 + (a + b + c) = lnL (all fa fb) ((all fa fb).length - 1) := by rw [l0, l1, hlen]
  have hpp : 0 < GM.pth (edgK (all fa fb)) ((all fa fb).length - 1) (a + b + c) 0 := by rw [hpth]; exact tr_pos _ _ _ _ rfl
  have hpv : pv (all fa fb) (edgK (all fa fb)) 0 (((all fa fb).length : Int) - 1) = (ord3 a b c : Int) := by
    rw [hcast, hz, pv_ways hpos hlt, ← tr_ord a (by omega) b (by omega) c (by omega), ← hpth]
    unfold GM.ways
    by_cases h : 0 = (all fa fb).length - 1
    · rw [if_pos h, ← h, GM.pth_tgt]
    · rw [if_neg h]
      by_cases h2 : lnL (all fa fb) 0 < lnL (all fa fb) ((all fa fb).length - 1)
      · rw [if_pos h2, show lnL (all fa fb) ((all fa fb).length - 1) - lnL (all fa fb) 0 = a + b + c by omega]
      · exfalso
        obtain ⟨rfl, rfl, rfl⟩ : a = 0 ∧ b = 0 ∧ c = 0 := by omega
        rw [hN] at h
        simp at h
  refine ⟨a, b, c, by omega, by omega, by omega, ha, hb, hcc, hlen, hpv, ?_⟩
  have hne : ¬ pv (all fa fb) (edgK (all fa fb)) 0 (((all fa fb).length : Int) - 1) = 0 := by
    have hq : 0 < pv (all fa fb) (edgK (all fa fb)) 0 (((all fa fb).length - 1 : Nat) : Int) := (pos_of hlt hpos hlv).2 hpp
    rw [hcast]
    intro h
    rw [h] at hq
    omega
  obtain ⟨rest, r1, r2, r3⟩ := pgo_path hlt (a + b + c) (all fa fb).length 0 [(0 : Int)] hpos hlv (by omega) hpp
  have hV : pathV (all fa fb) (edgK (all fa fb)) 0 (((all fa fb).length : Int) - 1) = 0 :: rest := by
    unfold pathV
    rw [if_neg hne, hcast]
    exact r1
  rw [hV]
  refine ⟨by rw [List.length_cons, r2], fun i y hy => ?_⟩
  cases i with
  | zero =>
    simp at hy
    exact ⟨0, hy.symm, hpos, by rw [l0]; rfl⟩
  | succ i =>
    rw [List.getElem?_cons_succ] at hy
    obtain ⟨m, e1, e2, e3⟩ := r3 i y hy
    exact ⟨m, e1, e2, by rw [e3, l0]; omega⟩
end
end Go.Proofs.YtkgkhofkhjgnbaaGreat.IM
