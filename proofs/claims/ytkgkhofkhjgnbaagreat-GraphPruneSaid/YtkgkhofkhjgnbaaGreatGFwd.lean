/-
  The mathematics of counting paths forwards: edges of ascending nodes lead up; what arrives at a node, weighted by the paths that leave it, stays; edges in their order. No program. No conditions beyond those that each lemma names.
-/
import Derived.Test.YtkgkhofkhjgnbaaGreatGCon
namespace Go.Proofs.YtkgkhofkhjgnbaaGreat.IM
open JM (Chg)
open CM (Fp)

theorem edg_up {p : List Fp} {L : List (List Fp)} (gd : Gd p L) : ∀ e ∈ edgK L, e.1 < e.2 := by
  intro e he
  obtain ⟨h1, h2, h3⟩ := edg_mem.1 he
  have g1 := List.getElem?_eq_getElem h1
  have g2 := List.getElem?_eq_getElem h2
  rw [isE_of g1 g2, Bool.and_eq_true, decide_eq_true_eq] at h3
  obtain ⟨o1, _⟩ := gd.parts _ (List.getElem_mem h1)
  obtain ⟨o2, _⟩ := gd.parts _ (List.getElem_mem h2)
  have hle := (conk_le o2 o1).1 h3.2
  by_cases hlt : e.1 < e.2
  · exact hlt
  · exfalso
    by_cases heq : e.1 = e.2
    · have h4 := h3.1
      have : L[e.2].length = L[e.1].length := by simp only [heq]
      omega
    · have := (List.pairwise_iff_getElem.1 gd.asc) e.2 e.1 h2 h1 (by omega)
      have l1 := hle 201
      have l2 := hle 202
      have l3 := hle 203
      unfold ltF at this
      omega
theorem edg_asc (L : List (List Fp)) : (edgK L).Pairwise fun a b => a.1 ≤ b.1 := by
  unfold edgK edgT
  rw [List.pairwise_flatMap]
  refine ⟨fun i _ => ?_, ?_⟩
  · refine List.Pairwise.imp_of_mem (R := fun _ _ => True) ?_ (List.pairwise_of_forall (fun _ _ => trivial))
    intro a b ha hb _
    rw [(row2_mem.1 ha).1, (row2_mem.1 hb).1]
    exact Nat.le_refl _
  · refine List.Pairwise.imp ?_ (List.pairwise_lt_range (n := L.length))
    intro i j hij a ha b hb
    rw [(row2_mem.1 ha).1, (row2_mem.1 hb).1]
    omega
end Go.Proofs.YtkgkhofkhjgnbaaGreat.IM
namespace Go.Proofs.YtkgkhofkhjgnbaaGreat.GM
/-- The edges that leave a node, where the edges ascend by their first node. -/
theorem cut_eq {es : List Ed} {n p q : Nat} (hpq : p ≤ q) (hq : q ≤ es.length) (hp1 : ∀ (k : Nat) e, es[k]? = some e → k < p → e.1 < n) (hp2 : ∀ (k : Nat) e, es[k]? = some e → p ≤ k → n ≤ e.1) (hq1 : ∀ (k : Nat) e, es[k]? = some e → k < q → e.1 < n + 1) (hq2 : ∀ (k : Nat) e, es[k]? = some e → q ≤ k → n + 1 ≤ e.1) :
    (es.take q).drop p = es.filter fun e => decide (e.1 = n) := by
  have hs : es = es.take p ++ ((es.take q).drop p ++ es.drop q) := by
    have h1 : (es.take q).take p = es.take p := by rw [List.take_take, Nat.min_eq_left hpq]
    rw [← List.append_assoc, ← h1, List.take_append_drop, List.take_append_drop]
  conv => rhs; rw [hs]
  rw [List.filter_append, List.filter_append]
  have f1 : (es.take p).filter (fun e => decide (e.1 = n)) = [] := List.filter_eq_nil_iff.2 fun e he => by
    obtain ⟨k, hk⟩ := List.mem_iff_getElem?.1 he
    have hkl := (List.getElem?_eq_some_iff.1 hk).1
    rw [List.length_take] at hkl
    rw [List.getElem?_take_of_lt (by omega)] at hk
    have := hp1 k e hk (by omega)
    simp; omega
  have f3 : (es.drop q).filter (fun e => decide (e.1 = n)) = [] := List.filter_eq_nil_iff.2 fun e he => by
    obtain ⟨k, hk⟩ := List.mem_iff_getElem?.1 he
    rw [List.getElem?_drop] at hk
    have := hq2 _ e hk (by omega)
    simp; omega
  have f2 : ((es.take q).drop p).filter (fun e => decide (e.1 = n)) = (es.take q).drop p := List.filter_eq_self.2 fun e he => by
    obtain ⟨k, hk⟩ := List.mem_iff_getElem?.1 he
    have hkl := (List.getElem?_eq_some_iff.1 hk).1
    rw [List.length_drop, List.length_take] at hkl
    rw [List.getElem?_drop, List.getElem?_take_of_lt (by omega)] at hk
    have a1 := hp2 _ e hk (by omega)
    have a2 := hq1 _ e hk (by omega)
    simp; omega
  rw [f1, f2, f3, List.append_nil, List.nil_append]
section
variable {ln : Nat → Nat} {es : List Ed} {tgt : Nat}
theorem ways_tgt : ways ln es tgt tgt = 1 := by unfold ways; rw [if_pos rfl]
theorem ways_rec {n : Nat} (hes : ∀ e ∈ es, e.1 < n ∧ e.2 < n ∧ ln e.2 = ln e.1 + 1) {v : Nat} (hv : v ≠ tgt) : ways ln es tgt v = ((es.filter fun e => decide (e.1 = v)).map fun e => ways ln es tgt e.2).sum := by
  have hmap : ∀ F : Ed → Nat, (∀ e ∈ es, e.1 = v → F e = ways ln es tgt e.2) → ((es.filter fun e => decide (e.1 = v)).map F).sum = ((es.filter fun e => decide (e.1 = v)).map fun e => ways ln es tgt e.2).sum := by
    intro F h
    congr 1
    refine List.map_congr_left fun e he => ?_
    obtain ⟨h1, h2⟩ := List.mem_filter.1 he
    exact h e h1 (of_decide_eq_true h2)
  by_cases hl : ln v < ln tgt
  · obtain ⟨d, hd⟩ : ∃ d, ln tgt - ln v = d + 1 := ⟨ln tgt - ln v - 1, by omega⟩
    have h0 : ways ln es tgt v = pth es tgt (d + 1) v := by unfold ways; rw [if_neg hv, if_pos hl, hd]
    rw [h0, pth_succ hv]
    refine hmap _ fun e he hev => ?_
    obtain ⟨_, _, h3⟩ := hes e he
    rw [hev] at h3
    unfold ways
    by_cases h2 : e.2 = tgt
    · rw [if_pos h2, h2, pth_tgt]
    · rw [if_neg h2]
      by_cases h4 : ln e.2 < ln tgt
      · rw [if_pos h4, show ln tgt - ln e.2 = d by omega]
      · rw [if_neg h4]
        obtain rfl : d = 0 := by omega
        show (if e.2 = tgt then 1 else 0) = 0
        rw [if_neg h2]
  · have h0 : ways ln es tgt v = 0 := by unfold ways; rw [if_neg hv, if_neg hl]
    rw [h0, ← hmap (fun _ => 0) fun e he hev => ?_]
    · generalize es.filter (fun e => decide (e.1 = v)) = l
      induction l with
      | nil => rfl
      | cons _ _ ih => rw [List.map_cons, List.sum_cons, ← ih]
    · obtain ⟨_, _, h3⟩ := hes e he
      rw [hev] at h3
      unfold ways
      rw [if_neg (by rintro rfl; omega), if_neg (by omega)]
theorem pth_up (hup : ∀ e ∈ es, e.1 < e.2) : ∀ d v, 0 < pth es tgt d v → v ≤ tgt
  | 0, v, h => by
    by_cases hv : v = tgt
    · omega
    · simp [pth, hv] at h
  | d + 1, v, h => by
    by_cases hv : v = tgt
    · omega
    · rw [pth_succ hv] at h
      obtain ⟨e, he, hp⟩ : ∃ e ∈ es.filter (fun e => decide (e.1 = v)), 0 < pth es tgt d e.2 := by
        generalize es.filter (fun e => decide (e.1 = v)) = l at h
        induction l with
        | nil => simp at h
        | cons e l ih =>
          by_cases h1 : 0 < pth es tgt d e.2
          · exact ⟨e, by simp, h1⟩
          · rw [List.map_cons, List.sum_cons] at h
            obtain ⟨e', h2, h3⟩ := ih (by omega)
            exact ⟨e', by simp [h2], h3⟩
      obtain ⟨h1, h2⟩ := List.mem_filter.1 he
      have h2 := of_decide_eq_true h2
      have := hup e h1
      have := pth_up hup d e.2 hp
      omega
theorem ways_up (hup : ∀ e ∈ es, e.1 < e.2) {v : Nat} (h : tgt < v) : ways ln es tgt v = 0 := by
  unfold ways
  rw [if_neg (by omega)]
  split
  · by_cases h0 : 0 < pth es tgt (ln tgt - ln v) v
    · have := pth_up hup _ _ h0; omega
    · omega
  · rfl
end
/-- What arrives, weighted. -/
def sw (W : Nat → Nat) (A : Nat → Int) (N : Nat) : Int := ((List.range N).map fun v => A v * (W v : Int)).sum
theorem sw_succ (W : Nat → Nat) (A : Nat → Int) (N : Nat) : sw W A (N + 1) = sw W A N + A N * (W N : Int) := by
  unfold sw
  rw [List.range_succ, List.map_append, List.sum_append]
  simp
theorem sw_congr {W : Nat → Nat} {A B : Nat → Int} : ∀ {N : Nat}, (∀ v, v < N → A v * (W v : Int) = B v * (W v : Int)) → sw W A N = sw W B N
  | 0, _ => rfl
  | N + 1, h => by rw [sw_succ, sw_succ, sw_congr (fun v hv => h v (by omega)), h N (by omega)]
theorem sw_upd {W : Nat → Nat} {A B : Nat → Int} {v0 : Nat} (h : ∀ v, v ≠ v0 → B v = A v) : ∀ {N : Nat}, v0 < N → sw W B N = sw W A N + (B v0 - A v0) * (W v0 : Int)
  | 0, h0 => by omega
  | N + 1, h0 => by
    rw [sw_succ, sw_succ]
    by_cases hn : v0 = N
    · subst hn
      rw [sw_congr (A := B) (B := A) (fun v hv => by rw [h v (by omega)])]
      rw [Int.sub_mul]; omega
    · rw [sw_upd h (by omega), h N (by omega)]
      omega
theorem sw_one {W : Nat → Nat} {A : Nat → Int} {t : Nat} (h : ∀ v, v ≠ t → A v * (W v : Int) = 0) {N : Nat} (ht : t < N) : sw W A N = A t * (W t : Int) := by
  have h1 := sw_upd (W := W) (A := fun v => if v = t then 0 else A v) (B := A) (v0 := t) (fun v hv => by simp [hv]) ht
  have h2 : sw W (fun v => if v = t then 0 else A v) N = sw W (fun _ => 0) N := sw_congr fun v _ => by
    by_cases hv : v = t
    · simp [hv]
    · simp only [hv, if_false]; rw [h v hv]; simp
  have h3 : ∀ N, sw W (fun _ => 0) N = 0 := fun N => by
    induction N with
    | zero => rfl
    | succ N ih => rw [sw_succ, ih]; simp
  rw [h1, h2, h3]
  simp
/-- The weight of edges. -/
def ew (W : Nat → Nat) (l : List Ed) : Int := (l.map fun e => (W e.2 : Int)).sum
theorem ew_cons (W : Nat → Nat) (e : Ed) (l : List Ed) : ew W (e :: l) = (W e.2 : Int) + ew W l := by unfold ew; rw [List.map_cons, List.sum_cons]
theorem ew_nat (W : Nat → Nat) (l : List Ed) : ew W l = ((l.map fun e => W e.2).sum : Nat) := by
  induction l with
  | nil => rfl
  | cons e l ih => rw [ew_cons, ih, List.map_cons, List.sum_cons]; omega
/-- While the edges l of the node n remain. -/
def Mid (W : Nat → Nat) (N : Nat) (R : Int) (n : Nat) (l : List Ed) (A : Nat → Int) : Prop := (∀ v, v < n → A v = 0) ∧ ∃ q : Int, sw W A N + A n * (ew W l - (W n : Int)) = R + q * 18446744073709551616
/-- Ahead of the node n. -/
def Arr (W : Nat → Nat) (N : Nat) (R : Int) (n : Nat) (A : Nat → Int) : Prop := (∀ v, v < n → A v = 0) ∧ ∃ q : Int, sw W A N = R + q * 18446744073709551616
theorem Arr.mid {W : Nat → Nat} {N n : Nat} {R : Int} {A : Nat → Int} (h : Arr W N R n A) {l : List Ed} (hl : ew W l = (W n : Int)) : Mid W N R n l A := by
  obtain ⟨h1, q, h2⟩ := h
  refine ⟨h1, q, ?_⟩
  rw [hl, Int.sub_self, Int.mul_zero, Int.add_zero]
  exact h2
theorem Mid.step {W : Nat → Nat} {N n : Nat} {R : Int} {A B : Nat → Int} {e : Ed} {l : List Ed} (h : Mid W N R n (e :: l) A) (he : n < e.2) (heN : e.2 < N) (ho : ∀ v, v ≠ e.2 → B v = A v) {q' : Int} (hs : B e.2 = A e.2 + A n + q' * 18446744073709551616) : Mid W N R n l B := by
  obtain ⟨h1, q, h2⟩ := h
  refine ⟨fun v hv => by rw [ho v (by omega)]; exact h1 v hv, q + q' * (W e.2 : Int), ?_⟩
  rw [sw_upd ho heN, ho n (by omega), hs]
  rw [ew_cons] at h2
  generalize sw W A N = S at *
  generalize (W e.2 : Int) = x at *
  generalize ew W l = y at *
  generalize (W n : Int) = z at *
  generalize A n = a at *
  generalize A e.2 = b at *
  have e1 : a * (x + y - z) = a * x + a * (y - z) := by rw [show x + y - z = x + (y - z) by omega, Int.mul_add]
  have e2 : (b + a + q' * 18446744073709551616 - b) * x = a * x + (q' * x) * 18446744073709551616 := by
    rw [show b + a + q' * 18446744073709551616 - b = a + q' * 18446744073709551616 by omega, Int.add_mul, Int.mul_right_comm]
  rw [e1] at h2
  rw [e2]
  generalize a * x = ax at *
  generalize a * (y - z) = ay at *
  generalize q' * x = qx at *
  omega
theorem Mid.done {W : Nat → Nat} {N n : Nat} {R : Int} {A B : Nat → Int} (h : Mid W N R n [] A) (hn : n < N) (ho : ∀ v, v ≠ n → B v = A v) (hz : B n = 0) : Arr W N R (n + 1) B := by
  obtain ⟨h1, q, h2⟩ := h
  refine ⟨fun v hv => ?_, q, ?_⟩
  · by_cases hvn : v = n
    · rw [hvn]; exact hz
    · rw [ho v hvn]; exact h1 v (by omega)
  · rw [sw_upd ho hn, hz]
    rw [show ew W [] = 0 from rfl, Int.zero_sub, Int.mul_neg] at h2
    rw [Int.zero_sub, Int.neg_mul]
    omega
theorem Arr.fin {W : Nat → Nat} {N t : Nat} {R : Int} {A : Nat → Int} (h : Arr W N R t A) (ht : t < N) (h1 : W t = 1) (h0 : ∀ v, t < v → W v = 0) (hR : 0 ≤ R ∧ R < 9223372036854775808) (hA : -9223372036854775808 ≤ A t ∧ A t < 9223372036854775808) : A t = R := by
  obtain ⟨hz, q, h2⟩ := h
  rw [sw_one (t := t) (fun v hv => by
    by_cases hvt : v < t
    · rw [hz v hvt]; simp
    · rw [h0 v (by omega)]; simp) ht, h1] at h2
  have h3 : A t = R + q * 18446744073709551616 := by rw [← h2]; simp
  omega
theorem Arr.start {W : Nat → Nat} {N f : Nat} (hf : f < N) : Arr W N (W f : Int) f (fun v => if v = f then 1 else 0) := by
  refine ⟨fun v hv => by show (if v = f then (1 : Int) else 0) = 0; rw [if_neg (by omega)], 0, ?_⟩
  rw [sw_one (t := f) (fun v hv => by rw [if_neg hv]; simp) hf]
  simp
end Go.Proofs.YtkgkhofkhjgnbaaGreat.GM
