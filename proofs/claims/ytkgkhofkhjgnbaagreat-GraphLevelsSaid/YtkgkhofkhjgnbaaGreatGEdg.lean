/-
  The mathematics of a graph's edges: which they are, that they lead one level up, that no count on the way is large; the paths of an interval's graph, counted. No program. No conditions beyond those that each lemma names.
-/
import Derived.Test.YtkgkhofkhjgnbaaGreatGRef4
namespace Go.Proofs.YtkgkhofkhjgnbaaGreat.IM
open JM (Chg)
open CM (Fp)

theorem conk_le {a b : List Fp} (ha : CM.Ok a) (hb : CM.Ok b) : CM.conk a b = true ↔ ∀ c, CM.ct b c ≤ CM.ct a c := by
  unfold CM.conk
  rw [List.all_eq_true]
  constructor
  · intro h c
    by_cases hz : CM.ct b c < 1
    · have := CM.ct_pos a c; omega
    · obtain ⟨f, hf, e1, e2⟩ := CM.hasK_iff.1 ((hb.has c (CM.ct b c) (by omega)).2 (Int.le_refl _))
      have := h f hf
      rw [e1, e2] at this
      exact (ha.has c _ (by omega)).1 this
  · intro h f hf
    have h1 := CM.errF_num (hb.all f hf)
    exact (ha.has f.1 f.2.1 (by omega)).2 (Int.le_trans (mem_le hb hf) (h f.1))
theorem row2_mem {L : List (List Fp)} {i m : Nat} {e : GM.Ed} : e ∈ row2 L i m ↔ e.1 = i ∧ e.2 < m ∧ isE L i e.2 = true := by
  unfold row2
  rw [List.mem_map]
  constructor
  · rintro ⟨j, hj, rfl⟩
    rw [List.mem_filter, List.mem_range] at hj
    exact ⟨rfl, hj⟩
  · rintro ⟨h1, h2, h3⟩
    exact ⟨e.2, List.mem_filter.2 ⟨List.mem_range.2 h2, h3⟩, by rw [← h1]⟩
theorem edg_mem {L : List (List Fp)} {e : GM.Ed} : e ∈ edgK L ↔ e.1 < L.length ∧ e.2 < L.length ∧ isE L e.1 e.2 = true := by
  unfold edgK edgT
  rw [List.mem_flatMap]
  constructor
  · rintro ⟨i, hi, he⟩
    obtain ⟨h1, h2, h3⟩ := row2_mem.1 he
    subst h1
    exact ⟨List.mem_range.1 hi, h2, h3⟩
  · rintro ⟨h1, h2, h3⟩
    exact ⟨e.1, List.mem_range.2 h1, row2_mem.2 ⟨rfl, h2, h3⟩⟩
theorem edg_ok (L : List (List Fp)) : ∀ e ∈ edgK L, e.1 < L.length ∧ e.2 < L.length ∧ lnL L e.2 = lnL L e.1 + 1 := by
  intro e he
  obtain ⟨h1, h2, h3⟩ := edg_mem.1 he
  unfold isE at h3
  rw [Bool.and_eq_true, decide_eq_true_eq] at h3
  exact ⟨h1, h2, h3.1⟩
theorem edgT_out (L : List (List Fp)) (i : Nat) : ∀ m, ((edgT L m).filter fun e => decide (e.1 = i)) = if i < m then row2 L i L.length else []
  | 0 => by rw [if_neg (by omega)]; rfl
  | m + 1 => by
    rw [edgT_snoc, List.filter_append, edgT_out L i m]
    by_cases h : i = m
    · subst h
      rw [if_neg (by omega), if_pos (by omega), List.nil_append]
      exact List.filter_eq_self.2 fun e he => decide_eq_true (row2_mem.1 he).1
    · rw [List.filter_eq_nil_iff.2 (fun e he => by have := (row2_mem.1 he).1; simp; omega), List.append_nil]
      by_cases h2 : i < m
      · rw [if_pos h2, if_pos (by omega)]
      · rw [if_neg h2, if_neg (by omega)]
theorem edg_out (L : List (List Fp)) (i : Nat) : ((edgK L).filter fun e => decide (e.1 = i)) = if i < L.length then row2 L i L.length else [] := edgT_out L i _
theorem edg_deg (L : List (List Fp)) (i : Nat) : ((edgK L).filter fun e => decide (e.1 = i)).length ≤ L.length := by
  rw [edg_out]
  split
  · exact row2_len _ _ _
  · exact Nat.zero_le _
theorem edg_bd {L : List (List Fp)} (hl : L.length ≤ 64) (h9 : ∀ f ∈ L, f.length ≤ 9) :
    ∀ t, t < L.length → ∀ d, d < lnL L t → ∀ k, k ≤ (edgK L).length → ∀ i, i < L.length → 0 ≤ (GM.prt (lnL L) (edgK L) t (lnL L t - 1 - d) (GM.run (lnL L) (edgK L) t L.length d) k).getD i 0 ∧ (GM.prt (lnL L) (edgK L) t (lnL L t - 1 - d) (GM.run (lnL L) (edgK L) t L.length d) k).getD i 0 ≤ 1152921504606846976 := by
  intro t ht d hd k hk i hi
  have hD : lnL L t ≤ 9 := by rw [lnL_of (List.getElem?_eq_getElem ht)]; exact h9 _ (List.getElem_mem ht)
  rw [GM.prt_mid (edg_ok L) hd (GM.run_len L.length d) (GM.run_at ht (edg_ok L) (Nat.le_of_lt hd)) k hk i hi]
  have := GM.mid_bd (c := 64) (D := 9) (es := edgK L) (ln := lnL L) (tgt := t) (fun i => Nat.le_trans (edg_deg L i) hl) (by omega) hD hd hk i
  refine ⟨this.1, Int.le_trans this.2 ?_⟩
  decide
theorem pv_ways {L : List (List Fp)} {f t : Nat} (hf : f < L.length) (ht : t < L.length) : pv L (edgK L) f t = (GM.ways (lnL L) (edgK L) t f : Int) := by
  unfold pv
  rw [if_neg (by omega), Int.toNat_natCast, Int.toNat_natCast]
  exact GM.run_ways ht (edg_ok L) hf
/-! ### The graph of an interval -/
theorem filter_at {L : List (List Fp)} (p : List Fp → Bool) (F : List Fp → Nat) : (((List.range L.length).filter fun j => p (L.getD j [])).map fun j => F (L.getD j [])) = (L.filter p).map F := by
  have e : L = (List.range L.length).map fun j => L.getD j [] := by
    refine List.ext_getElem (by simp) fun k h1 h2 => ?_
    simp [List.getD_eq_getElem?_getD, List.getElem?_eq_getElem h1]
  conv => rhs; rw [e]
  rw [List.filter_map, List.map_map]
  rfl
/-- What is one proposal more than x. -/
def cov (x y : List Fp) : Bool := decide (y.length = x.length + 1) && CM.conk y x
def up (fb x : List Fp) (a : Int) : List Fp := CM.rs fb fun c => CM.ct x c + if c = a then 1 else 0
def ups (fb x : List Fp) : List (List Fp) := (([203, 202, 201] : List Int).filter fun a => decide (CM.ct x a < CM.ct fb a)).map (up fb x)
/-- The number of ways through a, b, c more. -/
def tr : Nat → Nat → Nat → Nat → Nat
  | 0, _, _, _ => 1
  | d + 1, a, b, c => (if 0 < c then tr d a b (c - 1) else 0) + ((if 0 < b then tr d a (b - 1) c else 0) + (if 0 < a then tr d (a - 1) b c else 0))
section
variable {fa fb : List Fp} (o1 : CM.Ok fa) (o2 : CM.Ok fb)
include o1 o2
theorem ct_up {x : List Fp} (hx : x ∈ all fa fb) {a : Int} (ha : CM.ct x a < CM.ct fb a) (c : Int) : CM.ct (up fb x a) c = CM.ct x c + if c = a then 1 else 0 := by
  obtain ⟨ox, _, hb⟩ := all_within o1 o2 x hx
  have := CM.ct_pos x c
  have := ct_mono ox o2 hb c
  unfold up
  refine ct_part o2 _ c ?_ ?_
  · show 0 ≤ CM.ct x c + if c = a then 1 else 0
    split <;> omega
  · show (CM.ct x c + if c = a then 1 else 0) ≤ CM.ct fb c
    split
    · rename_i e; subst e; omega
    · omega
theorem ups_eq {x : List Fp} (hx : x ∈ all fa fb) : (all fa fb).filter (cov x) = ups fb x := by
  obtain ⟨ox, xa, xb⟩ := all_within o1 o2 x hx
  refine sorted_ext ltF_asymm (List.Pairwise.sublist List.filter_sublist (all_sorted o1 o2)) ?_ fun y => ?_
  · unfold ups
    rw [List.pairwise_map]
    have hp : (([203, 202, 201] : List Int).filter fun a => decide (CM.ct x a < CM.ct fb a)).Pairwise fun a b => (201 ≤ b ∧ b < a ∧ a ≤ 203) := List.Pairwise.sublist List.filter_sublist (by simp)
    refine List.Pairwise.imp_of_mem ?_ hp
    intro a b ha hb hab
    have ha := of_decide_eq_true (List.mem_filter.1 ha).2
    have hb := of_decide_eq_true (List.mem_filter.1 hb).2
    unfold ltF
    rw [ct_up o1 o2 hx ha, ct_up o1 o2 hx ha, ct_up o1 o2 hx ha, ct_up o1 o2 hx hb, ct_up o1 o2 hx hb, ct_up o1 o2 hx hb]
    have h3 : (a = 203 ∧ b = 202) ∨ (a = 203 ∧ b = 201) ∨ (a = 202 ∧ b = 201) := by omega
    rcases h3 with ⟨rfl, rfl⟩ | ⟨rfl, rfl⟩ | ⟨rfl, rfl⟩ <;> simp <;> omega
  · rw [List.mem_filter]
    unfold ups
    rw [List.mem_map]
    constructor
    · rintro ⟨hy, hc⟩
      obtain ⟨oy, ya, yb⟩ := all_within o1 o2 y hy
      unfold cov at hc
      rw [Bool.and_eq_true, decide_eq_true_eq] at hc
      have hle := (conk_le oy ox).1 hc.2
      have s1 := CM.ct_sum ox.all
      have s2 := CM.ct_sum oy.all
      have l1 := hle 201
      have l2 := hle 202
      have l3 := hle 203
      have u1 := ct_mono oy o2 yb 201
      have u2 := ct_mono oy o2 yb 202
      have u3 := ct_mono oy o2 yb 203
      have hlen := hc.1
      have key : ∃ a ∈ ([203, 202, 201] : List Int), CM.ct x a < CM.ct fb a ∧ ∀ c, 201 ≤ c ∧ c < 204 → CM.ct y c = CM.ct x c + if c = a then 1 else 0 := by
        have hd : (CM.ct y 203 = CM.ct x 203 + 1 ∧ CM.ct y 202 = CM.ct x 202 ∧ CM.ct y 201 = CM.ct x 201) ∨ (CM.ct y 203 = CM.ct x 203 ∧ CM.ct y 202 = CM.ct x 202 + 1 ∧ CM.ct y 201 = CM.ct x 201) ∨ (CM.ct y 203 = CM.ct x 203 ∧ CM.ct y 202 = CM.ct x 202 ∧ CM.ct y 201 = CM.ct x 201 + 1) := by omega
        rcases hd with ⟨h3, h2, h1⟩ | ⟨h3, h2, h1⟩ | ⟨h3, h2, h1⟩
        · refine ⟨203, by simp, by omega, fun c hc => ?_⟩
          have : c = 201 ∨ c = 202 ∨ c = 203 := by omega
          rcases this with rfl | rfl | rfl <;> simp <;> omega
        · refine ⟨202, by simp, by omega, fun c hc => ?_⟩
          have : c = 201 ∨ c = 202 ∨ c = 203 := by omega
          rcases this with rfl | rfl | rfl <;> simp <;> omega
        · refine ⟨201, by simp, by omega, fun c hc => ?_⟩
          have : c = 201 ∨ c = 202 ∨ c = 203 := by omega
          rcases this with rfl | rfl | rfl <;> simp <;> omega
      obtain ⟨a, ha, hlt, hall⟩ := key
      refine ⟨a, List.mem_filter.2 ⟨ha, decide_eq_true hlt⟩, ?_⟩
      have hg : (fun c => CM.ct x c + if c = a then 1 else 0) = CM.ct y := by
        funext c
        by_cases hr : 201 ≤ c ∧ c < 204
        · exact (hall c hr).symm
        · rw [ct_out ox c hr, ct_out oy c hr, if_neg (by
            rintro rfl
            simp at ha
            omega)]
          rfl
      unfold up
      rw [hg]
      exact rs_sub oy o2 yb
    · rintro ⟨a, ha, rfl⟩
      obtain ⟨ha3, hlt⟩ := List.mem_filter.1 ha
      have hlt := of_decide_eq_true hlt
      have hct := ct_up o1 o2 hx hlt
      have ou : CM.Ok (up fb x a) := o2.rs _
      have hxu : ∀ c, CM.ct x c ≤ CM.ct (up fb x a) c := fun c => by rw [hct]; split <;> omega
      have hub : CM.cons fb (up fb x a) = true := CM.cons_iff.2 fun f hf => (CM.rs_mem.1 hf).1
      have hux : CM.cons (up fb x a) x = true := by
        refine CM.cons_iff.2 fun f hf => CM.rs_mem.2 ⟨CM.cons_iff.1 xb f hf, ?_⟩
        have := mem_le ox hf
        show f.2.1 ≤ CM.ct x f.1 + _
        split <;> omega
      refine ⟨(all_iff o1 o2 _ ou).2 ⟨cons_trans hux xa, hub⟩, ?_⟩
      unfold cov
      rw [Bool.and_eq_true, decide_eq_true_eq]
      refine ⟨?_, (conk_le ou ox).2 hxu⟩
      have s1 := CM.ct_sum ox.all
      have s2 := CM.ct_sum ou.all
      rw [hct, hct, hct] at s2
      simp at ha3
      rcases ha3 with rfl | rfl | rfl <;> simp at s2 <;> omega
end
end Go.Proofs.YtkgkhofkhjgnbaaGreat.IM
