/-
  The mathematics of graphs of intervals, first part: the parts of an interval ascend; those that contain one, and those that are comparable with one. No program. Conditions: the ends are valid.
-/
import Derived.Test.YtkgkhofkhjgnbaaGreatIMath
import Derived.Test.YtkgkhofkhjgnbaaGreatIRAl
namespace Go.Proofs.YtkgkhofkhjgnbaaGreat.IM
open JM (Chg)
open CM (Fp)
open VM (Ent)

/-! ### The order -/
/-- The order of the numbers of proposals of 201, 202, 203. -/
def ltV (u v : List Ent) : Prop := VM.cnt u 201 < VM.cnt v 201 ∨ (VM.cnt u 201 = VM.cnt v 201 ∧ (VM.cnt u 202 < VM.cnt v 202 ∨ (VM.cnt u 202 = VM.cnt v 202 ∧ VM.cnt u 203 < VM.cnt v 203)))
def ltF (f g : List Fp) : Prop := CM.ct f 201 < CM.ct g 201 ∨ (CM.ct f 201 = CM.ct g 201 ∧ (CM.ct f 202 < CM.ct g 202 ∨ (CM.ct f 202 = CM.ct g 202 ∧ CM.ct f 203 < CM.ct g 203)))
theorem ltF_asymm {f g : List Fp} (h : ltF f g) (k : ltF g f) : False := by unfold ltF at h k; omega
theorem cnt3 {a b c : Int} (ha : 0 ≤ a ∧ a ≤ 1000000) (hb : 0 ≤ b ∧ b ≤ 1000000) (hc : 0 ≤ c ∧ c ≤ 1000000) :
    VM.cnt (VM.wi (VM.wi (VM.wi [] 201 a) 202 b) 203 c) 201 = a ∧ VM.cnt (VM.wi (VM.wi (VM.wi [] 201 a) 202 b) 203 c) 202 = b ∧ VM.cnt (VM.wi (VM.wi (VM.wi [] 201 a) 202 b) 203 c) 203 = c := by
  obtain ⟨a1, a2⟩ := VM.wi_spec (a := 201) (c := a) (by omega) ha.1 ha.2 (VM.Val.nil 0)
  obtain ⟨b1, b2⟩ := VM.wi_spec (a := 202) (c := b) (by omega) hb.1 hb.2 a1
  obtain ⟨c1, c2⟩ := VM.wi_spec (a := 203) (c := c) (by omega) hc.1 hc.2 b1
  refine ⟨?_, ?_, ?_⟩
  · rw [c2, if_neg (by omega), b2, if_neg (by omega), a2, if_pos rfl]
  · rw [c2, if_neg (by omega), b2, if_pos rfl]
  · rw [c2, if_pos rfl]
theorem vs_sorted {lo hi : Int → Int} (h0 : ∀ a, 0 ≤ lo a) (h1 : ∀ a, hi a ≤ 3) : (vs lo hi 3).Pairwise ltV := by
  rw [vs3]
  have k1 := h0 201; have k2 := h0 202; have k3 := h0 203
  have l1 := h1 201; have l2 := h1 202; have l3 := h1 203
  have hc : ∀ i j k : Nat, i < num (lo 201) (hi 201) → j < num (lo 202) (hi 202) → k < num (lo 203) (hi 203) →
      VM.cnt (VM.wi (VM.wi (VM.wi [] 201 (lo 201 + (i : Int))) 202 (lo 202 + (j : Int))) 203 (lo 203 + (k : Int))) 201 = lo 201 + (i : Int) ∧
      VM.cnt (VM.wi (VM.wi (VM.wi [] 201 (lo 201 + (i : Int))) 202 (lo 202 + (j : Int))) 203 (lo 203 + (k : Int))) 202 = lo 202 + (j : Int) ∧
      VM.cnt (VM.wi (VM.wi (VM.wi [] 201 (lo 201 + (i : Int))) 202 (lo 202 + (j : Int))) 203 (lo 203 + (k : Int))) 203 = lo 203 + (k : Int) := by
    intro i j k hi' hj' hk'
    unfold num at hi' hj' hk'
    exact cnt3 ⟨by omega, by omega⟩ ⟨by omega, by omega⟩ ⟨by omega, by omega⟩
  rw [List.pairwise_flatMap]
  refine ⟨fun i hi' => ?_, ?_⟩
  · have hi' := List.mem_range.1 hi'
    rw [List.pairwise_flatMap]
    refine ⟨fun j hj' => ?_, ?_⟩
    · have hj' := List.mem_range.1 hj'
      rw [List.pairwise_map]
      refine List.Pairwise.imp_of_mem ?_ (List.pairwise_lt_range (n := num (lo 203) (hi 203)))
      intro k k' hk hk' hlt
      obtain ⟨a1, a2, a3⟩ := hc i j k hi' hj' (List.mem_range.1 hk)
      obtain ⟨b1, b2, b3⟩ := hc i j k' hi' hj' (List.mem_range.1 hk')
      unfold ltV
      rw [a1, a2, a3, b1, b2, b3]
      omega
    · refine List.Pairwise.imp_of_mem ?_ (List.pairwise_lt_range (n := num (lo 202) (hi 202)))
      intro j j' hj hj' hlt x hx y hy
      obtain ⟨k, hk, rfl⟩ := List.mem_map.1 hx
      obtain ⟨k', hk', rfl⟩ := List.mem_map.1 hy
      obtain ⟨a1, a2, a3⟩ := hc i j k hi' (List.mem_range.1 hj) (List.mem_range.1 hk)
      obtain ⟨b1, b2, b3⟩ := hc i j' k' hi' (List.mem_range.1 hj') (List.mem_range.1 hk')
      unfold ltV
      rw [a1, a2, a3, b1, b2, b3]
      omega
  · refine List.Pairwise.imp_of_mem ?_ (List.pairwise_lt_range (n := num (lo 201) (hi 201)))
    intro i i' hi1 hi2 hlt x hx y hy
    obtain ⟨j, hj, hx⟩ := List.mem_flatMap.1 hx
    obtain ⟨k, hk, rfl⟩ := List.mem_map.1 hx
    obtain ⟨j', hj', hy⟩ := List.mem_flatMap.1 hy
    obtain ⟨k', hk', rfl⟩ := List.mem_map.1 hy
    obtain ⟨a1, a2, a3⟩ := hc i j k (List.mem_range.1 hi1) (List.mem_range.1 hj) (List.mem_range.1 hk)
    obtain ⟨b1, b2, b3⟩ := hc i' j' k' (List.mem_range.1 hi2) (List.mem_range.1 hj') (List.mem_range.1 hk')
    unfold ltV
    rw [a1, a2, a3, b1, b2, b3]
    omega
theorem all_sorted {fa fb : List Fp} (o1 : CM.Ok fa) (o2 : CM.Ok fb) : (all fa fb).Pairwise ltF := by
  cases hc : CM.cons fb fa with
  | false => rw [all_nil hc]; exact List.Pairwise.nil
  | true =>
    have s1 := CM.vo_spec o1
    have s2 := CM.vo_spec o2
    have hn : (iv fa fb).Pairwise ltV := by
      unfold iv
      rw [if_pos hc]
      exact vs_sorted (fun a => by rw [s1.2]; exact CM.ct_pos _ _) (fun a => by rw [s2.2]; exact o2.ct3 a)
    unfold all
    rw [List.pairwise_map]
    refine List.Pairwise.imp_of_mem ?_ hn
    intro u v hu hv huv
    obtain ⟨_, u2⟩ := (iv_mem o1 o2 hc u).1 hu
    obtain ⟨_, v2⟩ := (iv_mem o1 o2 hc v).1 hv
    have e1 : ∀ a, CM.ct (CM.rs fb (VM.cnt u)) a = VM.cnt u a := fun a => ct_part o2 (VM.cnt u) a (by have := u2 a; have := CM.ct_pos fa a; omega) (u2 a).2
    have e2 : ∀ a, CM.ct (CM.rs fb (VM.cnt v)) a = VM.cnt v a := fun a => ct_part o2 (VM.cnt v) a (by have := v2 a; have := CM.ct_pos fa a; omega) (v2 a).2
    unfold ltF
    rw [e1, e1, e1, e2, e2, e2]
    exact huv
/-- Ascending lists with the same elements are equal. -/
theorem sorted_ext {α : Type} {lt : α → α → Prop} (hl : ∀ {x y}, lt x y → lt y x → False) : ∀ {a b : List α}, a.Pairwise lt → b.Pairwise lt → (∀ x, x ∈ a ↔ x ∈ b) → a = b
  | [], [], _, _, _ => rfl
  | [], y :: b, _, _, h => absurd ((h y).2 (by simp)) (by simp)
  | x :: a, [], _, _, h => absurd ((h x).1 (by simp)) (by simp)
  | x :: a, y :: b, ha, hb, h => by
    obtain ⟨a1, a2⟩ := List.pairwise_cons.1 ha
    obtain ⟨b1, b2⟩ := List.pairwise_cons.1 hb
    have hxy : x = y := by
      rcases List.mem_cons.1 ((h x).1 (by simp)) with e | h1
      · exact e
      · rcases List.mem_cons.1 ((h y).2 (by simp)) with e | h2
        · exact e.symm
        · exact absurd (hl (a1 y h2) (b1 x h1)) id
    subst hxy
    congr 1
    refine sorted_ext hl a2 b2 fun z => ⟨fun hz => ?_, fun hz => ?_⟩
    · rcases List.mem_cons.1 ((h z).1 (List.mem_cons_of_mem _ hz)) with e | h1
      · subst e; exact absurd (hl (a1 z hz) (a1 z hz)) id
      · exact h1
    · rcases List.mem_cons.1 ((h z).2 (List.mem_cons_of_mem _ hz)) with e | h1
      · subst e; exact absurd (hl (b1 z hz) (b1 z hz)) id
      · exact h1

/-! ### Contracting, pruning -/
theorem cons_trans {a b c : List Fp} (h : CM.cons a b = true) (k : CM.cons b c = true) : CM.cons a c = true := CM.cons_iff.2 fun f hf => CM.cons_iff.1 h f (CM.cons_iff.1 k f hf)
theorem cons_refl (a : List Fp) : CM.cons a a = true := CM.cons_iff.2 fun _ h => h
theorem cons_antisymm {a b : List Fp} (ha : CM.Ok a) (hb : CM.Ok b) (h : CM.cons a b = true) (k : CM.cons b a = true) : a = b := CM.srt_ext ha.srt hb.srt fun f => ⟨fun hf => CM.cons_iff.1 k f hf, fun hf => CM.cons_iff.1 h f hf⟩
section
variable {fa fm fb : List Fp} (o1 : CM.Ok fa) (om : CM.Ok fm) (o2 : CM.Ok fb) (h1 : CM.cons fm fa = true) (h2 : CM.cons fb fm = true)
include o1 om o2
theorem above_eq (h1 : CM.cons fm fa = true) : (all fa fb).filter (fun x => CM.cons x fm) = all fm fb := by
  refine sorted_ext ltF_asymm (List.Pairwise.sublist List.filter_sublist (all_sorted o1 o2)) (all_sorted om o2) fun x => ?_
  rw [List.mem_filter]
  constructor
  · rintro ⟨hx, hm⟩
    obtain ⟨ox, _, b⟩ := all_within o1 o2 x hx
    exact (all_iff om o2 x ox).2 ⟨hm, b⟩
  · intro hx
    obtain ⟨ox, a, b⟩ := all_within om o2 x hx
    exact ⟨(all_iff o1 o2 x ox).2 ⟨cons_trans a h1, b⟩, a⟩
theorem below_eq (h2 : CM.cons fb fm = true) : (all fa fb).filter (fun x => CM.cons fm x) = all fa fm := by
  refine sorted_ext ltF_asymm (List.Pairwise.sublist List.filter_sublist (all_sorted o1 o2)) (all_sorted o1 om) fun x => ?_
  rw [List.mem_filter]
  constructor
  · rintro ⟨hx, hm⟩
    obtain ⟨ox, a, _⟩ := all_within o1 o2 x hx
    exact (all_iff o1 om x ox).2 ⟨a, hm⟩
  · intro hx
    obtain ⟨ox, a, b⟩ := all_within o1 om x hx
    exact ⟨(all_iff o1 o2 x ox).2 ⟨a, cons_trans h2 b⟩, b⟩
include h1 h2
theorem both_eq : (all fa fb).filter (fun x => CM.cons x fm && CM.cons fm x) = [fm] := by
  refine sorted_ext ltF_asymm (List.Pairwise.sublist List.filter_sublist (all_sorted o1 o2)) (List.pairwise_singleton _ _) fun x => ?_
  rw [List.mem_filter, List.mem_singleton, Bool.and_eq_true]
  constructor
  · rintro ⟨hx, a, b⟩
    exact cons_antisymm (all_within o1 o2 x hx).1 om a b
  · rintro rfl
    exact ⟨(all_iff o1 o2 x om).2 ⟨h1, h2⟩, cons_refl x, cons_refl x⟩
theorem prune_len : ((all fa fb).filter (fun x => CM.cons x fm || CM.cons fm x)).length + 1 = (all fa fm).length + (all fm fb).length := by
  have hg : ∀ (L : List (List Fp)) (p q : List Fp → Bool), (L.filter fun x => p x || q x).length + (L.filter fun x => p x && q x).length = (L.filter q).length + (L.filter p).length := by
    intro L p q
    induction L with
    | nil => rfl
    | cons x L ih =>
      simp only [List.filter_cons]
      cases p x <;> cases q x <;> simp <;> omega
  have := hg (all fa fb) (fun x => CM.cons x fm) (fun x => CM.cons fm x)
  rw [both_eq o1 om o2 h1 h2, above_eq o1 om o2 h1, below_eq o1 om o2 h2] at this
  exact this
end
end Go.Proofs.YtkgkhofkhjgnbaaGreat.IM
