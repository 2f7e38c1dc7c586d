/-
  The mathematics of Span: sorted, each once; the reference's insertions give the same. No program. No conditions beyond those that each lemma names.
-/
import Derived.Test.YtejafpbobgkibaaGreatIVal
import Derived.Test.YtejafpbobgkibaaGreatMUni
namespace Go.Proofs.YtejafpbobgkibaaGreat
open Go.RowKit Go.Joins Go.Shelf
open JM (Chg)
open CM (Fp)
open MM (Mem Ent Sm Tri)

namespace IM
/-! ### Sorted, each once -/
theorem compact_spec (zs : List Int) : MM.Srt MM.kI (Lib.compact (srtI zs)) ∧ ∀ x, x ∈ Lib.compact (srtI zs) ↔ x ∈ zs := by
  have hs : (srtI zs).Pairwise (fun a b => a ≤ b) := by
    have h2 := List.pairwise_mergeSort (le := fun x y : Int => decide (x ≤ y)) (by intro a b c h1 h2; simp at *; omega) (by intro a b; simp; omega) zs
    exact h2.imp fun h => of_decide_eq_true h
  have hp : ∀ x, x ∈ srtI zs ↔ x ∈ zs := fun x => (List.mergeSort_perm zs _).mem_iff
  generalize srtI zs = ys at hs hp
  have key : ∀ m, m ≤ ys.length → MM.Srt MM.kI (Lib.compactUpTo ys.toArray m) ∧ ∀ x, x ∈ Lib.compactUpTo ys.toArray m ↔ x ∈ ys.take m := by
    intro m
    induction m with
    | zero => intro _; exact ⟨List.Pairwise.nil, fun x => by simp [Lib.compactUpTo]⟩
    | succ m ih =>
      intro hm
      obtain ⟨i1, i2⟩ := ih (by omega)
      rw [Lib.compactUpTo_succ]
      have hg : ys.toArray[m]! = ys[m]'(by omega) := by rw [getElem!_pos _ m (by simp; omega)]; simp
      have htk : ys.take (m + 1) = ys.take m ++ [ys[m]'(by omega)] := List.take_succ_eq_append_getElem (by omega)
      have hle : ∀ x ∈ ys.take m, x ≤ ys[m]'(by omega) := by
        intro x hx
        obtain ⟨i, hi, rfl⟩ := List.getElem_of_mem hx
        rw [List.length_take] at hi
        rw [List.getElem_take]
        exact List.pairwise_iff_getElem.1 hs i m (by omega) (by omega) (by omega)
      rw [hg, htk]
      by_cases hk : Lib.keeps ys.toArray m = true
      · rw [if_pos hk]
        have hne : ∀ x ∈ ys.take m, x < ys[m]'(by omega) := by
          intro x hx
          have h1 := hle x hx
          have hm0 : 0 < m := by
            rcases Nat.eq_zero_or_pos m with h | h
            · subst h; simp at hx
            · exact h
          have hk2 : ys[m - 1]'(by omega) ≠ ys[m]'(by omega) := by
            intro he
            unfold Lib.keeps at hk
            rw [getElem!_pos _ m (by simp; omega), getElem!_pos _ (m - 1) (by simp; omega)] at hk
            simp only [List.getElem_toArray] at hk
            simp [he] at hk
            omega
          have h3 : x ≤ ys[m - 1]'(by omega) := by
            obtain ⟨i, hi, rfl⟩ := List.getElem_of_mem hx
            rw [List.length_take] at hi
            rw [List.getElem_take]
            by_cases hi2 : i = m - 1
            · subst hi2; exact Int.le_refl _
            · exact List.pairwise_iff_getElem.1 hs i (m - 1) (by omega) (by omega) (by omega)
          have h4 := List.pairwise_iff_getElem.1 hs (m - 1) m (by omega) (by omega) (by omega)
          omega
        refine ⟨List.pairwise_append.2 ⟨i1, by simp, fun a ha b hb => ?_⟩, fun x => ?_⟩
        · obtain rfl : b = ys[m]'(by omega) := by simpa using hb
          exact hne a ((i2 a).1 ha)
        · rw [List.mem_append, List.mem_append, i2]
      · rw [if_neg hk, List.append_nil]
        have hmem : ys[m]'(by omega) ∈ ys.take m := by
          have hk3 : m ≠ 0 ∧ ys[m - 1]'(by omega) = ys[m]'(by omega) := by
            unfold Lib.keeps at hk
            rw [getElem!_pos _ m (by simp; omega), getElem!_pos _ (m - 1) (by simp; omega)] at hk
            simp only [List.getElem_toArray] at hk
            simp at hk
            exact ⟨hk.1, hk.2.symm⟩
          rw [← hk3.2]
          exact List.mem_take_iff_getElem.2 ⟨m - 1, by omega, rfl⟩
        refine ⟨i1, fun x => ?_⟩
        rw [i2, List.mem_append]
        constructor
        · exact Or.inl
        · rintro (h | h)
          · exact h
          · rw [List.mem_singleton] at h; rw [h]; exact hmem
  have := key ys.length (Nat.le_refl _)
  rw [List.take_length] at this
  exact ⟨this.1, fun x => by show x ∈ Lib.compactUpTo ys.toArray ys.length ↔ _; rw [this.2, hp]⟩
theorem fold_ins {l a : List Int} (h : MM.Srt MM.kI a) : MM.Srt MM.kI (l.foldl (fun o x => MM.insI x o) a) ∧ ∀ x, x ∈ l.foldl (fun o x => MM.insI x o) a ↔ x ∈ a ∨ x ∈ l := by
  induction l generalizing a with
  | nil => exact ⟨h, fun x => by simp⟩
  | cons y l ih =>
    obtain ⟨h1, h2⟩ := ih (show MM.Srt MM.kI (MM.insI y a) from MM.ins_srt MM.kI MM.fstI MM.hkI y h)
    refine ⟨h1, fun x => ?_⟩
    rw [List.foldl_cons, h2, MM.mem_insI h, List.mem_cons]
    constructor
    · rintro ((h | h) | h)
      · exact .inl h
      · exact .inr (.inl h)
      · exact .inr (.inr h)
    · rintro (h | h | h)
      · exact .inl (.inl h)
      · exact .inl (.inr h)
      · exact .inr h
/-- What the reference's Span has when the list l is done. -/
def sp (l : List Int) : List Int := l.foldl (fun o x => MM.insI x o) []
theorem sp_srt (l : List Int) : MM.Srt MM.kI (sp l) := (fold_ins List.Pairwise.nil).1
theorem sp_mem (l : List Int) (x : Int) : x ∈ sp l ↔ x ∈ l := by have := (fold_ins (l := l) (a := []) List.Pairwise.nil).2 x; simpa [sp] using this
theorem sp_eq (l : List Int) : sp l = Lib.compact (srtI l) := MM.srtI_ext (sp_srt l) (compact_spec l).1 fun x => by rw [sp_mem, (compact_spec l).2]
theorem sp_len (l : List Int) (h : l.length ≤ 1000000) : (sp l).length ≤ 1000000 := by rw [sp_eq]; exact Nat.le_trans (compact_le _) (by show (l.mergeSort _).length ≤ _; rw [List.length_mergeSort]; exact h)
theorem sp_snoc (l : List Int) (x : Int) : sp (l ++ [x]) = MM.insI x (sp l) := by unfold sp; rw [List.foldl_append]; rfl
end IM
end Go.Proofs.YtejafpbobgkibaaGreat
