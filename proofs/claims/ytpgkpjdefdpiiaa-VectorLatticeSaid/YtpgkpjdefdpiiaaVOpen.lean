/-
  What a statement's reading tells of vectors and of integers that came in. No conditions beyond those that each lemma names.
-/
import Derived.Test.YtpgkpjdefdpiiaaVec
import Derived.Deep.SlicePairs
import Derived.ProofKit
import Derived.OpenShut
import Derived.ChangeOld
namespace Go.Proofs.Ytpgkpjdefdpiiaa
open Go.ChangeShapes Go.WideShapes Go.ChangeAt Go.RowKit
open VM (Ent)

section
variable {H : Type} {enc : TypeId × Value → H} {W : World} {n : Nat} {x : DataW H × List MemPlace}

theorem ents_snoc_get {xs : List Ent} {e : Ent} {j : Nat} {u : Value} (h : (ents (xs ++ [e]))[j]? = some u) :
    (ents xs)[j]? = some u ∨ (j = xs.length * 2 ∧ u = .int .i64 e.1) ∨ (j = xs.length * 2 + 1 ∧ u = .int .i64 e.2) := by
  rw [ents_append] at h
  rcases Nat.lt_or_ge j (ents xs).length with hl | hl
  · rw [List.getElem?_append_left hl] at h
    exact .inl h
  · rw [List.getElem?_append_right hl, ents_length] at h
    rw [ents_length] at hl
    obtain ⟨d, rfl⟩ : ∃ d, j = xs.length * 2 + d := ⟨j - xs.length * 2, by omega⟩
    rw [Nat.add_sub_cancel_left] at h
    match d, h with
    | 0, h => exact .inr (.inl ⟨by omega, by simpa [ents] using h.symm⟩)
    | 1, h => exact .inr (.inr ⟨by omega, by simpa [ents] using h.symm⟩)
    | d + 2, h => simp [ents] at h

theorem rdV_of_trod {v : Value} (hf : DataW.trod enc Try.prog W 0 (fun _ => true) true n 23 [v] = some x) : ∃ xs, RdV W v xs := by
  rcases Deep.open_slice_pairs Try.underlying23 Try.underlying40 (by kernel_rfl) (by kernel_rfl) (by kernel_rfl) (by kernel_rfl) (by kernel_rfl) hf with ⟨hcs, _⟩ | ⟨y, l, c, m, k, V0, V1, D0, D1, P0, P1, hcs, _, hl, hm, hmm, _, hall⟩
  · simp at hcs
    subst hcs
    exact ⟨[], RdV.nil W⟩
  · simp at hcs
    subst hcs
    simp only [if_true] at hmm
    have hbuild : ∀ j, j ≤ l → ∃ xs : List Ent, xs.length = j ∧ ∀ i u, (ents xs)[i]? = some u → W.cell? (y.add i) = some u := by
      intro j
      induction j with
      | zero => intro _; exact ⟨[], rfl, fun i u h => by simp [ents] at h⟩
      | succ j ih =>
        intro hj
        obtain ⟨xs, hp, hr⟩ := ih (by omega)
        obtain ⟨k0, k1, t0, t1⟩ := hall j (by omega)
        obtain ⟨a, ha, _, _⟩ := DataW.trod_int Try.underlying3 t0
        obtain ⟨b, hb, _, _⟩ := DataW.trod_int Try.underlying3 t1
        simp at ha hb
        refine ⟨xs ++ [(a, b)], by simp [hp], fun i u hu => ?_⟩
        rcases ents_snoc_get hu with h | ⟨rfl, rfl⟩ | ⟨rfl, rfl⟩
        · exact hr i u h
        · rw [hp, k0, ha]
        · rw [hp, k1, hb]
    obtain ⟨xs, hp, hr⟩ := hbuild l (Nat.le_refl _)
    exact ⟨xs, some y, c, by rw [hp], by omega, hm, (fun h => by cases h), fun z hz i u hu => by cases hz; exact hr i u hu⟩

theorem int_of_trod {r : Reach} {b0 : Nat} {v : Value} {d : DataW H} {p : List MemPlace} (hv : Value.okWide Try.prog W r b0 3 v) (_ : DataW.Trod enc Try.prog W 0 (fun _ => true) true 3 v d p) : ∃ k, v = .int .i64 k ∧ True := by
  obtain ⟨k, hk⟩ := okWide_int Try.underlying3 hv
  exact ⟨k, hk, trivial⟩
end

end Go.Proofs.Ytpgkpjdefdpiiaa
