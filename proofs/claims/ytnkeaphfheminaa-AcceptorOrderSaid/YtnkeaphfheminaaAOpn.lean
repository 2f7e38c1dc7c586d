/-
  What a statement's reading tells of vectors, lists of vectors, acceptors that came in. No conditions beyond those that each lemma names.
-/
import Derived.Test.YtnkeaphfheminaaALaw1
import Derived.Test.YtnkeaphfheminaaALaw3
import Derived.Test.YtnkeaphfheminaaALaw4
import Derived.Deep.SlicePairs
import Derived.Deep.Strs
import Derived.ProofKit
import Derived.OpenShut
import Derived.ChangeOld
import Derived.ChangeSlices
import Derived.ChangeSame
import Derived.Lib.SmallJoins
namespace Go.Proofs.Ytnkeaphfheminaa
open Go.ChangeShapes Go.WideShapes Go.ChangeAt Go.RowKit Go.Joins
open VM (Ent)

section
variable {H : Type} {enc : TypeId × Value → H} {W : World} {n : Nat} {x : DataW H × List MemPlace}

theorem ents_snoc_get {xs : List Ent} {e : Ent} {j : Nat} {u : Value} (h : (VX.ents (xs ++ [e]))[j]? = some u) :
    (VX.ents xs)[j]? = some u ∨ (j = xs.length * 2 ∧ u = .int .i64 e.1) ∨ (j = xs.length * 2 + 1 ∧ u = .int .i64 e.2) := by
  rw [VX.ents_append] at h
  rcases Nat.lt_or_ge j (VX.ents xs).length with hl | hl
  · rw [List.getElem?_append_left hl] at h
    exact .inl h
  · rw [List.getElem?_append_right hl, VX.ents_length] at h
    rw [VX.ents_length] at hl
    obtain ⟨d, rfl⟩ : ∃ d, j = xs.length * 2 + d := ⟨j - xs.length * 2, by omega⟩
    rw [Nat.add_sub_cancel_left] at h
    match d, h with
    | 0, h => exact .inr (.inl ⟨by omega, by simpa [VX.ents] using h.symm⟩)
    | 1, h => exact .inr (.inr ⟨by omega, by simpa [VX.ents] using h.symm⟩)
    | d + 2, h => simp [VX.ents] at h

theorem rdV_of_trod {v : Value} (hf : DataW.trod enc Try.prog W 0 (fun _ => true) true n 23 [v] = some x) : ∃ xs, VX.RdV W v xs := by
  rcases Deep.open_slice_pairs Try.underlying23 Try.underlying41 (by kernel_rfl) (by kernel_rfl) (by kernel_rfl) (by kernel_rfl) (by kernel_rfl) hf with ⟨hcs, _⟩ | ⟨y, l, c, m, k, V0, V1, D0, D1, P0, P1, hcs, _, hl, hm, hmm, _, hall⟩
  · simp at hcs
    subst hcs
    exact ⟨[], VX.RdV.nil W⟩
  · simp at hcs
    subst hcs
    simp only [if_true] at hmm
    have hbuild : ∀ j, j ≤ l → ∃ xs : List Ent, xs.length = j ∧ ∀ i u, (VX.ents xs)[i]? = some u → W.cell? (y.add i) = some u := by
      intro j
      induction j with
      | zero => intro _; exact ⟨[], rfl, fun i u h => by simp [VX.ents] at h⟩
      | succ j ih =>
        intro hj
        obtain ⟨xs, hp, hr⟩ := ih (by omega)
        obtain ⟨k0, k1, t0, t1⟩ := hall j (by omega)
        obtain ⟨a, ha, _, _⟩ := DataW.trod_int Try.underlying3 t0
        obtain ⟨b, hb, _, _⟩ := DataW.trod_int Try.underlying3 t1
        simp at ha hb
        refine ⟨xs ++ [(a, b)], by simp [hp], fun i u hu => ?_⟩
        rcases ents_snoc_get hu with h | ⟨rfl, rfl⟩ | ⟨rfl, rfl⟩
        · exact hr i u h
        · rw [hp, k0, ha]
        · rw [hp, k1, hb]
    obtain ⟨xs, hp, hr⟩ := hbuild l (Nat.le_refl _)
    exact ⟨xs, some y, c, by rw [hp], by omega, hm, (fun h => by cases h), fun z hz i u hu => by cases hz; exact hr i u hu⟩

theorem rdVs_of_trod {v : Value} (hf : DataW.trod enc Try.prog W 0 (fun _ => true) true n 27 [v] = some x) : ∃ ls, RdVs W v ls := by
  rcases Deep.open_slice1 Try.underlying27 (by kernel_rfl) hf with ⟨hcs, _⟩ | ⟨y, l, c, m, k, V, D, Pl, hcs, _, hl, hm, hmm, _, hall⟩
  · simp at hcs
    subst hcs
    exact ⟨[], RdVs.nil W⟩
  · simp at hcs
    subst hcs
    simp only [if_true] at hmm
    have hbuild : ∀ j, j ≤ l → ∃ ps : List (SV × List Ent), ps.length = j ∧ (∀ p ∈ ps, VX.RdV W (svV p.1) p.2) ∧ ∀ i u, (cellsOf encV ps)[i]? = some u → W.cell? (y.add i) = some u := by
      intro j
      induction j with
      | zero => intro _; exact ⟨[], rfl, (fun _ h => by cases h), fun i u h => by simp [cellsOf] at h⟩
      | succ j ih =>
        intro hj
        obtain ⟨ps, hp, ht, hr⟩ := ih (by omega)
        obtain ⟨hc, t1⟩ := hall j (by omega)
        obtain ⟨xs, hx⟩ := rdV_of_trod t1
        obtain ⟨a, cp, he, _⟩ := hx.shape
        refine ⟨ps ++ [((a, xs.length, cp), xs)], by simp [hp], fun p hq => ?_, fun i u hu => ?_⟩
        · rcases List.mem_append.1 hq with h | h
          · exact ht p h
          · rw [List.mem_singleton] at h
            subst h
            rw [he] at hx
            exact hx
        · rw [cellsOf_append] at hu
          have hln : (cellsOf encV ps).length = j := by rw [cellsOf_length hlV.2, hp, Nat.mul_one]
          rcases Nat.lt_or_ge i (cellsOf encV ps).length with hlt | hge
          · rw [List.getElem?_append_left hlt] at hu
            exact hr i u hu
          · rw [List.getElem?_append_right hge, hln] at hu
            have : i - j = 0 := by
              have := (List.getElem?_eq_some_iff.1 hu).1
              simp [cellsOf, encV] at this
              omega
            rw [this] at hu
            simp [cellsOf, encV] at hu
            have hi : i = j := by omega
            rw [hi, hc, he, ← hu]
            rfl
    obtain ⟨ps, hp, ht, hr⟩ := hbuild l (Nat.le_refl _)
    exact ⟨ps.map (·.2), ps, ⟨some y, c, by rw [hp], by omega, hm, (fun h => by cases h), hlV, fun z hz i u hu => by cases hz; exact hr i u hu⟩, ht, rfl⟩

theorem acc_of_trod {r : Reach} {b0 : Nat} {v : Value} {d : DataW H} {p : List MemPlace} (hv : Value.okWide Try.prog W r b0 25 v) (h : DataW.Trod enc Try.prog W 0 (fun _ => true) true 25 v d p) :
    ∃ a f, v = acv a ∧ VX.RdV W a f := by
  obtain ⟨cs, rfl, hsz⟩ := okWide_struct Try.underlying25 hv
  have hC : cs.size = 1 := hsz.trans (by kernel_rfl)
  have k1 : Try.prog.cellsOf 23 = 1 := by kernel_rfl
  obtain ⟨l⟩ := cs
  match l, hC with
  | [c0], _ =>
    obtain ⟨fuel, hf⟩ := h
    obtain ⟨y0, m, _, _, h0⟩ := Go.ChangeShapes.trod_struct1 Try.underlying25 hf
    simp only [k1] at h0
    obtain ⟨f, hf'⟩ := rdV_of_trod h0
    exact ⟨c0, f, rfl, hf'⟩
end
end Go.Proofs.Ytnkeaphfheminaa
