/-
  What a statement's reading tells of bytes and of lists of payloads that came in: they read as data. No conditions beyond those that each lemma names.
-/
import Derived.Test.YtgpbacddpfbimaaList
import Derived.ProofKit
import Derived.OpenShut
import Derived.ChangeOld
import Derived.Lib.SmallJoins
namespace Go.Proofs.Ytgpbacddpfbimaa
open Go.ChangeShapes Go.WideShapes Go.ChangeAt Go.RowKit Go.Joins

section
variable {H : Type} {enc : TypeId × Value → H} {W : World} {n : Nat} {x : DataW H × List MemPlace}

theorem rd_of_trod {v : Value} (hf : DataW.trod enc Try.prog W 0 (fun _ => true) true n 22 [v] = some x) : ∃ xs, Rd W v xs := by
  rcases open_ints Try.underlying22 Try.underlying5 (by kernel_rfl) hf with ⟨hcs, _⟩ | ⟨y, l, c, zs, hcs, _, hl, hm, hz, _, hcell, hwz⟩
  · simp at hcs
    subst hcs
    exact ⟨[], Rd.nil W⟩
  · simp at hcs
    subst hcs
    exact ⟨zs.take l, rd_row (.inr ⟨_, rfl, hl, hm, by simpa using hz, hcell, hwz⟩)⟩

theorem rdL_of_trod {v : Value} (hf : DataW.trod enc Try.prog W 0 (fun _ => true) true n 39 [v] = some x) : ∃ pss, RdL W v pss := by
  rcases Deep.open_slice1 Try.underlying39 (by kernel_rfl) hf with ⟨hcs, _⟩ | ⟨y, l, c, m, k, V, D, Pl, hcs, _, hl, hm, hmm, _, hall⟩
  · simp at hcs
    subst hcs
    exact ⟨[], none, 0, [], rfl, Nat.le_refl _, Nat.zero_le _, fun _ => ⟨rfl, rfl⟩, (fun _ h => by cases h), .nil⟩
  · simp at hcs
    subst hcs
    simp only [if_true] at hmm
    have hbuild : ∀ j, j ≤ l → ∃ pss, pss.length = j ∧ Rds W ((List.range j).map V) pss := by
      intro j
      induction j with
      | zero => intro _; exact ⟨[], rfl, .nil⟩
      | succ j ih =>
        intro hj
        obtain ⟨pss, hp, hr⟩ := ih (by omega)
        obtain ⟨_, ht⟩ := hall j (by omega)
        obtain ⟨xs, hx⟩ := rd_of_trod ht
        refine ⟨pss ++ [xs], by simp [hp], ?_⟩
        rw [List.range_succ, List.map_append]
        exact hr.snoc hx
    obtain ⟨pss, hp, hr⟩ := hbuild l (Nat.le_refl _)
    refine ⟨pss, some y, c, (List.range l).map V, by rw [hp], by omega, hm, (fun h => by cases h), fun z hz i u hu => ?_, hr⟩
    cases hz
    have hi : i < l := by
      have := (List.getElem?_eq_some_iff.1 hu).1
      simpa using this
    have e : ((List.range l).map V)[i]? = some (V i) := by simp [List.getElem?_range hi]
    rw [e] at hu
    cases hu
    exact (hall i (by omega)).1

theorem split_of_trod {r : Reach} {b0 : Nat} {v : Value} {d : DataW H} {p : List MemPlace} (hv : Value.okWide Try.prog W r b0 38 v) (h : DataW.Trod enc Try.prog W 0 (fun _ => true) true 38 v d p) :
    ∃ vB f bs, v = .agg #[vB, .int .i64 f] ∧ Rd W vB bs := by
  obtain ⟨v0, v1, y0, y1, k, rfl, _, _, h0, h1⟩ := open_agg2 Try.underlying38 (by kernel_rfl) (by kernel_rfl) hv h
  obtain ⟨bs, hb⟩ := rd_of_trod h0
  obtain ⟨f, hf, _, _⟩ := DataW.trod_int Try.underlying29 h1
  simp at hf
  subst hf
  exact ⟨v0, f, bs, rfl, hb⟩
end

end Go.Proofs.Ytgpbacddpfbimaa
