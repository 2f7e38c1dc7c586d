/-
  What a statement's reading tells of geneses and summaries that came in. No conditions beyond those that each lemma names.
-/
import Derived.Test.YthfpafnljnnndaaGreatSMBase
import Derived.Test.YthfpafnljnnndaaGreatSKG
import Derived.Deep.SlicePairs
import Derived.Deep.Strs
import Derived.ChangeSlices
import Derived.ProofKit
import Derived.OpenShut
import Derived.ChangeOld
namespace Go.Proofs.YthfpafnljnnndaaGreat
open Go.ChangeShapes Go.WideShapes Go.ChangeAt Go.RowKit
open MM (Mem Ent Sm)

section
variable {H : Type} {enc : TypeId × Value → H} {W : World} {n : Nat} {x : DataW H × List MemPlace}

theorem cellsM_snoc {xs : List Mem} {e : Mem} {j : Nat} {u : Value} (h : (cellsOf encM (xs ++ [e]))[j]? = some u) :
    (cellsOf encM xs)[j]? = some u ∨ (j = xs.length * 2 ∧ u = .int .i64 e.1) ∨ (j = xs.length * 2 + 1 ∧ u = .int .i64 e.2) := by
  have hL := cellsOf_length (enc := encM) hlM.2 xs
  rw [cellsOf_append] at h
  rcases Nat.lt_or_ge j (cellsOf encM xs).length with hl | hl
  · rw [List.getElem?_append_left hl] at h
    exact .inl h
  · rw [List.getElem?_append_right hl, hL] at h
    rw [hL] at hl
    obtain ⟨d, rfl⟩ : ∃ d, j = xs.length * 2 + d := ⟨j - xs.length * 2, by omega⟩
    rw [Nat.add_sub_cancel_left] at h
    match d, h with
    | 0, h => exact .inr (.inl ⟨by omega, by simpa [cellsOf, encM] using h.symm⟩)
    | 1, h => exact .inr (.inr ⟨by omega, by simpa [cellsOf, encM] using h.symm⟩)
    | d + 2, h => simp [cellsOf, encM] at h

theorem rdM_of_trod {v : Value} (hf : DataW.trod enc Tryz.prog W 0 (fun _ => true) true n 31 [v] = some x) : ∃ xs, RdM W v xs := by
  rcases Deep.open_slice_pairs Tryz.underlying31 Tryz.underlying63 (by kernel_rfl) (by kernel_rfl) (by kernel_rfl) (by kernel_rfl) (by kernel_rfl) hf with ⟨hcs, _⟩ | ⟨y, l, c, m, k, V0, V1, D0, D1, P0, P1, hcs, _, hl, hm, hmm, _, hall⟩
  · simp at hcs
    subst hcs
    exact ⟨[], RdG.nil hlM W⟩
  · simp at hcs
    subst hcs
    simp only [if_true] at hmm
    have hbuild : ∀ j, j ≤ l → ∃ xs : List Mem, xs.length = j ∧ ∀ i u, (cellsOf encM xs)[i]? = some u → W.cell? (y.add i) = some u := by
      intro j
      induction j with
      | zero => intro _; exact ⟨[], rfl, fun i u h => by simp [cellsOf] at h⟩
      | succ j ih =>
        intro hj
        obtain ⟨xs, hp, hr⟩ := ih (by omega)
        obtain ⟨k0, k1, t0, t1⟩ := hall j (by omega)
        obtain ⟨a, ha, _, _⟩ := DataW.trod_int Tryz.underlying3 t0
        obtain ⟨b, hb, _, _⟩ := DataW.trod_int Tryz.underlying3 t1
        simp at ha hb
        refine ⟨xs ++ [(a, b)], by simp [hp], fun i u hu => ?_⟩
        rcases cellsM_snoc hu with h | ⟨rfl, rfl⟩ | ⟨rfl, rfl⟩
        · exact hr i u h
        · rw [hp, k0, ha]
        · rw [hp, k1, hb]
    obtain ⟨xs, hp, hr⟩ := hbuild l (Nat.le_refl _)
    exact ⟨xs, some y, c, by rw [hp], by omega, hm, (fun h => by cases h), hlM, fun z hz i u hu => by cases hz; exact hr i u hu⟩

/-- The three cells of a rule. -/
theorem rule_cells {c1 c2 c3 : Value} (h : DataW.trod enc Tryz.prog W 0 (fun _ => true) true n 33 [c1, c2, c3] = some x) : ∃ k c f, c1 = .int .i64 k ∧ c2 = .int .i64 c ∧ c3 = .int .i64 f := by
  have k0 : Tryz.prog.cellsOf 3 = 1 := by kernel_rfl
  obtain ⟨y0, y1, y2, m, _, _, h0, h1, h2⟩ := Deep.trod_struct3 Tryz.underlying33 h
  simp only [k0] at h0 h1 h2
  obtain ⟨k, hk, _⟩ := DataW.trod_int Tryz.underlying3 h0
  obtain ⟨c, hc, _⟩ := DataW.trod_int Tryz.underlying3 h1
  obtain ⟨f, hf, _⟩ := DataW.trod_int Tryz.underlying3 h2
  simp at hk hc hf
  exact ⟨k, c, f, hk, hc, hf⟩
set_option maxRecDepth 100000 in
theorem gen_of_trod {r : Reach} {b0 : Nat} {v : Value} {d : DataW H} {p : List MemPlace} (hv : Value.okWide Tryz.prog W r b0 35 v) (h : DataW.Trod enc Tryz.prog W 0 (fun _ => true) true 35 v d p) :
    ∃ sv k c f ms, v = vw sv k c f ∧ RdM W sv ms := by
  obtain ⟨cs, rfl, hsz⟩ := okWide_struct Tryz.underlying35 hv
  have hC : cs.size = 4 := hsz.trans (by kernel_rfl)
  have k0 : Tryz.prog.cellsOf 31 = 1 := by kernel_rfl
  have k1 : Tryz.prog.cellsOf 33 = 3 := by kernel_rfl
  obtain ⟨l⟩ := cs
  match l, hC with
  | [c0, c1, c2, c3], _ =>
    obtain ⟨fuel, hf⟩ := h
    obtain ⟨y0, y1, m, _, _, h0, h1⟩ := trod_struct2 Tryz.underlying35 hf
    simp only [k0, k1] at h0 h1
    obtain ⟨ms, hms⟩ := rdM_of_trod h0
    obtain ⟨k, c, f, rfl, rfl, rfl⟩ := rule_cells h1
    exact ⟨c0, k, c, f, ms, rfl, hms⟩

end

end Go.Proofs.YthfpafnljnnndaaGreat
