/-
  What a statement's reading tells of states, lists of updates and vectors that came in. No conditions beyond those that each lemma names.
-/
import Derived.Deep.SlicePairs
import Derived.Test.YtdfablboenfblaaDoorQUOpen
import Derived.Test.YtdfablboenfblaaDoorQSPart
import Derived.Test.YtdfablboenfblaaDoorQSM1
namespace Go.Proofs.YtdfablboenfblaaDoor.ST
set_option maxRecDepth 100000
open Go.ChangeShapes Go.WideShapes Go.ChangeAt Go.RowKit
open UM (Ef)
open SM (Fp)
open VM (Ent)

/-- The effects' fields are what the model allows. -/
def FitE (fs : List Fp) : Prop := ∀ f ∈ fs, ∀ e ∈ f.2.2.2, EfFit e
theorem FitE.n {fs : List Fp} (h : FitE fs) : FitN fs := fun f hf e he => ⟨(h f hf e he).2.1, (h f hf e he).2.2.1⟩
theorem FitE.i {fs : List Fp} (h : FitE fs) : SM.Fit fs := fun f hf e he => (h f hf e he).1

section
variable {H : Type} {enc : TypeId × Value → H} {W : World} {n : Nat} {x : DataW H × List MemPlace}

/-- The four cells of an update. -/
theorem upd_cells {cs : List Value} (h : DataW.trod enc Tryd.prog W 0 (fun _ => true) true n 43 cs = some x) : ∃ (q : Up) (f : Fp), cs = encUp q ∧ Tell1 W q f ∧ ∀ e ∈ f.2.2.2, EfFit e := by
  have k0 : Tryd.prog.cellsOf 3 = 1 := by kernel_rfl
  have k1 : Tryd.prog.cellsOf 41 = 1 := by kernel_rfl
  have k4 : Tryd.prog.cellsOf 43 = 4 := by kernel_rfl
  obtain ⟨xs, m, _, _, hl, hlen, hf⟩ := DataW.trod_struct Tryd.underlying43 h
  rw [k4] at hl
  match xs, hlen, cs, hl with
  | [y0, y1, y2, y3], _, [c0, c1, c2, c3], _ =>
    have g0 := hf 0 _ rfl
    have g1 := hf 1 _ rfl
    have g2 := hf 2 _ rfl
    have g3 := hf 3 _ rfl
    simp [k0, k1] at g0 g1 g2 g3
    obtain ⟨a, ha, _⟩ := DataW.trod_int Tryd.underlying3 g0
    obtain ⟨b, hb, _⟩ := DataW.trod_int Tryd.underlying3 g1
    obtain ⟨c, hc, _⟩ := DataW.trod_int Tryd.underlying3 g2
    obtain ⟨es, he, hfit⟩ := rdEf_of_trod g3
    simp at ha hb hc
    obtain ⟨sa, sc, hsv, _, _⟩ := he.shape
    rw [hsv] at he
    exact ⟨(a, b, c, sa, es.length, sc), (a, b, c, es), by rw [ha, hb, hc, hsv]; rfl, ⟨rfl, rfl, rfl, he⟩, hfit⟩
theorem cellsU_snoc {xs : List Up} {e : Up} {j : Nat} {u : Value} (h : (cellsOf encUp (xs ++ [e]))[j]? = some u) :
    (cellsOf encUp xs)[j]? = some u ∨ ∃ d, d < 4 ∧ j = xs.length * 4 + d ∧ (encUp e)[d]? = some u := by
  have hL := cellsOf_length (enc := encUp) hlUp.2 xs
  rw [cellsOf_append] at h
  rcases Nat.lt_or_ge j (cellsOf encUp xs).length with hl | hl
  · rw [List.getElem?_append_left hl] at h
    exact .inl h
  · rw [List.getElem?_append_right hl, hL] at h
    rw [hL] at hl
    have e1 : cellsOf encUp [e] = encUp e := by simp [cellsOf]
    rw [e1] at h
    have hd : j - xs.length * 4 < 4 := by
      have := (List.getElem?_eq_some_iff.1 h).1
      rw [hlUp.2 e] at this; exact this
    exact .inr ⟨_, hd, by omega, h⟩

/-- What came in as a list of updates: what it holds, and that the effects' fields are what the model allows. -/
theorem rdF_of_trod {v : Value} (hf : DataW.trod enc Tryd.prog W 0 (fun _ => true) true n 23 [v] = some x) : ∃ fs, RdF W v fs ∧ FitE fs := by
  have k4 : Tryd.prog.cellsOf 43 = 4 := by kernel_rfl
  rcases Deep.open_slice Tryd.underlying23 hf with ⟨hcs, _⟩ | ⟨y, l, c, m, k, D, P, hcs, _, hl, hm, hmm, _, hall⟩
  · simp at hcs
    subst hcs
    exact ⟨[], RdF.nil W, fun f hf => by cases hf⟩
  · simp at hcs
    subst hcs
    simp only [if_true] at hmm
    have hbuild : ∀ j, j ≤ l → ∃ (qs : List Up) (fs : List Fp), qs.length = j ∧ Tel W qs fs ∧ FitE fs ∧ ∀ i u, (cellsOf encUp qs)[i]? = some u → W.cell? (y.add i) = some u := by
      intro j
      induction j with
      | zero => intro _; exact ⟨[], [], rfl, trivial, (fun f hf => by cases hf), fun i u h => by simp [cellsOf] at h⟩
      | succ j ih =>
        intro hj
        obtain ⟨qs, fs, hp, ht, hfit, hr⟩ := ih (by omega)
        obtain ⟨cs', t0, t1⟩ := hall j (by omega)
        rw [k4] at t0
        obtain ⟨_, hlen, hcell⟩ := World.cells?_some t0
        obtain ⟨q, f, rfl, htell, hff⟩ := upd_cells t1
        refine ⟨qs ++ [q], fs ++ [f], by simp [hp], Tel.app ht (Tel.one htell), fun z hz => ?_, fun i u hu => ?_⟩
        · rcases List.mem_append.1 hz with h | h
          · exact hfit z h
          · rw [List.mem_singleton] at h
            subst h
            exact hff
        rcases cellsU_snoc hu with h | ⟨d, hd, rfl, h⟩
        · exact hr i u h
        · have := hcell d hd
          rw [Deep.add_add] at this
          rw [hp, this, h]
    obtain ⟨qs, fs, hp, ht, hfit, hr⟩ := hbuild l (Nat.le_refl _)
    exact ⟨fs, ⟨qs, ⟨some y, c, by rw [hp], by omega, hm, (fun h => by cases h), hlUp, fun z hz i u hu => by cases hz; exact hr i u hu⟩, ht⟩, hfit⟩

/-- What came in as a list of updates: what it holds, and that the effects' fields are what the model allows. -/
theorem rdL_of_trod {v : Value} (hf : DataW.trod enc Tryd.prog W 0 (fun _ => true) true n 22 [v] = some x) : ∃ fs, RdF W v fs ∧ FitE fs := by
  have k4 : Tryd.prog.cellsOf 43 = 4 := by kernel_rfl
  rcases Deep.open_slice Tryd.underlying22 hf with ⟨hcs, _⟩ | ⟨y, l, c, m, k, D, P, hcs, _, hl, hm, hmm, _, hall⟩
  · simp at hcs
    subst hcs
    exact ⟨[], RdF.nil W, fun f hf => by cases hf⟩
  · simp at hcs
    subst hcs
    simp only [if_true] at hmm
    have hbuild : ∀ j, j ≤ l → ∃ (qs : List Up) (fs : List Fp), qs.length = j ∧ Tel W qs fs ∧ FitE fs ∧ ∀ i u, (cellsOf encUp qs)[i]? = some u → W.cell? (y.add i) = some u := by
      intro j
      induction j with
      | zero => intro _; exact ⟨[], [], rfl, trivial, (fun f hf => by cases hf), fun i u h => by simp [cellsOf] at h⟩
      | succ j ih =>
        intro hj
        obtain ⟨qs, fs, hp, ht, hfit, hr⟩ := ih (by omega)
        obtain ⟨cs', t0, t1⟩ := hall j (by omega)
        rw [k4] at t0
        obtain ⟨_, hlen, hcell⟩ := World.cells?_some t0
        obtain ⟨q, f, rfl, htell, hff⟩ := upd_cells t1
        refine ⟨qs ++ [q], fs ++ [f], by simp [hp], Tel.app ht (Tel.one htell), fun z hz => ?_, fun i u hu => ?_⟩
        · rcases List.mem_append.1 hz with h | h
          · exact hfit z h
          · rw [List.mem_singleton] at h
            subst h
            exact hff
        rcases cellsU_snoc hu with h | ⟨d, hd, rfl, h⟩
        · exact hr i u h
        · have := hcell d hd
          rw [Deep.add_add] at this
          rw [hp, this, h]
    obtain ⟨qs, fs, hp, ht, hfit, hr⟩ := hbuild l (Nat.le_refl _)
    exact ⟨fs, ⟨qs, ⟨some y, c, by rw [hp], by omega, hm, (fun h => by cases h), hlUp, fun z hz i u hu => by cases hz; exact hr i u hu⟩, ht⟩, hfit⟩

set_option maxRecDepth 100000 in
theorem ents_snoc_get {xs : List Ent} {e : Ent} {j : Nat} {u : Value} (h : (VX.ents (xs ++ [e]))[j]? = some u) :
    (VX.ents xs)[j]? = some u ∨ (j = xs.length * 2 ∧ u = .int .i64 e.1) ∨ (j = xs.length * 2 + 1 ∧ u = .int .i64 e.2) := by
  rw [VX.ents_append] at h
  rcases Nat.lt_or_ge j (VX.ents xs).length with hl | hl
  · rw [List.getElem?_append_left hl] at h
    exact .inl h
  · rw [List.getElem?_append_right hl, VX.ents_length] at h
    rw [VX.ents_length] at hl
    obtain ⟨d, rfl⟩ : ∃ d, j = xs.length * 2 + d := ⟨j - xs.length * 2, by omega⟩
    rw [Nat.add_sub_cancel_left] at h
    match d, h with
    | 0, h => exact .inr (.inl ⟨by omega, by simpa [VX.ents] using h.symm⟩)
    | 1, h => exact .inr (.inr ⟨by omega, by simpa [VX.ents] using h.symm⟩)
    | d + 2, h => simp [VX.ents] at h
set_option maxRecDepth 100000 in
theorem rdV_of_trod {v : Value} (hf : DataW.trod enc Tryd.prog W 0 (fun _ => true) true n 32 [v] = some x) : ∃ xs, VX.RdV W v xs := by
  rcases Deep.open_slice_pairs Tryd.underlying32 Tryd.underlying75 (by kernel_rfl) (by kernel_rfl) (by kernel_rfl) (by kernel_rfl) (by kernel_rfl) hf with ⟨hcs, _⟩ | ⟨y, l, c, m, k, V0, V1, D0, D1, P0, P1, hcs, _, hl, hm, hmm, _, hall⟩
  · simp at hcs
    subst hcs
    exact ⟨[], VX.RdV.nil W⟩
  · simp at hcs
    subst hcs
    simp only [if_true] at hmm
    have hbuild : ∀ j, j ≤ l → ∃ xs : List Ent, xs.length = j ∧ ∀ i u, (VX.ents xs)[i]? = some u → W.cell? (y.add i) = some u := by
      intro j
      induction j with
      | zero => intro _; exact ⟨[], rfl, fun i u h => by simp [VX.ents] at h⟩
      | succ j ih =>
        intro hj
        obtain ⟨xs, hp, hr⟩ := ih (by omega)
        obtain ⟨k0, k1, t0, t1⟩ := hall j (by omega)
        obtain ⟨a, ha, _, _⟩ := DataW.trod_int Tryd.underlying3 t0
        obtain ⟨b, hb, _, _⟩ := DataW.trod_int Tryd.underlying3 t1
        simp at ha hb
        refine ⟨xs ++ [(a, b)], by simp [hp], fun i u hu => ?_⟩
        rcases ents_snoc_get hu with h | ⟨rfl, rfl⟩ | ⟨rfl, rfl⟩
        · exact hr i u h
        · rw [hp, k0, ha]
        · rw [hp, k1, hb]
    obtain ⟨xs, hp, hr⟩ := hbuild l (Nat.le_refl _)
    exact ⟨xs, some y, c, by rw [hp], by omega, hm, (fun h => by cases h), fun z hz i u hu => by cases hz; exact hr i u hu⟩
end

end Go.Proofs.YtdfablboenfblaaDoor.ST
