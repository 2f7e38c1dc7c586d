/-
  What a statement's reading tells of geneses and summaries that came in. No conditions beyond those that each lemma names.
-/
import Derived.Test.YtkaafbdhgekeeaaGreatMBase
import Derived.Test.YtkaafbdhgekeeaaGreatKG
import Derived.Deep.SlicePairs
import Derived.Deep.Strs
import Derived.ChangeSlices
import Derived.ProofKit
import Derived.OpenShut
import Derived.ChangeOld
namespace Go.Proofs.YtkaafbdhgekeeaaGreat
open Go.ChangeShapes Go.WideShapes Go.ChangeAt Go.RowKit
open MM (Mem Ent Sm)

section
variable {H : Type} {enc : TypeId × Value → H} {W : World} {n : Nat} {x : DataW H × List MemPlace}

theorem cellsM_snoc {xs : List Mem} {e : Mem} {j : Nat} {u : Value} (h : (cellsOf encM (xs ++ [e]))[j]? = some u) :
    (cellsOf encM xs)[j]? = some u ∨ (j = xs.length * 2 ∧ u = .int .i64 e.1) ∨ (j = xs.length * 2 + 1 ∧ u = .int .i64 e.2) := by
  have hL := cellsOf_length (enc := encM) hlM.2 xs
  rw [cellsOf_append] at h
  rcases Nat.lt_or_ge j (cellsOf encM xs).length with hl | hl
  · rw [List.getElem?_append_left hl] at h
    exact .inl h
  · rw [List.getElem?_append_right hl, hL] at h
    rw [hL] at hl
    obtain ⟨d, rfl⟩ : ∃ d, j = xs.length * 2 + d := ⟨j - xs.length * 2, by omega⟩
    rw [Nat.add_sub_cancel_left] at h
    match d, h with
    | 0, h => exact .inr (.inl ⟨by omega, by simpa [cellsOf, encM] using h.symm⟩)
    | 1, h => exact .inr (.inr ⟨by omega, by simpa [cellsOf, encM] using h.symm⟩)
    | d + 2, h => simp [cellsOf, encM] at h

theorem rdM_of_trod {v : Value} (hf : DataW.trod enc Tryz.prog W 0 (fun _ => true) true n 22 [v] = some x) : ∃ xs, RdM W v xs := by
  rcases Deep.open_slice_pairs Tryz.underlying22 Tryz.underlying48 (by kernel_rfl) (by kernel_rfl) (by kernel_rfl) (by kernel_rfl) (by kernel_rfl) hf with ⟨hcs, _⟩ | ⟨y, l, c, m, k, V0, V1, D0, D1, P0, P1, hcs, _, hl, hm, hmm, _, hall⟩
  · simp at hcs
    subst hcs
    exact ⟨[], RdG.nil hlM W⟩
  · simp at hcs
    subst hcs
    simp only [if_true] at hmm
    have hbuild : ∀ j, j ≤ l → ∃ xs : List Mem, xs.length = j ∧ ∀ i u, (cellsOf encM xs)[i]? = some u → W.cell? (y.add i) = some u := by
      intro j
      induction j with
      | zero => intro _; exact ⟨[], rfl, fun i u h => by simp [cellsOf] at h⟩
      | succ j ih =>
        intro hj
        obtain ⟨xs, hp, hr⟩ := ih (by omega)
        obtain ⟨k0, k1, t0, t1⟩ := hall j (by omega)
        obtain ⟨a, ha, _, _⟩ := DataW.trod_int Tryz.underlying3 t0
        obtain ⟨b, hb, _, _⟩ := DataW.trod_int Tryz.underlying3 t1
        simp at ha hb
        refine ⟨xs ++ [(a, b)], by simp [hp], fun i u hu => ?_⟩
        rcases cellsM_snoc hu with h | ⟨rfl, rfl⟩ | ⟨rfl, rfl⟩
        · exact hr i u h
        · rw [hp, k0, ha]
        · rw [hp, k1, hb]
    obtain ⟨xs, hp, hr⟩ := hbuild l (Nat.le_refl _)
    exact ⟨xs, some y, c, by rw [hp], by omega, hm, (fun h => by cases h), hlM, fun z hz i u hu => by cases hz; exact hr i u hu⟩

/-- The three cells of a rule. -/
theorem rule_cells {c1 c2 c3 : Value} (h : DataW.trod enc Tryz.prog W 0 (fun _ => true) true n 24 [c1, c2, c3] = some x) : ∃ k c f, c1 = .int .i64 k ∧ c2 = .int .i64 c ∧ c3 = .int .i64 f := by
  have k0 : Tryz.prog.cellsOf 3 = 1 := by kernel_rfl
  obtain ⟨y0, y1, y2, m, _, _, h0, h1, h2⟩ := Deep.trod_struct3 Tryz.underlying24 h
  simp only [k0] at h0 h1 h2
  obtain ⟨k, hk, _⟩ := DataW.trod_int Tryz.underlying3 h0
  obtain ⟨c, hc, _⟩ := DataW.trod_int Tryz.underlying3 h1
  obtain ⟨f, hf, _⟩ := DataW.trod_int Tryz.underlying3 h2
  simp at hk hc hf
  exact ⟨k, c, f, hk, hc, hf⟩
set_option maxRecDepth 100000 in
theorem gen_of_trod {r : Reach} {b0 : Nat} {v : Value} {d : DataW H} {p : List MemPlace} (hv : Value.okWide Tryz.prog W r b0 26 v) (h : DataW.Trod enc Tryz.prog W 0 (fun _ => true) true 26 v d p) :
    ∃ sv k c f ms, v = vw sv k c f ∧ RdM W sv ms := by
  obtain ⟨cs, rfl, hsz⟩ := okWide_struct Tryz.underlying26 hv
  have hC : cs.size = 4 := hsz.trans (by kernel_rfl)
  have k0 : Tryz.prog.cellsOf 22 = 1 := by kernel_rfl
  have k1 : Tryz.prog.cellsOf 24 = 3 := by kernel_rfl
  obtain ⟨l⟩ := cs
  match l, hC with
  | [c0, c1, c2, c3], _ =>
    obtain ⟨fuel, hf⟩ := h
    obtain ⟨y0, y1, m, _, _, h0, h1⟩ := trod_struct2 Tryz.underlying26 hf
    simp only [k0, k1] at h0 h1
    obtain ⟨ms, hms⟩ := rdM_of_trod h0
    obtain ⟨k, c, f, rfl, rfl, rfl⟩ := rule_cells h1
    exact ⟨c0, k, c, f, ms, rfl, hms⟩

set_option maxRecDepth 100000 in
/-- The five cells of an entry. -/
theorem wgt_cells {cs : List Value} (h : DataW.trod enc Tryz.prog W 0 (fun _ => true) true n 62 cs = some x) : ∃ e : Ent, cs = encW e := by
  have k0 : Tryz.prog.cellsOf 3 = 1 := by kernel_rfl
  have k5 : Tryz.prog.cellsOf 62 = 5 := by kernel_rfl
  obtain ⟨xs, m, _, _, hl, hlen, hf⟩ := DataW.trod_struct Tryz.underlying62 h
  rw [k5] at hl
  match xs, hlen, cs, hl with
  | [y0, y1, y2, y3, y4], _, [c0, c1, c2, c3, c4], _ =>
    have g0 := hf 0 _ rfl
    have g1 := hf 1 _ rfl
    have g2 := hf 2 _ rfl
    have g3 := hf 3 _ rfl
    have g4 := hf 4 _ rfl
    simp [k0] at g0 g1 g2 g3 g4
    obtain ⟨a0, e0, _⟩ := DataW.trod_int Tryz.underlying3 g0
    obtain ⟨a1, e1, _⟩ := DataW.trod_int Tryz.underlying3 g1
    obtain ⟨a2, e2, _⟩ := DataW.trod_int Tryz.underlying3 g2
    obtain ⟨a3, e3, _⟩ := DataW.trod_int Tryz.underlying3 g3
    obtain ⟨a4, e4, _⟩ := DataW.trod_int Tryz.underlying3 g4
    simp at e0 e1 e2 e3 e4
    exact ⟨(a0, a1, a2, a3, a4), by rw [e0, e1, e2, e3, e4]; rfl⟩
set_option maxRecDepth 100000 in
theorem cellsW_snoc {xs : List Ent} {e : Ent} {j : Nat} {u : Value} (h : (cellsOf encW (xs ++ [e]))[j]? = some u) :
    (cellsOf encW xs)[j]? = some u ∨ ∃ d, d < 5 ∧ j = xs.length * 5 + d ∧ (encW e)[d]? = some u := by
  have hL := cellsOf_length (enc := encW) hlW.2 xs
  rw [cellsOf_append] at h
  rcases Nat.lt_or_ge j (cellsOf encW xs).length with hl | hl
  · rw [List.getElem?_append_left hl] at h
    exact .inl h
  · rw [List.getElem?_append_right hl, hL] at h
    rw [hL] at hl
    have e1 : cellsOf encW [e] = encW e := by simp [cellsOf]
    rw [e1] at h
    have hd : j - xs.length * 5 < 5 := by
      have := (List.getElem?_eq_some_iff.1 h).1
      rw [hlW.2 e] at this; exact this
    exact .inr ⟨_, hd, by omega, h⟩
set_option maxRecDepth 100000 in
theorem rdW_of_trod {v : Value} (hf : DataW.trod enc Tryz.prog W 0 (fun _ => true) true n 35 [v] = some x) : ∃ xs, RdW W v xs := by
  have k5 : Tryz.prog.cellsOf 62 = 5 := by kernel_rfl
  rcases Deep.open_slice Tryz.underlying35 hf with ⟨hcs, _⟩ | ⟨y, l, c, m, k, D, P, hcs, _, hl, hm, hmm, _, hall⟩
  · simp at hcs
    subst hcs
    exact ⟨[], RdG.nil hlW W⟩
  · simp at hcs
    subst hcs
    simp only [if_true] at hmm
    have hbuild : ∀ j, j ≤ l → ∃ xs : List Ent, xs.length = j ∧ ∀ i u, (cellsOf encW xs)[i]? = some u → W.cell? (y.add i) = some u := by
      intro j
      induction j with
      | zero => intro _; exact ⟨[], rfl, fun i u h => by simp [cellsOf] at h⟩
      | succ j ih =>
        intro hj
        obtain ⟨xs, hp, hr⟩ := ih (by omega)
        obtain ⟨cs', t0, t1⟩ := hall j (by omega)
        rw [k5] at t0
        obtain ⟨_, hlen, hcell⟩ := World.cells?_some t0
        obtain ⟨e, rfl⟩ := wgt_cells t1
        refine ⟨xs ++ [e], by simp [hp], fun i u hu => ?_⟩
        rcases cellsW_snoc hu with h | ⟨d, hd, rfl, h⟩
        · exact hr i u h
        · have := hcell d hd
          rw [Deep.add_add] at this
          rw [hp, this, h]
    obtain ⟨xs, hp, hr⟩ := hbuild l (Nat.le_refl _)
    exact ⟨xs, some y, c, by rw [hp], by omega, hm, (fun h => by cases h), hlW, fun z hz i u hu => by cases hz; exact hr i u hu⟩
set_option maxRecDepth 100000 in
theorem sum_of_trod {r : Reach} {b0 : Nat} {v : Value} {d : DataW H} {p : List MemPlace} (hv : Value.okWide Tryz.prog W r b0 37 v) (h : DataW.Trod enc Tryz.prog W 0 (fun _ => true) true 37 v d p) :
    ∃ (u : Value) (s : Sm), v = u ∧ RdS W u s := by
  obtain ⟨cs, rfl, hsz⟩ := okWide_struct Tryz.underlying37 hv
  have hC : cs.size = 9 := hsz.trans (by kernel_rfl)
  have k0 : Tryz.prog.cellsOf 3 = 1 := by kernel_rfl
  have k1 : Tryz.prog.cellsOf 34 = 1 := by kernel_rfl
  have k2 : Tryz.prog.cellsOf 35 = 1 := by kernel_rfl
  have k3 : Tryz.prog.cellsOf 24 = 3 := by kernel_rfl
  have k9 : Tryz.prog.cellsOf 37 = 9 := by kernel_rfl
  obtain ⟨l⟩ := cs
  obtain ⟨fuel, hf⟩ := h
  obtain ⟨xs, m, _, _, hl, hlen, hg⟩ := DataW.trod_struct Tryz.underlying37 hf
  match xs, hlen, l, hC with
  | [y0, y1, y2, y3, y4, y5, y6], _, [c0, c1, c2, c3, c4, c5, c6, c7, c8], _ =>
    have g0 := hg 0 _ rfl
    have g1 := hg 1 _ rfl
    have g2 := hg 2 _ rfl
    have g3 := hg 3 _ rfl
    have g4 := hg 4 _ rfl
    have g5 := hg 5 _ rfl
    have g6 := hg 6 _ rfl
    simp [k0, k1, k2, k3, Value.cells] at g0 g1 g2 g3 g4 g5 g6
    obtain ⟨J, hJ⟩ := rdI_of_trod g0
    obtain ⟨R, hR⟩ := rdI_of_trod g1
    obtain ⟨Wt, hW⟩ := rdW_of_trod g2
    obtain ⟨k, c, f, rfl, rfl, rfl⟩ := rule_cells g3
    obtain ⟨v, e4, _⟩ := DataW.trod_int Tryz.underlying3 g4
    obtain ⟨a, e5, _⟩ := DataW.trod_int Tryz.underlying3 g5
    obtain ⟨n, e6, _⟩ := DataW.trod_int Tryz.underlying3 g6
    simp at e4 e5 e6
    subst e4 e5 e6
    exact ⟨_, ⟨J, R, Wt, k, c, f, v, a, n⟩, rfl, c0, c1, c2, rfl, hJ, hR, hW⟩
end

end Go.Proofs.YtkaafbdhgekeeaaGreat
