/-
  What a statement's reading tells of configurations, vectors, changes, proposals, bytes, lists of integers and integers that came in. No conditions beyond those that each lemma names.
-/
import Derived.Test.YtacbpphhkkmelaaCBase
import Derived.SizedLaws
import Derived.Deep.SlicePairs
import Derived.Deep.Strs
import Derived.ChangeSlices
import Derived.ProofKit
import Derived.OpenShut
import Derived.ChangeOld
namespace Go.Proofs.Ytacbpphhkkmelaa
open Go.ChangeShapes Go.WideShapes Go.ChangeAt Go.RowKit
open JM (Chg)
open CM (Fp)
open VM (Ent)

section
variable {H : Type} {enc : TypeId × Value → H} {W : World} {n : Nat} {x : DataW H × List MemPlace}

set_option maxRecDepth 100000 in
theorem rd_of_trod {v : Value} (hf : DataW.trod enc Try.prog W 0 (fun _ => true) true n 54 [v] = some x) : ∃ xs, Rd W v xs := by
  rcases open_ints Try.underlying54 Try.underlying5 (by kernel_rfl) hf with ⟨hcs, _⟩ | ⟨y, l, c, zs, hcs, _, hl, hm, hz, _, hcell, hwz⟩
  · simp at hcs
    subst hcs
    exact ⟨[], Rd.nil W⟩
  · simp at hcs
    subst hcs
    exact ⟨zs.take l, rd_row (.inr ⟨_, rfl, hl, hm, by simpa using hz, hcell, hwz⟩)⟩

set_option maxRecDepth 100000 in
theorem rdI_of_trod {v : Value} (hf : DataW.trod enc Try.prog W 0 (fun _ => true) true n 36 [v] = some x) : ∃ xs, RdI W v xs := by
  rcases open_ints Try.underlying36 Try.underlying3 (by kernel_rfl) hf with ⟨hcs, _⟩ | ⟨y, l, c, zs, hcs, _, hl, hm, hz, _, hcell, hwz⟩
  · simp at hcs
    subst hcs
    exact ⟨[], RdG.nil hlI W⟩
  · simp at hcs
    subst hcs
    simp only [if_true] at hz
    have hlen : (zs.take l).length = l := by rw [List.length_take, hz]; omega
    refine ⟨zs.take l, some y, c, by rw [hlen], by omega, hm, (fun h => by cases h), hlI, fun z hz' i u hu => ?_⟩
    cases hz'
    have e : cellsOf encI (zs.take l) = (zs.take l).map (Value.int .i64) := by
      unfold cellsOf encI
      induction (zs.take l) with
      | nil => rfl
      | cons q l ih => rw [List.flatMap_cons, ih]; rfl
    rw [e, List.getElem?_map, List.getElem?_take] at hu
    split at hu
    · rename_i hil
      have hi : i < zs.length := by omega
      rw [List.getElem?_eq_getElem hi] at hu
      cases hu
      rw [hcell i hi]
      simp [List.getD, hi]
    · cases hu

set_option maxRecDepth 100000 in
/-- The seven cells of a change. -/
theorem chg_cells {cs : List Value} (h : DataW.trod enc Try.prog W 0 (fun _ => true) true n 63 cs = some x) : ∃ e : Chg, cs = encC e := by
  have k0 : Try.prog.cellsOf 3 = 1 := by kernel_rfl
  have k3 : Try.prog.cellsOf 61 = 3 := by kernel_rfl
  have k7 : Try.prog.cellsOf 63 = 7 := by kernel_rfl
  obtain ⟨xs, m, _, _, hl, hlen, hf⟩ := DataW.trod_struct Try.underlying63 h
  rw [k7] at hl
  match xs, hlen, cs, hl with
  | [y0, y1, y2, y3, y4], _, [c0, c1, c2, c3, c4, c5, c6], _ =>
    have g0 := hf 0 _ rfl
    have g1 := hf 1 _ rfl
    have g2 := hf 2 _ rfl
    have g3 := hf 3 _ rfl
    have g4 := hf 4 _ rfl
    simp [k0, k3] at g0 g1 g2 g3 g4
    obtain ⟨a0, e0, _⟩ := DataW.trod_int Try.underlying3 g0
    obtain ⟨a1, e1, _⟩ := DataW.trod_int Try.underlying3 g1
    obtain ⟨a2, e2, _⟩ := DataW.trod_int Try.underlying3 g2
    obtain ⟨a3, e3, _⟩ := DataW.trod_int Try.underlying3 g3
    obtain ⟨y0, y1, y2, m, _, _, h0, h1, h2⟩ := Deep.trod_struct3 Try.underlying61 g4
    simp only [k0] at h0 h1 h2
    obtain ⟨a4, e4, _⟩ := DataW.trod_int Try.underlying3 h0
    obtain ⟨a5, e5, _⟩ := DataW.trod_int Try.underlying3 h1
    obtain ⟨a6, e6, _⟩ := DataW.trod_int Try.underlying3 h2
    simp at e0 e1 e2 e3 e4 e5 e6
    exact ⟨(a0, a1, a2, a3, a4, a5, a6), by rw [e0, e1, e2, e3, e4, e5, e6]; rfl⟩

set_option maxRecDepth 100000 in
theorem cellsC_snoc {xs : List Chg} {e : Chg} {j : Nat} {u : Value} (h : (cellsOf encC (xs ++ [e]))[j]? = some u) :
    (cellsOf encC xs)[j]? = some u ∨ ∃ d, d < 7 ∧ j = xs.length * 7 + d ∧ (encC e)[d]? = some u := by
  have hL := cellsOf_length (enc := encC) hlC.2 xs
  rw [cellsOf_append] at h
  rcases Nat.lt_or_ge j (cellsOf encC xs).length with hl | hl
  · rw [List.getElem?_append_left hl] at h
    exact .inl h
  · rw [List.getElem?_append_right hl, hL] at h
    rw [hL] at hl
    have e1 : cellsOf encC [e] = encC e := by simp [cellsOf]
    rw [e1] at h
    have hd : j - xs.length * 7 < 7 := by
      have := (List.getElem?_eq_some_iff.1 h).1
      rw [hlC.2 e] at this; exact this
    exact .inr ⟨_, hd, by omega, h⟩

set_option maxRecDepth 100000 in
theorem rdC_of_trod {v : Value} (hf : DataW.trod enc Try.prog W 0 (fun _ => true) true n 43 [v] = some x) : ∃ xs, RdC W v xs := by
  have k7 : Try.prog.cellsOf 63 = 7 := by kernel_rfl
  rcases Deep.open_slice Try.underlying43 hf with ⟨hcs, _⟩ | ⟨y, l, c, m, k, D, P, hcs, _, hl, hm, hmm, _, hall⟩
  · simp at hcs
    subst hcs
    exact ⟨[], RdG.nil hlC W⟩
  · simp at hcs
    subst hcs
    simp only [if_true] at hmm
    have hbuild : ∀ j, j ≤ l → ∃ xs : List Chg, xs.length = j ∧ ∀ i u, (cellsOf encC xs)[i]? = some u → W.cell? (y.add i) = some u := by
      intro j
      induction j with
      | zero => intro _; exact ⟨[], rfl, fun i u h => by simp [cellsOf] at h⟩
      | succ j ih =>
        intro hj
        obtain ⟨xs, hp, hr⟩ := ih (by omega)
        obtain ⟨cs', t0, t1⟩ := hall j (by omega)
        rw [k7] at t0
        obtain ⟨_, hlen, hcell⟩ := World.cells?_some t0
        obtain ⟨e, rfl⟩ := chg_cells t1
        refine ⟨xs ++ [e], by simp [hp], fun i u hu => ?_⟩
        rcases cellsC_snoc hu with h | ⟨d, hd, rfl, h⟩
        · exact hr i u h
        · have := hcell d hd
          rw [Deep.add_add] at this
          rw [hp, this, h]
    obtain ⟨xs, hp, hr⟩ := hbuild l (Nat.le_refl _)
    exact ⟨xs, some y, c, by rw [hp], by omega, hm, (fun h => by cases h), hlC, fun z hz i u hu => by cases hz; exact hr i u hu⟩

set_option maxRecDepth 100000 in
theorem chg_of_trod {r : Reach} {b0 : Nat} {v : Value} {d : DataW H} {p : List MemPlace} (hv : Value.okWide Try.prog W r b0 63 v) (h : DataW.Trod enc Try.prog W 0 (fun _ => true) true 63 v d p) :
    ∃ k s t u a b c, v = cv k s t u a b c ∧ True := by
  obtain ⟨cs, rfl, hsz⟩ := okWide_struct Try.underlying63 hv
  have hC : cs.size = 7 := hsz.trans (by kernel_rfl)
  obtain ⟨l⟩ := cs
  match l, hC with
  | [c0, c1, c2, c3, c4, c5, c6], _ =>
    obtain ⟨fuel, hf⟩ := h
    obtain ⟨⟨k, s, t, u, a, b, c⟩, he⟩ := chg_cells hf
    simp only [Value.cells, encC, List.cons.injEq, and_true] at he
    obtain ⟨rfl, rfl, rfl, rfl, rfl, rfl, rfl⟩ := he
    exact ⟨k, s, t, u, a, b, c, rfl, trivial⟩
set_option maxRecDepth 100000 in
theorem pro_of_trod {r : Reach} {b0 : Nat} {v : Value} {d : DataW H} {p : List MemPlace} (hv : Value.okWide Try.prog W r b0 45 v) (h : DataW.Trod enc Try.prog W 0 (fun _ => true) true 45 v d p) :
    ∃ a n sv cs, v = pv a n sv ∧ RdC W sv cs := by
  obtain ⟨cs, rfl, hsz⟩ := okWide_struct Try.underlying45 hv
  have hC : cs.size = 3 := hsz.trans (by kernel_rfl)
  have k0 : Try.prog.cellsOf 3 = 1 := by kernel_rfl
  have k1 : Try.prog.cellsOf 43 = 1 := by kernel_rfl
  obtain ⟨l⟩ := cs
  match l, hC with
  | [c0, c1, c2], _ =>
    obtain ⟨fuel, hf⟩ := h
    obtain ⟨y0, y1, y2, m, _, _, h0, h1, h2⟩ := Deep.trod_struct3 Try.underlying45 hf
    simp only [k0, k1] at h0 h1 h2
    obtain ⟨a, ha, _⟩ := DataW.trod_int Try.underlying3 h0
    obtain ⟨n, hn, _⟩ := DataW.trod_int Try.underlying3 h1
    obtain ⟨cs, hcs⟩ := rdC_of_trod h2
    have ha' : [c0] = [Value.int .i64 a] := ha
    have hn' : [c1] = [Value.int .i64 n] := hn
    injection ha' with ha' _
    injection hn' with hn' _
    exact ⟨a, n, c2, cs, by rw [ha', hn'], hcs⟩
set_option maxRecDepth 100000 in
/-- The three cells of a proposal. -/
theorem pro_cells {cs : List Value} (h : DataW.trod enc Try.prog W 0 (fun _ => true) true n 45 cs = some x) : ∃ (q : Pro) (f : Fp), cs = encQ q ∧ Tell1 W q f := by
  have k0 : Try.prog.cellsOf 3 = 1 := by kernel_rfl
  have k1 : Try.prog.cellsOf 43 = 1 := by kernel_rfl
  have k3 : Try.prog.cellsOf 45 = 3 := by kernel_rfl
  obtain ⟨y0, y1, y2, m, _, hl, h0, h1, h2⟩ := Deep.trod_struct3 Try.underlying45 h
  rw [k3] at hl
  match cs, hl with
  | [c0, c1, c2], _ =>
    simp only [k0, k1] at h0 h1 h2
    obtain ⟨a, ha, _⟩ := DataW.trod_int Try.underlying3 h0
    obtain ⟨b, hb, _⟩ := DataW.trod_int Try.underlying3 h1
    obtain ⟨cs, hcs⟩ := rdC_of_trod h2
    have ha' : [c0] = [Value.int .i64 a] := ha
    have hb' : [c1] = [Value.int .i64 b] := hb
    injection ha' with ha' _
    injection hb' with hb' _
    have h2' : RdC W c2 cs := hcs
    obtain ⟨sa, sc, hsv, _, _⟩ := h2'.shape
    subst ha' hb'
    rw [hsv] at h2' ⊢
    exact ⟨(a, b, sa, cs.length, sc), (a, b, cs), rfl, rfl, rfl, h2'⟩
set_option maxRecDepth 100000 in
theorem cellsQ_snoc {xs : List Pro} {e : Pro} {j : Nat} {u : Value} (h : (cellsOf encQ (xs ++ [e]))[j]? = some u) :
    (cellsOf encQ xs)[j]? = some u ∨ ∃ d, d < 3 ∧ j = xs.length * 3 + d ∧ (encQ e)[d]? = some u := by
  have hL := cellsOf_length (enc := encQ) hlQ.2 xs
  rw [cellsOf_append] at h
  rcases Nat.lt_or_ge j (cellsOf encQ xs).length with hl | hl
  · rw [List.getElem?_append_left hl] at h
    exact .inl h
  · rw [List.getElem?_append_right hl, hL] at h
    rw [hL] at hl
    have e1 : cellsOf encQ [e] = encQ e := by simp [cellsOf]
    rw [e1] at h
    have hd : j - xs.length * 3 < 3 := by
      have := (List.getElem?_eq_some_iff.1 h).1
      rw [hlQ.2 e] at this; exact this
    exact .inr ⟨_, hd, by omega, h⟩
set_option maxRecDepth 100000 in
theorem rdF_of_trod {v : Value} (hf : DataW.trod enc Try.prog W 0 (fun _ => true) true n 23 [v] = some x) : ∃ fs, RdF W v fs := by
  have k3 : Try.prog.cellsOf 45 = 3 := by kernel_rfl
  rcases Deep.open_slice Try.underlying23 hf with ⟨hcs, _⟩ | ⟨y, l, c, m, k, D, P, hcs, _, hl, hm, hmm, _, hall⟩
  · simp at hcs
    subst hcs
    exact ⟨[], RdF.nil W⟩
  · simp at hcs
    subst hcs
    simp only [if_true] at hmm
    have hbuild : ∀ j, j ≤ l → ∃ (qs : List Pro) (fs : List Fp), qs.length = j ∧ Tel W qs fs ∧ ∀ i u, (cellsOf encQ qs)[i]? = some u → W.cell? (y.add i) = some u := by
      intro j
      induction j with
      | zero => intro _; exact ⟨[], [], rfl, trivial, fun i u h => by simp [cellsOf] at h⟩
      | succ j ih =>
        intro hj
        obtain ⟨qs, fs, hp, ht, hr⟩ := ih (by omega)
        obtain ⟨cs', t0, t1⟩ := hall j (by omega)
        rw [k3] at t0
        obtain ⟨_, hlen, hcell⟩ := World.cells?_some t0
        obtain ⟨q, f, rfl, htell⟩ := pro_cells t1
        refine ⟨qs ++ [q], fs ++ [f], by simp [hp], Tel.app ht (Tel.one htell), fun i u hu => ?_⟩
        rcases cellsQ_snoc hu with h | ⟨d, hd, rfl, h⟩
        · exact hr i u h
        · have := hcell d hd
          rw [Deep.add_add] at this
          rw [hp, this, h]
    obtain ⟨qs, fs, hp, ht, hr⟩ := hbuild l (Nat.le_refl _)
    exact ⟨fs, qs, ⟨some y, c, by rw [hp], by omega, hm, (fun h => by cases h), hlQ, fun z hz i u hu => by cases hz; exact hr i u hu⟩, ht⟩

set_option maxRecDepth 100000 in
theorem ents_snoc_get {xs : List Ent} {e : Ent} {j : Nat} {u : Value} (h : (VX.ents (xs ++ [e]))[j]? = some u) :
    (VX.ents xs)[j]? = some u ∨ (j = xs.length * 2 ∧ u = .int .i64 e.1) ∨ (j = xs.length * 2 + 1 ∧ u = .int .i64 e.2) := by
  rw [VX.ents_append] at h
  rcases Nat.lt_or_ge j (VX.ents xs).length with hl | hl
  · rw [List.getElem?_append_left hl] at h
    exact .inl h
  · rw [List.getElem?_append_right hl, VX.ents_length] at h
    rw [VX.ents_length] at hl
    obtain ⟨d, rfl⟩ : ∃ d, j = xs.length * 2 + d := ⟨j - xs.length * 2, by omega⟩
    rw [Nat.add_sub_cancel_left] at h
    match d, h with
    | 0, h => exact .inr (.inl ⟨by omega, by simpa [VX.ents] using h.symm⟩)
    | 1, h => exact .inr (.inr ⟨by omega, by simpa [VX.ents] using h.symm⟩)
    | d + 2, h => simp [VX.ents] at h
set_option maxRecDepth 100000 in
theorem rdV_of_trod {v : Value} (hf : DataW.trod enc Try.prog W 0 (fun _ => true) true n 32 [v] = some x) : ∃ xs, VX.RdV W v xs := by
  rcases Deep.open_slice_pairs Try.underlying32 Try.underlying68 (by kernel_rfl) (by kernel_rfl) (by kernel_rfl) (by kernel_rfl) (by kernel_rfl) hf with ⟨hcs, _⟩ | ⟨y, l, c, m, k, V0, V1, D0, D1, P0, P1, hcs, _, hl, hm, hmm, _, hall⟩
  · simp at hcs
    subst hcs
    exact ⟨[], VX.RdV.nil W⟩
  · simp at hcs
    subst hcs
    simp only [if_true] at hmm
    have hbuild : ∀ j, j ≤ l → ∃ xs : List Ent, xs.length = j ∧ ∀ i u, (VX.ents xs)[i]? = some u → W.cell? (y.add i) = some u := by
      intro j
      induction j with
      | zero => intro _; exact ⟨[], rfl, fun i u h => by simp [VX.ents] at h⟩
      | succ j ih =>
        intro hj
        obtain ⟨xs, hp, hr⟩ := ih (by omega)
        obtain ⟨k0, k1, t0, t1⟩ := hall j (by omega)
        obtain ⟨a, ha, _, _⟩ := DataW.trod_int Try.underlying3 t0
        obtain ⟨b, hb, _, _⟩ := DataW.trod_int Try.underlying3 t1
        simp at ha hb
        refine ⟨xs ++ [(a, b)], by simp [hp], fun i u hu => ?_⟩
        rcases ents_snoc_get hu with h | ⟨rfl, rfl⟩ | ⟨rfl, rfl⟩
        · exact hr i u h
        · rw [hp, k0, ha]
        · rw [hp, k1, hb]
    obtain ⟨xs, hp, hr⟩ := hbuild l (Nat.le_refl _)
    exact ⟨xs, some y, c, by rw [hp], by omega, hm, (fun h => by cases h), fun z hz i u hu => by cases hz; exact hr i u hu⟩
set_option maxRecDepth 100000 in
theorem int_of_trod {r : Reach} {b0 : Nat} {v : Value} {d : DataW H} {p : List MemPlace} (hv : Value.okWide Try.prog W r b0 3 v) (_ : DataW.Trod enc Try.prog W 0 (fun _ => true) true 3 v d p) : ∃ k, v = .int .i64 k ∧ True := by
  obtain ⟨k, hk⟩ := okWide_int Try.underlying3 hv
  exact ⟨k, hk, trivial⟩
set_option maxRecDepth 100000 in
theorem rdI_of_trod_len {v : Value} {d : DataW H} {p : List MemPlace} (hf : DataW.trod enc Try.prog W 0 (fun _ => true) true n 36 [v] = some (d, p)) :
    ∃ xs, RdI W v xs ∧ (xs = [] ∨ ∃ el sp, d = .slice el sp ∧ xs.length ≤ el.length + sp.length) := by
  have hf2 := hf
  rcases open_ints Try.underlying36 Try.underlying3 (by kernel_rfl) hf with ⟨hcs, _⟩ | ⟨y, l, c, zs, hcs, _, hl, hm, hz, hx, hcell, hwz⟩
  · simp at hcs
    subst hcs
    exact ⟨[], RdG.nil hlI W, .inl rfl⟩
  · obtain ⟨xs, hxs⟩ := rdI_of_trod hf2
    refine ⟨xs, hxs, .inr ?_⟩
    simp at hcs
    subst hcs
    obtain ⟨a', c', hv, _⟩ := hxs.shape
    cases hv
    simp only [Prod.mk.injEq] at hx
    obtain ⟨rfl, _⟩ := hx
    refine ⟨_, _, rfl, ?_⟩
    simp only [lits, List.length_map, List.length_take, List.length_drop]
    simp only [if_true] at hz
    omega
end

end Go.Proofs.Ytacbpphhkkmelaa
