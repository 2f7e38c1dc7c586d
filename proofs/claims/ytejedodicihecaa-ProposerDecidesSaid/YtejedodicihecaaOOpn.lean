/-
  What a statement's reading tells of vectors, lists of replies, bytes that came in. No conditions beyond those that each lemma names.
-/
import Derived.Test.YtejedodicihecaaOLaw2
import Derived.Deep.SlicePairs
import Derived.Deep.Strs
import Derived.ProofKit
import Derived.OpenShut
import Derived.ChangeOld
import Derived.ChangeSlices
import Derived.ChangeSame
import Derived.Lib.SmallJoins
namespace Go.Proofs.Ytejedodicihecaa
open Go.ChangeShapes Go.WideShapes Go.ChangeAt Go.RowKit Go.Joins
open VM (Ent)

section
variable {H : Type} {enc : TypeId × Value → H} {W : World} {n : Nat} {x : DataW H × List MemPlace}

theorem ents_snoc_get {xs : List Ent} {e : Ent} {j : Nat} {u : Value} (h : (VX.ents (xs ++ [e]))[j]? = some u) :
    (VX.ents xs)[j]? = some u ∨ (j = xs.length * 2 ∧ u = .int .i64 e.1) ∨ (j = xs.length * 2 + 1 ∧ u = .int .i64 e.2) := by
  rw [VX.ents_append] at h
  rcases Nat.lt_or_ge j (VX.ents xs).length with hl | hl
  · rw [List.getElem?_append_left hl] at h
    exact .inl h
  · rw [List.getElem?_append_right hl, VX.ents_length] at h
    rw [VX.ents_length] at hl
    obtain ⟨d, rfl⟩ : ∃ d, j = xs.length * 2 + d := ⟨j - xs.length * 2, by omega⟩
    rw [Nat.add_sub_cancel_left] at h
    match d, h with
    | 0, h => exact .inr (.inl ⟨by omega, by simpa [VX.ents] using h.symm⟩)
    | 1, h => exact .inr (.inr ⟨by omega, by simpa [VX.ents] using h.symm⟩)
    | d + 2, h => simp [VX.ents] at h

theorem rdV_of_trod {v : Value} (hf : DataW.trod enc Try.prog W 0 (fun _ => true) true n 23 [v] = some x) : ∃ xs, VX.RdV W v xs := by
  rcases Deep.open_slice_pairs Try.underlying23 Try.underlying49 (by kernel_rfl) (by kernel_rfl) (by kernel_rfl) (by kernel_rfl) (by kernel_rfl) hf with ⟨hcs, _⟩ | ⟨y, l, c, m, k, V0, V1, D0, D1, P0, P1, hcs, _, hl, hm, hmm, _, hall⟩
  · simp at hcs
    subst hcs
    exact ⟨[], VX.RdV.nil W⟩
  · simp at hcs
    subst hcs
    simp only [if_true] at hmm
    have hbuild : ∀ j, j ≤ l → ∃ xs : List Ent, xs.length = j ∧ ∀ i u, (VX.ents xs)[i]? = some u → W.cell? (y.add i) = some u := by
      intro j
      induction j with
      | zero => intro _; exact ⟨[], rfl, fun i u h => by simp [VX.ents] at h⟩
      | succ j ih =>
        intro hj
        obtain ⟨xs, hp, hr⟩ := ih (by omega)
        obtain ⟨k0, k1, t0, t1⟩ := hall j (by omega)
        obtain ⟨a, ha, _, _⟩ := DataW.trod_int Try.underlying3 t0
        obtain ⟨b, hb, _, _⟩ := DataW.trod_int Try.underlying3 t1
        simp at ha hb
        refine ⟨xs ++ [(a, b)], by simp [hp], fun i u hu => ?_⟩
        rcases ents_snoc_get hu with h | ⟨rfl, rfl⟩ | ⟨rfl, rfl⟩
        · exact hr i u h
        · rw [hp, k0, ha]
        · rw [hp, k1, hb]
    obtain ⟨xs, hp, hr⟩ := hbuild l (Nat.le_refl _)
    exact ⟨xs, some y, c, by rw [hp], by omega, hm, (fun h => by cases h), fun z hz i u hu => by cases hz; exact hr i u hu⟩

set_option maxRecDepth 100000 in
/-- The four cells of a reply. -/
theorem rp_cells {cs : List Value} (h : DataW.trod enc Try.prog W 0 (fun _ => true) true n 36 cs = some x) : ∃ p : Rp × List Ent, cs = encP p.1 ∧ VX.RdV W (.slice p.1.2.2.1.1 p.1.2.2.1.2.1 p.1.2.2.1.2.2) p.2 := by
  have k0 : Try.prog.cellsOf 3 = 1 := by kernel_rfl
  have kb : Try.prog.cellsOf 4 = 1 := by kernel_rfl
  have k1 : Try.prog.cellsOf 23 = 1 := by kernel_rfl
  have k4 : Try.prog.cellsOf 36 = 4 := by kernel_rfl
  obtain ⟨xs, m, _, _, hl, hlen, hf⟩ := DataW.trod_struct Try.underlying36 h
  rw [k4] at hl
  match xs, hlen, cs, hl with
  | [y0, y1, y2, y3], _, [c0, c1, c2, c3], _ =>
    have g0 := hf 0 _ rfl
    have g1 := hf 1 _ rfl
    have g2 := hf 2 _ rfl
    have g3 := hf 3 _ rfl
    simp [k0, kb, k1] at g0 g1 g2 g3
    obtain ⟨a0, e0, _⟩ := DataW.trod_int Try.underlying3 g0
    obtain ⟨a1, e1, _⟩ := DataW.trod_int Try.underlying3 g1
    obtain ⟨v, hv⟩ := rdV_of_trod g2
    obtain ⟨b3, e3, _⟩ := DataW.trod_bool Try.underlying4 g3
    simp at e0 e1 e3
    obtain ⟨va, vc, he, _⟩ := hv.shape
    subst e0 e1 e3 he
    exact ⟨((a0, a1, (va, v.length, vc), b3), v), rfl, hv⟩
theorem cellsP_snoc {xs : List (Rp × List Ent)} {e : Rp × List Ent} {j : Nat} {u : Value} (h : (cellsOf (fun p : Rp × List Ent => encP p.1) (xs ++ [e]))[j]? = some u) :
    (cellsOf (fun p : Rp × List Ent => encP p.1) xs)[j]? = some u ∨ ∃ d, d < 4 ∧ j = xs.length * 4 + d ∧ (encP e.1)[d]? = some u := by
  have hL := cellsOf_length (enc := fun p : Rp × List Ent => encP p.1) hlPp.2 xs
  rw [cellsOf_append] at h
  rcases Nat.lt_or_ge j (cellsOf (fun p : Rp × List Ent => encP p.1) xs).length with hl | hl
  · rw [List.getElem?_append_left hl] at h
    exact .inl h
  · rw [List.getElem?_append_right hl, hL] at h
    rw [hL] at hl
    have e1 : cellsOf (fun p : Rp × List Ent => encP p.1) [e] = encP e.1 := by simp [cellsOf]
    rw [e1] at h
    have hd : j - xs.length * 4 < 4 := by
      have := (List.getElem?_eq_some_iff.1 h).1
      rw [hlP.2 e.1] at this; exact this
    exact .inr ⟨_, hd, by omega, h⟩
set_option maxRecDepth 100000 in
theorem rdRp_of_trod {v : Value} (hf : DataW.trod enc Try.prog W 0 (fun _ => true) true n 24 [v] = some x) : ∃ l, RdRp W v l := by
  have k4 : Try.prog.cellsOf 36 = 4 := by kernel_rfl
  rcases Deep.open_slice Try.underlying24 hf with ⟨hcs, _⟩ | ⟨y, l, c, m, k, D, P, hcs, _, hl, hm, hmm, _, hall⟩
  · simp at hcs
    subst hcs
    exact ⟨[], RdRp.nil W⟩
  · simp at hcs
    subst hcs
    simp only [if_true] at hmm
    have hbuild : ∀ j, j ≤ l → ∃ ps : List (Rp × List Ent), ps.length = j ∧ (∀ p ∈ ps, VX.RdV W (.slice p.1.2.2.1.1 p.1.2.2.1.2.1 p.1.2.2.1.2.2) p.2) ∧ ∀ i u, (cellsOf (fun p : Rp × List Ent => encP p.1) ps)[i]? = some u → W.cell? (y.add i) = some u := by
      intro j
      induction j with
      | zero => intro _; exact ⟨[], rfl, (fun _ h => by cases h), fun i u h => by simp [cellsOf] at h⟩
      | succ j ih =>
        intro hj
        obtain ⟨ps, hp, ht, hr⟩ := ih (by omega)
        obtain ⟨cs', t0, t1⟩ := hall j (by omega)
        rw [k4] at t0
        obtain ⟨_, hlen, hcell⟩ := World.cells?_some t0
        obtain ⟨p, rfl, htell⟩ := rp_cells t1
        refine ⟨ps ++ [p], by simp [hp], fun q hq => (List.mem_append.1 hq).elim (ht q) (fun h => by rw [List.mem_singleton.1 h]; exact htell), fun i u hu => ?_⟩
        rcases cellsP_snoc hu with h | ⟨d, hd, rfl, h⟩
        · exact hr i u h
        · have := hcell d hd
          rw [Deep.add_add] at this
          rw [hp, this, h]
    obtain ⟨ps, hp, ht, hr⟩ := hbuild l (Nat.le_refl _)
    exact ⟨_, ps, ⟨some y, c, by rw [hp], by omega, hm, (fun h => by cases h), hlPp, fun z hz i u hu => by cases hz; exact hr i u hu⟩, ht, rfl⟩
/-- Bytes that came in, with their bounds. -/
def RdUB (w : World) (v : Value) (l : List Int) : Prop := RdU w v l ∧ ∀ x ∈ l, 0 ≤ x ∧ x ≤ 255
theorem cellsU (zs : List Int) : cellsOf encU zs = zs.map (Value.int .u8) := by
  induction zs with
  | nil => rfl
  | cons z zs ih => rw [show z :: zs = [z] ++ zs from rfl, cellsOf_append, ih]; rfl
theorem rdU_of_trod {v : Value} (hf : DataW.trod enc Try.prog W 0 (fun _ => true) true n 44 [v] = some x) : ∃ xs, RdUB W v xs := by
  rcases open_ints Try.underlying44 Try.underlying5 (by kernel_rfl) hf with ⟨hcs, _⟩ | ⟨y, l, c, zs, hcs, _, hl, hm, hz, _, hcell, hwz⟩
  · simp at hcs
    subst hcs
    exact ⟨[], RdG.nil hlU W, fun _ h => by cases h⟩
  · simp at hcs
    subst hcs
    have hz' : zs.length = c := by simpa using hz
    have hlen : (zs.take l).length = l := by rw [List.length_take]; omega
    refine ⟨zs.take l, ⟨some y, c, by rw [hlen], by omega, hm, (fun h => by cases h), hlU, fun p hp j u hu => ?_⟩, fun z hzm => ?_⟩
    · cases hp
      rw [cellsU, List.getElem?_map, List.getElem?_take] at hu
      split at hu
      · rename_i hj
        have hjz : j < zs.length := by omega
        rw [List.getElem?_eq_getElem hjz] at hu
        simp only [Option.map_some, Option.some.injEq] at hu
        rw [hcell j hjz, ← hu]
        simp [List.getD_eq_getElem?_getD, List.getElem?_eq_getElem hjz]
      · cases hu
    · have := hwz z (List.mem_of_mem_take hzm)
      simpa [Lit.wf, IntKind.min, IntKind.max, IntKind.signed, IntKind.bits] using this
theorem u8_of_trod {r : Reach} {b0 : Nat} {v : Value} {d : DataW H} {p : List MemPlace} (hv : Value.okWide Try.prog W r b0 5 v) (h : DataW.Trod enc Try.prog W 0 (fun _ => true) true 5 v d p) : ∃ k : Int, v = .int .u8 k ∧ (0 ≤ k ∧ k ≤ 255) := by
  obtain ⟨fuel, hf⟩ := h
  obtain ⟨k', rfl⟩ := okWide_int Try.underlying5 hv
  obtain ⟨k, hk, _, hw⟩ := DataW.trod_int Try.underlying5 hf
  have hk' : [Value.int .u8 k'] = [Value.int .u8 k] := hk
  injection hk' with hk' _
  injection hk' with _ hk'
  subst hk'
  exact ⟨k', rfl, by simpa [Lit.wf, IntKind.min, IntKind.max, IntKind.signed, IntKind.bits] using hw⟩
end
end Go.Proofs.Ytejedodicihecaa
