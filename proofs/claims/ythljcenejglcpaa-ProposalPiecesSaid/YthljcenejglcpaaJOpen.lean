/-
  What a statement's reading tells of changes, proposals, bytes, lists of integers and integers that came in. No conditions beyond those that each lemma names.
-/
import Derived.Test.YthljcenejglcpaaKC
import Derived.Deep.SlicePairs
import Derived.Deep.Strs
import Derived.ChangeSlices
import Derived.ProofKit
import Derived.OpenShut
import Derived.ChangeOld
namespace Go.Proofs.Ythljcenejglcpaa
set_option maxRecDepth 100000
open Go.ChangeShapes Go.WideShapes Go.ChangeAt Go.RowKit
open JM (Chg)

section
variable {H : Type} {enc : TypeId × Value → H} {W : World} {n : Nat} {x : DataW H × List MemPlace}

theorem rd_of_trod {v : Value} (hf : DataW.trod enc Try.prog W 0 (fun _ => true) true n 38 [v] = some x) : ∃ xs, Rd W v xs := by
  rcases open_ints Try.underlying38 Try.underlying5 (by kernel_rfl) hf with ⟨hcs, _⟩ | ⟨y, l, c, zs, hcs, _, hl, hm, hz, _, hcell, hwz⟩
  · simp at hcs
    subst hcs
    exact ⟨[], Rd.nil W⟩
  · simp at hcs
    subst hcs
    exact ⟨zs.take l, rd_row (.inr ⟨_, rfl, hl, hm, by simpa using hz, hcell, hwz⟩)⟩

theorem rdI_of_trod {v : Value} (hf : DataW.trod enc Try.prog W 0 (fun _ => true) true n 44 [v] = some x) : ∃ xs, RdI W v xs := by
  rcases open_ints Try.underlying44 Try.underlying3 (by kernel_rfl) hf with ⟨hcs, _⟩ | ⟨y, l, c, zs, hcs, _, hl, hm, hz, _, hcell, hwz⟩
  · simp at hcs
    subst hcs
    exact ⟨[], RdG.nil hlI W⟩
  · simp at hcs
    subst hcs
    simp only [if_true] at hz
    have hlen : (zs.take l).length = l := by rw [List.length_take, hz]; omega
    refine ⟨zs.take l, some y, c, by rw [hlen], by omega, hm, (fun h => by cases h), hlI, fun z hz' i u hu => ?_⟩
    cases hz'
    have e : cellsOf encI (zs.take l) = (zs.take l).map (Value.int .i64) := by
      unfold cellsOf encI
      induction (zs.take l) with
      | nil => rfl
      | cons q l ih => rw [List.flatMap_cons, ih]; rfl
    rw [e, List.getElem?_map, List.getElem?_take] at hu
    split at hu
    · rename_i hil
      have hi : i < zs.length := by omega
      rw [List.getElem?_eq_getElem hi] at hu
      cases hu
      rw [hcell i hi]
      simp [List.getD, hi]
    · cases hu

theorem u16_of_trod {r : Reach} {b0 : Nat} {v : Value} {d : DataW H} {p : List MemPlace} (hv : Value.okWide Try.prog W r b0 45 v) (h : DataW.Trod enc Try.prog W 0 (fun _ => true) true 45 v d p) : ∃ k : Nat, v = .int .u16 k ∧ k < 65536 := by
  obtain ⟨fuel, hf⟩ := h
  obtain ⟨k', rfl⟩ := okWide_int Try.underlying45 hv
  obtain ⟨k, hk, _, hw⟩ := DataW.trod_int Try.underlying45 hf
  have hk' : [Value.int .u16 k'] = [Value.int .u16 k] := hk
  injection hk' with hk' _
  injection hk' with _ hk'
  subst hk'
  obtain ⟨m, rfl, hm⟩ := u16_nat hw
  exact ⟨m, rfl, hm⟩

/-- The seven cells of a change. -/
theorem chg_cells {cs : List Value} (h : DataW.trod enc Try.prog W 0 (fun _ => true) true n 25 cs = some x) : ∃ e : Chg, cs = encC e := by
  have k0 : Try.prog.cellsOf 3 = 1 := by kernel_rfl
  have k3 : Try.prog.cellsOf 23 = 3 := by kernel_rfl
  have k7 : Try.prog.cellsOf 25 = 7 := by kernel_rfl
  obtain ⟨xs, m, _, _, hl, hlen, hf⟩ := DataW.trod_struct Try.underlying25 h
  rw [k7] at hl
  match xs, hlen, cs, hl with
  | [y0, y1, y2, y3, y4], _, [c0, c1, c2, c3, c4, c5, c6], _ =>
    have g0 := hf 0 _ rfl
    have g1 := hf 1 _ rfl
    have g2 := hf 2 _ rfl
    have g3 := hf 3 _ rfl
    have g4 := hf 4 _ rfl
    simp [k0, k3] at g0 g1 g2 g3 g4
    obtain ⟨a0, e0, _⟩ := DataW.trod_int Try.underlying3 g0
    obtain ⟨a1, e1, _⟩ := DataW.trod_int Try.underlying3 g1
    obtain ⟨a2, e2, _⟩ := DataW.trod_int Try.underlying3 g2
    obtain ⟨a3, e3, _⟩ := DataW.trod_int Try.underlying3 g3
    obtain ⟨y0, y1, y2, m, _, _, h0, h1, h2⟩ := Deep.trod_struct3 Try.underlying23 g4
    simp only [k0] at h0 h1 h2
    obtain ⟨a4, e4, _⟩ := DataW.trod_int Try.underlying3 h0
    obtain ⟨a5, e5, _⟩ := DataW.trod_int Try.underlying3 h1
    obtain ⟨a6, e6, _⟩ := DataW.trod_int Try.underlying3 h2
    simp at e0 e1 e2 e3 e4 e5 e6
    exact ⟨(a0, a1, a2, a3, a4, a5, a6), by rw [e0, e1, e2, e3, e4, e5, e6]; rfl⟩

theorem cellsC_snoc {xs : List Chg} {e : Chg} {j : Nat} {u : Value} (h : (cellsOf encC (xs ++ [e]))[j]? = some u) :
    (cellsOf encC xs)[j]? = some u ∨ ∃ d, d < 7 ∧ j = xs.length * 7 + d ∧ (encC e)[d]? = some u := by
  have hL := cellsOf_length (enc := encC) hlC.2 xs
  rw [cellsOf_append] at h
  rcases Nat.lt_or_ge j (cellsOf encC xs).length with hl | hl
  · rw [List.getElem?_append_left hl] at h
    exact .inl h
  · rw [List.getElem?_append_right hl, hL] at h
    rw [hL] at hl
    have e1 : cellsOf encC [e] = encC e := by simp [cellsOf]
    rw [e1] at h
    have hd : j - xs.length * 7 < 7 := by
      have := (List.getElem?_eq_some_iff.1 h).1
      rw [hlC.2 e] at this; exact this
    exact .inr ⟨_, hd, by omega, h⟩

theorem rdC_of_trod {v : Value} (hf : DataW.trod enc Try.prog W 0 (fun _ => true) true n 30 [v] = some x) : ∃ xs, RdC W v xs := by
  have k7 : Try.prog.cellsOf 25 = 7 := by kernel_rfl
  rcases Deep.open_slice Try.underlying30 hf with ⟨hcs, _⟩ | ⟨y, l, c, m, k, D, P, hcs, _, hl, hm, hmm, _, hall⟩
  · simp at hcs
    subst hcs
    exact ⟨[], RdG.nil hlC W⟩
  · simp at hcs
    subst hcs
    simp only [if_true] at hmm
    have hbuild : ∀ j, j ≤ l → ∃ xs : List Chg, xs.length = j ∧ ∀ i u, (cellsOf encC xs)[i]? = some u → W.cell? (y.add i) = some u := by
      intro j
      induction j with
      | zero => intro _; exact ⟨[], rfl, fun i u h => by simp [cellsOf] at h⟩
      | succ j ih =>
        intro hj
        obtain ⟨xs, hp, hr⟩ := ih (by omega)
        obtain ⟨cs', t0, t1⟩ := hall j (by omega)
        rw [k7] at t0
        obtain ⟨_, hlen, hcell⟩ := World.cells?_some t0
        obtain ⟨e, rfl⟩ := chg_cells t1
        refine ⟨xs ++ [e], by simp [hp], fun i u hu => ?_⟩
        rcases cellsC_snoc hu with h | ⟨d, hd, rfl, h⟩
        · exact hr i u h
        · have := hcell d hd
          rw [Deep.add_add] at this
          rw [hp, this, h]
    obtain ⟨xs, hp, hr⟩ := hbuild l (Nat.le_refl _)
    exact ⟨xs, some y, c, by rw [hp], by omega, hm, (fun h => by cases h), hlC, fun z hz i u hu => by cases hz; exact hr i u hu⟩

theorem chg_of_trod {r : Reach} {b0 : Nat} {v : Value} {d : DataW H} {p : List MemPlace} (hv : Value.okWide Try.prog W r b0 25 v) (h : DataW.Trod enc Try.prog W 0 (fun _ => true) true 25 v d p) :
    ∃ k s t u a b c, v = cv k s t u a b c ∧ True := by
  obtain ⟨cs, rfl, hsz⟩ := okWide_struct Try.underlying25 hv
  have hC : cs.size = 7 := hsz.trans (by kernel_rfl)
  obtain ⟨l⟩ := cs
  match l, hC with
  | [c0, c1, c2, c3, c4, c5, c6], _ =>
    obtain ⟨fuel, hf⟩ := h
    obtain ⟨⟨k, s, t, u, a, b, c⟩, he⟩ := chg_cells hf
    simp only [Value.cells, encC, List.cons.injEq, and_true] at he
    obtain ⟨rfl, rfl, rfl, rfl, rfl, rfl, rfl⟩ := he
    exact ⟨k, s, t, u, a, b, c, rfl, trivial⟩
theorem pro_of_trod {r : Reach} {b0 : Nat} {v : Value} {d : DataW H} {p : List MemPlace} (hv : Value.okWide Try.prog W r b0 32 v) (h : DataW.Trod enc Try.prog W 0 (fun _ => true) true 32 v d p) :
    ∃ a n sv cs, v = pv a n sv ∧ RdC W sv cs := by
  obtain ⟨cs, rfl, hsz⟩ := okWide_struct Try.underlying32 hv
  have hC : cs.size = 3 := hsz.trans (by kernel_rfl)
  have k0 : Try.prog.cellsOf 3 = 1 := by kernel_rfl
  have k1 : Try.prog.cellsOf 30 = 1 := by kernel_rfl
  obtain ⟨l⟩ := cs
  match l, hC with
  | [c0, c1, c2], _ =>
    obtain ⟨fuel, hf⟩ := h
    obtain ⟨y0, y1, y2, m, _, _, h0, h1, h2⟩ := Deep.trod_struct3 Try.underlying32 hf
    simp only [k0, k1] at h0 h1 h2
    obtain ⟨a, ha, _⟩ := DataW.trod_int Try.underlying3 h0
    obtain ⟨n, hn, _⟩ := DataW.trod_int Try.underlying3 h1
    obtain ⟨cs, hcs⟩ := rdC_of_trod h2
    have ha' : [c0] = [Value.int .i64 a] := ha
    have hn' : [c1] = [Value.int .i64 n] := hn
    injection ha' with ha' _
    injection hn' with hn' _
    exact ⟨a, n, c2, cs, by rw [ha', hn'], hcs⟩
end

end Go.Proofs.Ythljcenejglcpaa
