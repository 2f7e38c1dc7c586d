/-
  What a statement's reading tells of changes, proposals, bytes, lists of integers and integers that came in. No conditions beyond those that each lemma names.
  What a statement's reading tells of a list of integers that came in: it reads as data, and its datum is as long. No conditions beyond those that each lemma names.
-/
import Derived.Test.YtcalnapdpnnljaaDoorKC
import Derived.Deep.SlicePairs
import Derived.Deep.Strs
import Derived.ChangeSlices
import Derived.ProofKit
import Derived.OpenShut
import Derived.ChangeOld
import Derived.SizedLaws
namespace Go.Proofs.YtcalnapdpnnljaaDoor
open Go.ChangeShapes Go.WideShapes Go.ChangeAt Go.RowKit
open JM (Chg)

section
variable {H : Type} {enc : TypeId × Value → H} {W : World} {n : Nat} {x : DataW H × List MemPlace}

theorem rd_of_trod {v : Value} (hf : DataW.trod enc Tryd.prog W 0 (fun _ => true) true n 36 [v] = some x) : ∃ xs, Rd W v xs := by
  rcases open_ints Tryd.underlying36 Tryd.underlying5 (by kernel_rfl) hf with ⟨hcs, _⟩ | ⟨y, l, c, zs, hcs, _, hl, hm, hz, _, hcell, hwz⟩
  · simp at hcs
    subst hcs
    exact ⟨[], Rd.nil W⟩
  · simp at hcs
    subst hcs
    exact ⟨zs.take l, rd_row (.inr ⟨_, rfl, hl, hm, by simpa using hz, hcell, hwz⟩)⟩

theorem rdI_of_trod {v : Value} (hf : DataW.trod enc Tryd.prog W 0 (fun _ => true) true n 42 [v] = some x) : ∃ xs, RdI W v xs := by
  rcases open_ints Tryd.underlying42 Tryd.underlying3 (by kernel_rfl) hf with ⟨hcs, _⟩ | ⟨y, l, c, zs, hcs, _, hl, hm, hz, _, hcell, hwz⟩
  · simp at hcs
    subst hcs
    exact ⟨[], RdG.nil hlI W⟩
  · simp at hcs
    subst hcs
    simp only [if_true] at hz
    have hlen : (zs.take l).length = l := by rw [List.length_take, hz]; omega
    refine ⟨zs.take l, some y, c, by rw [hlen], by omega, hm, (fun h => by cases h), hlI, fun z hz' i u hu => ?_⟩
    cases hz'
    have e : cellsOf encI (zs.take l) = (zs.take l).map (Value.int .i64) := by
      unfold cellsOf encI
      induction (zs.take l) with
      | nil => rfl
      | cons q l ih => rw [List.flatMap_cons, ih]; rfl
    rw [e, List.getElem?_map, List.getElem?_take] at hu
    split at hu
    · rename_i hil
      have hi : i < zs.length := by omega
      rw [List.getElem?_eq_getElem hi] at hu
      cases hu
      rw [hcell i hi]
      simp [List.getD, hi]
    · cases hu

theorem u16_of_trod {r : Reach} {b0 : Nat} {v : Value} {d : DataW H} {p : List MemPlace} (hv : Value.okWide Tryd.prog W r b0 43 v) (h : DataW.Trod enc Tryd.prog W 0 (fun _ => true) true 43 v d p) : ∃ k : Nat, v = .int .u16 k ∧ k < 65536 := by
  obtain ⟨fuel, hf⟩ := h
  obtain ⟨k', rfl⟩ := okWide_int Tryd.underlying43 hv
  obtain ⟨k, hk, _, hw⟩ := DataW.trod_int Tryd.underlying43 hf
  have hk' : [Value.int .u16 k'] = [Value.int .u16 k] := hk
  injection hk' with hk' _
  injection hk' with _ hk'
  subst hk'
  obtain ⟨m, rfl, hm⟩ := u16_nat hw
  exact ⟨m, rfl, hm⟩

theorem cellsC_snoc {xs : List Chg} {e : Chg} {j : Nat} {u : Value} (h : (cellsOf encC (xs ++ [e]))[j]? = some u) :
    (cellsOf encC xs)[j]? = some u ∨ ∃ d, d < 7 ∧ j = xs.length * 7 + d ∧ (encC e)[d]? = some u := by
  have hL := cellsOf_length (enc := encC) hlC.2 xs
  rw [cellsOf_append] at h
  rcases Nat.lt_or_ge j (cellsOf encC xs).length with hl | hl
  · rw [List.getElem?_append_left hl] at h
    exact .inl h
  · rw [List.getElem?_append_right hl, hL] at h
    rw [hL] at hl
    have e1 : cellsOf encC [e] = encC e := by simp [cellsOf]
    rw [e1] at h
    have hd : j - xs.length * 7 < 7 := by
      have := (List.getElem?_eq_some_iff.1 h).1
      rw [hlC.2 e] at this; exact this
    exact .inr ⟨_, hd, by omega, h⟩

end

end Go.Proofs.YtcalnapdpnnljaaDoor

namespace Go.Proofs.YtcalnapdpnnljaaDoor
open Go.ChangeShapes Go.WideShapes Go.ChangeAt Go.RowKit

section
variable {H : Type} {enc : TypeId × Value → H} {W : World} {n : Nat}
theorem rdI_of_trod_len {v : Value} {d : DataW H} {p : List MemPlace} (hf : DataW.trod enc Tryd.prog W 0 (fun _ => true) true n 42 [v] = some (d, p)) :
    ∃ xs, RdI W v xs ∧ (xs = [] ∨ ∃ el sp, d = .slice el sp ∧ xs.length ≤ el.length + sp.length) := by
  have hf2 := hf
  rcases open_ints Tryd.underlying42 Tryd.underlying3 (by kernel_rfl) hf with ⟨hcs, _⟩ | ⟨y, l, c, zs, hcs, _, hl, hm, hz, hx, hcell, hwz⟩
  · simp at hcs
    subst hcs
    exact ⟨[], RdG.nil hlI W, .inl rfl⟩
  · obtain ⟨xs, hxs⟩ := rdI_of_trod hf2
    refine ⟨xs, hxs, .inr ?_⟩
    simp at hcs
    subst hcs
    obtain ⟨a', c', hv, _⟩ := hxs.shape
    cases hv
    simp only [Prod.mk.injEq] at hx
    obtain ⟨rfl, _⟩ := hx
    refine ⟨_, _, rfl, ?_⟩
    simp only [lits, List.length_map, List.length_take, List.length_drop]
    simp only [if_true] at hz
    omega
end

end Go.Proofs.YtcalnapdpnnljaaDoor
