/-
  'c[k] = y' in the call's own bytes. Conditions: k within the bytes, y a byte.
-/
import Derived.Test.YtgpbacddpfbimaaBase
import Derived.Lib.SmallJoins
namespace Go.Proofs.Ytgpbacddpfbimaa
open Go.RowKit Go.Joins
open WM (Bytes)

theorem Own.form {base : Nat} {w : World} {v : Value} {xs : List Int} (h : Own base w v xs) (hp : 0 < xs.length) :
    ∃ g c, v = .slice (some ⟨g, 0, none⟩) xs.length c ∧ base ≤ g ∧ g < w.heap.size ∧ c ≤ 9223372036854775807 := by
  obtain ⟨⟨hl, h⟩, hb⟩ := h
  rcases h with ⟨rfl, h0⟩ | ⟨g, cap, cur, rfl, hg, hh, hn, hm, hs, ht⟩
  · omega
  · unfold maxLen at hm
    have := (Array.getElem?_eq_some_iff.1 hh).1
    exact ⟨g, cap, rfl, hg, this, by omega⟩

/-- A store into the call's own bytes. -/
theorem Own.put {base g c k : Nat} {w : World} {xs : List Int} {y : Int} (h : Own base w (.slice (some ⟨g, 0, none⟩) xs.length c) xs) (hk : k < xs.length) (hy : WM.isByte y) :
    w.cell? ⟨g, k, none⟩ = some (.int .u8 (xs.getD k 0)) ∧ w.frozen? ⟨g, k, none⟩ = false ∧
      Own base (w.setCell ⟨g, k, none⟩ (.int .u8 y)) (.slice (some ⟨g, 0, none⟩) xs.length c) (xs.set k y) ∧ Below base w (w.setCell ⟨g, k, none⟩ (.int .u8 y)) := by
  obtain ⟨⟨hl, h⟩, hb⟩ := h
  rcases h with ⟨hv, _⟩ | ⟨g', cap, cur, hv, hg, hh, hn, hm, hs, ht⟩
  · cases hv
  · cases hv
    have hc : cur[k]? = some (.int .u8 (xs.getD k 0)) := by
      have e : (cur.toList.take (xs.length * 1))[k]? = (xs.map (Value.int .u8))[k]? := by rw [ht]
      rw [List.getElem?_take_of_lt (by omega), Array.getElem?_toList] at e
      rw [e]
      simp [List.getD, List.getElem?_eq_getElem hk]
    refine ⟨?_, unfrozen_of_block hh k, ⟨⟨by simp, .inr ⟨g, c, _, by simp, hg, block_setCell hh _, ?_, hm, by simpa using hs, ?_⟩⟩, ?_⟩, (Below.refl _ w).setCell hg _⟩
    · rw [cell_of_block hh]; exact hc
    · simpa using hn
    · rw [Array.toList_setIfInBounds, List.length_set, List.take_set, ht, List.map_set]
    · intro q hq
      exact (List.mem_or_eq_of_mem_set hq).elim (hb q) (fun e => e ▸ hy)

theorem u8_lt {x : Int} (h : WM.isByte x) : ∃ n : Nat, x = n ∧ n < 256 := by
  obtain ⟨n, rfl⟩ := Int.eq_ofNat_of_zero_le h.1
  have := h.2
  exact ⟨n, rfl, by omega⟩
theorem xor8 (a b : Nat) (ha : a < 256) (hb : b < 256) : bits .xor .u8 (a : Int) (b : Int) = ((a ^^^ b : Nat) : Int) ∧ a ^^^ b < 256 := by
  have hlt : a ^^^ b < 256 := by
    have := Nat.xor_lt_two_pow (n := 8) (x := a) (y := b) (by omega) (by omega)
    omega
  refine ⟨?_, hlt⟩
  have e : ∀ a : Nat, a < 256 → (BitVec.ofInt 8 (a : Int)).toNat = a := fun a h => by
    rw [BitVec.ofInt_natCast, BitVec.toNat_ofNat]; exact Nat.mod_eq_of_lt (by omega)
  show IntKind.u8.wrap ((BitVec.ofInt 8 (a : Int) ^^^ BitVec.ofInt 8 (b : Int)).toNat : Int) = _
  rw [BitVec.toNat_xor, e a ha, e b hb, IntKind.wrap_u8]
  omega
/-- One bit of a byte is changed: another byte. -/
theorem flip8 (x : Int) (m : Nat) (hx : WM.isByte x) (hm : m < 256) (h0 : m ≠ 0) : WM.isByte (bits .xor .u8 x (m : Int)) ∧ bits .xor .u8 x (m : Int) ≠ x := by
  obtain ⟨a, rfl, ha⟩ := u8_lt hx
  obtain ⟨h1, h2⟩ := xor8 a m ha hm
  rw [h1]
  refine ⟨⟨by omega, by omega⟩, fun h => h0 ?_⟩
  have h3 : a ^^^ m = a := by omega
  have h4 : a ^^^ (a ^^^ m) = a ^^^ a := by rw [h3]
  rw [← Nat.xor_assoc, Nat.xor_self, Nat.zero_xor] at h4
  exact h4

end Go.Proofs.Ytgpbacddpfbimaa
