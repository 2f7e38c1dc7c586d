/-
  The calls of bytes.Clone, wire.AppendUint and elasticstoreref03.AppendUint: each returns the given bytes and behind them the base-128 encoding, in memory of the call's own. Conditions: the slice reads as bytes, at most 2^40 of them; the number lies in the range of uint64.
  The calls of wire.Uint and elasticstoreref03.Uint: each returns what P1.2 says of the bytes (WM.dec). Conditions: the slice reads as bytes.
  The call of wire.Uint: it returns what P1.2 says of the bytes (WM.dec). Conditions: the slice reads as bytes.
  A region that draws its order, walked step by step: the library's laws with the operation written out field by field, so that the frame is laid out anew behind each step. No conditions beyond those that each lemma names.
-/
import Derived.Test.YthgnhaimdkcmeaaGreatDoorKA
import Derived.Deep.RegionHeld3
namespace Go.Proofs.YthgnhaimdkcmeaaGreatDoor
open Go.RowKit
open WM (Bytes enc)

theorem wrap_div (m : Nat) (h : m < 18446744073709551616) : IntKind.u64.wrap ((m : Int) / 128) = ((m / 128 : Nat) : Int) := by
  rw [IntWalk.u64_in _ ⟨by omega, by omega⟩]; omega

theorem or_nat : ∀ a : Nat, a < 256 → a ||| 128 = a % 128 + 128 := by decide +kernel
theorem or_byte (m : Nat) : bits .or .u8 ((m : Int) % 256) 128 = ((m % 128 + 128 : Nat) : Int) := by
  have h := u8_or_nat (m % 256) 128 (by omega) (by omega)
  rw [or_nat _ (by omega)] at h
  have e : m % 256 % 128 = m % 128 := by omega
  rw [e] at h
  exact h

end Go.Proofs.YthgnhaimdkcmeaaGreatDoor

namespace Go.Proofs.YthgnhaimdkcmeaaGreatDoor
open Go.RowKit
open WM (Bytes enc dec)

theorem byte_at {xs : List Int} {w : World} {b off k : Nat} (h : Bytes xs) (hc : ∀ i, i < xs.length → w.cell? ⟨b, off + i, none⟩ = some (.int .u8 (xs.getD i 0))) (hk : k < xs.length) :
    ∃ y : Int, w.cell? ⟨b, off + k, none⟩ = some (.int .u8 y) ∧ 0 ≤ y ∧ y < 256 ∧ Hid (xs.drop k = y :: xs.drop (k + 1)) := by
  have h1 : xs.getD k 0 = xs[k] := by simp [List.getD, List.getElem?_eq_getElem hk]
  have h2 := h _ (List.getElem_mem hk)
  exact ⟨xs[k], by rw [← h1]; exact hc k hk, h2.1, h2.2, List.drop_eq_getElem_cons hk⟩

theorem pow7 (k : Nat) : (2 : Nat) ^ (7 * k) = 128 ^ k := by rw [Nat.pow_mul]
theorem pow7' (k : Nat) : (2 : Int) ^ (7 * k) = ((128 ^ k : Nat) : Int) := by rw [← pow7]; push_cast; rfl
theorem shl_lt (X k z : Nat) (hX : X < 128 ^ k) (hz : z < 128) : X + z * 128 ^ k < 128 ^ (k + 1) := by
  rw [Nat.pow_succ, Nat.mul_comm (128 ^ k) 128]
  have : z * 128 ^ k ≤ 127 * 128 ^ k := Nat.mul_le_mul_right _ (by omega)
  omega
theorem or_shl_nat (X k z : Nat) (hk : k ≤ 8) (hX : X < 128 ^ k) (hz : z < 128) : bits .or .u64 (X : Int) (IntKind.u64.wrap ((z : Int) * 2 ^ (7 * k))) = ((X + z * 128 ^ k : Nat) : Int) := by
  have h8 : (128 : Nat) ^ (k + 1) ≤ 128 ^ 9 := Nat.pow_le_pow_right (by omega) (by omega)
  have h9 : (128 : Nat) ^ 9 = 9223372036854775808 := by simp
  have hs := shl_lt X k z hX hz
  rw [h9] at h8
  have e : (z : Int) * 2 ^ (7 * k) = ((z * 128 ^ k : Nat) : Int) := by rw [pow7']; push_cast; rfl
  rw [e, IntWalk.u64_in _ ⟨by omega, by omega⟩, u64_or_nat X (z * 128 ^ k) (by omega) (by omega)]
  congr 1
  rw [Nat.or_comm, nat_join (7 * k) _ _ (by rw [pow7]; exact Nat.mul_mod_left _ _) (by rw [pow7]; exact hX)]
  omega
theorem or_shl (X k : Nat) (y : Int) (hk : k ≤ 8) (hX : X < 128 ^ k) (h0 : 0 ≤ y) (h1 : y < 128) : bits .or .u64 (X : Int) (IntKind.u64.wrap (y * 2 ^ (7 * k))) = (X : Int) + y * 128 ^ k := by
  obtain ⟨z, rfl⟩ := Int.eq_ofNat_of_zero_le h0
  rw [or_shl_nat X k z hk hX (by omega)]; push_cast; rfl
theorem or_nine (X : Nat) (hX : X < 128 ^ 9) : bits .or .u64 (X : Int) 9223372036854775808 = (X : Int) + 9223372036854775808 := by
  have h9 : (128 : Nat) ^ 9 = 9223372036854775808 := by simp
  rw [h9] at hX
  have := u64_or_nat X 9223372036854775808 (by omega) (by omega)
  rw [Nat.or_comm, nat_join 63 _ _ (by simp) (by simpa using hX)] at this
  refine Eq.trans this ?_
  omega

end Go.Proofs.YthgnhaimdkcmeaaGreatDoor

namespace Go.Proofs.YthgnhaimdkcmeaaGreatDoor
open Go.RowKit
open WM (Bytes enc dec)

theorem and_lo : ∀ a : Nat, a < 128 → a &&& 128 = 0 := by decide +kernel
theorem and_hi : ∀ a : Nat, a < 256 → 128 ≤ a → a &&& 128 = 128 := by decide +kernel
theorem nand_lo : ∀ a : Nat, a < 128 → a &&& (255 - 128) = a := by decide +kernel
theorem nand_hi : ∀ a : Nat, a < 256 → 128 ≤ a → a &&& (255 - 128) = a - 128 := by decide +kernel
theorem bits_lo (y : Int) (h0 : 0 ≤ y) (h1 : y < 128) : bits .and .u8 y 128 = 0 ∧ bits .andNot .u8 y 128 = y := by
  obtain ⟨z, rfl⟩ := Int.eq_ofNat_of_zero_le h0
  have a := u8_and_nat z 128 (by omega) (by omega)
  have b := u8_andNot_nat z 128 (by omega) (by omega)
  rw [and_lo z (by omega)] at a
  rw [nand_lo z (by omega)] at b
  exact ⟨a, b⟩
theorem bits_hi (y : Int) (h0 : 128 ≤ y) (h1 : y < 256) : bits .and .u8 y 128 = 128 ∧ bits .andNot .u8 y 128 = y - 128 := by
  obtain ⟨z, rfl⟩ := Int.eq_ofNat_of_zero_le (show 0 ≤ y by omega)
  have a := u8_and_nat z 128 (by omega) (by omega)
  have b := u8_andNot_nat z 128 (by omega) (by omega)
  rw [and_hi z (by omega) (by omega)] at a
  rw [nand_hi z (by omega) (by omega)] at b
  exact ⟨a, b.trans (by omega)⟩

theorem or_zero (y : Int) (h0 : 0 ≤ y) (h1 : y < 256) : bits BinOp.or IntKind.u64 0 y = y := by
  obtain ⟨z, rfl⟩ := Int.eq_ofNat_of_zero_le h0
  have := u64_or_nat 0 z (by omega) (by omega)
  rw [Nat.zero_or] at this
  exact this

/-- What holds at every jump to the label of wire.Uint. -/
def UJ (w : World) (b off c : Nat) (xs : List Int) (a' : Act) (w' : World) : Prop :=
  w = w' ∧ ∃ (k X : Nat) (u7 u8 u9 u10 u11 u12 u13 u14 u15 u16 u17 u18 u19 u20 u21 u22 u23 u24 u25 u26 u27 u28 u29 u30 u31 u32 u33 u34 u35 u36 u37 u38 u39 u40 u41 u42 u43 u44 u45 u46 u47 u48 u49 u50 : Value), k ≤ xs.length ∧ 0 < k ∧ k ≤ 9 ∧ Hid (X < 128 ^ k) ∧ Hid (dec 0 0 xs = dec k X (xs.drop k)) ∧
    a' = { tmps := #[.slice (some ⟨b, off, none⟩) xs.length c, undef, .int .u64 0, .int .i64 0, .int .i64 0, .int .u64 X, .int .i64 k, u7, u8, u9, u10, u11, u12, u13, u14, u15, u16, u17, u18, u19, u20, u21, u22, u23, u24, u25, u26, u27, u28, u29, u30, u31, u32, u33, u34, u35, u36, u37, u38, u39, u40, u41, u42, u43, u44, u45, u46, u47, u48, u49, u50], defers := [] }

end Go.Proofs.YthgnhaimdkcmeaaGreatDoor

namespace Go.Proofs.YthgnhaimdkcmeaaGreatDoor

section
variable {P : Program} {ops : Array Oper} {Q : Exit → Act → World → Prop} {md : Region.Mode} {S : World → Prop} {i : Nat} {fuel : Nat} {listed : Array Bool} {a : Act} {w : World}
variable {d : Option Tmp} {op : Op} {ty : TypeId} {pos : String} {after : Array Edge} {gd : Option (Nat × Bool)}

theorem takeH {v : Value} (hi : ops[i]? = some ⟨d, op, ty, pos, after, gd⟩)
    (hs : Region.noSelect ops = true) (hf : Region.free md ops listed i = true) (hr : (Region.ready md ops listed).contains i = true)
    (hQ : ∀ c a w, Q (.panic c) (a.put d v) w → Q (.panic c) a w) (hy : YieldsIf P ops S ⟨d, op, ty, pos, after, gd⟩ v a) (hS : S w)
    (h : wpAnyH P md ops Q S fuel (listed.setIfInBounds i true) (a.put d v) w) : wpAnyH P md ops Q S (fuel + 1) listed a w :=
  wpAnyH_take hi hs hf hr hQ hy hS h

theorem stepH {rs : List Nat} (ho : ops[i]? = some ⟨d, op, ty, pos, after, gd⟩)
    (h : ∀ K' : Act → World → Prop, Shut (∀ a w, S w → (S w → wpAnyH P md ops Q S fuel (listed.setIfInBounds i true) a w) → K' a w) → if Region.wanted ⟨d, op, ty, pos, after, gd⟩ (yielded ops a.tmps) = true then Oper.wp P ⟨d, op, ty, pos, after, gd⟩ a w K' Q else K' (a.put d undef) w)
    (hs : AllReadyH P md ops Q S fuel listed a w rs) : AllReadyH P md ops Q S fuel listed a w (i :: rs) := AllReadyH.cons ho h hs
end

end Go.Proofs.YthgnhaimdkcmeaaGreatDoor
