/-
  The calls of wire.AppendInt, wire.Int, elasticstoreref03.Zigzag and elasticstoreref03.Int, as P1.3 says them. Conditions: the slice reads as bytes, at most 2^40 of them where something is appended; the number lies in the range of int64.
-/
import Derived.Test.YtipjifdjgipocaaUint
import Derived.Test.YtipjifdjgipocaaGoto
namespace Go.Proofs.Ytipjifdjgipocaa
open Go.RowKit
open WM (Bytes enc dec zig zag)

theorem zig_pos (z : Int) (h : 0 ≤ z) : (zig z : Int) = 2 * z := by unfold zig; rw [if_pos h]; omega
theorem zig_neg (z : Int) (h : ¬ 0 ≤ z) : (zig z : Int) = -2 * z - 1 := by unfold zig; rw [if_neg h]; omega

/-- '^z' on an int64. -/
theorem not64 (z : Int) (h1 : -9223372036854775808 ≤ z) (h2 : z ≤ 9223372036854775807) : bits .xor .i64 (-1) z = -z - 1 := by
  show IntKind.i64.wrap ((BitVec.ofInt 64 (-1) ^^^ BitVec.ofInt 64 z).toNat : Int) = _
  have e1 : BitVec.ofInt 64 (-1) = BitVec.allOnes 64 := by decide
  have e2 : ((BitVec.ofInt 64 z).toNat : Int) = z % 18446744073709551616 := by rw [BitVec.toNat_ofInt]; simp; omega
  have h3 := (BitVec.ofInt 64 z).isLt
  rw [e1, BitVec.allOnes_xor, BitVec.toNat_not]
  generalize (BitVec.ofInt 64 z).toNat = q at e2 h3
  simp [IntKind.wrap, IntKind.bits, IntKind.signed]
  omega

set_option maxRecDepth 100000 in
set_option maxHeartbeats 1000000 in
theorem wAppendInt (v : Value) (xs : List Int) (z : Int) (w : World) (h : Rd w v xs) (hlen : xs.length ≤ 1099511627776) (hz : -9223372036854775808 ≤ z) (hz2 : z ≤ 9223372036854775807) :
    Calls Try.prog 18 #[v, .int .i64 z] w fun e w' => ∃ v', e = .returned v' ∧ Own w.heap.size w' v' (xs ++ enc (zig z)) ∧ Below w.heap.size w w' := by
  have hc := wAppendUint v xs (zig z) w h hlen (WM.zig_lt z hz hz2)
  by_cases h0 : 0 ≤ z
  · rw [zig_pos z h0] at hc
    go_enter Try.func18, Try.ntmps18
    go_wp2_with fail
    refine hc.mono ?_
    rintro e w1 ⟨v1, rfl, hown, hb⟩
    go_wp2
    go_ret
    exact ⟨v1, rfl, hown, hb⟩
  · rw [zig_neg z h0] at hc
    have hx := Lib.hid (not64 z hz hz2)
    go_enter Try.func18, Try.ntmps18
    go_wp2_with fail
    have e : IntKind.u64.wrap (IntKind.u64.wrap (2 * IntKind.u64.wrap (bits BinOp.xor IntKind.i64 (-1) z)) + 1) = -2 * z - 1 := by
      rw [hx.out]; simp only [IntKind.wrap_u64]; omega
    rw [e]
    refine hc.mono ?_
    rintro e w1 ⟨v1, rfl, hown, hb⟩
    go_wp2
    go_ret
    exact ⟨v1, rfl, hown, hb⟩

set_option maxRecDepth 100000 in
set_option maxHeartbeats 1000000 in
theorem rZigzag (z : Int) (w : World) (hz : -9223372036854775808 ≤ z) (hz2 : z ≤ 9223372036854775807) :
    Calls Try.prog 20 #[.int .i64 z] w fun e w' => e = .returned (.int .u64 (zig z)) ∧ w = w' := by
  by_cases h0 : 0 ≤ z
  · have he := Lib.hid (zig_pos z h0)
    go_enter Try.func20, Try.ntmps20
    go_wp2
    go_ret
    exact ⟨by rw [he.out, Int.mul_comm]; rfl, rfl⟩
  · have he := Lib.hid (zig_neg z h0)
    go_enter Try.func20, Try.ntmps20
    go_wp2
    go_ret
    exact ⟨by rw [he.out, show -2 * z - 1 = -(z + 1) * 2 + 1 from by omega]; rfl, rfl⟩

theorem zag_odd' (m : Nat) (hp : m % 2 = 1) : zag (m : Int) = -((m : Int) / 2) - 1 := by unfold zag; rw [if_neg (by omega)]
theorem zag_odd (m : Nat) (hm : m < 18446744073709551616) (hp : m % 2 = 1) : zag (m : Int) = bits BinOp.xor IntKind.i64 (-1) ((m : Int) / 2) := by rw [zag_odd' m hp, not64 _ (by omega) (by omega)]
theorem zag_even (m : Nat) (hp : ¬ m % 2 = 1) : zag (m : Int) = (m : Int) / 2 := by unfold zag; rw [if_pos (by omega)]

set_option maxRecDepth 100000 in
set_option maxHeartbeats 1000000 in
theorem wInt (v : Value) (xs : List Int) (w : World) (h : Rd w v xs) :
    Calls Try.prog 19 #[v] w fun e w' => e = .returned (.tuple #[.int .i64 (zag (dec 0 0 xs).1), .int .i64 (dec 0 0 xs).2.1, .int .i64 (dec 0 0 xs).2.2]) ∧ w = w' := by
  have hc := wUint v xs w h
  rcases WM.dec_two xs h.bytes with ⟨e, he, hd⟩ | ⟨m, hm, hd, _, _⟩
  · rw [hd] at hc ⊢
    have he1 : (e == 0) = false := by rcases he with rfl | rfl | rfl <;> rfl
    have he2 : (e != 0) = true := by rcases he with rfl | rfl | rfl <;> rfl
    clear he hd
    go_enter Try.func19, Try.ntmps19
    go_wp2_with fail
    refine hc.mono ?_
    rintro e w1 ⟨rfl, rfl⟩
    clear hc
    go_wp2
    go_ret3
    exact ⟨rfl, rfl⟩
  · rw [hd] at hc ⊢
    clear hd
    by_cases hp : m % 2 = 1
    · have hq : (((m : Int) % 2) == 1) = true := by simp; omega
      go_enter Try.func19, Try.ntmps19
      go_wp2_with fail
      refine hc.mono ?_
      rintro e w1 ⟨rfl, rfl⟩
      clear hc
      go_wp2
      go_ret3
      exact ⟨by rw [zag_odd m hm hp]; rfl, rfl⟩
    · have hq : (((m : Int) % 2) == 1) = false := by simp; omega
      go_enter Try.func19, Try.ntmps19
      go_wp2_with fail
      refine hc.mono ?_
      rintro e w1 ⟨rfl, rfl⟩
      clear hc
      go_wp2
      go_ret3
      exact ⟨by rw [zag_even m hp]; rfl, rfl⟩

set_option maxRecDepth 100000 in
set_option maxHeartbeats 1000000 in
theorem rInt (v : Value) (xs : List Int) (w : World) (h : Rd w v xs) :
    Calls Try.prog 21 #[v] w fun e w' => e = .returned (.tuple #[.int .i64 (zag (dec 0 0 xs).1), .int .i64 (dec 0 0 xs).2.1, .int .i64 (dec 0 0 xs).2.2]) ∧ w = w' := by
  have hc := rUint v xs w h
  rcases WM.dec_two xs h.bytes with ⟨e, he, hd⟩ | ⟨m, hm, hd, _, _⟩
  · rw [hd] at hc ⊢
    have he1 : (e == 0) = false := by rcases he with rfl | rfl | rfl <;> rfl
    have he2 : (e != 0) = true := by rcases he with rfl | rfl | rfl <;> rfl
    clear he hd
    go_enter Try.func21, Try.ntmps21
    go_wp2_with fail
    refine hc.mono ?_
    rintro e w1 ⟨rfl, rfl⟩
    clear hc
    go_wp2
    go_ret3
    exact ⟨rfl, rfl⟩
  · rw [hd] at hc ⊢
    clear hd
    by_cases hp : m % 2 = 1
    · have hq : (((m : Int) % 2) == 0) = false := by simp; omega
      go_enter Try.func21, Try.ntmps21
      go_wp2_with fail
      refine hc.mono ?_
      rintro e w1 ⟨rfl, rfl⟩
      clear hc
      go_wp2
      go_ret3
      exact ⟨by rw [zag_odd' m hp]; rfl, rfl⟩
    · have hq : (((m : Int) % 2) == 0) = true := by simp; omega
      go_enter Try.func21, Try.ntmps21
      go_wp2_with fail
      refine hc.mono ?_
      rintro e w1 ⟨rfl, rfl⟩
      clear hc
      go_wp2
      go_ret3
      exact ⟨by rw [zag_even m hp]; rfl, rfl⟩

end Go.Proofs.Ytipjifdjgipocaa
