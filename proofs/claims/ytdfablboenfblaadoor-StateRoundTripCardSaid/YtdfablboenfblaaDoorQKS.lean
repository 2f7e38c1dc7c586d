/-
  The calls of wire.AppendString, wire.String, wire.AppendBool, wire.Bool and of their four counterparts of elasticstoreref03, as P1.4 and P1.5 say them. Conditions: the slice reads as bytes; at most 2^40 bytes in what is appended to and in the string that is appended.
  The calls of wire.AppendInt, wire.Int, elasticstoreref03.Zigzag and elasticstoreref03.Int, as P1.3 says them. Conditions: the slice reads as bytes, at most 2^40 of them where something is appended; the number lies in the range of int64.
-/
import Derived.Test.YtdfablboenfblaaDoorQKB
import Derived.Test.YtdfablboenfblaaDoorQKO
namespace Go.Proofs.YtdfablboenfblaaDoor
open Go.RowKit
open WM (Bytes enc dec)

theorem strCells_nums (s : ByteArray) : SO.strCells s = (nums s).map (Value.int .u8) := by simp [SO.strCells, nums]

section
variable {w : World} {ops : Array Oper} {rest : List Oper} {o : Oper} {a : Act} {Q : Exit → Act → World → Prop} {base : Nat} {v : Value} {ys : List Int}
instance (c : Int) : Decidable (WM.isByte c) := inferInstanceAs (Decidable (_ ∧ _))
/-- 'append(out, s...)', out the call's own bytes, s a string. -/
theorem wp_appT {st : ByteArray} (hgd : o.guard = none) (s x : Operand) (ho : o.op = .call { callee := .builtin .append, args := #[s, x], argTypes := #[55, 9] })
    (hs : a.eval s = v) (hown : Own base w v ys) (hx : a.eval x = .string st) (hlen : ys.length ≤ 35184372088832) (hlen2 : st.size ≤ 35184372088832) (hb : base ≤ w.heap.size)
    (h : ∀ v' w', Own base w' v' (ys ++ nums st) → Below base w w' → wpList Tryd.prog ops Q rest (a.put o.dst v') w') :
    wpList Tryd.prog ops Q (o :: rest) a w := by
  obtain ⟨i0, hi, hz0, hz1, hz2⟩ := info_parts infoU8
  have hnl := nums_length st
  refine SO.wpList_append_own_string hgd s x 55 9 ho base 5 i0 (.int .u8 0) Tryd.underlying55 Tryd.underlying9 hi hz0 hz1 rfl _ _ _ hs hown.1 st hx ?_ ?_ hb ?_
  · unfold maxLen; omega
  · rw [hz2]; omega
  · intro v' w1 ho1 hg1
    exact h v' w1 ⟨by simpa [strCells_nums, hnl] using ho1, Bytes.append hown.2 (nums_bytes st)⟩ ((Below.refl _ _).grown hg1 hb (fun k hk => (hown.1.lt k hk).1))
end

set_option maxRecDepth 100000 in
set_option maxHeartbeats 1000000 in
theorem wAppendString (v : Value) (xs : List Int) (s : ByteArray) (w : World) (h : Rd w v xs) (hlen : xs.length ≤ 1099511627776) (hs : s.size ≤ 1099511627776) :
    Calls Tryd.prog 122 #[v, .string s] w fun e w' => ∃ v', e = .returned v' ∧ Own w.heap.size w' v' (xs ++ enc s.size ++ nums s) ∧ Below w.heap.size w w' := by
  have hc := wAppendUint v xs s.size w h hlen (by omega)
  have hl10 := WM.enc_len10 s.size (by omega)
  go_enter Tryd.func122, Tryd.ntmps122
  go_wp2_with fail
  refine hc.mono ?_
  rintro e w1 ⟨v1, rfl, hown, hb⟩
  clear hc
  have hsz := hb.size
  have hl : (xs ++ enc s.size).length ≤ 35184372088832 := by rw [List.length_append]; omega
  go_wp2_with (at_builtin; refine wp_appT rfl _ _ rfl rfl hown rfl hl (by omega) hsz ?_)
  intro v2 w2 ho2 hb2
  go_wp2
  go_ret
  exact ⟨v2, rfl, by rw [List.append_assoc]; exact ho2, hb.trans hb2⟩

set_option maxRecDepth 100000 in
set_option maxHeartbeats 1000000 in
theorem rAppendString (v : Value) (xs : List Int) (s : ByteArray) (w : World) (h : Rd w v xs) (hlen : xs.length ≤ 1099511627776) (hs : s.size ≤ 1099511627776) :
    Calls Tryd.prog 94 #[v, .string s] w fun e w' => ∃ v', e = .returned v' ∧ Own w.heap.size w' v' (xs ++ enc s.size ++ nums s) ∧ Below w.heap.size w w' := by
  have hc := rAppendUint v xs s.size w h hlen (by omega)
  have hl10 := WM.enc_len10 s.size (by omega)
  go_enter Tryd.func94, Tryd.ntmps94
  go_wp2_with fail
  refine hc.mono ?_
  rintro e w1 ⟨v1, rfl, hown, hb⟩
  clear hc
  have hsz := hb.size
  have hl : (xs ++ enc s.size).length ≤ 35184372088832 := by rw [List.length_append]; omega
  go_wp2_with (at_builtin; refine wp_appT rfl _ _ rfl rfl hown rfl hl (by omega) hsz ?_)
  intro v2 w2 ho2 hb2
  go_wp2
  go_ret
  exact ⟨v2, rfl, by rw [List.append_assoc]; exact ho2, hb.trans hb2⟩

/-- P1.4 of a list of bytes: the string's bytes, the bytes consumed, the error. -/
def decS (xs : List Int) : List Int × Int × Int :=
  if (dec 0 0 xs).2.2 = 0 then (if (xs.length : Int) - (dec 0 0 xs).2.1 < (dec 0 0 xs).1 then ([], 0, 1)
    else ((xs.drop (dec 0 0 xs).2.1.toNat).take (dec 0 0 xs).1.toNat, (dec 0 0 xs).2.1 + (dec 0 0 xs).1, 0)) else ([], 0, (dec 0 0 xs).2.2)

theorem decS_err {xs : List Int} {e : Int} (h : dec 0 0 xs = (0, 0, e)) (he : e ≠ 0) : decS xs = ([], 0, e) := by unfold decS; rw [h]; simp [he]
theorem decS_short {xs : List Int} {m : Nat} (h : dec 0 0 xs = ((m : Int), ((enc m).length : Int), 0)) (hl : (xs.length : Int) - (enc m).length < m) : decS xs = ([], 0, 1) := by unfold decS; rw [h]; simp [hl]
theorem decS_ok {xs : List Int} {m : Nat} (h : dec 0 0 xs = ((m : Int), ((enc m).length : Int), 0)) (hl : ¬ (xs.length : Int) - (enc m).length < m) :
    decS xs = ((xs.drop (enc m).length).take m, (((enc m).length + m : Nat) : Int), 0) := by unfold decS; rw [h]; simp [hl]

set_option maxRecDepth 100000 in
set_option maxHeartbeats 1000000 in
theorem wString (v : Value) (xs : List Int) (w : World) (h : Rd w v xs) :
    Calls Tryd.prog 134 #[v] w fun e w' => e = .returned (.tuple #[.string (strOfNums (decS xs).1), .int .i64 (decS xs).2.1, .int .i64 (decS xs).2.2]) ∧ w = w' := by
  have hc := wUint v xs w h
  obtain ⟨a, n, c, rfl, h1, h2, h3, _⟩ := id h
  subst h1
  unfold maxLen at h3
  rcases WM.dec_two xs h.bytes with ⟨e, he, hd⟩ | ⟨m, hm, hd, hml, _⟩
  · have he0 : e ≠ 0 := by rcases he with rfl | rfl | rfl <;> decide
    rw [hd] at hc
    rw [decS_err hd he0]
    have he2 : (e != 0) = true := by rcases he with rfl | rfl | rfl <;> rfl
    clear he hd he0 h
    go_enter Tryd.func134, Tryd.ntmps134
    go_wp2_with fail
    refine hc.mono ?_
    rintro e w1 ⟨rfl, rfl⟩
    clear hc
    go_wp2
    go_ret3
    exact ⟨rfl, rfl⟩
  · rw [hd] at hc
    by_cases hl : (xs.length : Int) - (enc m).length < m
    · rw [decS_short hd hl]
      clear hd h
      go_enter Tryd.func134, Tryd.ntmps134
      go_wp2_with fail
      refine hc.mono ?_
      rintro e w1 ⟨rfl, rfl⟩
      clear hc
      go_wp2
      go_ret3
      exact ⟨rfl, rfl⟩
    · rw [decS_ok hd hl]
      obtain ⟨v', hv', hsl, hrd⟩ := h.cut (enc m).length ((enc m).length + m) (by omega) (by omega)
      have hst := hrd.str
      rw [show (enc m).length + m - (enc m).length = m from by omega] at hst
      rw [show (((enc m).length + m : Nat) : Int) = ((enc m).length : Int) + m from by omega] at hsl ⊢
      clear hd h hrd hv' hm
      go_enter Tryd.func134, Tryd.ntmps134
      go_wp2_with fail
      refine hc.mono ?_
      rintro e w1 ⟨rfl, rfl⟩
      clear hc
      go_wp2
      go_ret3
      exact ⟨rfl, rfl⟩

set_option maxRecDepth 100000 in
set_option maxHeartbeats 1000000 in
theorem rString (v : Value) (xs : List Int) (w : World) (h : Rd w v xs) :
    Calls Tryd.prog 131 #[v] w fun e w' => e = .returned (.tuple #[.string (strOfNums (decS xs).1), .int .i64 (decS xs).2.1, .int .i64 (decS xs).2.2]) ∧ w = w' := by
  have hc := rUint v xs w h
  obtain ⟨a, n, c, rfl, h1, h2, h3, _⟩ := id h
  subst h1
  unfold maxLen at h3
  rcases WM.dec_two xs h.bytes with ⟨e, he, hd⟩ | ⟨m, hm, hd, hml, _⟩
  · have he0 : e ≠ 0 := by rcases he with rfl | rfl | rfl <;> decide
    rw [hd] at hc
    rw [decS_err hd he0]
    have he2 : (e != 0) = true := by rcases he with rfl | rfl | rfl <;> rfl
    clear he hd he0 h
    go_enter Tryd.func131, Tryd.ntmps131
    go_wp2_with fail
    refine hc.mono ?_
    rintro e w1 ⟨rfl, rfl⟩
    clear hc
    go_wp2
    go_ret3
    exact ⟨rfl, rfl⟩
  · rw [hd] at hc
    by_cases hl : (xs.length : Int) - (enc m).length < m
    · rw [decS_short hd hl]
      clear hd h
      go_enter Tryd.func131, Tryd.ntmps131
      go_wp2_with fail
      refine hc.mono ?_
      rintro e w1 ⟨rfl, rfl⟩
      clear hc
      go_wp2
      go_ret3
      exact ⟨rfl, rfl⟩
    · rw [decS_ok hd hl]
      obtain ⟨v', hv', hsl, hrd⟩ := h.cut (enc m).length ((enc m).length + m) (by omega) (by omega)
      have hst := hrd.str
      rw [show (enc m).length + m - (enc m).length = m from by omega] at hst
      rw [show (((enc m).length + m : Nat) : Int) = ((enc m).length : Int) + m from by omega] at hsl ⊢
      clear hd h hrd hv' hm
      go_enter Tryd.func131, Tryd.ntmps131
      go_wp2_with fail
      refine hc.mono ?_
      rintro e w1 ⟨rfl, rfl⟩
      clear hc
      go_wp2
      go_ret3
      exact ⟨rfl, rfl⟩

/-- P1.5 of a list of bytes. -/
def decB : List Int → Bool × Int × Int
  | [] => (false, 0, 1)
  | c :: _ => if 1 < c then (false, 0, 2) else (c == 1, 1, 0)
def bit (b : Bool) : Int := if b then 1 else 0

end Go.Proofs.YtdfablboenfblaaDoor

namespace Go.Proofs.YtdfablboenfblaaDoor
open Go.RowKit
open WM (Bytes enc dec zig zag)

theorem zig_pos (z : Int) (h : 0 ≤ z) : (zig z : Int) = 2 * z := by unfold zig; rw [if_pos h]; omega
theorem zig_neg (z : Int) (h : ¬ 0 ≤ z) : (zig z : Int) = -2 * z - 1 := by unfold zig; rw [if_neg h]; omega

/-- '^z' on an int64. -/
theorem not64 (z : Int) (h1 : -9223372036854775808 ≤ z) (h2 : z ≤ 9223372036854775807) : bits .xor .i64 (-1) z = -z - 1 := by
  show IntKind.i64.wrap ((BitVec.ofInt 64 (-1) ^^^ BitVec.ofInt 64 z).toNat : Int) = _
  have e1 : BitVec.ofInt 64 (-1) = BitVec.allOnes 64 := by decide
  have e2 : ((BitVec.ofInt 64 z).toNat : Int) = z % 18446744073709551616 := by rw [BitVec.toNat_ofInt]; simp; omega
  have h3 := (BitVec.ofInt 64 z).isLt
  rw [e1, BitVec.allOnes_xor, BitVec.toNat_not]
  generalize (BitVec.ofInt 64 z).toNat = q at e2 h3
  simp [IntKind.wrap, IntKind.bits, IntKind.signed]
  omega

set_option maxRecDepth 100000 in
set_option maxHeartbeats 1000000 in
theorem wAppendInt (v : Value) (xs : List Int) (z : Int) (w : World) (h : Rd w v xs) (hlen : xs.length ≤ 1099511627776) (hz : -9223372036854775808 ≤ z) (hz2 : z ≤ 9223372036854775807) :
    Calls Tryd.prog 123 #[v, .int .i64 z] w fun e w' => ∃ v', e = .returned v' ∧ Own w.heap.size w' v' (xs ++ enc (zig z)) ∧ Below w.heap.size w w' := by
  have hc := wAppendUint v xs (zig z) w h hlen (WM.zig_lt z hz hz2)
  by_cases h0 : 0 ≤ z
  · rw [zig_pos z h0] at hc
    go_enter Tryd.func123, Tryd.ntmps123
    go_wp2_with fail
    refine hc.mono ?_
    rintro e w1 ⟨v1, rfl, hown, hb⟩
    go_wp2
    go_ret
    exact ⟨v1, rfl, hown, hb⟩
  · rw [zig_neg z h0] at hc
    have hx := Lib.hid (not64 z hz hz2)
    go_enter Tryd.func123, Tryd.ntmps123
    go_wp2_with fail
    have e : IntKind.u64.wrap (IntKind.u64.wrap (2 * IntKind.u64.wrap (bits BinOp.xor IntKind.i64 (-1) z)) + 1) = -2 * z - 1 := by
      rw [hx.out]; simp only [IntKind.wrap_u64]; omega
    rw [e]
    refine hc.mono ?_
    rintro e w1 ⟨v1, rfl, hown, hb⟩
    go_wp2
    go_ret
    exact ⟨v1, rfl, hown, hb⟩

set_option maxRecDepth 100000 in
set_option maxHeartbeats 1000000 in
theorem rZigzag (z : Int) (w : World) (hz : -9223372036854775808 ≤ z) (hz2 : z ≤ 9223372036854775807) :
    Calls Tryd.prog 118 #[.int .i64 z] w fun e w' => e = .returned (.int .u64 (zig z)) ∧ w = w' := by
  by_cases h0 : 0 ≤ z
  · have he := Lib.hid (zig_pos z h0)
    go_enter Tryd.func118, Tryd.ntmps118
    go_wp2
    go_ret
    exact ⟨by rw [he.out, Int.mul_comm]; rfl, rfl⟩
  · have he := Lib.hid (zig_neg z h0)
    go_enter Tryd.func118, Tryd.ntmps118
    go_wp2
    go_ret
    exact ⟨by rw [he.out, show -2 * z - 1 = -(z + 1) * 2 + 1 from by omega]; rfl, rfl⟩

theorem zag_odd' (m : Nat) (hp : m % 2 = 1) : zag (m : Int) = -((m : Int) / 2) - 1 := by unfold zag; rw [if_neg (by omega)]
theorem zag_odd (m : Nat) (hm : m < 18446744073709551616) (hp : m % 2 = 1) : zag (m : Int) = bits BinOp.xor IntKind.i64 (-1) ((m : Int) / 2) := by rw [zag_odd' m hp, not64 _ (by omega) (by omega)]
theorem zag_even (m : Nat) (hp : ¬ m % 2 = 1) : zag (m : Int) = (m : Int) / 2 := by unfold zag; rw [if_pos (by omega)]

set_option maxRecDepth 100000 in
set_option maxHeartbeats 1000000 in
theorem wInt (v : Value) (xs : List Int) (w : World) (h : Rd w v xs) :
    Calls Tryd.prog 136 #[v] w fun e w' => e = .returned (.tuple #[.int .i64 (zag (dec 0 0 xs).1), .int .i64 (dec 0 0 xs).2.1, .int .i64 (dec 0 0 xs).2.2]) ∧ w = w' := by
  have hc := wUint v xs w h
  rcases WM.dec_two xs h.bytes with ⟨e, he, hd⟩ | ⟨m, hm, hd, _, _⟩
  · rw [hd] at hc ⊢
    have he1 : (e == 0) = false := by rcases he with rfl | rfl | rfl <;> rfl
    have he2 : (e != 0) = true := by rcases he with rfl | rfl | rfl <;> rfl
    clear he hd
    go_enter Tryd.func136, Tryd.ntmps136
    go_wp2_with fail
    refine hc.mono ?_
    rintro e w1 ⟨rfl, rfl⟩
    clear hc
    go_wp2
    go_ret3
    exact ⟨rfl, rfl⟩
  · rw [hd] at hc ⊢
    clear hd
    by_cases hp : m % 2 = 1
    · have hq : (((m : Int) % 2) == 1) = true := by simp; omega
      go_enter Tryd.func136, Tryd.ntmps136
      go_wp2_with fail
      refine hc.mono ?_
      rintro e w1 ⟨rfl, rfl⟩
      clear hc
      go_wp2
      go_ret3
      exact ⟨by rw [zag_odd m hm hp]; rfl, rfl⟩
    · have hq : (((m : Int) % 2) == 1) = false := by simp; omega
      go_enter Tryd.func136, Tryd.ntmps136
      go_wp2_with fail
      refine hc.mono ?_
      rintro e w1 ⟨rfl, rfl⟩
      clear hc
      go_wp2
      go_ret3
      exact ⟨by rw [zag_even m hp]; rfl, rfl⟩

set_option maxRecDepth 100000 in
set_option maxHeartbeats 1000000 in
theorem rInt (v : Value) (xs : List Int) (w : World) (h : Rd w v xs) :
    Calls Tryd.prog 132 #[v] w fun e w' => e = .returned (.tuple #[.int .i64 (zag (dec 0 0 xs).1), .int .i64 (dec 0 0 xs).2.1, .int .i64 (dec 0 0 xs).2.2]) ∧ w = w' := by
  have hc := rUint v xs w h
  rcases WM.dec_two xs h.bytes with ⟨e, he, hd⟩ | ⟨m, hm, hd, _, _⟩
  · rw [hd] at hc ⊢
    have he1 : (e == 0) = false := by rcases he with rfl | rfl | rfl <;> rfl
    have he2 : (e != 0) = true := by rcases he with rfl | rfl | rfl <;> rfl
    clear he hd
    go_enter Tryd.func132, Tryd.ntmps132
    go_wp2_with fail
    refine hc.mono ?_
    rintro e w1 ⟨rfl, rfl⟩
    clear hc
    go_wp2
    go_ret3
    exact ⟨rfl, rfl⟩
  · rw [hd] at hc ⊢
    clear hd
    by_cases hp : m % 2 = 1
    · have hq : (((m : Int) % 2) == 0) = false := by simp; omega
      go_enter Tryd.func132, Tryd.ntmps132
      go_wp2_with fail
      refine hc.mono ?_
      rintro e w1 ⟨rfl, rfl⟩
      clear hc
      go_wp2
      go_ret3
      exact ⟨by rw [zag_odd' m hp]; rfl, rfl⟩
    · have hq : (((m : Int) % 2) == 0) = true := by simp; omega
      go_enter Tryd.func132, Tryd.ntmps132
      go_wp2_with fail
      refine hc.mono ?_
      rintro e w1 ⟨rfl, rfl⟩
      clear hc
      go_wp2
      go_ret3
      exact ⟨by rw [zag_even m hp]; rfl, rfl⟩

end Go.Proofs.YtdfablboenfblaaDoor
