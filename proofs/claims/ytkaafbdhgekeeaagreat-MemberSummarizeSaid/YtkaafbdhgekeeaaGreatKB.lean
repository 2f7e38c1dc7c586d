/-
  The calls of bytes.Clone, wire.AppendUint and elasticstoreref03.AppendUint: each returns the given bytes and behind them the base-128 encoding, in memory of the call's own. Conditions: the slice reads as bytes, at most 2^40 of them; the number lies in the range of uint64.
  The calls of wire.Uint and elasticstoreref03.Uint: each returns what P1.2 says of the bytes (WM.dec). Conditions: the slice reads as bytes.
  The call of wire.Uint: it returns what P1.2 says of the bytes (WM.dec). Conditions: the slice reads as bytes.
  A region that draws its order, walked step by step: the library's laws with the operation written out field by field, so that the frame is laid out anew behind each step. No conditions beyond those that each lemma names.
-/
import Derived.Test.YtkaafbdhgekeeaaGreatKA
import Derived.Deep.RegionHeld3
namespace Go.Proofs.YtkaafbdhgekeeaaGreat
open Go.RowKit
open WM (Bytes enc)

set_option maxHeartbeats 1000000 in
theorem clone_any (v : Value) (xs : List Int) (w : World) (h : Rd w v xs) (hlen : xs.length ≤ 1099511627776) :
    Calls Tryz.prog 66 #[v] w fun e w' => ∃ v', e = .returned v' ∧ Own w.heap.size w' v' xs ∧ Below w.heap.size w w' := by
  have hbytes := h.bytes
  obtain ⟨a, n, c, rfl, h1, h2, h3, h4, h5, h6⟩ := h
  have q22 : ∀ (w : World) (a : Option Addr) (n c n' c' : Nat), (binOp .eql 54 (.slice a n c) (.slice none n' c')).run Tryz.prog w = .ok (.bool a.isNone) w := fun w a n c n' c' => Lib.run_eql_slice_nil w _ _ a n c n' c' Tryz.underlying54
  cases a with
  | none =>
    obtain ⟨rfl, rfl⟩ := h4 rfl
    obtain rfl : xs = [] := List.eq_nil_of_length_eq_zero h1
    clear h1 h4 h5 h6 h2 h3
    go_enter Tryz.func66, Tryz.ntmps66
    go_wp2
    go_ret
    exact ⟨_, rfl, ⟨World.ownsRow_nil _ _ _ _, hbytes⟩, Below.refl _ _⟩
  | some x =>
    obtain ⟨i0, hi, hz0, hz1, hz2⟩ := info_parts infoU8
    have A : Hid (∀ i, i < n → w.cell? (x.add i) = some (.int .u8 (xs.getD i 0))) := h5 x rfl
    clear h5 h4
    go_enter Tryz.func66, Tryz.ntmps66
    go_wp2_with (at_builtin; refine wpList_append_own _ rfl _ _ 54 rfl w.heap.size 5 i0 (.int .u8 0) 1 1 Tryz.underlying54 hi hz0 hz1 hz2 rfl (by decide) _ _ _ rfl (World.ownsRow_made w #[] 0 (Nat.le_refl _) (Nat.zero_le _) rfl) x n c (xs.map (Value.int .u8)) rfl ?qc1 ?qc2 ?qc3 ?qc4 ?qc5 ?qc6 ?_)
    case qc1 => simp; omega
    case qc2 =>
      intro j u hj
      have hjn : j < n := by
        have := (List.getElem?_eq_some_iff.1 hj).1
        simp at this
        omega
      refine Lib.cell?_alloc_some _ ?_
      rw [A.out j hjn]
      have e : (xs.map (Value.int .u8))[j]? = some (Value.int .u8 (xs.getD j 0)) := by simp [List.getD, List.getElem?_eq_getElem (show j < xs.length by omega)]
      rw [e] at hj
      exact hj
    case qc3 => exact ints_oneCell _ _
    case qc4 => unfold maxLen; omega
    case qc5 => omega
    case qc6 => simp
    intro v' w1 hown hgrow hnil
    go_wp2
    go_ret
    refine ⟨v', rfl, ⟨by simpa [h1] using hown, hbytes⟩, ?_⟩
    exact ((Below.refl _ w).alloc (Nat.le_refl _) _).grown hgrow (by simp) (by intro k hk; simp [Value.ownBlock] at hk; omega)

theorem wrap_div (m : Nat) (h : m < 18446744073709551616) : IntKind.u64.wrap ((m : Int) / 128) = ((m / 128 : Nat) : Int) := by
  rw [IntWalk.u64_in _ ⟨by omega, by omega⟩]; omega

theorem or_nat : ∀ a : Nat, a < 256 → a ||| 128 = a % 128 + 128 := by decide +kernel
theorem or_byte (m : Nat) : bits .or .u8 ((m : Int) % 256) 128 = ((m % 128 + 128 : Nat) : Int) := by
  have h := u8_or_nat (m % 256) 128 (by omega) (by omega)
  rw [or_nat _ (by omega)] at h
  have e : m % 256 % 128 = m % 128 := by omega
  rw [e] at h
  exact h

set_option maxRecDepth 100000 in
set_option maxHeartbeats 1000000 in
theorem wAppendUint (v : Value) (xs : List Int) (n : Nat) (w : World) (h : Rd w v xs) (hlen : xs.length ≤ 1099511627776) (hn : n < 18446744073709551616) :
    Calls Tryz.prog 67 #[v, .int .u64 n] w fun e w' => ∃ v', e = .returned v' ∧ Own w.heap.size w' v' (xs ++ enc n) ∧ Below w.heap.size w w' := by
  obtain ⟨i0, hi, hz0, hz1, hz2⟩ := info_parts infoU8
  have hcl := clone_any v xs w h hlen
  have hl10 := WM.enc_len10 n hn
  have HN := Lib.hid hn
  clear hn
  go_enter Tryz.func67, Tryz.ntmps67
  go_wp2_with fail
  refine hcl.mono ?_
  rintro e w1 ⟨v1, rfl, hown, hb⟩
  clear hcl
  go_wp2_with fail
  go_loopw [1, 5] (fun u z wr => ∃ (m : Nat) (ys : List Int), u = .int .u64 m ∧ Own w.heap.size wr z ys ∧ Hid (ys ++ enc m = xs ++ enc n) ∧ Below w.heap.size w wr ∧ ys.length ≤ 1099511627786)
    (fun u _ _ => (intOf u).toNat)
  case atStart => exact ⟨n, xs, rfl, hown, rfl, hb, by omega⟩
  case round =>
    obtain ⟨m, ys, rfl, ho, he, hbel, hyl⟩ := hrel
    have hsz := hbel.size
    by_cases hlt : m < 128
    · have hlt' : ¬ (128 : Int) ≤ (m : Int) := by omega
      go_wp2_with (at_builtin; refine wp_app1 rfl _ _ rfl rfl ho rfl ?h1 (by omega) (by omega) ?_)
      case h1 => unfold WM.isByte; omega
      intro v2 w2 ho2 hb2
      go_wp2
      go_ret
      refine ⟨v2, rfl, ?_, hbel.trans hb2⟩
      rw [← he.out, WM.enc_small hlt]
      exact ho2
    · have hlt' : (128 : Int) ≤ (m : Int) := by omega
      go_wp2_with (at_builtin; refine wp_app1 rfl _ _ rfl rfl ho rfl ?h2 (by omega) (by omega) ?_)
      case h2 => rw [or_byte]; unfold WM.isByte; omega
      intro v2 w2 ho2 hb2
      go_wp2
      rw [or_byte] at ho2
      have he2 := he.out
      rw [WM.enc_big hlt] at he2
      have hl2 : ys.length + 1 ≤ xs.length + (enc n).length := by
        have := congrArg List.length he2
        have := WM.enc_pos (m / 128)
        simp at *; omega
      go_roundw
      case rel => exact ⟨m / 128, _, by go_num, ho2, by rw [List.append_assoc]; exact he2, hbel.trans hb2, by simp; omega⟩
      case measure => simp [intOf]; omega

end Go.Proofs.YtkaafbdhgekeeaaGreat

namespace Go.Proofs.YtkaafbdhgekeeaaGreat
open Go.RowKit
open WM (Bytes enc dec)

theorem byte_at {xs : List Int} {w : World} {b off k : Nat} (h : Bytes xs) (hc : ∀ i, i < xs.length → w.cell? ⟨b, off + i, none⟩ = some (.int .u8 (xs.getD i 0))) (hk : k < xs.length) :
    ∃ y : Int, w.cell? ⟨b, off + k, none⟩ = some (.int .u8 y) ∧ 0 ≤ y ∧ y < 256 ∧ Hid (xs.drop k = y :: xs.drop (k + 1)) := by
  have h1 : xs.getD k 0 = xs[k] := by simp [List.getD, List.getElem?_eq_getElem hk]
  have h2 := h _ (List.getElem_mem hk)
  exact ⟨xs[k], by rw [← h1]; exact hc k hk, h2.1, h2.2, List.drop_eq_getElem_cons hk⟩

theorem pow7 (k : Nat) : (2 : Nat) ^ (7 * k) = 128 ^ k := by rw [Nat.pow_mul]
theorem pow7' (k : Nat) : (2 : Int) ^ (7 * k) = ((128 ^ k : Nat) : Int) := by rw [← pow7]; push_cast; rfl
theorem shl_lt (X k z : Nat) (hX : X < 128 ^ k) (hz : z < 128) : X + z * 128 ^ k < 128 ^ (k + 1) := by
  rw [Nat.pow_succ, Nat.mul_comm (128 ^ k) 128]
  have : z * 128 ^ k ≤ 127 * 128 ^ k := Nat.mul_le_mul_right _ (by omega)
  omega
theorem or_shl_nat (X k z : Nat) (hk : k ≤ 8) (hX : X < 128 ^ k) (hz : z < 128) : bits .or .u64 (X : Int) (IntKind.u64.wrap ((z : Int) * 2 ^ (7 * k))) = ((X + z * 128 ^ k : Nat) : Int) := by
  have h8 : (128 : Nat) ^ (k + 1) ≤ 128 ^ 9 := Nat.pow_le_pow_right (by omega) (by omega)
  have h9 : (128 : Nat) ^ 9 = 9223372036854775808 := by simp
  have hs := shl_lt X k z hX hz
  rw [h9] at h8
  have e : (z : Int) * 2 ^ (7 * k) = ((z * 128 ^ k : Nat) : Int) := by rw [pow7']; push_cast; rfl
  rw [e, IntWalk.u64_in _ ⟨by omega, by omega⟩, u64_or_nat X (z * 128 ^ k) (by omega) (by omega)]
  congr 1
  rw [Nat.or_comm, nat_join (7 * k) _ _ (by rw [pow7]; exact Nat.mul_mod_left _ _) (by rw [pow7]; exact hX)]
  omega
theorem or_shl (X k : Nat) (y : Int) (hk : k ≤ 8) (hX : X < 128 ^ k) (h0 : 0 ≤ y) (h1 : y < 128) : bits .or .u64 (X : Int) (IntKind.u64.wrap (y * 2 ^ (7 * k))) = (X : Int) + y * 128 ^ k := by
  obtain ⟨z, rfl⟩ := Int.eq_ofNat_of_zero_le h0
  rw [or_shl_nat X k z hk hX (by omega)]; push_cast; rfl
theorem or_nine (X : Nat) (hX : X < 128 ^ 9) : bits .or .u64 (X : Int) 9223372036854775808 = (X : Int) + 9223372036854775808 := by
  have h9 : (128 : Nat) ^ 9 = 9223372036854775808 := by simp
  rw [h9] at hX
  have := u64_or_nat X 9223372036854775808 (by omega) (by omega)
  rw [Nat.or_comm, nat_join 63 _ _ (by simp) (by simpa using hX)] at this
  refine Eq.trans this ?_
  omega

end Go.Proofs.YtkaafbdhgekeeaaGreat

namespace Go.Proofs.YtkaafbdhgekeeaaGreat
open Go.RowKit
open WM (Bytes enc dec)

theorem and_lo : ∀ a : Nat, a < 128 → a &&& 128 = 0 := by decide +kernel
theorem and_hi : ∀ a : Nat, a < 256 → 128 ≤ a → a &&& 128 = 128 := by decide +kernel
theorem nand_lo : ∀ a : Nat, a < 128 → a &&& (255 - 128) = a := by decide +kernel
theorem nand_hi : ∀ a : Nat, a < 256 → 128 ≤ a → a &&& (255 - 128) = a - 128 := by decide +kernel
theorem bits_lo (y : Int) (h0 : 0 ≤ y) (h1 : y < 128) : bits .and .u8 y 128 = 0 ∧ bits .andNot .u8 y 128 = y := by
  obtain ⟨z, rfl⟩ := Int.eq_ofNat_of_zero_le h0
  have a := u8_and_nat z 128 (by omega) (by omega)
  have b := u8_andNot_nat z 128 (by omega) (by omega)
  rw [and_lo z (by omega)] at a
  rw [nand_lo z (by omega)] at b
  exact ⟨a, b⟩
theorem bits_hi (y : Int) (h0 : 128 ≤ y) (h1 : y < 256) : bits .and .u8 y 128 = 128 ∧ bits .andNot .u8 y 128 = y - 128 := by
  obtain ⟨z, rfl⟩ := Int.eq_ofNat_of_zero_le (show 0 ≤ y by omega)
  have a := u8_and_nat z 128 (by omega) (by omega)
  have b := u8_andNot_nat z 128 (by omega) (by omega)
  rw [and_hi z (by omega) (by omega)] at a
  rw [nand_hi z (by omega) (by omega)] at b
  exact ⟨a, b.trans (by omega)⟩

theorem or_zero (y : Int) (h0 : 0 ≤ y) (h1 : y < 256) : bits BinOp.or IntKind.u64 0 y = y := by
  obtain ⟨z, rfl⟩ := Int.eq_ofNat_of_zero_le h0
  have := u64_or_nat 0 z (by omega) (by omega)
  rw [Nat.zero_or] at this
  exact this

/-- What holds at every jump to the label of wire.Uint. -/
def UJ (w : World) (b off c : Nat) (xs : List Int) (a' : Act) (w' : World) : Prop :=
  w = w' ∧ ∃ (k X : Nat) (u7 u8 u9 u10 u11 u12 u13 u14 u15 u16 u17 u18 u19 u20 u21 u22 u23 u24 u25 u26 u27 u28 u29 u30 u31 u32 u33 u34 u35 u36 u37 u38 u39 u40 u41 u42 u43 u44 u45 u46 u47 u48 u49 u50 : Value), k ≤ xs.length ∧ 0 < k ∧ k ≤ 9 ∧ Hid (X < 128 ^ k) ∧ Hid (dec 0 0 xs = dec k X (xs.drop k)) ∧
    a' = { tmps := #[.slice (some ⟨b, off, none⟩) xs.length c, undef, .int .u64 0, .int .i64 0, .int .i64 0, .int .u64 X, .int .i64 k, u7, u8, u9, u10, u11, u12, u13, u14, u15, u16, u17, u18, u19, u20, u21, u22, u23, u24, u25, u26, u27, u28, u29, u30, u31, u32, u33, u34, u35, u36, u37, u38, u39, u40, u41, u42, u43, u44, u45, u46, u47, u48, u49, u50], defers := [] }

set_option maxRecDepth 100000 in
set_option maxHeartbeats 2000000 in
theorem wUint (v : Value) (xs : List Int) (w : World) (h : Rd w v xs) :
    Calls Tryz.prog 79 #[v] w fun e w' => e = .returned (.tuple #[.int .u64 (dec 0 0 xs).1, .int .i64 (dec 0 0 xs).2.1, .int .i64 (dec 0 0 xs).2.2]) ∧ w = w' := by
  have hbytes := h.bytes
  rcases h.cases with ⟨rfl, a, c, rfl, hcm, hcn⟩ | ⟨hp, b, off, c, rfl, hlc, hcm, hbl, hc⟩
  · clear hbytes h
    go_enter Tryz.func79, Tryz.ntmps79
    go_wp2
    refine wp_scope_jumps 0 (fun _ _ => False) (fun _ _ => 0) rfl ?_ (fun _ _ h => h.elim)
    go_wp2
    go_step3
    go_wp2
    simp only [Exit.jump]
    go_ret3
    exact ⟨rfl, rfl⟩
  · clear h
    unfold maxLen at hcm
    have HC := Lib.hid hc
    clear hc
    go_enter Tryz.func79, Tryz.ntmps79
    go_wp2
    refine wp_scope_jumps 0 (UJ w b off c xs) (fun a' _ => 10 - (intOf (a'.tmps.getD 6 undef)).toNat) rfl ?_ ?_
    · obtain ⟨y, hcell, hy0, hy1, hds⟩ := byte_at hbytes HC.out hp
      rw [Nat.add_zero] at hcell
      have hq : ((0 : Int) == (xs.length : Int)) = false := by simp; omega
      have hd : Hid (dec 0 0 xs = dec 0 0 (y :: xs.drop 1)) := by show _ = _; rw [← hds.out]; rfl
      by_cases hy : y < 128
      · obtain ⟨ha, hn⟩ := bits_lo y hy0 hy
        have hv : Hid (dec 0 0 xs = (y, 1, 0)) := by show _ = _; rw [hd.out]; simp [dec, hy]
        clear hd
        have ho : Hid (bits BinOp.or IntKind.u64 0 y = y) := or_zero y hy0 (by omega)
        by_cases hz0 : y = 0
        · subst hz0
          go_wp2
          go_step3
          go_wp2
          simp only [Exit.jump]
          go_ret3
          exact ⟨by rw [hv.out, ho.out]; rfl, rfl⟩
        · go_wp2
          go_step3
          go_wp2
          simp only [Exit.jump]
          go_ret3
          exact ⟨by rw [hv.out, ho.out]; rfl, rfl⟩
      · obtain ⟨ha, hn⟩ := bits_hi y (by omega) hy1
        have hv : Hid (dec 0 0 xs = dec 1 (((y - 128).toNat : Nat) : Int) (xs.drop 1)) := by
          show _ = _; rw [hd.out]; simp [dec, hy]; rw [Int.max_eq_left (by omega)]
        clear hd
        go_wp2
        go_step3
        go_wp2
        go_step3
        simp only [Exit.then]
        have ho : bits BinOp.or IntKind.u64 0 (y - 128) = (((y - 128).toNat : Nat) : Int) := by rw [or_zero _ (by omega) (by omega)]; omega
        rw [ho]
        exact ⟨rfl, rfl, 1, _, _, _, _, _, _, _, _, _, _, _, _, _, _, _, _, _, _, _, _, _, _, _, _, _, _, _, _, _, _, _, _, _, _, _, _, _, _, _, _, _, _, _, _, _, by omega, by omega, by omega, (by show _ < 128 ^ 1; omega), hv, rfl⟩
    · rintro a' w' ⟨rfl, k, X, u7, u8, u9, u10, u11, u12, u13, u14, u15, u16, u17, u18, u19, u20, u21, u22, u23, u24, u25, u26, u27, u28, u29, u30, u31, u32, u33, u34, u35, u36, u37, u38, u39, u40, u41, u42, u43, u44, u45, u46, u47, u48, u49, u50, hk, hk0, hk9, hX, hd, rfl⟩
      by_cases hkl : k = xs.length
      · have hq : ((k : Int) == (xs.length : Int)) = true := by simp; omega
        have hv : dec 0 0 xs = (0, 0, 1) := by rw [hd.out, hkl, List.drop_length]; rfl
        have HV := Lib.hid hv
        clear hv
        go_wp2
        simp only [Exit.jump]
        go_ret3
        exact ⟨by rw [HV.out]; rfl, rfl⟩
      · have hlt : k < xs.length := by omega
        have hq : ((k : Int) == (xs.length : Int)) = false := by simp; omega
        obtain ⟨y, hcell, hy0, hy1, hds⟩ := byte_at hbytes HC.out hlt
        rw [hds.out] at hd
        clear hds
        by_cases h9 : k = 9
        · subst h9
          by_cases hy : 1 < y
          · have hv : Hid (dec 0 0 xs = (0, 0, 9)) := by show _ = _; rw [hd.out]; simp [dec, hy]
            clear hd
            go_wp2
            simp only [Exit.jump]
            go_ret3
            exact ⟨by rw [hv.out]; rfl, rfl⟩
          · have hy01 : y = 0 ∨ y = 1 := by omega
            rcases hy01 with rfl | rfl
            · obtain ⟨ha, hn⟩ := bits_lo 0 (by omega) (by omega)
              have hv : Hid (dec 0 0 xs = (0, 0, 2)) := by show _ = _; rw [hd.out]; simp [dec]
              clear hd
              go_wp2
              simp only [Exit.jump]
              go_ret3
              exact ⟨by rw [hv.out]; rfl, rfl⟩
            · obtain ⟨ha, hn⟩ := bits_lo 1 (by omega) (by omega)
              have hv : Hid (dec 0 0 xs = ((X : Int) + 9223372036854775808, 10, 0)) := by show _ = _; rw [hd.out]; simp [dec]
              have ho : Hid (bits BinOp.or IntKind.u64 (X : Int) 9223372036854775808 = (X : Int) + 9223372036854775808) := or_nine X hX.out
              clear hd
              go_wp2
              simp only [Exit.jump]
              go_ret3
              exact ⟨by rw [hv.out, ho.out]; rfl, rfl⟩
        · have h9' : ((k : Int) == 9) = false := by simp; omega
          by_cases hy : y < 128
          · obtain ⟨ha, hn⟩ := bits_lo y hy0 hy
            by_cases hz0 : y = 0
            · subst hz0
              have hv : Hid (dec 0 0 xs = (0, 0, 2)) := by show _ = _; rw [hd.out]; simp [dec, hk0, h9]
              clear hd
              go_wp2
              simp only [Exit.jump]
              go_ret3
              exact ⟨by rw [hv.out]; rfl, rfl⟩
            · have hv : Hid (dec 0 0 xs = ((X : Int) + y * 128 ^ k, (k : Int) + 1, 0)) := by show _ = _; rw [hd.out]; simp [dec, hz0, h9, hy]
              have ho : Hid (bits BinOp.or IntKind.u64 (X : Int) (IntKind.u64.wrap (y * 2 ^ (7 * k))) = (X : Int) + y * 128 ^ k) := or_shl X k y (by omega) hX.out (by omega) (by omega)
              clear hd
              go_wp2
              simp only [Exit.jump]
              go_ret3
              exact ⟨by rw [hv.out, ← ho.out]; rfl, rfl⟩
          · obtain ⟨ha, hn⟩ := bits_hi y (by omega) hy1
            have hv : Hid (dec 0 0 xs = dec (k + 1) (((X + (y - 128).toNat * 128 ^ k : Nat) : Int)) (xs.drop (k + 1))) := by
              show _ = _; rw [hd.out]; simp [dec, h9, hy]; rw [Int.max_eq_left (by omega)]
            have ho : Hid (bits BinOp.or IntKind.u64 (X : Int) (IntKind.u64.wrap ((y - 128) * 2 ^ (7 * k))) = ((X + (y - 128).toNat * 128 ^ k : Nat) : Int)) := by
              show _ = _
              rw [or_shl X k (y - 128) (by omega) hX.out (by omega) (by omega)]
              have e : y - 128 = ((y - 128).toNat : Int) := by omega
              rw [e]; push_cast; rfl
            have hnew : Hid (X + (y - 128).toNat * 128 ^ k < 128 ^ (k + 1)) := shl_lt X k _ hX.out (by omega)
            clear hd
            go_wp2
            go_step3
            simp only [Exit.then]
            rw [ho.out, show ((k : Int) + 1) = ((k + 1 : Nat) : Int) from by omega]
            exact ⟨rfl, ⟨rfl, k + 1, _, _, _, _, _, _, _, _, _, _, _, _, _, _, _, _, _, _, _, _, _, _, _, _, _, _, _, _, _, _, _, _, _, _, _, _, _, _, _, _, _, _, _, _, _, by omega, by omega, by omega, hnew, hv, rfl⟩, by simp [intOf]; omega⟩

end Go.Proofs.YtkaafbdhgekeeaaGreat

namespace Go.Proofs.YtkaafbdhgekeeaaGreat

section
variable {P : Program} {ops : Array Oper} {Q : Exit → Act → World → Prop} {md : Region.Mode} {S : World → Prop} {i : Nat} {fuel : Nat} {listed : Array Bool} {a : Act} {w : World}
variable {d : Option Tmp} {op : Op} {ty : TypeId} {pos : String} {after : Array Edge} {gd : Option (Nat × Bool)}

theorem takeH {v : Value} (hi : ops[i]? = some ⟨d, op, ty, pos, after, gd⟩)
    (hs : Region.noSelect ops = true) (hf : Region.free md ops listed i = true) (hr : (Region.ready md ops listed).contains i = true)
    (hQ : ∀ c a w, Q (.panic c) (a.put d v) w → Q (.panic c) a w) (hy : YieldsIf P ops S ⟨d, op, ty, pos, after, gd⟩ v a) (hS : S w)
    (h : wpAnyH P md ops Q S fuel (listed.setIfInBounds i true) (a.put d v) w) : wpAnyH P md ops Q S (fuel + 1) listed a w :=
  wpAnyH_take hi hs hf hr hQ hy hS h

theorem stepH {rs : List Nat} (ho : ops[i]? = some ⟨d, op, ty, pos, after, gd⟩)
    (h : ∀ K' : Act → World → Prop, Shut (∀ a w, S w → (S w → wpAnyH P md ops Q S fuel (listed.setIfInBounds i true) a w) → K' a w) → if Region.wanted ⟨d, op, ty, pos, after, gd⟩ (yielded ops a.tmps) = true then Oper.wp P ⟨d, op, ty, pos, after, gd⟩ a w K' Q else K' (a.put d undef) w)
    (hs : AllReadyH P md ops Q S fuel listed a w rs) : AllReadyH P md ops Q S fuel listed a w (i :: rs) := AllReadyH.cons ho h hs
end

end Go.Proofs.YtkaafbdhgekeeaaGreat
