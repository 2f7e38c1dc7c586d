/-
  The calls of wire.Uint and elasticstoreref03.Uint: each returns what P1.2 says of the bytes (WM.dec). Conditions: the slice reads as bytes.
-/
import Derived.Test.YtacbpphhkkmelaaBase
namespace Go.Proofs.Ytacbpphhkkmelaa
open Go.RowKit
open WM (Bytes enc dec)

theorem byte_at {xs : List Int} {w : World} {b off k : Nat} (h : Bytes xs) (hc : ∀ i, i < xs.length → w.cell? ⟨b, off + i, none⟩ = some (.int .u8 (xs.getD i 0))) (hk : k < xs.length) :
    ∃ y : Int, w.cell? ⟨b, off + k, none⟩ = some (.int .u8 y) ∧ 0 ≤ y ∧ y < 256 ∧ Hid (xs.drop k = y :: xs.drop (k + 1)) := by
  have h1 : xs.getD k 0 = xs[k] := by simp [List.getD, List.getElem?_eq_getElem hk]
  have h2 := h _ (List.getElem_mem hk)
  exact ⟨xs[k], by rw [← h1]; exact hc k hk, h2.1, h2.2, List.drop_eq_getElem_cons hk⟩

theorem pow7 (k : Nat) : (2 : Nat) ^ (7 * k) = 128 ^ k := by rw [Nat.pow_mul]
theorem pow7' (k : Nat) : (2 : Int) ^ (7 * k) = ((128 ^ k : Nat) : Int) := by rw [← pow7]; push_cast; rfl
theorem shl_lt (X k z : Nat) (hX : X < 128 ^ k) (hz : z < 128) : X + z * 128 ^ k < 128 ^ (k + 1) := by
  rw [Nat.pow_succ, Nat.mul_comm (128 ^ k) 128]
  have : z * 128 ^ k ≤ 127 * 128 ^ k := Nat.mul_le_mul_right _ (by omega)
  omega
theorem or_shl_nat (X k z : Nat) (hk : k ≤ 8) (hX : X < 128 ^ k) (hz : z < 128) : bits .or .u64 (X : Int) (IntKind.u64.wrap ((z : Int) * 2 ^ (7 * k))) = ((X + z * 128 ^ k : Nat) : Int) := by
  have h8 : (128 : Nat) ^ (k + 1) ≤ 128 ^ 9 := Nat.pow_le_pow_right (by omega) (by omega)
  have h9 : (128 : Nat) ^ 9 = 9223372036854775808 := by simp
  have hs := shl_lt X k z hX hz
  rw [h9] at h8
  have e : (z : Int) * 2 ^ (7 * k) = ((z * 128 ^ k : Nat) : Int) := by rw [pow7']; push_cast; rfl
  rw [e, IntWalk.u64_in _ ⟨by omega, by omega⟩, u64_or_nat X (z * 128 ^ k) (by omega) (by omega)]
  congr 1
  rw [Nat.or_comm, nat_join (7 * k) _ _ (by rw [pow7]; exact Nat.mul_mod_left _ _) (by rw [pow7]; exact hX)]
  omega
theorem or_shl (X k : Nat) (y : Int) (hk : k ≤ 8) (hX : X < 128 ^ k) (h0 : 0 ≤ y) (h1 : y < 128) : bits .or .u64 (X : Int) (IntKind.u64.wrap (y * 2 ^ (7 * k))) = (X : Int) + y * 128 ^ k := by
  obtain ⟨z, rfl⟩ := Int.eq_ofNat_of_zero_le h0
  rw [or_shl_nat X k z hk hX (by omega)]; push_cast; rfl
theorem or_nine (X : Nat) (hX : X < 128 ^ 9) : bits .or .u64 (X : Int) 9223372036854775808 = (X : Int) + 9223372036854775808 := by
  have h9 : (128 : Nat) ^ 9 = 9223372036854775808 := by simp
  rw [h9] at hX
  have := u64_or_nat X 9223372036854775808 (by omega) (by omega)
  rw [Nat.or_comm, nat_join 63 _ _ (by simp) (by simpa using hX)] at this
  refine Eq.trans this ?_
  omega

set_option maxRecDepth 100000 in
set_option maxHeartbeats 1000000 in
theorem rUint (v : Value) (xs : List Int) (w : World) (h : Rd w v xs) :
    Calls Try.prog 68 #[v] w fun e w' => e = .returned (.tuple #[.int .u64 (dec 0 0 xs).1, .int .i64 (dec 0 0 xs).2.1, .int .i64 (dec 0 0 xs).2.2]) ∧ w = w' := by
  have hbytes := h.bytes
  rcases h.cases with ⟨rfl, a, c, rfl, hcm, hcn⟩ | ⟨hp, b, off, c, rfl, hlc, hcm, hbl, hc⟩
  · clear hbytes h
    go_enter Try.func68, Try.ntmps68
    go_wp2
    refine wp_loop_rounds 1 ?_
    rw [rounds_succ]
    go_wp2
    go_ret3
    exact ⟨rfl, rfl⟩
  · clear h
    unfold maxLen at hcm
    have HC := Lib.hid hc
    clear hc
    go_enter Try.func68, Try.ntmps68
    go_wp2
    go_loop [5, 6] (fun x i => ∃ k X : Nat, k ≤ xs.length ∧ k ≤ 9 ∧ i = .int .i64 k ∧ x = .int .u64 X ∧ Hid (X < 128 ^ k) ∧ Hid (dec 0 0 xs = dec k X (xs.drop k))) (fun _ i => 10 - (intOf i).toNat)
    case atStart => exact ⟨0, 0, by omega, by omega, rfl, rfl, (by show 0 < 128 ^ 0; decide), rfl⟩
    case round =>
      obtain ⟨k, X, hk, hk9, rfl, rfl, hX, hd⟩ := hrel
      by_cases hkl : k = xs.length
      · have hq : ((k : Int) == (xs.length : Int)) = true := by simp; omega
        have hv : dec 0 0 xs = (0, 0, 1) := by rw [hd.out, hkl, List.drop_length]; rfl
        have HV := Lib.hid hv
        clear hv
        go_wp2
        go_ret3
        exact ⟨by rw [HV.out]; rfl, rfl⟩
      · have hlt : k < xs.length := by omega
        have hq : ((k : Int) == (xs.length : Int)) = false := by simp; omega
        obtain ⟨y, hcell, hy0, hy1, hds⟩ := byte_at hbytes HC.out hlt
        rw [hds.out] at hd
        clear hds
        by_cases h9 : k = 9
        · subst h9
          by_cases hy : 1 < y
          · have hv : Hid (dec 0 0 xs = (0, 0, 9)) := by show _ = _; rw [hd.out]; simp [dec, hy]
            clear hd
            go_wp2
            go_ret3
            exact ⟨by rw [hv.out]; rfl, rfl⟩
          · have hy01 : y = 0 ∨ y = 1 := by omega
            rcases hy01 with rfl | rfl
            · have hv : Hid (dec 0 0 xs = (0, 0, 2)) := by show _ = _; rw [hd.out]; simp [dec]
              clear hd
              go_wp2
              go_ret3
              exact ⟨by rw [hv.out]; rfl, rfl⟩
            · have hv : Hid (dec 0 0 xs = ((X : Int) + 9223372036854775808, 10, 0)) := by show _ = _; rw [hd.out]; simp [dec]
              have ho : Hid (bits BinOp.or IntKind.u64 (X : Int) 9223372036854775808 = (X : Int) + 9223372036854775808) := or_nine X hX.out
              clear hd
              go_wp2
              go_ret3
              exact ⟨by rw [hv.out, ho.out]; rfl, rfl⟩
        · have h9' : ((k : Int) == 9) = false := by simp; omega
          have h10 : (k : Int) < 10 := by omega
          by_cases hy : y < 128
          · by_cases hz : y = 0 ∧ 0 < k
            · obtain ⟨rfl, hk0⟩ := hz
              have hv : Hid (dec 0 0 xs = (0, 0, 2)) := by show _ = _; rw [hd.out]; simp [dec, hk0, h9]
              clear hd
              go_wp2
              go_ret3
              exact ⟨by rw [hv.out]; rfl, rfl⟩
            · have hv : Hid (dec 0 0 xs = ((X : Int) + y * 128 ^ k, (k : Int) + 1, 0)) := by show _ = _; rw [hd.out]; simp [dec, hz, h9, hy]
              have ho : Hid (bits BinOp.or IntKind.u64 (X : Int) (IntKind.u64.wrap (y % 128 * 2 ^ (7 * k))) = (X : Int) + y * 128 ^ k) := by
                show _ = _
                rw [or_shl X k (y % 128) (by omega) hX.out (by omega) (by omega)]
                have e : y % 128 = y := by omega
                rw [e]
              clear hd
              by_cases hz0 : y = 0
              · subst hz0
                obtain rfl : k = 0 := by omega
                rw [Nat.add_zero] at hcell
                go_wp2
                go_ret3
                exact ⟨by rw [hv.out, ← ho.out]; rfl, rfl⟩
              · go_wp2
                go_ret3
                exact ⟨by rw [hv.out, ← ho.out]; rfl, rfl⟩
          · have hv : Hid (dec 0 0 xs = dec (k + 1) (((X + (y - 128).toNat * 128 ^ k : Nat) : Int)) (xs.drop (k + 1))) := by
              show _ = _; rw [hd.out]; simp [dec, h9, hy]; rw [Int.max_eq_left (by omega)]
            have ho : Hid (bits BinOp.or IntKind.u64 (X : Int) (IntKind.u64.wrap (y % 128 * 2 ^ (7 * k))) = ((X + (y - 128).toNat * 128 ^ k : Nat) : Int)) := by
              show _ = _
              rw [or_shl X k (y % 128) (by omega) hX.out (by omega) (by omega)]
              have e : y % 128 = ((y - 128).toNat : Int) := by omega
              rw [e]; push_cast; rfl
            have hnew : Hid (X + (y - 128).toNat * 128 ^ k < 128 ^ (k + 1)) := shl_lt X k _ hX.out (by omega)
            clear hd
            go_wp2
            rw [ho.out]
            go_round
            case rel => exact ⟨k + 1, _, by omega, by omega, by go_num, rfl, hnew, hv⟩
            case measure => simp [intOf]; omega

end Go.Proofs.Ytacbpphhkkmelaa
