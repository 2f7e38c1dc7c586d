/-
  The call of wire.Uint: it returns what P1.2 says of the bytes (WM.dec). Conditions: the slice reads as bytes.
-/
import Derived.Test.YtacbpphhkkmelaaDec
namespace Go.Proofs.Ytacbpphhkkmelaa
open Go.RowKit
open WM (Bytes enc dec)

theorem and_lo : ∀ a : Nat, a < 128 → a &&& 128 = 0 := by decide +kernel
theorem and_hi : ∀ a : Nat, a < 256 → 128 ≤ a → a &&& 128 = 128 := by decide +kernel
theorem nand_lo : ∀ a : Nat, a < 128 → a &&& (255 - 128) = a := by decide +kernel
theorem nand_hi : ∀ a : Nat, a < 256 → 128 ≤ a → a &&& (255 - 128) = a - 128 := by decide +kernel
theorem bits_lo (y : Int) (h0 : 0 ≤ y) (h1 : y < 128) : bits .and .u8 y 128 = 0 ∧ bits .andNot .u8 y 128 = y := by
  obtain ⟨z, rfl⟩ := Int.eq_ofNat_of_zero_le h0
  have a := u8_and_nat z 128 (by omega) (by omega)
  have b := u8_andNot_nat z 128 (by omega) (by omega)
  rw [and_lo z (by omega)] at a
  rw [nand_lo z (by omega)] at b
  exact ⟨a, b⟩
theorem bits_hi (y : Int) (h0 : 128 ≤ y) (h1 : y < 256) : bits .and .u8 y 128 = 128 ∧ bits .andNot .u8 y 128 = y - 128 := by
  obtain ⟨z, rfl⟩ := Int.eq_ofNat_of_zero_le (show 0 ≤ y by omega)
  have a := u8_and_nat z 128 (by omega) (by omega)
  have b := u8_andNot_nat z 128 (by omega) (by omega)
  rw [and_hi z (by omega) (by omega)] at a
  rw [nand_hi z (by omega) (by omega)] at b
  exact ⟨a, b.trans (by omega)⟩

theorem or_zero (y : Int) (h0 : 0 ≤ y) (h1 : y < 256) : bits BinOp.or IntKind.u64 0 y = y := by
  obtain ⟨z, rfl⟩ := Int.eq_ofNat_of_zero_le h0
  have := u64_or_nat 0 z (by omega) (by omega)
  rw [Nat.zero_or] at this
  exact this

/-- What holds at every jump to the label of wire.Uint. -/
def UJ (w : World) (b off c : Nat) (xs : List Int) (a' : Act) (w' : World) : Prop :=
  w = w' ∧ ∃ (k X : Nat) (u7 u8 u9 u10 u11 u12 u13 u14 u15 u16 u17 u18 u19 u20 u21 u22 u23 u24 u25 u26 u27 u28 u29 u30 u31 u32 u33 u34 u35 u36 u37 u38 u39 u40 u41 u42 u43 u44 u45 u46 u47 u48 u49 u50 : Value), k ≤ xs.length ∧ 0 < k ∧ k ≤ 9 ∧ Hid (X < 128 ^ k) ∧ Hid (dec 0 0 xs = dec k X (xs.drop k)) ∧
    a' = { tmps := #[.slice (some ⟨b, off, none⟩) xs.length c, undef, .int .u64 0, .int .i64 0, .int .i64 0, .int .u64 X, .int .i64 k, u7, u8, u9, u10, u11, u12, u13, u14, u15, u16, u17, u18, u19, u20, u21, u22, u23, u24, u25, u26, u27, u28, u29, u30, u31, u32, u33, u34, u35, u36, u37, u38, u39, u40, u41, u42, u43, u44, u45, u46, u47, u48, u49, u50], defers := [] }

set_option maxRecDepth 100000 in
set_option maxHeartbeats 2000000 in
theorem wUint (v : Value) (xs : List Int) (w : World) (h : Rd w v xs) :
    Calls Try.prog 64 #[v] w fun e w' => e = .returned (.tuple #[.int .u64 (dec 0 0 xs).1, .int .i64 (dec 0 0 xs).2.1, .int .i64 (dec 0 0 xs).2.2]) ∧ w = w' := by
  have hbytes := h.bytes
  rcases h.cases with ⟨rfl, a, c, rfl, hcm, hcn⟩ | ⟨hp, b, off, c, rfl, hlc, hcm, hbl, hc⟩
  · clear hbytes h
    go_enter Try.func64, Try.ntmps64
    go_wp2
    refine wp_scope_jumps 0 (fun _ _ => False) (fun _ _ => 0) rfl ?_ (fun _ _ h => h.elim)
    go_wp2
    go_step3
    go_wp2
    simp only [Exit.jump]
    go_ret3
    exact ⟨rfl, rfl⟩
  · clear h
    unfold maxLen at hcm
    have HC := Lib.hid hc
    clear hc
    go_enter Try.func64, Try.ntmps64
    go_wp2
    refine wp_scope_jumps 0 (UJ w b off c xs) (fun a' _ => 10 - (intOf (a'.tmps.getD 6 undef)).toNat) rfl ?_ ?_
    · obtain ⟨y, hcell, hy0, hy1, hds⟩ := byte_at hbytes HC.out hp
      rw [Nat.add_zero] at hcell
      have hq : ((0 : Int) == (xs.length : Int)) = false := by simp; omega
      have hd : Hid (dec 0 0 xs = dec 0 0 (y :: xs.drop 1)) := by show _ = _; rw [← hds.out]; rfl
      by_cases hy : y < 128
      · obtain ⟨ha, hn⟩ := bits_lo y hy0 hy
        have hv : Hid (dec 0 0 xs = (y, 1, 0)) := by show _ = _; rw [hd.out]; simp [dec, hy]
        clear hd
        have ho : Hid (bits BinOp.or IntKind.u64 0 y = y) := or_zero y hy0 (by omega)
        by_cases hz0 : y = 0
        · subst hz0
          go_wp2
          go_step3
          go_wp2
          simp only [Exit.jump]
          go_ret3
          exact ⟨by rw [hv.out, ho.out]; rfl, rfl⟩
        · go_wp2
          go_step3
          go_wp2
          simp only [Exit.jump]
          go_ret3
          exact ⟨by rw [hv.out, ho.out]; rfl, rfl⟩
      · obtain ⟨ha, hn⟩ := bits_hi y (by omega) hy1
        have hv : Hid (dec 0 0 xs = dec 1 (((y - 128).toNat : Nat) : Int) (xs.drop 1)) := by
          show _ = _; rw [hd.out]; simp [dec, hy]; rw [Int.max_eq_left (by omega)]
        clear hd
        go_wp2
        go_step3
        go_wp2
        go_step3
        simp only [Exit.then]
        have ho : bits BinOp.or IntKind.u64 0 (y - 128) = (((y - 128).toNat : Nat) : Int) := by rw [or_zero _ (by omega) (by omega)]; omega
        rw [ho]
        exact ⟨rfl, rfl, 1, _, _, _, _, _, _, _, _, _, _, _, _, _, _, _, _, _, _, _, _, _, _, _, _, _, _, _, _, _, _, _, _, _, _, _, _, _, _, _, _, _, _, _, _, _, by omega, by omega, by omega, (by show _ < 128 ^ 1; omega), hv, rfl⟩
    · rintro a' w' ⟨rfl, k, X, u7, u8, u9, u10, u11, u12, u13, u14, u15, u16, u17, u18, u19, u20, u21, u22, u23, u24, u25, u26, u27, u28, u29, u30, u31, u32, u33, u34, u35, u36, u37, u38, u39, u40, u41, u42, u43, u44, u45, u46, u47, u48, u49, u50, hk, hk0, hk9, hX, hd, rfl⟩
      by_cases hkl : k = xs.length
      · have hq : ((k : Int) == (xs.length : Int)) = true := by simp; omega
        have hv : dec 0 0 xs = (0, 0, 1) := by rw [hd.out, hkl, List.drop_length]; rfl
        have HV := Lib.hid hv
        clear hv
        go_wp2
        simp only [Exit.jump]
        go_ret3
        exact ⟨by rw [HV.out]; rfl, rfl⟩
      · have hlt : k < xs.length := by omega
        have hq : ((k : Int) == (xs.length : Int)) = false := by simp; omega
        obtain ⟨y, hcell, hy0, hy1, hds⟩ := byte_at hbytes HC.out hlt
        rw [hds.out] at hd
        clear hds
        by_cases h9 : k = 9
        · subst h9
          by_cases hy : 1 < y
          · have hv : Hid (dec 0 0 xs = (0, 0, 9)) := by show _ = _; rw [hd.out]; simp [dec, hy]
            clear hd
            go_wp2
            simp only [Exit.jump]
            go_ret3
            exact ⟨by rw [hv.out]; rfl, rfl⟩
          · have hy01 : y = 0 ∨ y = 1 := by omega
            rcases hy01 with rfl | rfl
            · obtain ⟨ha, hn⟩ := bits_lo 0 (by omega) (by omega)
              have hv : Hid (dec 0 0 xs = (0, 0, 2)) := by show _ = _; rw [hd.out]; simp [dec]
              clear hd
              go_wp2
              simp only [Exit.jump]
              go_ret3
              exact ⟨by rw [hv.out]; rfl, rfl⟩
            · obtain ⟨ha, hn⟩ := bits_lo 1 (by omega) (by omega)
              have hv : Hid (dec 0 0 xs = ((X : Int) + 9223372036854775808, 10, 0)) := by show _ = _; rw [hd.out]; simp [dec]
              have ho : Hid (bits BinOp.or IntKind.u64 (X : Int) 9223372036854775808 = (X : Int) + 9223372036854775808) := or_nine X hX.out
              clear hd
              go_wp2
              simp only [Exit.jump]
              go_ret3
              exact ⟨by rw [hv.out, ho.out]; rfl, rfl⟩
        · have h9' : ((k : Int) == 9) = false := by simp; omega
          by_cases hy : y < 128
          · obtain ⟨ha, hn⟩ := bits_lo y hy0 hy
            by_cases hz0 : y = 0
            · subst hz0
              have hv : Hid (dec 0 0 xs = (0, 0, 2)) := by show _ = _; rw [hd.out]; simp [dec, hk0, h9]
              clear hd
              go_wp2
              simp only [Exit.jump]
              go_ret3
              exact ⟨by rw [hv.out]; rfl, rfl⟩
            · have hv : Hid (dec 0 0 xs = ((X : Int) + y * 128 ^ k, (k : Int) + 1, 0)) := by show _ = _; rw [hd.out]; simp [dec, hz0, h9, hy]
              have ho : Hid (bits BinOp.or IntKind.u64 (X : Int) (IntKind.u64.wrap (y * 2 ^ (7 * k))) = (X : Int) + y * 128 ^ k) := or_shl X k y (by omega) hX.out (by omega) (by omega)
              clear hd
              go_wp2
              simp only [Exit.jump]
              go_ret3
              exact ⟨by rw [hv.out, ← ho.out]; rfl, rfl⟩
          · obtain ⟨ha, hn⟩ := bits_hi y (by omega) hy1
            have hv : Hid (dec 0 0 xs = dec (k + 1) (((X + (y - 128).toNat * 128 ^ k : Nat) : Int)) (xs.drop (k + 1))) := by
              show _ = _; rw [hd.out]; simp [dec, h9, hy]; rw [Int.max_eq_left (by omega)]
            have ho : Hid (bits BinOp.or IntKind.u64 (X : Int) (IntKind.u64.wrap ((y - 128) * 2 ^ (7 * k))) = ((X + (y - 128).toNat * 128 ^ k : Nat) : Int)) := by
              show _ = _
              rw [or_shl X k (y - 128) (by omega) hX.out (by omega) (by omega)]
              have e : y - 128 = ((y - 128).toNat : Int) := by omega
              rw [e]; push_cast; rfl
            have hnew : Hid (X + (y - 128).toNat * 128 ^ k < 128 ^ (k + 1)) := shl_lt X k _ hX.out (by omega)
            clear hd
            go_wp2
            go_step3
            simp only [Exit.then]
            rw [ho.out, show ((k : Int) + 1) = ((k + 1 : Nat) : Int) from by omega]
            exact ⟨rfl, ⟨rfl, k + 1, _, _, _, _, _, _, _, _, _, _, _, _, _, _, _, _, _, _, _, _, _, _, _, _, _, _, _, _, _, _, _, _, _, _, _, _, _, _, _, _, _, _, _, _, _, by omega, by omega, by omega, hnew, hv, rfl⟩, by simp [intOf]; omega⟩

end Go.Proofs.Ytacbpphhkkmelaa
