/-
  The calls of frame.Checksum and elasticstoreref03.Checksum: each returns the checksum of the bytes (FM.crc). Conditions: the slice reads as bytes.
-/
import Derived.Test.YtgpbacddpfbimaaFrameMath
import Derived.Test.YtgpbacddpfbimaaBase
namespace Go.Proofs.Ytgpbacddpfbimaa
open Go.RowKit
open WM (Bytes)

theorem wrap32 (a : Nat) (h : a < 4294967296) : IntKind.u32.wrap (a : Int) = a := by
  rw [IntKind.wrap_u32]; omega
theorem ofInt32 (a : Nat) (h : a < 4294967296) : (BitVec.ofInt 32 (a : Int)).toNat = a := by
  rw [BitVec.ofInt_natCast, BitVec.toNat_ofNat]; exact Nat.mod_eq_of_lt (by omega)
theorem xor32 (a b : Nat) (ha : a < 4294967296) (hb : b < 4294967296) : bits .xor .u32 (a : Int) (b : Int) = ((a ^^^ b : Nat) : Int) := by
  show IntKind.u32.wrap ((BitVec.ofInt 32 (a : Int) ^^^ BitVec.ofInt 32 (b : Int)).toNat : Int) = _
  rw [BitVec.toNat_xor, ofInt32 a ha, ofInt32 b hb, wrap32 _ (FM.xor_lt ha hb)]
theorem and32 (a b : Nat) (ha : a < 4294967296) (hb : b < 4294967296) : bits .and .u32 (a : Int) (b : Int) = ((a &&& b : Nat) : Int) := by
  show IntKind.u32.wrap ((BitVec.ofInt 32 (a : Int) &&& BitVec.ofInt 32 (b : Int)).toNat : Int) = _
  have := Nat.and_le_left (n := a) (m := b)
  rw [BitVec.toNat_and, ofInt32 a ha, ofInt32 b hb, wrap32 _ (by omega)]

theorem bit_mask (c : Nat) (h : c < 4294967296) :
    bits .xor .u32 ((c : Int) / 2) (bits .and .u32 2197175160 (-(bits .and .u32 (c : Int) 1) % 4294967296)) = ((FM.step c : Nat) : Int) := by
  have h1 := and32 c 1 h (by omega)
  have e2 : ((c : Int) / 2) = ((c / 2 : Nat) : Int) := by omega
  rw [show (1 : Int) = ((1 : Nat) : Int) from rfl, h1, Nat.and_one_is_mod, e2]
  unfold FM.step
  split
  · rename_i hc
    rw [hc]
    have e3 : (-((1 : Nat) : Int)) % 4294967296 = ((4294967295 : Nat) : Int) := by decide
    rw [e3, show (2197175160 : Int) = ((FM.poly : Nat) : Int) from rfl, and32 _ _ (by decide) (by decide), show FM.poly &&& 4294967295 = FM.poly by decide, xor32 _ _ (by omega) (by decide)]
  · rename_i hc
    have hc0 : c % 2 = 0 := by omega
    rw [hc0]
    have e3 : (-((0 : Nat) : Int)) % 4294967296 = ((0 : Nat) : Int) := by decide
    rw [e3, show (2197175160 : Int) = ((FM.poly : Nat) : Int) from rfl, and32 _ _ (by decide) (by decide), show FM.poly &&& 0 = 0 by decide, xor32 _ _ (by omega) (by decide), Nat.xor_zero]

set_option maxRecDepth 100000 in
set_option maxHeartbeats 1000000 in
theorem wChecksum (v : Value) (xs : List Int) (w : World) (h : Rd w v xs) :
    Calls Try.prog 14 #[v] w fun e w' => e = .returned (.int .u32 (FM.crc xs)) ∧ w = w' := by
  have hbytes := h.bytes
  rcases h.cases with ⟨rfl, a, c, rfl, hcm, hcn⟩ | ⟨hp, b, off, c, rfl, hlc, hcm, hbl, hc⟩
  · clear hbytes h
    go_enter Try.func14, Try.ntmps14
    go_wp2
    refine wp_loop_rounds 1 ?_
    rw [rounds_succ]
    go_wp2
    go_ret
    exact ⟨rfl, rfl⟩
  · clear h
    unfold maxLen at hcm
    have HC := Lib.hid hc
    clear hc
    go_enter Try.func14, Try.ntmps14
    go_wp2
    go_loop [3, 9] (fun x i => ∃ k X : Nat, k ≤ xs.length ∧ i = .int .i64 k ∧ x = .int .u32 X ∧ Hid (X < 4294967296) ∧ Hid (FM.crcFrom 4294967295 xs = FM.crcFrom X (xs.drop k))) (fun _ i => xs.length - (intOf i).toNat)
    case atStart => exact ⟨0, 4294967295, by omega, rfl, rfl, (by show _ < _; decide), rfl⟩
    case round =>
      obtain ⟨k, X, hk, rfl, rfl, hX, hd⟩ := hrel
      by_cases hkl : k = xs.length
      · have hq : ¬ ((k : Int) < (xs.length : Int)) := by omega
        go_wp2
        go_ret
        refine ⟨?_, rfl⟩
        have e : bits .xor .u32 IntKind.u32.max (X : Int) = ((X ^^^ 4294967295 : Nat) : Int) := by rw [Nat.xor_comm]; exact xor32 4294967295 X (by decide) hX.out
        have hd2 := hd.out
        rw [hkl, List.drop_length] at hd2
        have e1 : FM.crc xs = X ^^^ 4294967295 := by unfold FM.crc; rw [hd2]; rfl
        rw [e1, ← e]
        rfl
      · have hlt : k < xs.length := by omega
        have hq : ((k : Int) < (xs.length : Int)) := by omega
        obtain ⟨y, hcell, hy1, hds⟩ := cell_at hbytes HC.out hlt
        rw [hds.out] at hd
        clear hds
        have hx := xor32 X y hX.out (by omega)
        have hxl := Lib.hid (FM.xor_lt hX.out (show y < 4294967296 by omega))
        have hd3 : Hid (FM.crcFrom 4294967295 xs = FM.crcFrom (FM.steps 8 (X ^^^ y)) (xs.drop (k + 1))) := hd.out
        clear hd hX
        generalize hZ : X ^^^ y = Z at hx hxl hd3
        clear hZ
        go_wp2
        go_loop [3, 17] (fun x i => ∃ j Y : Nat, j ≤ 8 ∧ i = .int .i64 j ∧ x = .int .u32 Y ∧ Hid (Y < 4294967296) ∧ Hid (FM.steps (8 - j) Y = FM.steps 8 Z)) (fun _ i => 8 - (intOf i).toNat)
        case atStart => exact ⟨0, Z, by omega, rfl, rfl, hxl.out, rfl⟩
        case round =>
          obtain ⟨j, Y, hj, rfl, rfl, hY, hst⟩ := hrel
          by_cases hj8 : j = 8
          · subst hj8
            have hst2 := hst.out
            rw [show FM.steps (8 - 8) Y = Y from rfl] at hst2
            rw [← hst2] at hd3
            go_wp2
            go_round
            case rel => exact ⟨k + 1, Y, by omega, by go_num, rfl, hY.out, hd3.out⟩
            case measure => simp [intOf]; omega
          · have hj2 : (j : Int) < 8 := by omega
            have hb := bit_mask Y hY.out
            go_wp2
            go_round
            case rel =>
              refine ⟨j + 1, FM.step Y, by omega, by go_num, rfl, FM.step_lt hY.out, ?_⟩
              show _ = _
              rw [← hst.out, show 8 - j = (8 - (j + 1)) + 1 by omega]
              rfl
            case measure => simp [intOf]; omega

theorem ref_even (c : Nat) (h : c < 4294967296) (hc : ¬ c % 2 = 1) : ((c : Int) / 2) % 4294967296 = ((FM.step c : Nat) : Int) := by
  unfold FM.step
  rw [if_neg hc]
  omega
theorem ref_odd (c : Nat) (h : c < 4294967296) (hc : c % 2 = 1) : bits .xor .u32 ((c : Int) / 2 % 4294967296) 2197175160 = ((FM.step c : Nat) : Int) := by
  unfold FM.step
  rw [if_pos hc]
  have e2 : ((c : Int) / 2) % 4294967296 = ((c / 2 : Nat) : Int) := by omega
  rw [e2]
  exact xor32 (c / 2) FM.poly (by omega) (by decide)

set_option maxRecDepth 100000 in
set_option maxHeartbeats 1000000 in
theorem rChecksum (v : Value) (xs : List Int) (w : World) (h : Rd w v xs) :
    Calls Try.prog 15 #[v] w fun e w' => e = .returned (.int .u32 (FM.crc xs)) ∧ w = w' := by
  have hbytes := h.bytes
  rcases h.cases with ⟨rfl, a, c, rfl, hcm, hcn⟩ | ⟨hp, b, off, c, rfl, hlc, hcm, hbl, hc⟩
  · clear hbytes h
    go_enter Try.func15, Try.ntmps15
    go_wp2
    refine wp_loop_rounds 1 ?_
    rw [rounds_succ]
    go_wp2
    go_ret
    exact ⟨rfl, rfl⟩
  · clear h
    unfold maxLen at hcm
    have HC := Lib.hid hc
    clear hc
    go_enter Try.func15, Try.ntmps15
    go_wp2
    go_loop [3, 4] (fun x i => ∃ k X : Nat, k ≤ xs.length ∧ i = .int .i64 k ∧ x = .int .u32 X ∧ Hid (X < 4294967296) ∧ Hid (FM.crcFrom 4294967295 xs = FM.crcFrom X (xs.drop k))) (fun _ i => xs.length - (intOf i).toNat)
    case atStart => exact ⟨0, 4294967295, by omega, rfl, rfl, (by show _ < _; decide), rfl⟩
    case round =>
      obtain ⟨k, X, hk, rfl, rfl, hX, hd⟩ := hrel
      by_cases hkl : k = xs.length
      · have hq : ¬ ((k : Int) < (xs.length : Int)) := by omega
        go_wp2
        go_ret
        refine ⟨?_, rfl⟩
        have e := xor32 X 4294967295 hX.out (by decide)
        have hd2 := hd.out
        rw [hkl, List.drop_length] at hd2
        have e1 : FM.crc xs = X ^^^ 4294967295 := by unfold FM.crc; rw [hd2]; rfl
        rw [e1, ← e]
        rfl
      · have hlt : k < xs.length := by omega
        have hq : ((k : Int) < (xs.length : Int)) := by omega
        obtain ⟨y, hcell, hy1, hds⟩ := cell_at hbytes HC.out hlt
        rw [hds.out] at hd
        clear hds
        have hx := xor32 X y hX.out (by omega)
        have hxl := Lib.hid (FM.xor_lt hX.out (show y < 4294967296 by omega))
        have hd3 : Hid (FM.crcFrom 4294967295 xs = FM.crcFrom (FM.steps 8 (X ^^^ y)) (xs.drop (k + 1))) := hd.out
        clear hd hX
        generalize hZ : X ^^^ y = Z at hx hxl hd3
        clear hZ
        go_wp2
        go_loop [3, 5] (fun x i => ∃ j Y : Nat, j ≤ 8 ∧ i = .int .i64 j ∧ x = .int .u32 Y ∧ Hid (Y < 4294967296) ∧ Hid (FM.steps (8 - j) Y = FM.steps 8 Z)) (fun _ i => 8 - (intOf i).toNat)
        case atStart => exact ⟨0, Z, by omega, rfl, rfl, hxl.out, rfl⟩
        case round =>
          obtain ⟨j, Y, hj, rfl, rfl, hY, hst⟩ := hrel
          by_cases hj8 : j = 8
          · subst hj8
            have hst2 := hst.out
            rw [show FM.steps (8 - 8) Y = Y from rfl] at hst2
            rw [← hst2] at hd3
            go_wp2
            go_round
            case rel => exact ⟨k + 1, Y, by omega, by go_num, rfl, hY.out, hd3.out⟩
            case measure => simp [intOf]; omega
          · have hj2 : (j : Int) < 8 := by omega
            have hnext : Hid (FM.steps (8 - (j + 1)) (FM.step Y) = FM.steps 8 Z) := by
              show _ = _
              rw [← hst.out, show 8 - j = (8 - (j + 1)) + 1 by omega]
              rfl
            have hsl := Lib.hid (FM.step_lt hY.out)
            by_cases hodd : Y % 2 = 1
            · have h2 : (((Y : Int) % 2) == 1) = true := by simp; omega
              have hb := ref_odd Y hY.out hodd
              clear hst hd3
              go_wp2
              go_round
              case rel => exact ⟨j + 1, FM.step Y, by omega, by go_num, rfl, hsl.out, hnext.out⟩
              case measure => simp [intOf]; omega
            · have h2 : (((Y : Int) % 2) == 1) = false := by simp; omega
              have hb := ref_even Y hY.out hodd
              clear hst hd3
              go_wp2
              go_round
              case rel => exact ⟨j + 1, FM.step Y, by omega, by go_num, congrArg (Value.int .u32) hb, hsl.out, hnext.out⟩
              case measure => simp [intOf]; omega

end Go.Proofs.Ytgpbacddpfbimaa
