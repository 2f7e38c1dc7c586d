/-
  The calls of bytes.Clone, wire.AppendUint and elasticstoreref03.AppendUint: each returns the given bytes and behind them the base-128 encoding, in memory of the call's own. Conditions: the slice reads as bytes, at most 2^40 of them; the number lies in the range of uint64.
-/
import Derived.Test.YtacbpphhkkmelaaBase
namespace Go.Proofs.Ytacbpphhkkmelaa
open Go.RowKit
open WM (Bytes enc)

set_option maxHeartbeats 1000000 in
theorem clone_any (v : Value) (xs : List Int) (w : World) (h : Rd w v xs) (hlen : xs.length ≤ 1099511627776) :
    Calls Try.prog 85 #[v] w fun e w' => ∃ v', e = .returned v' ∧ Own w.heap.size w' v' xs ∧ Below w.heap.size w w' := by
  have hbytes := h.bytes
  obtain ⟨a, n, c, rfl, h1, h2, h3, h4, h5, h6⟩ := h
  have q22 : ∀ (w : World) (a : Option Addr) (n c n' c' : Nat), (binOp .eql 54 (.slice a n c) (.slice none n' c')).run Try.prog w = .ok (.bool a.isNone) w := fun w a n c n' c' => Lib.run_eql_slice_nil w _ _ a n c n' c' Try.underlying54
  cases a with
  | none =>
    obtain ⟨rfl, rfl⟩ := h4 rfl
    obtain rfl : xs = [] := List.eq_nil_of_length_eq_zero h1
    clear h1 h4 h5 h6 h2 h3
    go_enter Try.func85, Try.ntmps85
    go_wp2
    go_ret
    exact ⟨_, rfl, ⟨World.ownsRow_nil _ _ _ _, hbytes⟩, Below.refl _ _⟩
  | some x =>
    obtain ⟨i0, hi, hz0, hz1, hz2⟩ := info_parts infoU8
    have A : Hid (∀ i, i < n → w.cell? (x.add i) = some (.int .u8 (xs.getD i 0))) := h5 x rfl
    clear h5 h4
    go_enter Try.func85, Try.ntmps85
    go_wp2_with (at_builtin; refine wpList_append_own _ rfl _ _ 54 rfl w.heap.size 5 i0 (.int .u8 0) 1 1 Try.underlying54 hi hz0 hz1 hz2 rfl (by decide) _ _ _ rfl (World.ownsRow_made w #[] 0 (Nat.le_refl _) (Nat.zero_le _) rfl) x n c (xs.map (Value.int .u8)) rfl ?qc1 ?qc2 ?qc3 ?qc4 ?qc5 ?qc6 ?_)
    case qc1 => simp; omega
    case qc2 =>
      intro j u hj
      have hjn : j < n := by
        have := (List.getElem?_eq_some_iff.1 hj).1
        simp at this
        omega
      refine Lib.cell?_alloc_some _ ?_
      rw [A.out j hjn]
      have e : (xs.map (Value.int .u8))[j]? = some (Value.int .u8 (xs.getD j 0)) := by simp [List.getD, List.getElem?_eq_getElem (show j < xs.length by omega)]
      rw [e] at hj
      exact hj
    case qc3 => exact ints_oneCell _ _
    case qc4 => unfold maxLen; omega
    case qc5 => omega
    case qc6 => simp
    intro v' w1 hown hgrow hnil
    go_wp2
    go_ret
    refine ⟨v', rfl, ⟨by simpa [h1] using hown, hbytes⟩, ?_⟩
    exact ((Below.refl _ w).alloc (Nat.le_refl _) _).grown hgrow (by simp) (by intro k hk; simp [Value.ownBlock] at hk; omega)

theorem wrap_div (m : Nat) (h : m < 18446744073709551616) : IntKind.u64.wrap ((m : Int) / 128) = ((m / 128 : Nat) : Int) := by
  rw [IntWalk.u64_in _ ⟨by omega, by omega⟩]; omega

theorem or_nat : ∀ a : Nat, a < 256 → a ||| 128 = a % 128 + 128 := by decide +kernel
theorem or_byte (m : Nat) : bits .or .u8 ((m : Int) % 256) 128 = ((m % 128 + 128 : Nat) : Int) := by
  have h := u8_or_nat (m % 256) 128 (by omega) (by omega)
  rw [or_nat _ (by omega)] at h
  have e : m % 256 % 128 = m % 128 := by omega
  rw [e] at h
  exact h

set_option maxRecDepth 100000 in
set_option maxHeartbeats 1000000 in
theorem wAppendUint (v : Value) (xs : List Int) (n : Nat) (w : World) (h : Rd w v xs) (hlen : xs.length ≤ 1099511627776) (hn : n < 18446744073709551616) :
    Calls Try.prog 62 #[v, .int .u64 n] w fun e w' => ∃ v', e = .returned v' ∧ Own w.heap.size w' v' (xs ++ enc n) ∧ Below w.heap.size w w' := by
  obtain ⟨i0, hi, hz0, hz1, hz2⟩ := info_parts infoU8
  have hcl := clone_any v xs w h hlen
  have hl10 := WM.enc_len10 n hn
  have HN := Lib.hid hn
  clear hn
  go_enter Try.func62, Try.ntmps62
  go_wp2_with fail
  refine hcl.mono ?_
  rintro e w1 ⟨v1, rfl, hown, hb⟩
  clear hcl
  go_wp2_with fail
  go_loopw [1, 5] (fun u z wr => ∃ (m : Nat) (ys : List Int), u = .int .u64 m ∧ Own w.heap.size wr z ys ∧ Hid (ys ++ enc m = xs ++ enc n) ∧ Below w.heap.size w wr ∧ ys.length ≤ 1099511627786)
    (fun u _ _ => (intOf u).toNat)
  case atStart => exact ⟨n, xs, rfl, hown, rfl, hb, by omega⟩
  case round =>
    obtain ⟨m, ys, rfl, ho, he, hbel, hyl⟩ := hrel
    have hsz := hbel.size
    by_cases hlt : m < 128
    · have hlt' : ¬ (128 : Int) ≤ (m : Int) := by omega
      go_wp2_with (at_builtin; refine wp_app1 rfl _ _ rfl rfl ho rfl ?h1 (by omega) (by omega) ?_)
      case h1 => unfold WM.isByte; omega
      intro v2 w2 ho2 hb2
      go_wp2
      go_ret
      refine ⟨v2, rfl, ?_, hbel.trans hb2⟩
      rw [← he.out, WM.enc_small hlt]
      exact ho2
    · have hlt' : (128 : Int) ≤ (m : Int) := by omega
      go_wp2_with (at_builtin; refine wp_app1 rfl _ _ rfl rfl ho rfl ?h2 (by omega) (by omega) ?_)
      case h2 => rw [or_byte]; unfold WM.isByte; omega
      intro v2 w2 ho2 hb2
      go_wp2
      rw [or_byte] at ho2
      have he2 := he.out
      rw [WM.enc_big hlt] at he2
      have hl2 : ys.length + 1 ≤ xs.length + (enc n).length := by
        have := congrArg List.length he2
        have := WM.enc_pos (m / 128)
        simp at *; omega
      go_roundw
      case rel => exact ⟨m / 128, _, by go_num, ho2, by rw [List.append_assoc]; exact he2, hbel.trans hb2, by simp; omega⟩
      case measure => simp [intOf]; omega

set_option maxRecDepth 100000 in
set_option maxHeartbeats 1000000 in
theorem rAppendUint (v : Value) (xs : List Int) (n : Nat) (w : World) (h : Rd w v xs) (hlen : xs.length ≤ 1099511627776) (hn : n < 18446744073709551616) :
    Calls Try.prog 90 #[v, .int .u64 n] w fun e w' => ∃ v', e = .returned v' ∧ Own w.heap.size w' v' (xs ++ enc n) ∧ Below w.heap.size w w' := by
  have hl10 := WM.enc_len10 n hn
  have HN := Lib.hid hn
  clear hn
  have ho0 : Own w.heap.size (w.alloc (.cells #[] 5)) (.slice (some ⟨w.heap.size, 0, none⟩) 0 0) [] := ⟨World.ownsRow_made w #[] 0 (Nat.le_refl _) (Nat.zero_le _) rfl, fun _ h => by cases h⟩
  have hb0 : Below w.heap.size w (w.alloc (.cells #[] 5)) := (Below.refl _ w).alloc (Nat.le_refl _) _
  have h' := h.below hb0
  go_enter Try.func90, Try.ntmps90
  go_wp2_with (at_builtin; refine wp_appS rfl _ _ rfl rfl ho0 rfl h' (by simp) (by omega) (by simp) ?_)
  intro v1 w1 ho1 hb1
  have hb2 := hb0.trans hb1
  clear ho0 hb0 h' hb1
  go_wp2_with fail
  go_loopw [1, 5] (fun u z wr => ∃ (m : Nat) (ys : List Int), u = .int .u64 m ∧ Own w.heap.size wr z ys ∧ Hid (ys ++ enc m = xs ++ enc n) ∧ Below w.heap.size w wr ∧ ys.length ≤ 1099511627786 ∧ Hid (m < 18446744073709551616))
    (fun u _ _ => (intOf u).toNat)
  case atStart => exact ⟨n, xs, rfl, ho1, rfl, hb2, by omega, HN⟩
  case round =>
    obtain ⟨m, ys, rfl, ho, he, hbel, hyl, HM⟩ := hrel
    have hsz := hbel.size
    by_cases hlt : m < 128
    · have hlt' : ¬ (128 : Int) ≤ (m : Int) := by omega
      go_wp2_with (at_builtin; refine wp_app1 rfl _ _ rfl rfl ho rfl ?h1 (by omega) (by omega) ?_)
      case h1 => unfold WM.isByte; omega
      intro v2 w2 ho2 hb2
      go_wp2
      go_ret
      refine ⟨v2, rfl, ?_, hbel.trans hb2⟩
      rw [← he.out, WM.enc_small hlt]
      exact ho2
    · have hlt' : (128 : Int) ≤ (m : Int) := by omega
      go_wp2_with (at_builtin; refine wp_app1 rfl _ _ rfl rfl ho rfl ?h2 (by omega) (by omega) ?_)
      case h2 => unfold WM.isByte; omega
      intro v2 w2 ho2 hb2
      go_wp2
      have he2 := he.out
      rw [WM.enc_big hlt] at he2
      have hl2 : ys.length + 1 ≤ xs.length + (enc n).length := by
        have := congrArg List.length he2
        have := WM.enc_pos (m / 128)
        simp at *; omega
      rw [wrap_div m HM.out]
      go_roundw
      case rel => exact ⟨m / 128, _, rfl, ho2, by rw [List.append_assoc]; exact he2, hbel.trans hb2, by simp; omega, by have := HM.out; show _ < _; omega⟩
      case measure => simp [intOf]; omega

end Go.Proofs.Ytacbpphhkkmelaa
