/-
  The calls of the laws' own Index, Digit, At, Rule, Change. Conditions: a base from 2 to 16, an index up to 40, a list whose length is at most 2^62.
-/
import Derived.Test.YtdfablboenfblaaDoorQKE
namespace Go.Proofs.YtdfablboenfblaaDoor
open Go.RowKit
open JM (Chg)

def ix (n k : Int) : Int := n.tmod k % k
theorem ix_pos {n k : Int} (hk : 1 ≤ k) : 0 ≤ n.tmod k + k ∧ n.tmod k + k < 2 * k := by
  have h1 := Int.tmod_lt_of_pos n (show 0 < k by omega)
  have h2 : -k < n.tmod k := by
    have := Int.lt_tmod_of_pos n (show 0 < k by omega)
    omega
  omega
theorem ix_range {n k : Int} (hk : 1 ≤ k) : 0 ≤ ix n k ∧ ix n k < k := by
  exact ⟨Int.emod_nonneg _ (by omega), Int.emod_lt_of_pos _ (by omega)⟩

set_option maxRecDepth 100000 in
set_option maxHeartbeats 1000000 in
theorem kIndex (n k : Int) (w : World) (hk : 1 ≤ k) (hk2 : k ≤ 4611686018427387904) : Calls Tryd.prog 37 #[.int .i64 n, .int .i64 k] w fun e w' => e = .returned (.int .i64 (ix n k)) ∧ w = w' := by
  have h1 := ix_pos (n := n) hk
  have h0 : ¬ k < 1 := by omega
  have hz : ¬ k = 0 := by omega
  have hw1 : IntKind.i64.wrap (n.tmod k) = n.tmod k := IntWalk.i64_in _ (by omega)
  have hw2 : IntKind.i64.wrap (n.tmod k + k) = n.tmod k + k := IntWalk.i64_in _ (by omega)
  have h2 := ix_range (n := n) hk
  unfold ix at h2 ⊢
  have hw3 : IntKind.i64.wrap (n.tmod k % k) = n.tmod k % k := IntWalk.i64_in _ (by omega)
  have H2 := Lib.hid h2
  clear h2
  go_enter Tryd.func37, Tryd.ntmps37
  go_wp2
  go_ret
  exact ⟨rfl, rfl⟩

def dg (n : Int) (b i : Nat) : Nat := (ix n 1099511627776).toNat / b ^ i % b
theorem dg_lt (n : Int) {b : Nat} (i : Nat) (hb : 0 < b) : dg n b i < b := Nat.mod_lt _ hb

set_option maxRecDepth 100000 in
set_option maxHeartbeats 1000000 in
theorem kDigit (n : Int) (b i : Nat) (w : World) (hb : 2 ≤ b) (hb2 : b ≤ 16) (hi : i ≤ 40) : Calls Tryd.prog 56 #[.int .i64 n, .int .i64 b, .int .i64 i] w fun e w' => e = .returned (.int .i64 (dg n b i : Int)) ∧ w = w' := by
  have hix := kIndex n 1099511627776 w (by decide) (by decide)
  have hr := ix_range (n := n) (show (1 : Int) ≤ 1099511627776 by decide)
  unfold dg
  obtain ⟨X, hX⟩ : ∃ X : Nat, ix n 1099511627776 = X := ⟨(ix n 1099511627776).toNat, by omega⟩
  rw [hX] at hr hix ⊢
  rw [Int.toNat_natCast]
  have HI := Lib.hid hix
  have hXl : X < 1099511627776 := by omega
  clear hix hr hX
  go_enter Tryd.func56, Tryd.ntmps56
  go_wp2_with fail
  refine HI.out.mono ?_
  rintro e w1 ⟨rfl, rfl⟩
  go_wp2
  go_loop [7, 8] (fun x j => ∃ (Y k : Nat), k ≤ i ∧ Y < 1099511627776 ∧ j = .int .i64 k ∧ x = .int .i64 Y ∧ Hid (Y = X / b ^ k)) (fun _ j => i - (intOf j).toNat)
  case atStart => exact ⟨X, 0, Nat.zero_le _, hXl, rfl, rfl, (by show X = X / b ^ 0; simp)⟩
  case round =>
    obtain ⟨Y, k, hk, hY, rfl, rfl, he⟩ := hrel
    have hz : ¬ (b : Int) = 0 := by omega
    by_cases hlt : k < i
    · have hq : (k : Int) < (i : Int) := by omega
      have hd : ((Y : Int)).tdiv (b : Int) = ((Y / b : Nat) : Int) := by
        rw [Int.tdiv_eq_ediv_of_nonneg (by omega)]; exact (Int.natCast_ediv Y b).symm
      have hYb : Y / b ≤ Y := Nat.div_le_self _ _
      have e2 := Lib.hid (show Y / b = X / b ^ (k + 1) by rw [he.out, Nat.div_div_eq_div_mul, Nat.pow_succ])
      clear he
      generalize Y / b = Z at hd hYb e2
      have hw : IntKind.i64.wrap (Z : Int) = (Z : Int) := IntWalk.i64_in _ (by omega)
      go_wp2
      go_round
      case rel => exact ⟨Z, k + 1, by omega, by omega, by go_num, rfl, e2⟩
      case measure => simp [intOf]; omega
    · have hq : ¬ (k : Int) < (i : Int) := by omega
      obtain rfl : k = i := by omega
      have hm : ((Y : Int)).tmod (b : Int) = ((Y % b : Nat) : Int) := by
        rw [Int.tmod_eq_emod_of_nonneg (by omega)]; exact (Int.natCast_emod Y b).symm
      have hYb : Y % b < b := Nat.mod_lt _ (by omega)
      have e2 := Lib.hid (show Y % b = X / b ^ k % b by rw [he.out])
      clear he
      generalize Y % b = Z at hm hYb e2
      have hw : IntKind.i64.wrap (Z : Int) = (Z : Int) := IntWalk.i64_in _ (by omega)
      go_wp2
      go_ret
      rw [e2.out]
      exact ⟨rfl, rfl⟩

/-- Element i of a list that is repeated without end. -/
def atV (l : List Int) (i : Nat) : Int := if l.length = 0 then 0 else l.getD (ix (i : Int) (l.length : Int)).toNat 0
end Go.Proofs.YtdfablboenfblaaDoor
