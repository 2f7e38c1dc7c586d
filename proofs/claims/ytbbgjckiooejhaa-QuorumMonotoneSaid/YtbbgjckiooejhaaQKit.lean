/-
  The calls of the laws' own Index, Digit, Rule, view, chosen. Conditions: a base from 2 to 16, an index up to 12.
-/
import Derived.Test.YtbbgjckiooejhaaQRef
namespace Go.Proofs.Ytbbgjckiooejhaa
open Go.RowKit
open QM (Mem)

def ix (n k : Int) : Int := n.tmod k % k
theorem ix_pos {n k : Int} (hk : 1 ≤ k) : 0 ≤ n.tmod k + k ∧ n.tmod k + k < 2 * k := by
  have h1 := Int.tmod_lt_of_pos n (show 0 < k by omega)
  have h2 : -k < n.tmod k := by
    have := Int.lt_tmod_of_pos n (show 0 < k by omega)
    omega
  omega
theorem ix_range {n k : Int} (hk : 1 ≤ k) : 0 ≤ ix n k ∧ ix n k < k := by
  exact ⟨Int.emod_nonneg _ (by omega), Int.emod_lt_of_pos _ (by omega)⟩

set_option maxRecDepth 100000 in
set_option maxHeartbeats 1000000 in
theorem kIndex (n k : Int) (w : World) (hk : 1 ≤ k) (hk2 : k ≤ 1099511627776) : Calls Try.prog 30 #[.int .i64 n, .int .i64 k] w fun e w' => e = .returned (.int .i64 (ix n k)) ∧ w = w' := by
  have h1 := ix_pos (n := n) hk
  have h0 : ¬ k < 1 := by omega
  have hz : ¬ k = 0 := by omega
  have hw1 : IntKind.i64.wrap (n.tmod k) = n.tmod k := IntWalk.i64_in _ (by omega)
  have hw2 : IntKind.i64.wrap (n.tmod k + k) = n.tmod k + k := IntWalk.i64_in _ (by omega)
  have h2 := ix_range (n := n) hk
  unfold ix at h2 ⊢
  have hw3 : IntKind.i64.wrap (n.tmod k % k) = n.tmod k % k := IntWalk.i64_in _ (by omega)
  have H2 := Lib.hid h2
  clear h2
  go_enter Try.func30, Try.ntmps30
  go_wp2
  go_ret
  exact ⟨rfl, rfl⟩

def dg (n : Int) (b i : Nat) : Nat := (ix n 1099511627776).toNat / b ^ i % b
theorem dg_lt (n : Int) {b : Nat} (i : Nat) (hb : 0 < b) : dg n b i < b := Nat.mod_lt _ hb

set_option maxRecDepth 100000 in
set_option maxHeartbeats 1000000 in
theorem kDigit (n : Int) (b i : Nat) (w : World) (hb : 2 ≤ b) (hb2 : b ≤ 16) (hi : i ≤ 40) : Calls Try.prog 29 #[.int .i64 n, .int .i64 b, .int .i64 i] w fun e w' => e = .returned (.int .i64 (dg n b i : Int)) ∧ w = w' := by
  have hix := kIndex n 1099511627776 w (by decide) (by decide)
  have hr := ix_range (n := n) (show (1 : Int) ≤ 1099511627776 by decide)
  unfold dg
  obtain ⟨X, hX⟩ : ∃ X : Nat, ix n 1099511627776 = X := ⟨(ix n 1099511627776).toNat, by omega⟩
  rw [hX] at hr hix ⊢
  rw [Int.toNat_natCast]
  have HI := Lib.hid hix
  have hXl : X < 1099511627776 := by omega
  clear hix hr hX
  go_enter Try.func29, Try.ntmps29
  go_wp2_with fail
  refine HI.out.mono ?_
  rintro e w1 ⟨rfl, rfl⟩
  go_wp2
  go_loop [7, 8] (fun x j => ∃ (Y k : Nat), k ≤ i ∧ Y < 1099511627776 ∧ j = .int .i64 k ∧ x = .int .i64 Y ∧ Hid (Y = X / b ^ k)) (fun _ j => i - (intOf j).toNat)
  case atStart => exact ⟨X, 0, Nat.zero_le _, hXl, rfl, rfl, (by show X = X / b ^ 0; simp)⟩
  case round =>
    obtain ⟨Y, k, hk, hY, rfl, rfl, he⟩ := hrel
    have hz : ¬ (b : Int) = 0 := by omega
    by_cases hlt : k < i
    · have hq : (k : Int) < (i : Int) := by omega
      have hd : ((Y : Int)).tdiv (b : Int) = ((Y / b : Nat) : Int) := by
        rw [Int.tdiv_eq_ediv_of_nonneg (by omega)]; exact (Int.natCast_ediv Y b).symm
      have hYb : Y / b ≤ Y := Nat.div_le_self _ _
      have e2 := Lib.hid (show Y / b = X / b ^ (k + 1) by rw [he.out, Nat.div_div_eq_div_mul, Nat.pow_succ])
      clear he
      generalize Y / b = Z at hd hYb e2
      have hw : IntKind.i64.wrap (Z : Int) = (Z : Int) := IntWalk.i64_in _ (by omega)
      go_wp2
      go_round
      case rel => exact ⟨Z, k + 1, by omega, by omega, by go_num, rfl, e2⟩
      case measure => simp [intOf]; omega
    · have hq : ¬ (k : Int) < (i : Int) := by omega
      obtain rfl : k = i := by omega
      have hm : ((Y : Int)).tmod (b : Int) = ((Y % b : Nat) : Int) := by
        rw [Int.tmod_eq_emod_of_nonneg (by omega)]; exact (Int.natCast_emod Y b).symm
      have hYb : Y % b < b := Nat.mod_lt _ (by omega)
      have e2 := Lib.hid (show Y % b = X / b ^ k % b by rw [he.out])
      clear he
      generalize Y % b = Z at hm hYb e2
      have hw : IntKind.i64.wrap (Z : Int) = (Z : Int) := IntWalk.i64_in _ (by omega)
      go_wp2
      go_ret
      rw [e2.out]
      exact ⟨rfl, rfl⟩

theorem rule_ret {R : Ending → World → Prop} {a : Act} {w : World} {g : Nat} {k c f : Int} (hp : a.tmps.getD 2 undef = .pointer (some ⟨g, 0, none⟩)) (hg : w.heap[g]? = some (.cells #[.int .i64 k, .int .i64 c, .int .i64 f] 23 (0, 0)))
    (hd : a.defers = []) (hR : R (.returned (rl k c f)) w) : bodyPost Try.prog Try.f44 R .ret a w :=
  bodyPost_ret (results_cell_row (P := Try.prog) rfl a.tmps w g 23 _ _ _ hp hg Try.underlying23 rfl (by kernel_rfl)) hd hR
set_option maxRecDepth 100000 in
set_option maxHeartbeats 2000000 in
theorem kRule (n : Int) (w : World) : Calls Try.prog 44 #[.int .i64 n] w fun e w' => ∃ k c f, e = .returned (rl k c f) ∧ QM.errR k c f = 0 ∧ Below w.heap.size w w' := by
  have h1 := fun w => kDigit n 8 0 w (by decide) (by decide) (by decide)
  have h2 := fun w => kDigit n 4 2 w (by decide) (by decide) (by decide)
  have h3 := fun w => kDigit n 2 3 w (by decide) (by decide) (by decide)
  have b1 := dg_lt n 0 (show 0 < 8 by decide)
  have b2 := dg_lt n 2 (show 0 < 4 by decide)
  have b3 := dg_lt n 3 (show 0 < 2 by decide)
  generalize dg n 8 0 = d1 at h1 b1
  generalize dg n 4 2 = d2 at h2 b2
  generalize dg n 2 3 = d3 at h3 b3
  have H1 := Lib.hid h1
  have H2 := Lib.hid h2
  have H3 := Lib.hid h3
  clear h1 h2 h3
  have hcase : d1 = 1 ∨ d1 = 2 ∨ d1 = 3 ∨ d1 = 4 ∨ (d1 ≠ 1 ∧ d1 ≠ 2 ∧ d1 ≠ 3 ∧ d1 ≠ 4) := by omega
  rcases hcase with rfl | rfl | rfl | rfl | ⟨n1, n2, n3, n4⟩
  · go_enter Try.func44, Try.ntmps44
    go_wp2_with fail
    refine (H1.out _).mono ?_
    rintro e w1 ⟨rfl, rfl⟩
    go_wp2
    exact rule_ret rfl (heap_alloc_new w _) rfl ⟨2, 0, 0, rfl, by decide, below_fresh _ _⟩
  · go_enter Try.func44, Try.ntmps44
    go_wp2_with fail
    refine (H1.out _).mono ?_
    rintro e w1 ⟨rfl, rfl⟩
    go_wp2
    exact rule_ret rfl (heap_alloc_new w _) rfl ⟨2, 0, 0, rfl, by decide, below_fresh _ _⟩
  · go_enter Try.func44, Try.ntmps44
    go_wp2_with fail
    refine (H1.out _).mono ?_
    rintro e w1 ⟨rfl, rfl⟩
    go_wp2_with fail
    refine (H2.out _).mono ?_
    rintro e w1 ⟨rfl, rfl⟩
    go_wp2
    exact rule_ret rfl (heap_alloc_new w _) rfl ⟨3, 1 + (d2 : Int), 0, rfl, (by
      have : d2 = 0 ∨ d2 = 1 ∨ d2 = 2 ∨ d2 = 3 := by omega
      rcases this with rfl | rfl | rfl | rfl <;> decide), below_fresh _ _⟩
  · go_enter Try.func44, Try.ntmps44
    go_wp2_with fail
    refine (H1.out _).mono ?_
    rintro e w1 ⟨rfl, rfl⟩
    go_wp2_with fail
    refine (H3.out _).mono ?_
    rintro e w1 ⟨rfl, rfl⟩
    go_wp2
    exact rule_ret rfl (heap_alloc_new w _) rfl ⟨4, 0, (d3 : Int), rfl, (by
      have : d3 = 0 ∨ d3 = 1 := by omega
      rcases this with rfl | rfl <;> decide), below_fresh _ _⟩
  · have m1 : ((d1 : Int) == 1) = false := beq_f (by omega)
    have m2 : ((d1 : Int) == 2) = false := beq_f (by omega)
    have m3 : ((d1 : Int) == 3) = false := beq_f (by omega)
    have m4 : ((d1 : Int) == 4) = false := beq_f (by omega)
    go_enter Try.func44, Try.ntmps44
    go_wp2_with fail
    refine (H1.out _).mono ?_
    rintro e w1 ⟨rfl, rfl⟩
    go_wp2
    exact rule_ret rfl (heap_alloc_new w _) rfl ⟨1, 0, 0, rfl, by decide, below_fresh _ _⟩

/-- The servers that chosen returns. -/
def chs (n : Int) (j : Nat) : List Int := ((List.range j).filter fun i => dg n 2 i = 1).map fun i : Nat => (i : Int) + 1
theorem chs_succ (n : Int) (j : Nat) : chs n (j + 1) = chs n j ++ if dg n 2 j = 1 then [(j : Int) + 1] else [] := by
  unfold chs
  rw [List.range_succ, List.filter_append, List.map_append]
  by_cases h : dg n 2 j = 1
  · rw [if_pos h]; simp [h]
  · rw [if_neg h]; simp [h]

theorem chs_length (n : Int) (j : Nat) : (chs n j).length ≤ j := by
  unfold chs
  rw [List.length_map]
  exact Nat.le_trans (List.length_filter_le _ (List.range j)) (by rw [List.length_range]; exact Nat.le_refl _)

set_option maxRecDepth 100000 in
set_option maxHeartbeats 2000000 in
theorem kChosen (n : Int) (w : World) : Calls Try.prog 24 #[.int .i64 n] w fun e w' => ∃ v, e = .returned v ∧ OwnI w.heap.size w' v (chs n 8) ∧ Below w.heap.size w w' := by
  go_enter Try.func24, Try.ntmps24
  go_wp2
  go_loopw [3, 4] (fun u i wr => ∃ (j : Nat), j ≤ 8 ∧ i = .int .i64 j ∧ Hid (OwnI w.heap.size wr u (chs n j)) ∧ Hid (Below w.heap.size w wr)) (fun _ i _ => 8 - (intOf i).toNat)
  case atStart => exact ⟨0, by decide, rfl, OwnG.nil hlI _ _ _, Below.refl _ _⟩
  case round =>
    obtain ⟨j, hj, rfl, ho, hb⟩ := hrel
    by_cases hlt : j < 8
    · have hq : (j : Int) < 8 := by omega
      have hcs := chs_succ n j
      have hcl := chs_length n j
      have hd := fun w => kDigit n 2 j w (by decide) (by decide) (by omega)
      have hdl := dg_lt n j (show 0 < 2 by decide)
      generalize dg n 2 j = d at hcs hd hdl
      have HD := Lib.hid hd
      have HCS := Lib.hid hcs
      have hsz := hb.out.size
      clear hd hcs
      by_cases h1 : d = 1
      · subst h1
        go_wp2_with (first | (go_at_call 29; refine (HD.out _).mono ?_; rintro e w2 ⟨rfl, rfl⟩) | (at_builtin; refine wp_appG1 intE ((j : Int) + 1) rfl _ _ rfl rfl ho.out rfl (by omega) hsz ?_; intro v1 w1 ho1 hb1 _ _))
        have HO := Lib.hid (show OwnI w.heap.size w1 v1 (chs n (j + 1)) by rw [HCS.out]; exact ho1)
        have HB := Lib.hid (hb.out.trans hb1)
        clear ho1 hb1 ho hb HCS
        go_wp2
        go_round
        case rel => exact ⟨j + 1, by omega, by go_num, HO, HB⟩
        case measure => simp [intOf]; omega
      · have hd0 : d = 0 := by omega
        subst hd0
        go_wp2_with (go_at_call 29; refine (HD.out _).mono ?_; rintro e w2 ⟨rfl, rfl⟩)
        have hsame : chs n j = chs n (j + 1) := by rw [HCS.out]; simp
        rw [hsame] at ho
        clear HCS hsame
        go_wp2
        go_round
        case rel => exact ⟨j + 1, by omega, by go_num, ho, hb⟩
        case measure => simp [intOf]; omega
    · have hq : ¬ (j : Int) < 8 := by omega
      obtain rfl : j = 8 := by omega
      go_wp2
      go_ret
      exact ⟨_, rfl, ho.out, hb.out⟩

end Go.Proofs.Ytbbgjckiooejhaa
