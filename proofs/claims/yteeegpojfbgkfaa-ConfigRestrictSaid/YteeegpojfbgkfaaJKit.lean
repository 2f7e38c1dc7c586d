/-
  The calls of the laws' own Index, Digit, At, Rule, Change. Conditions: a base from 2 to 16, an index up to 40, a list whose length is at most 2^62.
-/
import Derived.Test.YteeegpojfbgkfaaKE
namespace Go.Proofs.Yteeegpojfbgkfaa
open Go.RowKit
open JM (Chg)

def ix (n k : Int) : Int := n.tmod k % k
theorem ix_pos {n k : Int} (hk : 1 ≤ k) : 0 ≤ n.tmod k + k ∧ n.tmod k + k < 2 * k := by
  have h1 := Int.tmod_lt_of_pos n (show 0 < k by omega)
  have h2 : -k < n.tmod k := by
    have := Int.lt_tmod_of_pos n (show 0 < k by omega)
    omega
  omega
theorem ix_range {n k : Int} (hk : 1 ≤ k) : 0 ≤ ix n k ∧ ix n k < k := by
  exact ⟨Int.emod_nonneg _ (by omega), Int.emod_lt_of_pos _ (by omega)⟩

set_option maxRecDepth 100000 in
set_option maxHeartbeats 1000000 in
theorem kIndex (n k : Int) (w : World) (hk : 1 ≤ k) (hk2 : k ≤ 4611686018427387904) : Calls Try.prog 36 #[.int .i64 n, .int .i64 k] w fun e w' => e = .returned (.int .i64 (ix n k)) ∧ w = w' := by
  have h1 := ix_pos (n := n) hk
  have h0 : ¬ k < 1 := by omega
  have hz : ¬ k = 0 := by omega
  have hw1 : IntKind.i64.wrap (n.tmod k) = n.tmod k := IntWalk.i64_in _ (by omega)
  have hw2 : IntKind.i64.wrap (n.tmod k + k) = n.tmod k + k := IntWalk.i64_in _ (by omega)
  have h2 := ix_range (n := n) hk
  unfold ix at h2 ⊢
  have hw3 : IntKind.i64.wrap (n.tmod k % k) = n.tmod k % k := IntWalk.i64_in _ (by omega)
  have H2 := Lib.hid h2
  clear h2
  go_enter Try.func36, Try.ntmps36
  go_wp2
  go_ret
  exact ⟨rfl, rfl⟩

def dg (n : Int) (b i : Nat) : Nat := (ix n 1099511627776).toNat / b ^ i % b
theorem dg_lt (n : Int) {b : Nat} (i : Nat) (hb : 0 < b) : dg n b i < b := Nat.mod_lt _ hb

set_option maxRecDepth 100000 in
set_option maxHeartbeats 1000000 in
theorem kDigit (n : Int) (b i : Nat) (w : World) (hb : 2 ≤ b) (hb2 : b ≤ 16) (hi : i ≤ 40) : Calls Try.prog 58 #[.int .i64 n, .int .i64 b, .int .i64 i] w fun e w' => e = .returned (.int .i64 (dg n b i : Int)) ∧ w = w' := by
  have hix := kIndex n 1099511627776 w (by decide) (by decide)
  have hr := ix_range (n := n) (show (1 : Int) ≤ 1099511627776 by decide)
  unfold dg
  obtain ⟨X, hX⟩ : ∃ X : Nat, ix n 1099511627776 = X := ⟨(ix n 1099511627776).toNat, by omega⟩
  rw [hX] at hr hix ⊢
  rw [Int.toNat_natCast]
  have HI := Lib.hid hix
  have hXl : X < 1099511627776 := by omega
  clear hix hr hX
  go_enter Try.func58, Try.ntmps58
  go_wp2_with fail
  refine HI.out.mono ?_
  rintro e w1 ⟨rfl, rfl⟩
  go_wp2
  go_loop [7, 8] (fun x j => ∃ (Y k : Nat), k ≤ i ∧ Y < 1099511627776 ∧ j = .int .i64 k ∧ x = .int .i64 Y ∧ Hid (Y = X / b ^ k)) (fun _ j => i - (intOf j).toNat)
  case atStart => exact ⟨X, 0, Nat.zero_le _, hXl, rfl, rfl, (by show X = X / b ^ 0; simp)⟩
  case round =>
    obtain ⟨Y, k, hk, hY, rfl, rfl, he⟩ := hrel
    have hz : ¬ (b : Int) = 0 := by omega
    by_cases hlt : k < i
    · have hq : (k : Int) < (i : Int) := by omega
      have hd : ((Y : Int)).tdiv (b : Int) = ((Y / b : Nat) : Int) := by
        rw [Int.tdiv_eq_ediv_of_nonneg (by omega)]; exact (Int.natCast_ediv Y b).symm
      have hYb : Y / b ≤ Y := Nat.div_le_self _ _
      have e2 := Lib.hid (show Y / b = X / b ^ (k + 1) by rw [he.out, Nat.div_div_eq_div_mul, Nat.pow_succ])
      clear he
      generalize Y / b = Z at hd hYb e2
      have hw : IntKind.i64.wrap (Z : Int) = (Z : Int) := IntWalk.i64_in _ (by omega)
      go_wp2
      go_round
      case rel => exact ⟨Z, k + 1, by omega, by omega, by go_num, rfl, e2⟩
      case measure => simp [intOf]; omega
    · have hq : ¬ (k : Int) < (i : Int) := by omega
      obtain rfl : k = i := by omega
      have hm : ((Y : Int)).tmod (b : Int) = ((Y % b : Nat) : Int) := by
        rw [Int.tmod_eq_emod_of_nonneg (by omega)]; exact (Int.natCast_emod Y b).symm
      have hYb : Y % b < b := Nat.mod_lt _ (by omega)
      have e2 := Lib.hid (show Y % b = X / b ^ k % b by rw [he.out])
      clear he
      generalize Y % b = Z at hm hYb e2
      have hw : IntKind.i64.wrap (Z : Int) = (Z : Int) := IntWalk.i64_in _ (by omega)
      go_wp2
      go_ret
      rw [e2.out]
      exact ⟨rfl, rfl⟩

theorem rule_ret {R : Ending → World → Prop} {a : Act} {w : World} {g : Nat} {k c f : Int} (hp : a.tmps.getD 2 undef = .pointer (some ⟨g, 0, none⟩)) (hg : w.heap[g]? = some (.cells #[.int .i64 k, .int .i64 c, .int .i64 f] 61 (0, 0)))
    (hd : a.defers = []) (hR : R (.returned (rl k c f)) w) : bodyPost Try.prog Try.f81 R .ret a w :=
  bodyPost_ret (results_cell_row (P := Try.prog) rfl a.tmps w g 61 _ _ _ hp hg Try.underlying61 rfl (by kernel_rfl)) hd hR
set_option maxRecDepth 100000 in
set_option maxHeartbeats 2000000 in
theorem kRule (n : Int) (w : World) : Calls Try.prog 81 #[.int .i64 n] w fun e w' => ∃ k c f, e = .returned (rl k c f) ∧ JM.errR k c f = 0 ∧ Below w.heap.size w w' := by
  have h1 := fun w => kDigit n 8 0 w (by decide) (by decide) (by decide)
  have h2 := fun w => kDigit n 4 2 w (by decide) (by decide) (by decide)
  have h3 := fun w => kDigit n 2 3 w (by decide) (by decide) (by decide)
  have b1 := dg_lt n 0 (show 0 < 8 by decide)
  have b2 := dg_lt n 2 (show 0 < 4 by decide)
  have b3 := dg_lt n 3 (show 0 < 2 by decide)
  generalize dg n 8 0 = d1 at h1 b1
  generalize dg n 4 2 = d2 at h2 b2
  generalize dg n 2 3 = d3 at h3 b3
  have H1 := Lib.hid h1
  have H2 := Lib.hid h2
  have H3 := Lib.hid h3
  clear h1 h2 h3
  have hcase : d1 = 1 ∨ d1 = 2 ∨ d1 = 3 ∨ d1 = 4 ∨ (d1 ≠ 1 ∧ d1 ≠ 2 ∧ d1 ≠ 3 ∧ d1 ≠ 4) := by omega
  rcases hcase with rfl | rfl | rfl | rfl | ⟨n1, n2, n3, n4⟩
  · go_enter Try.func81, Try.ntmps81
    go_wp2_with fail
    refine (H1.out _).mono ?_
    rintro e w1 ⟨rfl, rfl⟩
    go_wp2
    exact rule_ret rfl (heap_alloc_new w _) rfl ⟨2, 0, 0, rfl, by decide, below_fresh _ _⟩
  · go_enter Try.func81, Try.ntmps81
    go_wp2_with fail
    refine (H1.out _).mono ?_
    rintro e w1 ⟨rfl, rfl⟩
    go_wp2
    exact rule_ret rfl (heap_alloc_new w _) rfl ⟨2, 0, 0, rfl, by decide, below_fresh _ _⟩
  · go_enter Try.func81, Try.ntmps81
    go_wp2_with fail
    refine (H1.out _).mono ?_
    rintro e w1 ⟨rfl, rfl⟩
    go_wp2_with fail
    refine (H2.out _).mono ?_
    rintro e w1 ⟨rfl, rfl⟩
    go_wp2
    exact rule_ret rfl (heap_alloc_new w _) rfl ⟨3, 1 + (d2 : Int), 0, rfl, (by
      have : d2 = 0 ∨ d2 = 1 ∨ d2 = 2 ∨ d2 = 3 := by omega
      rcases this with rfl | rfl | rfl | rfl <;> decide), below_fresh _ _⟩
  · go_enter Try.func81, Try.ntmps81
    go_wp2_with fail
    refine (H1.out _).mono ?_
    rintro e w1 ⟨rfl, rfl⟩
    go_wp2_with fail
    refine (H3.out _).mono ?_
    rintro e w1 ⟨rfl, rfl⟩
    go_wp2
    exact rule_ret rfl (heap_alloc_new w _) rfl ⟨4, 0, (d3 : Int), rfl, (by
      have : d3 = 0 ∨ d3 = 1 := by omega
      rcases this with rfl | rfl <;> decide), below_fresh _ _⟩
  · have m1 : ((d1 : Int) == 1) = false := beq_f (by omega)
    have m2 : ((d1 : Int) == 2) = false := beq_f (by omega)
    have m3 : ((d1 : Int) == 3) = false := beq_f (by omega)
    have m4 : ((d1 : Int) == 4) = false := beq_f (by omega)
    go_enter Try.func81, Try.ntmps81
    go_wp2_with fail
    refine (H1.out _).mono ?_
    rintro e w1 ⟨rfl, rfl⟩
    go_wp2
    exact rule_ret rfl (heap_alloc_new w _) rfl ⟨1, 0, 0, rfl, by decide, below_fresh _ _⟩

/-- Element i of a list that is repeated without end. -/
def atV (l : List Int) (i : Nat) : Int := if l.length = 0 then 0 else l.getD (ix (i : Int) (l.length : Int)).toNat 0
set_option maxRecDepth 100000 in
set_option maxHeartbeats 1000000 in
theorem kAt (v : Value) (l : List Int) (i : Nat) (w : World) (h : RdI w v l) (hl : l.length ≤ 4611686018427387904) : Calls Try.prog 37 #[v, .int .i64 (i : Int)] w fun e w' => e = .returned (.int .i64 (atV l i)) ∧ w = w' := by
  obtain ⟨ad, cp, rfl, hcp, _⟩ := h.shape
  unfold atV
  by_cases h0 : l.length = 0
  · rw [if_pos h0]
    have hz : ((l.length : Int) == 0) = true := by simp [h0]
    clear h h0
    go_enter Try.func37, Try.ntmps37
    go_wp2
    go_ret
    exact ⟨rfl, rfl⟩
  · rw [if_neg h0]
    have hz : ((l.length : Int) == 0) = false := beq_f (by omega)
    have hI := kIndex (i : Int) (l.length : Int) w (by omega) (by omega)
    have hr := ix_range (n := (i : Int)) (show (1 : Int) ≤ (l.length : Int) by omega)
    obtain ⟨j, hj⟩ : ∃ j : Nat, ix (i : Int) (l.length : Int) = j := ⟨(ix (i : Int) (l.length : Int)).toNat, by omega⟩
    rw [hj] at hI hr ⊢
    have hjl : j < l.length := by omega
    have hat := List.getElem?_eq_getElem hjl
    have hg : l.getD (j : Int).toNat 0 = l[j] := by simp [List.getD, hat]
    rw [hg]
    generalize l[j] = x at hat
    obtain ⟨b, o, hi, _, hc⟩ := atI h j x hat
    have HI := Lib.hid hI
    clear hI hj hat hg hr h0 h
    go_enter Try.func37, Try.ntmps37
    go_wp2_with fail
    refine HI.out.mono ?_
    rintro e w1 ⟨rfl, rfl⟩
    go_wp2
    go_ret
    exact ⟨rfl, rfl⟩

theorem errC_1 {s t : Int} (h1 : 1 ≤ s) (h2 : s ≤ 12) (h3 : 1 ≤ t) (h4 : t ≤ 9) : JM.errC 1 s t 0 0 0 0 = 0 := by
  unfold JM.errC JM.fit JM.srvOf JM.wtOf JM.verOf; simp; omega
theorem errC_2 {s : Int} (h1 : 1 ≤ s) (h2 : s ≤ 12) : JM.errC 2 s 0 0 0 0 0 = 0 := by
  unfold JM.errC JM.fit JM.srvOf JM.wtOf JM.verOf; simp; omega
theorem errC_3 {s t v : Int} (h1 : 1 ≤ s) (h2 : s ≤ 12) (h3 : 1 ≤ t) (h4 : t ≤ 9) (h5 : 1 ≤ v) (h6 : v ≤ 1000) : JM.errC 3 s t v 0 0 0 = 0 := by
  unfold JM.errC JM.fit JM.srvOf JM.wtOf JM.verOf; simp; omega
theorem errC_4 {v a b c : Int} (h5 : 1 ≤ v) (h6 : v ≤ 1000) (h : JM.errR a b c = 0) : JM.errC 4 0 0 v a b c = 0 := by
  unfold JM.errC JM.fit JM.srvOf JM.wtOf JM.verOf; simp [h]; omega

theorem kchg_ret {R : Ending → World → Prop} {a : Act} {w : World} {g : Nat} {k s t v x y z : Int} (hp : a.tmps.getD 2 undef = .pointer (some ⟨g, 0, none⟩)) (hg : w.heap[g]? = some (.cells #[.int .i64 k, .int .i64 s, .int .i64 t, .int .i64 v, .int .i64 x, .int .i64 y, .int .i64 z] 63 (0, 0)))
    (hd : a.defers = []) (hR : R (.returned (cv k s t v x y z)) w) : bodyPost Try.prog Try.f59 R .ret a w :=
  bodyPost_ret (results_cell_row (P := Try.prog) rfl a.tmps w g 63 _ _ _ hp hg Try.underlying63 rfl (by kernel_rfl)) hd hR

set_option maxRecDepth 100000 in
set_option maxHeartbeats 4000000 in
theorem kChange (n : Int) (w : World) : Calls Try.prog 59 #[.int .i64 n] w fun e w' => ∃ k s t v a b c, e = .returned (cv k s t v a b c) ∧ JM.errC k s t v a b c = 0 ∧ Below w.heap.size w w' := by
  have h1 := fun w => kDigit n 8 1 w (by decide) (by decide) (by decide)
  have h0 := fun w => kDigit n 8 0 w (by decide) (by decide) (by decide)
  have h3 := fun w => kDigit n 4 3 w (by decide) (by decide) (by decide)
  have h9 := fun w => kDigit n 2 9 w (by decide) (by decide) (by decide)
  have h12 := fun w => kDigit n 12 1 w (by decide) (by decide) (by decide)
  have hix := fun w => kIndex n 1099511627776 w (by decide) (by decide)
  have hir := ix_range (n := n) (show (1 : Int) ≤ 1099511627776 by decide)
  have b1 := dg_lt n 1 (show 0 < 8 by decide)
  have b0 := dg_lt n 0 (show 0 < 8 by decide)
  have b3 := dg_lt n 3 (show 0 < 4 by decide)
  have b9 := dg_lt n 9 (show 0 < 2 by decide)
  have b12 := dg_lt n 1 (show 0 < 12 by decide)
  generalize dg n 8 1 = d1 at h1 b1
  generalize dg n 8 0 = d0 at h0 b0
  generalize dg n 4 3 = d3 at h3 b3
  generalize dg n 2 9 = d9 at h9 b9
  generalize dg n 12 1 = d12 at h12 b12
  generalize ix n 1099511627776 = X at hix hir
  have H1 := Lib.hid h1
  have H0 := Lib.hid h0
  have H3 := Lib.hid h3
  have H9 := Lib.hid h9
  have H12 := Lib.hid h12
  have HIX := Lib.hid hix
  have hfr := below_fresh w (.cells #[.int .i64 0, .int .i64 0, .int .i64 0, .int .i64 0, .int .i64 0, .int .i64 0, .int .i64 0] 63)
  have hzb := heap_alloc_new w (.cells #[.int .i64 0, .int .i64 0, .int .i64 0, .int .i64 0, .int .i64 0, .int .i64 0, .int .i64 0] 63)
  have HFR := Lib.hid hfr
  have HZB := Lib.hid hzb
  clear h1 h0 h3 h9 h12 hix hfr hzb
  have hcase : (d0 = 0 ∨ d0 = 1 ∨ d0 = 2) ∨ (d0 = 3 ∨ d0 = 4) ∨ d0 = 5 ∨ d0 = 6 ∨ d0 = 7 := by omega
  rcases hcase with (rfl | rfl | rfl) | (rfl | rfl) | rfl | rfl | rfl
  iterate 3
    · go_enter Try.func59, Try.ntmps59
      go_wp2_with fail
      refine (H1.out _).mono ?_
      rintro e w1 ⟨rfl, rfl⟩
      go_wp2_with fail
      refine (H0.out _).mono ?_
      rintro e w1 ⟨rfl, rfl⟩
      go_wp2_with fail
      refine (H3.out _).mono ?_
      rintro e w1 ⟨rfl, rfl⟩
      go_wp2
      exact kchg_ret rfl (heap_alloc_new w _) rfl ⟨_, _, _, _, _, _, _, rfl, errC_1 (by omega) (by omega) (by omega) (by omega), below_fresh _ _⟩
  iterate 2
    · go_enter Try.func59, Try.ntmps59
      go_wp2_with fail
      refine (H1.out _).mono ?_
      rintro e w1 ⟨rfl, rfl⟩
      go_wp2_with fail
      refine (H0.out _).mono ?_
      rintro e w1 ⟨rfl, rfl⟩
      go_wp2
      exact kchg_ret rfl (heap_alloc_new w _) rfl ⟨_, _, _, _, _, _, _, rfl, errC_2 (by omega) (by omega), below_fresh _ _⟩
  · go_enter Try.func59, Try.ntmps59
    go_wp2_with fail
    refine (H1.out _).mono ?_
    rintro e w1 ⟨rfl, rfl⟩
    go_wp2_with fail
    refine (H0.out _).mono ?_
    rintro e w1 ⟨rfl, rfl⟩
    go_wp2_with fail
    refine (H3.out _).mono ?_
    rintro e w1 ⟨rfl, rfl⟩
    go_wp2_with fail
    refine (H9.out _).mono ?_
    rintro e w1 ⟨rfl, rfl⟩
    go_wp2
    exact kchg_ret rfl (heap_alloc_new w _) rfl ⟨_, _, _, _, _, _, _, rfl, errC_3 (by omega) (by omega) (by omega) (by omega) (by omega) (by omega), below_fresh _ _⟩
  · have hq : X.tdiv 64 = X / 64 := Int.tdiv_eq_ediv_of_nonneg hir.1
    have HK := Lib.hid (kRule (X / 64))
    go_enter Try.func59, Try.ntmps59
    go_wp2_with fail
    refine (H1.out _).mono ?_
    rintro e w1 ⟨rfl, rfl⟩
    go_wp2_with fail
    refine (H0.out _).mono ?_
    rintro e w1 ⟨rfl, rfl⟩
    go_wp2_with fail
    refine (H9.out _).mono ?_
    rintro e w1 ⟨rfl, rfl⟩
    go_wp2_with fail
    refine (HIX.out _).mono ?_
    rintro e w1 ⟨rfl, rfl⟩
    go_wp2_with fail
    refine (HK.out _).mono ?_
    rintro e w1 ⟨k, c, f, rfl, hk, hb1⟩
    have hz := below_block HZB.out hb1
    have HPUT := Lib.hid (chg_put hz (.int .i64 4) (.int .i64 0) (.int .i64 0) (.int .i64 (1 + (d9 : Int))) (.int .i64 k) (.int .i64 c) (.int .i64 f))
    obtain ⟨z0, z1, z2, z3, z4, z5, z6⟩ := CBox.of hz
    have f0 := chg_free hz 0
    have f1 := chg_free hz 1
    have f2 := chg_free hz 2
    have f3 := chg_free hz 3
    have f4 := chg_free hz 4
    have f5 := chg_free hz 5
    have f6 := chg_free hz 6
    have HB1 := Lib.hid (bnext HFR.out hb1)
    have HKR := Lib.hid hk
    clear hz hb1 hk HK
    go_wp2
    exact kchg_ret rfl HPUT.out.1 rfl ⟨_, _, _, _, _, _, _, rfl, errC_4 (by omega) (by omega) HKR.out, seen HB1.out (Nat.le_refl _) HPUT.out.2⟩
  · go_enter Try.func59, Try.ntmps59
    go_wp2_with fail
    refine (H1.out _).mono ?_
    rintro e w1 ⟨rfl, rfl⟩
    go_wp2_with fail
    refine (H0.out _).mono ?_
    rintro e w1 ⟨rfl, rfl⟩
    go_wp2_with fail
    refine (H12.out _).mono ?_
    rintro e w1 ⟨rfl, rfl⟩
    go_wp2
    exact kchg_ret rfl (heap_alloc_new w _) rfl ⟨_, _, _, _, _, _, _, rfl, errC_1 (by omega) (by omega) (by omega) (by omega), below_fresh _ _⟩

end Go.Proofs.Yteeegpojfbgkfaa
