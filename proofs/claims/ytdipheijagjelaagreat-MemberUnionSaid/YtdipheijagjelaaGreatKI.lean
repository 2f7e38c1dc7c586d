/-
  The calls of the laws' own Index, Digit, At, Rule, Change. Conditions: a base from 2 to 16, an index up to 40, a list whose length is at most 2^62.
  The call of the laws' Pool: a valid configuration. Conditions: the list of numbers reads; its length is at most 2^62.
  The calls of the laws' Part and Valid and of the reference's Agree. Conditions: what comes in reads; the pool is valid.
-/
import Derived.Test.YtdipheijagjelaaGreatKE
import Derived.Test.YtdipheijagjelaaGreatKG
import Derived.Test.YtdipheijagjelaaGreatKH
namespace Go.Proofs.YtdipheijagjelaaGreat
open Go.RowKit
open JM (Chg)

def ix (n k : Int) : Int := n.tmod k % k
theorem ix_pos {n k : Int} (hk : 1 ≤ k) : 0 ≤ n.tmod k + k ∧ n.tmod k + k < 2 * k := by
  have h1 := Int.tmod_lt_of_pos n (show 0 < k by omega)
  have h2 : -k < n.tmod k := by
    have := Int.lt_tmod_of_pos n (show 0 < k by omega)
    omega
  omega
theorem ix_range {n k : Int} (hk : 1 ≤ k) : 0 ≤ ix n k ∧ ix n k < k := by
  exact ⟨Int.emod_nonneg _ (by omega), Int.emod_lt_of_pos _ (by omega)⟩

set_option maxRecDepth 100000 in
set_option maxHeartbeats 1000000 in
theorem kIndex (n k : Int) (w : World) (hk : 1 ≤ k) (hk2 : k ≤ 4611686018427387904) : Calls Tryz.prog 36 #[.int .i64 n, .int .i64 k] w fun e w' => e = .returned (.int .i64 (ix n k)) ∧ w = w' := by
  have h1 := ix_pos (n := n) hk
  have h0 : ¬ k < 1 := by omega
  have hz : ¬ k = 0 := by omega
  have hw1 : IntKind.i64.wrap (n.tmod k) = n.tmod k := IntWalk.i64_in _ (by omega)
  have hw2 : IntKind.i64.wrap (n.tmod k + k) = n.tmod k + k := IntWalk.i64_in _ (by omega)
  have h2 := ix_range (n := n) hk
  unfold ix at h2 ⊢
  have hw3 : IntKind.i64.wrap (n.tmod k % k) = n.tmod k % k := IntWalk.i64_in _ (by omega)
  have H2 := Lib.hid h2
  clear h2
  go_enter Tryz.func36, Tryz.ntmps36
  go_wp2
  go_ret
  exact ⟨rfl, rfl⟩

def dg (n : Int) (b i : Nat) : Nat := (ix n 1099511627776).toNat / b ^ i % b
theorem dg_lt (n : Int) {b : Nat} (i : Nat) (hb : 0 < b) : dg n b i < b := Nat.mod_lt _ hb

set_option maxRecDepth 100000 in
set_option maxHeartbeats 1000000 in
theorem kDigit (n : Int) (b i : Nat) (w : World) (hb : 2 ≤ b) (hb2 : b ≤ 16) (hi : i ≤ 40) : Calls Tryz.prog 13 #[.int .i64 n, .int .i64 b, .int .i64 i] w fun e w' => e = .returned (.int .i64 (dg n b i : Int)) ∧ w = w' := by
  have hix := kIndex n 1099511627776 w (by decide) (by decide)
  have hr := ix_range (n := n) (show (1 : Int) ≤ 1099511627776 by decide)
  unfold dg
  obtain ⟨X, hX⟩ : ∃ X : Nat, ix n 1099511627776 = X := ⟨(ix n 1099511627776).toNat, by omega⟩
  rw [hX] at hr hix ⊢
  rw [Int.toNat_natCast]
  have HI := Lib.hid hix
  have hXl : X < 1099511627776 := by omega
  clear hix hr hX
  go_enter Tryz.func13, Tryz.ntmps13
  go_wp2_with fail
  refine HI.out.mono ?_
  rintro e w1 ⟨rfl, rfl⟩
  go_wp2
  go_loop [7, 8] (fun x j => ∃ (Y k : Nat), k ≤ i ∧ Y < 1099511627776 ∧ j = .int .i64 k ∧ x = .int .i64 Y ∧ Hid (Y = X / b ^ k)) (fun _ j => i - (intOf j).toNat)
  case atStart => exact ⟨X, 0, Nat.zero_le _, hXl, rfl, rfl, (by show X = X / b ^ 0; simp)⟩
  case round =>
    obtain ⟨Y, k, hk, hY, rfl, rfl, he⟩ := hrel
    have hz : ¬ (b : Int) = 0 := by omega
    by_cases hlt : k < i
    · have hq : (k : Int) < (i : Int) := by omega
      have hd : ((Y : Int)).tdiv (b : Int) = ((Y / b : Nat) : Int) := by
        rw [Int.tdiv_eq_ediv_of_nonneg (by omega)]; exact (Int.natCast_ediv Y b).symm
      have hYb : Y / b ≤ Y := Nat.div_le_self _ _
      have e2 := Lib.hid (show Y / b = X / b ^ (k + 1) by rw [he.out, Nat.div_div_eq_div_mul, Nat.pow_succ])
      clear he
      generalize Y / b = Z at hd hYb e2
      have hw : IntKind.i64.wrap (Z : Int) = (Z : Int) := IntWalk.i64_in _ (by omega)
      go_wp2
      go_round
      case rel => exact ⟨Z, k + 1, by omega, by omega, by go_num, rfl, e2⟩
      case measure => simp [intOf]; omega
    · have hq : ¬ (k : Int) < (i : Int) := by omega
      obtain rfl : k = i := by omega
      have hm : ((Y : Int)).tmod (b : Int) = ((Y % b : Nat) : Int) := by
        rw [Int.tmod_eq_emod_of_nonneg (by omega)]; exact (Int.natCast_emod Y b).symm
      have hYb : Y % b < b := Nat.mod_lt _ (by omega)
      have e2 := Lib.hid (show Y % b = X / b ^ k % b by rw [he.out])
      clear he
      generalize Y % b = Z at hm hYb e2
      have hw : IntKind.i64.wrap (Z : Int) = (Z : Int) := IntWalk.i64_in _ (by omega)
      go_wp2
      go_ret
      rw [e2.out]
      exact ⟨rfl, rfl⟩

theorem rule_ret {R : Ending → World → Prop} {a : Act} {w : World} {g : Nat} {k c f : Int} (hp : a.tmps.getD 2 undef = .pointer (some ⟨g, 0, none⟩)) (hg : w.heap[g]? = some (.cells #[.int .i64 k, .int .i64 c, .int .i64 f] 25 (0, 0)))
    (hd : a.defers = []) (hR : R (.returned (rl k c f)) w) : bodyPost Tryz.prog Tryz.f12 R .ret a w :=
  bodyPost_ret (results_cell_row (P := Tryz.prog) rfl a.tmps w g 25 _ _ _ hp hg Tryz.underlying25 rfl (by kernel_rfl)) hd hR
set_option maxRecDepth 100000 in
set_option maxHeartbeats 2000000 in
theorem kRule (n : Int) (w : World) : Calls Tryz.prog 12 #[.int .i64 n] w fun e w' => ∃ k c f, e = .returned (rl k c f) ∧ JM.errR k c f = 0 ∧ Below w.heap.size w w' := by
  have h1 := fun w => kDigit n 8 0 w (by decide) (by decide) (by decide)
  have h2 := fun w => kDigit n 4 2 w (by decide) (by decide) (by decide)
  have h3 := fun w => kDigit n 2 3 w (by decide) (by decide) (by decide)
  have b1 := dg_lt n 0 (show 0 < 8 by decide)
  have b2 := dg_lt n 2 (show 0 < 4 by decide)
  have b3 := dg_lt n 3 (show 0 < 2 by decide)
  generalize dg n 8 0 = d1 at h1 b1
  generalize dg n 4 2 = d2 at h2 b2
  generalize dg n 2 3 = d3 at h3 b3
  have H1 := Lib.hid h1
  have H2 := Lib.hid h2
  have H3 := Lib.hid h3
  clear h1 h2 h3
  have hcase : d1 = 1 ∨ d1 = 2 ∨ d1 = 3 ∨ d1 = 4 ∨ (d1 ≠ 1 ∧ d1 ≠ 2 ∧ d1 ≠ 3 ∧ d1 ≠ 4) := by omega
  rcases hcase with rfl | rfl | rfl | rfl | ⟨n1, n2, n3, n4⟩
  · go_enter Tryz.func12, Tryz.ntmps12
    go_wp2_with fail
    refine (H1.out _).mono ?_
    rintro e w1 ⟨rfl, rfl⟩
    go_wp2
    exact rule_ret rfl (heap_alloc_new w _) rfl ⟨2, 0, 0, rfl, by decide, below_fresh _ _⟩
  · go_enter Tryz.func12, Tryz.ntmps12
    go_wp2_with fail
    refine (H1.out _).mono ?_
    rintro e w1 ⟨rfl, rfl⟩
    go_wp2
    exact rule_ret rfl (heap_alloc_new w _) rfl ⟨2, 0, 0, rfl, by decide, below_fresh _ _⟩
  · go_enter Tryz.func12, Tryz.ntmps12
    go_wp2_with fail
    refine (H1.out _).mono ?_
    rintro e w1 ⟨rfl, rfl⟩
    go_wp2_with fail
    refine (H2.out _).mono ?_
    rintro e w1 ⟨rfl, rfl⟩
    go_wp2
    exact rule_ret rfl (heap_alloc_new w _) rfl ⟨3, 1 + (d2 : Int), 0, rfl, (by
      have : d2 = 0 ∨ d2 = 1 ∨ d2 = 2 ∨ d2 = 3 := by omega
      rcases this with rfl | rfl | rfl | rfl <;> decide), below_fresh _ _⟩
  · go_enter Tryz.func12, Tryz.ntmps12
    go_wp2_with fail
    refine (H1.out _).mono ?_
    rintro e w1 ⟨rfl, rfl⟩
    go_wp2_with fail
    refine (H3.out _).mono ?_
    rintro e w1 ⟨rfl, rfl⟩
    go_wp2
    exact rule_ret rfl (heap_alloc_new w _) rfl ⟨4, 0, (d3 : Int), rfl, (by
      have : d3 = 0 ∨ d3 = 1 := by omega
      rcases this with rfl | rfl <;> decide), below_fresh _ _⟩
  · have m1 : ((d1 : Int) == 1) = false := beq_f (by omega)
    have m2 : ((d1 : Int) == 2) = false := beq_f (by omega)
    have m3 : ((d1 : Int) == 3) = false := beq_f (by omega)
    have m4 : ((d1 : Int) == 4) = false := beq_f (by omega)
    go_enter Tryz.func12, Tryz.ntmps12
    go_wp2_with fail
    refine (H1.out _).mono ?_
    rintro e w1 ⟨rfl, rfl⟩
    go_wp2
    exact rule_ret rfl (heap_alloc_new w _) rfl ⟨1, 0, 0, rfl, by decide, below_fresh _ _⟩

/-- Element i of a list that is repeated without end. -/
def atV (l : List Int) (i : Nat) : Int := if l.length = 0 then 0 else l.getD (ix (i : Int) (l.length : Int)).toNat 0
set_option maxRecDepth 100000 in
set_option maxHeartbeats 1000000 in
theorem kAt (v : Value) (l : List Int) (i : Nat) (w : World) (h : RdI w v l) (hl : l.length ≤ 4611686018427387904) : Calls Tryz.prog 14 #[v, .int .i64 (i : Int)] w fun e w' => e = .returned (.int .i64 (atV l i)) ∧ w = w' := by
  obtain ⟨ad, cp, rfl, hcp, _⟩ := h.shape
  unfold atV
  by_cases h0 : l.length = 0
  · rw [if_pos h0]
    have hz : ((l.length : Int) == 0) = true := by simp [h0]
    clear h h0
    go_enter Tryz.func14, Tryz.ntmps14
    go_wp2
    go_ret
    exact ⟨rfl, rfl⟩
  · rw [if_neg h0]
    have hz : ((l.length : Int) == 0) = false := beq_f (by omega)
    have hI := kIndex (i : Int) (l.length : Int) w (by omega) (by omega)
    have hr := ix_range (n := (i : Int)) (show (1 : Int) ≤ (l.length : Int) by omega)
    obtain ⟨j, hj⟩ : ∃ j : Nat, ix (i : Int) (l.length : Int) = j := ⟨(ix (i : Int) (l.length : Int)).toNat, by omega⟩
    rw [hj] at hI hr ⊢
    have hjl : j < l.length := by omega
    have hat := List.getElem?_eq_getElem hjl
    have hg : l.getD (j : Int).toNat 0 = l[j] := by simp [List.getD, hat]
    rw [hg]
    generalize l[j] = x at hat
    obtain ⟨b, o, hi, _, hc⟩ := atI h j x hat
    have HI := Lib.hid hI
    clear hI hj hat hg hr h0 h
    go_enter Tryz.func14, Tryz.ntmps14
    go_wp2_with fail
    refine HI.out.mono ?_
    rintro e w1 ⟨rfl, rfl⟩
    go_wp2
    go_ret
    exact ⟨rfl, rfl⟩

theorem errC_1 {s t : Int} (h1 : 1 ≤ s) (h2 : s ≤ 12) (h3 : 1 ≤ t) (h4 : t ≤ 9) : JM.errC 1 s t 0 0 0 0 = 0 := by
  unfold JM.errC JM.fit JM.srvOf JM.wtOf JM.verOf; simp; omega
theorem errC_2 {s : Int} (h1 : 1 ≤ s) (h2 : s ≤ 12) : JM.errC 2 s 0 0 0 0 0 = 0 := by
  unfold JM.errC JM.fit JM.srvOf JM.wtOf JM.verOf; simp; omega
theorem errC_3 {s t v : Int} (h1 : 1 ≤ s) (h2 : s ≤ 12) (h3 : 1 ≤ t) (h4 : t ≤ 9) (h5 : 1 ≤ v) (h6 : v ≤ 1000) : JM.errC 3 s t v 0 0 0 = 0 := by
  unfold JM.errC JM.fit JM.srvOf JM.wtOf JM.verOf; simp; omega
theorem errC_4 {v a b c : Int} (h5 : 1 ≤ v) (h6 : v ≤ 1000) (h : JM.errR a b c = 0) : JM.errC 4 0 0 v a b c = 0 := by
  unfold JM.errC JM.fit JM.srvOf JM.wtOf JM.verOf; simp [h]; omega

theorem kchg_ret {R : Ending → World → Prop} {a : Act} {w : World} {g : Nat} {k s t v x y z : Int} (hp : a.tmps.getD 2 undef = .pointer (some ⟨g, 0, none⟩)) (hg : w.heap[g]? = some (.cells #[.int .i64 k, .int .i64 s, .int .i64 t, .int .i64 v, .int .i64 x, .int .i64 y, .int .i64 z] 48 (0, 0)))
    (hd : a.defers = []) (hR : R (.returned (cv k s t v x y z)) w) : bodyPost Tryz.prog Tryz.f15 R .ret a w :=
  bodyPost_ret (results_cell_row (P := Tryz.prog) rfl a.tmps w g 48 _ _ _ hp hg Tryz.underlying48 rfl (by kernel_rfl)) hd hR

set_option maxRecDepth 100000 in
set_option maxHeartbeats 4000000 in
theorem kChange (n : Int) (w : World) : Calls Tryz.prog 15 #[.int .i64 n] w fun e w' => ∃ k s t v a b c, e = .returned (cv k s t v a b c) ∧ JM.errC k s t v a b c = 0 ∧ Below w.heap.size w w' := by
  have h1 := fun w => kDigit n 8 1 w (by decide) (by decide) (by decide)
  have h0 := fun w => kDigit n 8 0 w (by decide) (by decide) (by decide)
  have h3 := fun w => kDigit n 4 3 w (by decide) (by decide) (by decide)
  have h9 := fun w => kDigit n 2 9 w (by decide) (by decide) (by decide)
  have h12 := fun w => kDigit n 12 1 w (by decide) (by decide) (by decide)
  have hix := fun w => kIndex n 1099511627776 w (by decide) (by decide)
  have hir := ix_range (n := n) (show (1 : Int) ≤ 1099511627776 by decide)
  have b1 := dg_lt n 1 (show 0 < 8 by decide)
  have b0 := dg_lt n 0 (show 0 < 8 by decide)
  have b3 := dg_lt n 3 (show 0 < 4 by decide)
  have b9 := dg_lt n 9 (show 0 < 2 by decide)
  have b12 := dg_lt n 1 (show 0 < 12 by decide)
  generalize dg n 8 1 = d1 at h1 b1
  generalize dg n 8 0 = d0 at h0 b0
  generalize dg n 4 3 = d3 at h3 b3
  generalize dg n 2 9 = d9 at h9 b9
  generalize dg n 12 1 = d12 at h12 b12
  generalize ix n 1099511627776 = X at hix hir
  have H1 := Lib.hid h1
  have H0 := Lib.hid h0
  have H3 := Lib.hid h3
  have H9 := Lib.hid h9
  have H12 := Lib.hid h12
  have HIX := Lib.hid hix
  have hfr := below_fresh w (.cells #[.int .i64 0, .int .i64 0, .int .i64 0, .int .i64 0, .int .i64 0, .int .i64 0, .int .i64 0] 48)
  have hzb := heap_alloc_new w (.cells #[.int .i64 0, .int .i64 0, .int .i64 0, .int .i64 0, .int .i64 0, .int .i64 0, .int .i64 0] 48)
  have HFR := Lib.hid hfr
  have HZB := Lib.hid hzb
  clear h1 h0 h3 h9 h12 hix hfr hzb
  have hcase : (d0 = 0 ∨ d0 = 1 ∨ d0 = 2) ∨ (d0 = 3 ∨ d0 = 4) ∨ d0 = 5 ∨ d0 = 6 ∨ d0 = 7 := by omega
  rcases hcase with (rfl | rfl | rfl) | (rfl | rfl) | rfl | rfl | rfl
  iterate 3
    · go_enter Tryz.func15, Tryz.ntmps15
      go_wp2_with fail
      refine (H1.out _).mono ?_
      rintro e w1 ⟨rfl, rfl⟩
      go_wp2_with fail
      refine (H0.out _).mono ?_
      rintro e w1 ⟨rfl, rfl⟩
      go_wp2_with fail
      refine (H3.out _).mono ?_
      rintro e w1 ⟨rfl, rfl⟩
      go_wp2
      exact kchg_ret rfl (heap_alloc_new w _) rfl ⟨_, _, _, _, _, _, _, rfl, errC_1 (by omega) (by omega) (by omega) (by omega), below_fresh _ _⟩
  iterate 2
    · go_enter Tryz.func15, Tryz.ntmps15
      go_wp2_with fail
      refine (H1.out _).mono ?_
      rintro e w1 ⟨rfl, rfl⟩
      go_wp2_with fail
      refine (H0.out _).mono ?_
      rintro e w1 ⟨rfl, rfl⟩
      go_wp2
      exact kchg_ret rfl (heap_alloc_new w _) rfl ⟨_, _, _, _, _, _, _, rfl, errC_2 (by omega) (by omega), below_fresh _ _⟩
  · go_enter Tryz.func15, Tryz.ntmps15
    go_wp2_with fail
    refine (H1.out _).mono ?_
    rintro e w1 ⟨rfl, rfl⟩
    go_wp2_with fail
    refine (H0.out _).mono ?_
    rintro e w1 ⟨rfl, rfl⟩
    go_wp2_with fail
    refine (H3.out _).mono ?_
    rintro e w1 ⟨rfl, rfl⟩
    go_wp2_with fail
    refine (H9.out _).mono ?_
    rintro e w1 ⟨rfl, rfl⟩
    go_wp2
    exact kchg_ret rfl (heap_alloc_new w _) rfl ⟨_, _, _, _, _, _, _, rfl, errC_3 (by omega) (by omega) (by omega) (by omega) (by omega) (by omega), below_fresh _ _⟩
  · have hq : X.tdiv 64 = X / 64 := Int.tdiv_eq_ediv_of_nonneg hir.1
    have HK := Lib.hid (kRule (X / 64))
    go_enter Tryz.func15, Tryz.ntmps15
    go_wp2_with fail
    refine (H1.out _).mono ?_
    rintro e w1 ⟨rfl, rfl⟩
    go_wp2_with fail
    refine (H0.out _).mono ?_
    rintro e w1 ⟨rfl, rfl⟩
    go_wp2_with fail
    refine (H9.out _).mono ?_
    rintro e w1 ⟨rfl, rfl⟩
    go_wp2_with fail
    refine (HIX.out _).mono ?_
    rintro e w1 ⟨rfl, rfl⟩
    go_wp2_with fail
    refine (HK.out _).mono ?_
    rintro e w1 ⟨k, c, f, rfl, hk, hb1⟩
    have hz := below_block HZB.out hb1
    have HPUT := Lib.hid (chg_put hz (.int .i64 4) (.int .i64 0) (.int .i64 0) (.int .i64 (1 + (d9 : Int))) (.int .i64 k) (.int .i64 c) (.int .i64 f))
    obtain ⟨z0, z1, z2, z3, z4, z5, z6⟩ := CBox.of hz
    have f0 := chg_free hz 0
    have f1 := chg_free hz 1
    have f2 := chg_free hz 2
    have f3 := chg_free hz 3
    have f4 := chg_free hz 4
    have f5 := chg_free hz 5
    have f6 := chg_free hz 6
    have HB1 := Lib.hid (bnext HFR.out hb1)
    have HKR := Lib.hid hk
    clear hz hb1 hk HK
    go_wp2
    exact kchg_ret rfl HPUT.out.1 rfl ⟨_, _, _, _, _, _, _, rfl, errC_4 (by omega) (by omega) HKR.out, seen HB1.out (Nat.le_refl _) HPUT.out.2⟩
  · go_enter Tryz.func15, Tryz.ntmps15
    go_wp2_with fail
    refine (H1.out _).mono ?_
    rintro e w1 ⟨rfl, rfl⟩
    go_wp2_with fail
    refine (H0.out _).mono ?_
    rintro e w1 ⟨rfl, rfl⟩
    go_wp2_with fail
    refine (H12.out _).mono ?_
    rintro e w1 ⟨rfl, rfl⟩
    go_wp2
    exact kchg_ret rfl (heap_alloc_new w _) rfl ⟨_, _, _, _, _, _, _, rfl, errC_1 (by omega) (by omega) (by omega) (by omega), below_fresh _ _⟩

end Go.Proofs.YtdipheijagjelaaGreat

namespace Go.Proofs.YtdipheijagjelaaGreat
open Go.RowKit
open JM (Chg)
open CM (Fp)

/-- A valid proposal whose changes are the call's own. -/
def Good (base : Nat) (w : World) (q : Pro) : Prop := ∃ cs, OwnC base w (.slice q.2.2.1 q.2.2.2.1 q.2.2.2.2) cs ∧ JM.errP q.1 q.2.1 cs = 0
theorem Good.below {base : Nat} {w w' : World} {q : Pro} (h : Good base w q) (hb : Below w.heap.size w w') : Good base w' q := by
  obtain ⟨cs, h1, h2⟩ := h; exact ⟨cs, h1.below hb, h2⟩
theorem Good.keep {base : Nat} {w w' : World} {q : Pro} (h : Good base w q) (hk : KeepsX 52 w w') : Good base w' q := by
  obtain ⟨cs, h1, h2⟩ := h; exact ⟨cs, ownG_keep h1 hk (by decide), h2⟩
theorem Good.mono {base b2 : Nat} {w : World} {q : Pro} (h : Good base w q) (hle : b2 ≤ base) : Good b2 w q := by
  obtain ⟨cs, h1, h2⟩ := h; exact ⟨cs, h1.mono hle, h2⟩


/-! The identifiers: each administrator's numbers one after the other. -/
def Nxt (pr : Int × Int) (q : Pro) : Prop := (q.1 = pr.1 ∧ q.2.1 = pr.2 + 1) ∨ (pr.1 < q.1 ∧ q.2.1 = 1)
def Chn : Int × Int → List Pro → Prop
  | _, [] => True
  | pr, q :: r => Nxt pr q ∧ Chn (q.1, q.2.1) r
def endK : Int × Int → List Pro → Int × Int
  | pr, [] => pr
  | _, q :: r => endK (q.1, q.2.1) r
theorem Chn.snoc {q : Pro} : ∀ {qs : List Pro} {pr : Int × Int}, Chn pr qs → Nxt (endK pr qs) q → Chn pr (qs ++ [q])
  | [], _, _, k => ⟨k, trivial⟩
  | _ :: _, _, h, k => ⟨h.1, Chn.snoc h.2 k⟩
theorem endK_snoc {q : Pro} : ∀ {qs : List Pro} {pr : Int × Int}, endK pr (qs ++ [q]) = (q.1, q.2.1)
  | [], _ => rfl
  | _ :: qs, _ => endK_snoc (qs := qs)
def EndAt (e : Int × Int) (j i : Nat) : Prop := (i = 0 ∧ e.1 < 201 + (j : Int)) ∨ (0 < i ∧ e = (201 + (j : Int), (i : Int)))
def GoodL (base : Nat) (w : World) (qs : List Pro) (j i : Nat) : Prop := (∀ q ∈ qs, Good base w q) ∧ Chn (0, 0) qs ∧ EndAt (endK (0, 0) qs) j i
theorem GoodL.below {base : Nat} {w w' : World} {qs : List Pro} {j i : Nat} (h : GoodL base w qs j i) (hb : Below w.heap.size w w') : GoodL base w' qs j i := ⟨fun q hq => (h.1 q hq).below hb, h.2⟩
theorem GoodL.keep {base : Nat} {w w' : World} {qs : List Pro} {j i : Nat} (h : GoodL base w qs j i) (hk : KeepsX 52 w w') : GoodL base w' qs j i := ⟨fun q hq => (h.1 q hq).keep hk, h.2⟩
theorem GoodL.snoc {base : Nat} {w : World} {qs : List Pro} {j i : Nat} {r : Option Addr × Nat × Nat} (h : GoodL base w qs j i) (k : Good base w (201 + (j : Int), (i : Int) + 1, r)) : GoodL base w (qs ++ [(201 + (j : Int), (i : Int) + 1, r)]) j (i + 1) := by
  obtain ⟨h1, h2, h3⟩ := h
  refine ⟨fun q hq => ?_, h2.snoc ?_, .inr ⟨by omega, by rw [endK_snoc]; simp⟩⟩
  · rcases List.mem_append.1 hq with hq | hq
    · exact h1 q hq
    · rw [List.mem_singleton] at hq; subst hq; exact k
  · unfold Nxt
    rcases h3 with ⟨rfl, h3⟩ | ⟨_, h3⟩
    · exact .inr ⟨h3, by simp⟩
    · rw [h3]; exact .inl ⟨rfl, rfl⟩
theorem GoodL.next {base : Nat} {w : World} {qs : List Pro} {j i : Nat} (h : GoodL base w qs j i) : GoodL base w qs (j + 1) 0 := by
  obtain ⟨h1, h2, h3⟩ := h
  refine ⟨h1, h2, .inl ⟨rfl, ?_⟩⟩
  rcases h3 with ⟨_, h3⟩ | ⟨_, h3⟩
  · omega
  · rw [h3]; simp only; omega
theorem good_ok {base : Nat} {w : World} : ∀ {qs : List Pro} {pr : Int × Int}, (∀ q ∈ qs, Good base w q) → Chn pr qs → ∃ fs, Tel w qs fs ∧ CM.errL pr fs = 0
  | [], _, _, _ => ⟨[], trivial, rfl⟩
  | q :: qs, pr, h, hc => by
    obtain ⟨fs, h1, h2⟩ := good_ok (fun q hq => h q (List.mem_cons_of_mem _ hq)) hc.2
    obtain ⟨cs, h3, h4⟩ := h q (by simp)
    have hn := hc.1
    unfold Nxt at hn
    refine ⟨(q.1, q.2.1, cs) :: fs, ⟨⟨rfl, rfl, h3.rd⟩, h1⟩, CM.errL_mk h4 ?_ (fun h5 => ?_) h2⟩
    · rw [CM.cmpP_pos]; simp only; omega
    · simp only at h5 ⊢; omega

theorem errP_list {j i : Nat} {cs : List Chg} (hj : j ≤ 2) (hi : i ≤ 2) (h0 : cs ≠ []) (h6 : cs.length ≤ 6) (h : JM.errS [] cs = 0) : JM.errP (201 + (j : Int)) ((i : Int) + 1) cs = 0 := by
  unfold JM.errP
  rw [if_neg (by rw [show JM.isAdm (201 + (j : Int)) = true from JM.isAdm_iff.2 ⟨by omega, by omega⟩]; simp; omega), if_neg h0, if_neg (by omega), h]
theorem errS_one {y : Chg} (h : JM.errCh y = 0) : JM.errS [] [y] = 0 := by
  rw [errS_cons, if_neg (by simp [h])]; rfl
theorem errS_two {y z : Chg} (h : JM.errCh y = 0) (h2 : JM.errCh z = 0) (hs : JM.sim y z = false) : JM.errS [] [y, z] = 0 := by
  rw [errS_cons, if_neg (by simp [h]), if_neg (by simp), errS_cons, if_neg (by simp [h2]), if_neg (by simp [hs])]; rfl

theorem kAtQ {w : World} {v : Value} {l : List Int} {i : Nat} (h : RdI w v l) (hl : l.length ≤ 4611686018427387904) (n : Nat) : Calls Tryz.prog 14 #[v, .int .i64 (i : Int)] (w.drewN n) fun e w' => e = .returned (.int .i64 (atV l i)) ∧ ∃ k, w' = w.drewN k :=
  (kAt v l i (w.drewN n) h hl).mono (by rintro e w1 ⟨rfl, rfl⟩; exact ⟨rfl, n, rfl⟩)
theorem kDigitQ {x : Int} {b i : Nat} (w : World) (hb : 2 ≤ b) (hb2 : b ≤ 16) (hi : i ≤ 40) (n : Nat) : Calls Tryz.prog 13 #[.int .i64 x, .int .i64 b, .int .i64 i] (w.drewN n) fun e w' => e = .returned (.int .i64 (dg x b i : Int)) ∧ ∃ k, w' = w.drewN k :=
  (kDigit x b i (w.drewN n) hb hb2 hi).mono (by rintro e w1 ⟨rfl, rfl⟩; exact ⟨rfl, n, rfl⟩)

set_option maxRecDepth 100000 in
set_option maxHeartbeats 8000000 in
theorem kPool (v : Value) (l : List Int) (w : World) (h : RdI w v l) (hl : l.length ≤ 4611686018427387904) :
    Calls Tryz.prog 5 #[v] w fun e w' => ∃ u fs, e = .returned u ∧ RdF w' u fs ∧ CM.Ok fs ∧ Below w.heap.size w w' := by
  obtain ⟨ad, cp, rfl, hcp, _⟩ := h.shape
  have HV := Lib.hid h
  have HL := Lib.hid hl
  obtain ⟨LL, hLL⟩ : ∃ LL, LL = l.length := ⟨_, rfl⟩
  rw [← hLL] at HV ⊢
  clear h hl hLL
  go_enter Tryz.func5, Tryz.ntmps5
  go_wp2
  go_loopw [3, 4, 5] (fun u t a wr => ∃ (j tt : Nat) (qs : List Pro), j ≤ 3 ∧ a = .int .i64 j ∧ t = .int .i64 tt ∧ tt ≤ 3 + 6 * j ∧ qs.length ≤ 3 * j ∧ Hid (OwnQ w.heap.size wr u qs) ∧ Hid (GoodL w.heap.size wr qs j 0) ∧ Hid (Below w.heap.size w wr)) (fun _ _ a _ => 3 - (intOf a).toNat)
  case atStart => exact ⟨0, 3, [], by decide, rfl, rfl, by decide, by decide, OwnG.nil hlQ _ _ _, ⟨(fun q hq => by cases hq), trivial, .inl ⟨rfl, by show (0 : Int) < 201 + ((0 : Nat) : Int); omega⟩⟩, Below.refl _ _⟩
  case round =>
    obtain ⟨j, tt, qs, hj, rfl, rfl, htt, hql, ho, hgd, hb⟩ := hrel
    by_cases hj3 : j < 3
    · have hqj : (j : Int) < 3 := by omega
      have hdl := dg_lt (atV l j) 0 (show 0 < 4 by decide)
      have hd := fun w => kDigit (atV l j) 4 0 w (by decide) (by decide) (by decide)
      have hA := fun w' hb => kAt _ l j w' (RdG.below HV.out hb) HL.out
      obtain ⟨d, hde⟩ : ∃ d, d = dg (atV l j) 4 0 := ⟨_, rfl⟩
      obtain ⟨X, hXe⟩ : ∃ X, X = atV l j := ⟨_, rfl⟩
      rw [← hXe] at hd hA hde hdl
      rw [← hde] at hd hdl
      have HD := Lib.hid hd
      have HA := Lib.hid hA
      clear hd hA hde hXe
      go_wp2
      obtain ⟨wo, rfl⟩ : ∃ wo, wo = wr := ⟨wr, rfl⟩
      go_loopw [3, 4, 6] (fun u t a wr => ∃ (i tt : Nat) (qs : List Pro), i ≤ d ∧ a = .int .i64 i ∧ t = .int .i64 tt ∧ tt ≤ 3 + 6 * j + 2 * i ∧ qs.length ≤ 3 * j + i ∧ Hid (OwnQ w.heap.size wr u qs) ∧ Hid (GoodL w.heap.size wr qs j i) ∧ Hid (Below w.heap.size w wr)) (fun _ _ a _ => 4 - (intOf a).toNat)
      case atStart => exact ⟨0, tt, qs, Nat.zero_le _, rfl, rfl, by omega, by omega, ho.out, hgd.out, hb.out⟩
      case round =>
        clear ho hgd hb htt hql
        obtain ⟨i, tt, qs, hi, rfl, rfl, htt, hql, ho, hgd, hb⟩ := hrel
        by_cases hid : i < d
        · have hqi : (i : Int) < (d : Int) := by omega
          have hi2 : i ≤ 2 := by omega
          have hj2 : j ≤ 2 := by omega
          have hA1 := fun w' hb => kAt _ l tt w' (RdG.below HV.out hb) HL.out
          have hA2 := fun w' hb => kAt _ l (tt + 1) w' (RdG.below HV.out hb) HL.out
          have hD2 := dg_lt (atV l tt) 12 (show 0 < 2 by decide)
          have hAQ := fun w' (hb : Below w.heap.size w w') n => kAtQ (i := tt) (RdG.below HV.out hb) HL.out n
          have hDQ := fun w' n => kDigitQ (x := atV l tt) (b := 2) (i := 12) w' (by decide) (by decide) (by decide) n
          obtain ⟨dd, hdd⟩ : ∃ dd, dd = dg (atV l tt) 2 12 := ⟨_, rfl⟩
          rw [← hdd] at hD2 hDQ
          obtain ⟨Y, hY⟩ : ∃ Y, Y = atV l tt := ⟨_, rfl⟩
          rw [← hY] at hA1 hAQ hDQ hdd
          obtain ⟨Z, hZ⟩ : ∃ Z, Z = atV l (tt + 1) := ⟨_, rfl⟩
          rw [← hZ] at hA2
          have hA2' : Hid (∀ w', Below w.heap.size w w' → Calls Tryz.prog 14 #[.slice ad LL cp, .int .i64 ((tt : Int) + 1)] w' fun e w'' => e = .returned (.int .i64 Z) ∧ w' = w'') := fun w' hb => hA2 w' hb
          have HA1 := Lib.hid hA1
          have HAQ := Lib.hid hAQ
          have HDQ := Lib.hid hDQ
          clear hA1 hA2 hAQ hDQ hdd hY hZ
          go_wp2_with fail
          refine (HA.out _ hb.out).mono ?_
          rintro e w1 ⟨rfl, rfl⟩
          go_wp2_with fail
          refine (HD.out _).mono ?_
          rintro e w1 ⟨rfl, rfl⟩
          go_wp2_with fail
          refine (HA1.out _ hb.out).mono ?_
          rintro e w1 ⟨rfl, rfl⟩
          go_wp2_with fail
          refine (kChange Y _).mono ?_
          rintro e w1 ⟨k1, s1, t1, v1, a1, b1, c1, rfl, he1, hb1⟩
          have hbh := below_fresh w1 (.cells #[.int .i64 k1, .int .i64 s1, .int .i64 t1, .int .i64 v1, .int .i64 a1, .int .i64 b1, .int .i64 c1] 48)
          have hch : OwnC w1.heap.size (w1.alloc (.cells #[.int .i64 k1, .int .i64 s1, .int .i64 t1, .int .i64 v1, .int .i64 a1, .int .i64 b1, .int .i64 c1] 48)) (.slice (some ⟨w1.heap.size, 0, none⟩) 1 1) [(k1, s1, t1, v1, a1, b1, c1)] := ownG_fresh hlC 48 w1 [(k1, s1, t1, v1, a1, b1, c1)] (by simp [maxLen])
          have hsc := World.size_alloc w1 (.cells #[.int .i64 k1, .int .i64 s1, .int .i64 t1, .int .i64 v1, .int .i64 a1, .int .i64 b1, .int .i64 c1] 48)
          obtain ⟨wc, hwc⟩ : ∃ wc, w1.alloc (.cells #[.int .i64 k1, .int .i64 s1, .int .i64 t1, .int .i64 v1, .int .i64 a1, .int .i64 b1, .int .i64 c1] 48) = wc := ⟨_, rfl⟩
          rw [hwc] at hbh hch hsc
          have hbp := below_fresh wc (.cells #[.int .i64 (201 + (j : Int)), .int .i64 ((i : Int) + 1), .slice (some ⟨w1.heap.size, 0, none⟩) 1 1] 52)
          have hop := OP.fresh wc (201 + (j : Int)) ((i : Int) + 1) (.slice (some ⟨w1.heap.size, 0, none⟩) 1 1)
          rw [hsc] at hop
          obtain ⟨w2, hw2⟩ : ∃ w2, wc.alloc (.cells #[.int .i64 (201 + (j : Int)), .int .i64 ((i : Int) + 1), .slice (some ⟨w1.heap.size, 0, none⟩) 1 1] 52) = w2 := ⟨_, rfl⟩
          rw [hw2] at hbp hop
          have HWC := Lib.hid hwc
          have HW2 := Lib.hid hw2
          have HB2 := Lib.hid (bnext (bnext hb1 hbh) hbp)
          have HO2 := Lib.hid ((hch.below hbp).mono hb1.size)
          have HP2 := Lib.hid hop
          have HE1 := Lib.hid he1
          have HBW2 := Lib.hid (bnext hb.out HB2.out)
          have HS1 := Lib.hid hb1.size
          clear hbh hch hsc hwc hbp hop hw2 he1 hb1
          go_wp2_with fail
          rw [HWC.out, HW2.out]
          refine (hA2'.out _ HBW2.out).mono ?_
          rintro e w3 ⟨rfl, rfl⟩
          go_wp2_with fail
          refine (kChange Z _).mono ?_
          rintro e w3 ⟨k2, s2, t2, v2, a2, b2, c2, rfl, he2, hb3⟩
          have hbx := below_fresh w3 (.cells #[.int .i64 k2, .int .i64 s2, .int .i64 t2, .int .i64 v2, .int .i64 a2, .int .i64 b2, .int .i64 c2] 48)
          have hcx := CBox.fresh w3 k2 s2 t2 v2 a2 b2 c2
          obtain ⟨w4, hw4⟩ : ∃ w4, w3.alloc (.cells #[.int .i64 k2, .int .i64 s2, .int .i64 t2, .int .i64 v2, .int .i64 a2, .int .i64 b2, .int .i64 c2] 48) = w4 := ⟨_, rfl⟩
          rw [hw4] at hbx hcx
          have HW4 := Lib.hid hw4
          have HX4 := Lib.hid hcx
          have HB4 := Lib.hid (bnext HB2.out (bnext hb3 hbx))
          have HO4 := Lib.hid (HO2.out.below (bnext hb3 hbx))
          have HP4 := Lib.hid (HP2.out.below (bnext hb3 hbx))
          have HE2 := Lib.hid he2
          have HBW4 := Lib.hid (bnext hb.out HB4.out)
          have HAQ4 := Lib.hid (HAQ.out w4 HBW4.out)
          have HDQ4 := Lib.hid (HDQ.out w4)
          have HPN := Lib.hid (show wr.heap.size ≤ w1.heap.size + 1 from Nat.le_succ_of_le HS1.out)
          clear hbx hcx hw4 he2 hb3 HWC HW2 HB2 HO2 HP2 HBW2 HA HD HA1 hA2' HAQ HDQ
          obtain ⟨x0, x1, x2, x3, x4, x5, x6⟩ := HX4.out
          obtain ⟨o0, o1, o2, g0, g1, g2⟩ := HP4.out.cells
          obtain ⟨by_, oy, hj0, _, y0, y1, y2, y3, y4, y5, y6⟩ := atC HO4.out.rd 0 _ _ _ _ _ _ _ rfl
          have hj0 : ∀ w0, (Instr.indexAt 50 (.slice (some ⟨w1.heap.size, 0, none⟩) 1 1) (.int .i64 0)).run Tryz.prog w0 = .ok (.pointer (some ⟨by_, oy, none⟩)) w0 := hj0
          by_cases hd1 : dd = 1
          · subst hd1
            by_cases hkk : k2 = k1
            · have n1 : (k2 != k1) = false := bne_f hkk
              by_cases hss : s2 = s1
              · have n2 : (s2 != s1) = false := bne_f hss
                clear hkk hss
                go_wp2
                rw [HW4.out]
                go_quiet (first | (go_at_call 14; exact HAQ4.out _) | (go_at_call 13; exact HDQ4.out _))
                obtain ⟨w5, hw5⟩ : ∃ w5, w4.drewN nq = w5 := ⟨_, rfl⟩
                have HX5 := Lib.hid (show CBox (w4.drewN nq) w3.heap.size k2 s2 t2 v2 a2 b2 c2 from HX4.out)
                have HB5 := Lib.hid (show Below wr.heap.size wr (w4.drewN nq) from HB4.out.trans (below_drewN _ _ _))
                have HO5 := Lib.hid (HO4.out.drewN nq)
                have HP5 := Lib.hid (show OP (w4.drewN nq) (w1.heap.size + 1) (201 + (j : Int)) ((i : Int) + 1) (.slice (some ⟨w1.heap.size, 0, none⟩) 1 1) from HP4.out)
                clear x0 x1 x2 x3 x4 x5 x6 o0 o1 o2 g0 g1 g2 y0 y1 y2 y3 y4 y5 y6 hj0 HX4 HB4 HO4 HP4 HBW4 HAQ4 HDQ4
                rw [hw5] at HX5 HB5 HO5 HP5 ⊢
                clear hw5
                obtain ⟨o0, o1, o2, g0, g1, g2⟩ := HP5.out.cells
                have HERR := Lib.hid (errP_list (j := j) (i := i) (cs := [(k1, s1, t1, v1, a1, b1, c1)]) hj2 hi2 (by simp) (by simp) (errS_one HE1.out))
                have HOUT := Lib.hid (ho.out.below HB5.out)
                have HGD := Lib.hid (hgd.out.below HB5.out)
                have HBW := Lib.hid (bnext hb.out HB5.out)
                have hszw := HBW.out.size
                have hszr := hb.out.size
                have hqb : qs.length ≤ 1073741824 := by omega
                go_wp2_with (at_builtin; refine wp_appG1' proE (201 + (j : Int), (i : Int) + 1, (some (⟨w1.heap.size, 0, none⟩ : Addr)), 1, 1) _ rfl rfl _ _ rfl rfl HOUT.out rfl hqb hszw ?_)
                intro v8 w8 ho8 hb8 hk8
                have HO8 := Lib.hid ho8
                have HB8 := Lib.hid (HBW.out.trans hb8)
                have HG8 : Hid (GoodL w.heap.size w8 (qs ++ [(201 + (j : Int), (i : Int) + 1, (some (⟨w1.heap.size, 0, none⟩ : Addr)), 1, 1)]) j (i + 1)) := by
                  have hg0 : Good w.heap.size w5 (201 + (j : Int), (i : Int) + 1, (some (⟨w1.heap.size, 0, none⟩ : Addr)), 1, 1) := ⟨_, OwnG.mono HO5.out hszr, HERR.out⟩
                  exact GoodL.snoc (HGD.out.keep hk8) (hg0.keep hk8)
                have hlq : (qs ++ [((201 : Int) + (j : Int), (i : Int) + 1, (some (⟨w1.heap.size, 0, none⟩ : Addr)), 1, 1)]).length ≤ 3 * j + (i + 1) := by rw [List.length_append]; simp; omega
                have HLQ := Lib.hid hlq
                clear ho8 hb8 hk8 hlq HOUT HGD HBW hszw hszr ho hgd hb
                go_wp2
                go_roundw
                case rel => exact ⟨i + 1, tt + 2, _, by omega, by go_num, by go_num, by omega, HLQ.out, HO8, HG8, HB8⟩
                case measure => simp [intOf]; omega
              · have n2 : (s2 != s1) = true := bne_t hss
                have hsim : JM.sim (k1, s1, t1, v1, a1, b1, c1) (k2, s2, t2, v2, a2, b2, c2) = false := by unfold JM.sim; simp; omega
                have HSIM := Lib.hid hsim
                clear hkk hss hsim
                go_wp2
                rw [HW4.out]
                go_quiet (first | (go_at_call 14; exact HAQ4.out _) | (go_at_call 13; exact HDQ4.out _))
                obtain ⟨w5, hw5⟩ : ∃ w5, w4.drewN nq = w5 := ⟨_, rfl⟩
                have HX5 := Lib.hid (show CBox (w4.drewN nq) w3.heap.size k2 s2 t2 v2 a2 b2 c2 from HX4.out)
                have HB5 := Lib.hid (show Below wr.heap.size wr (w4.drewN nq) from HB4.out.trans (below_drewN _ _ _))
                have HO5 := Lib.hid (HO4.out.drewN nq)
                have HP5 := Lib.hid (show OP (w4.drewN nq) (w1.heap.size + 1) (201 + (j : Int)) ((i : Int) + 1) (.slice (some ⟨w1.heap.size, 0, none⟩) 1 1) from HP4.out)
                clear x0 x1 x2 x3 x4 x5 x6 o0 o1 o2 g0 g1 g2 y0 y1 y2 y3 y4 y5 y6 hj0 HX4 HB4 HO4 HP4 HBW4 HAQ4 HDQ4
                rw [hw5] at HX5 HB5 HO5 HP5 ⊢
                clear hw5
                obtain ⟨o0, o1, o2, g0, g1, g2⟩ := HP5.out.cells
                obtain ⟨x0, x1, x2, x3, x4, x5, x6⟩ := HX5.out
                have hsz5 := HB5.out.size
                go_wp2_with (at_builtin; refine wp_appG1 chgE (k2, s2, t2, v2, a2, b2, c2) rfl _ _ rfl rfl HO5.out rfl (by simp) hsz5 ?_)
                intro v6 w6 ho6 hb6 hk6 _
                obtain ⟨av6, cv6, rfl⟩ : ∃ a c, v6 = .slice a 2 c := by obtain ⟨a, c, h, _⟩ := ho6.rd.shape; exact ⟨a, c, h⟩
                have hp6 := OP.keep (e := 48) HP5.out (by decide) hk6
                have hon : Only (w1.heap.size + 1) w6 (w6.setCell ⟨w1.heap.size + 1, 2, none⟩ (.slice av6 2 cv6)) := Only.set 2 _
                have HP7 := Lib.hid (hp6.put (.slice av6 2 cv6))
                have HO7 := Lib.hid (ownC_only ho6 hp6 (by decide) hon)
                have HB7 := Lib.hid (seen (HB5.out.trans hb6) HPN.out hon)
                have HERR := Lib.hid (errP_list (j := j) (i := i) (cs := [(k1, s1, t1, v1, a1, b1, c1), (k2, s2, t2, v2, a2, b2, c2)]) hj2 hi2 (by simp) (by simp) (errS_two HE1.out HE2.out HSIM.out))
                obtain ⟨q0, q1, q2, h0, h1, h2⟩ := hp6.cells
                obtain ⟨r0, r1, r2, _, _, _⟩ := HP7.out.cells
                clear o0 o1 o2 g0 g1 g2 x0 x1 x2 x3 x4 x5 x6 ho6 hb6 hk6 hp6 hon hsz5 HX5 HO5 HP5 HB5
                have HOUT := Lib.hid (ho.out.below HB7.out)
                have HGD := Lib.hid (hgd.out.below HB7.out)
                have HBW := Lib.hid (bnext hb.out HB7.out)
                have hszw := HBW.out.size
                have hszr := hb.out.size
                have hqb : qs.length ≤ 1073741824 := by omega
                go_wp2_with (at_builtin; refine wp_appG1' proE (201 + (j : Int), (i : Int) + 1, av6, 2, cv6) w6.heap.size (World.size_setCell ..) rfl _ _ rfl rfl HOUT.out rfl hqb hszw ?_)
                intro v8 w8 ho8 hb8 hk8
                have HO8 := Lib.hid ho8
                have HB8 := Lib.hid (HBW.out.trans hb8)
                have HG8 : Hid (GoodL w.heap.size w8 (qs ++ [(201 + (j : Int), (i : Int) + 1, av6, 2, cv6)]) j (i + 1)) := by
                  have hg0 : Good w.heap.size (w6.setCell ⟨w1.heap.size + 1, 2, none⟩ (.slice av6 2 cv6)) (201 + (j : Int), (i : Int) + 1, av6, 2, cv6) := ⟨_, OwnG.mono HO7.out hszr, HERR.out⟩
                  exact GoodL.snoc (HGD.out.keep hk8) (hg0.keep hk8)
                have hlq : (qs ++ [((201 : Int) + (j : Int), (i : Int) + 1, av6, 2, cv6)]).length ≤ 3 * j + (i + 1) := by rw [List.length_append]; simp; omega
                have HLQ := Lib.hid hlq
                clear ho8 hb8 hk8 hlq HOUT HGD HBW hszw hszr ho hgd hb
                go_wp2
                go_roundw
                case rel => exact ⟨i + 1, tt + 2, _, by omega, by go_num, by go_num, by omega, HLQ.out, HO8, HG8, HB8⟩
                case measure => simp [intOf]; omega
            · have n1 : (k2 != k1) = true := bne_t hkk
              have hsim : JM.sim (k1, s1, t1, v1, a1, b1, c1) (k2, s2, t2, v2, a2, b2, c2) = false := by unfold JM.sim; simp; omega
              have HSIM := Lib.hid hsim
              clear hkk hsim
              go_wp2
              rw [HW4.out]
              go_quiet (first | (go_at_call 14; exact HAQ4.out _) | (go_at_call 13; exact HDQ4.out _))
              obtain ⟨w5, hw5⟩ : ∃ w5, w4.drewN nq = w5 := ⟨_, rfl⟩
              have HX5 := Lib.hid (show CBox (w4.drewN nq) w3.heap.size k2 s2 t2 v2 a2 b2 c2 from HX4.out)
              have HB5 := Lib.hid (show Below wr.heap.size wr (w4.drewN nq) from HB4.out.trans (below_drewN _ _ _))
              have HO5 := Lib.hid (HO4.out.drewN nq)
              have HP5 := Lib.hid (show OP (w4.drewN nq) (w1.heap.size + 1) (201 + (j : Int)) ((i : Int) + 1) (.slice (some ⟨w1.heap.size, 0, none⟩) 1 1) from HP4.out)
              clear x0 x1 x2 x3 x4 x5 x6 o0 o1 o2 g0 g1 g2 y0 y1 y2 y3 y4 y5 y6 hj0 HX4 HB4 HO4 HP4 HBW4 HAQ4 HDQ4
              rw [hw5] at HX5 HB5 HO5 HP5 ⊢
              clear hw5
              obtain ⟨o0, o1, o2, g0, g1, g2⟩ := HP5.out.cells
              obtain ⟨x0, x1, x2, x3, x4, x5, x6⟩ := HX5.out
              have hsz5 := HB5.out.size
              go_wp2_with (at_builtin; refine wp_appG1 chgE (k2, s2, t2, v2, a2, b2, c2) rfl _ _ rfl rfl HO5.out rfl (by simp) hsz5 ?_)
              intro v6 w6 ho6 hb6 hk6 _
              obtain ⟨av6, cv6, rfl⟩ : ∃ a c, v6 = .slice a 2 c := by obtain ⟨a, c, h, _⟩ := ho6.rd.shape; exact ⟨a, c, h⟩
              have hp6 := OP.keep (e := 48) HP5.out (by decide) hk6
              have hon : Only (w1.heap.size + 1) w6 (w6.setCell ⟨w1.heap.size + 1, 2, none⟩ (.slice av6 2 cv6)) := Only.set 2 _
              have HP7 := Lib.hid (hp6.put (.slice av6 2 cv6))
              have HO7 := Lib.hid (ownC_only ho6 hp6 (by decide) hon)
              have HB7 := Lib.hid (seen (HB5.out.trans hb6) HPN.out hon)
              have HERR := Lib.hid (errP_list (j := j) (i := i) (cs := [(k1, s1, t1, v1, a1, b1, c1), (k2, s2, t2, v2, a2, b2, c2)]) hj2 hi2 (by simp) (by simp) (errS_two HE1.out HE2.out HSIM.out))
              obtain ⟨q0, q1, q2, h0, h1, h2⟩ := hp6.cells
              obtain ⟨r0, r1, r2, _, _, _⟩ := HP7.out.cells
              clear o0 o1 o2 g0 g1 g2 x0 x1 x2 x3 x4 x5 x6 ho6 hb6 hk6 hp6 hon hsz5 HX5 HO5 HP5 HB5
              have HOUT := Lib.hid (ho.out.below HB7.out)
              have HGD := Lib.hid (hgd.out.below HB7.out)
              have HBW := Lib.hid (bnext hb.out HB7.out)
              have hszw := HBW.out.size
              have hszr := hb.out.size
              have hqb : qs.length ≤ 1073741824 := by omega
              go_wp2_with (at_builtin; refine wp_appG1' proE (201 + (j : Int), (i : Int) + 1, av6, 2, cv6) w6.heap.size (World.size_setCell ..) rfl _ _ rfl rfl HOUT.out rfl hqb hszw ?_)
              intro v8 w8 ho8 hb8 hk8
              have HO8 := Lib.hid ho8
              have HB8 := Lib.hid (HBW.out.trans hb8)
              have HG8 : Hid (GoodL w.heap.size w8 (qs ++ [(201 + (j : Int), (i : Int) + 1, av6, 2, cv6)]) j (i + 1)) := by
                have hg0 : Good w.heap.size (w6.setCell ⟨w1.heap.size + 1, 2, none⟩ (.slice av6 2 cv6)) (201 + (j : Int), (i : Int) + 1, av6, 2, cv6) := ⟨_, OwnG.mono HO7.out hszr, HERR.out⟩
                exact GoodL.snoc (HGD.out.keep hk8) (hg0.keep hk8)
              have hlq : (qs ++ [((201 : Int) + (j : Int), (i : Int) + 1, av6, 2, cv6)]).length ≤ 3 * j + (i + 1) := by rw [List.length_append]; simp; omega
              have HLQ := Lib.hid hlq
              clear ho8 hb8 hk8 hlq HOUT HGD HBW hszw hszr ho hgd hb
              go_wp2
              go_roundw
              case rel => exact ⟨i + 1, tt + 2, _, by omega, by go_num, by go_num, by omega, HLQ.out, HO8, HG8, HB8⟩
              case measure => simp [intOf]; omega
          · have n0 : ((dd : Int) == 1) = false := beq_f (by omega)
            clear hd1
            go_wp2
            rw [HW4.out]
            go_quiet (first | (go_at_call 14; exact HAQ4.out _) | (go_at_call 13; exact HDQ4.out _))
            obtain ⟨w5, hw5⟩ : ∃ w5, w4.drewN nq = w5 := ⟨_, rfl⟩
            have HX5 := Lib.hid (show CBox (w4.drewN nq) w3.heap.size k2 s2 t2 v2 a2 b2 c2 from HX4.out)
            have HB5 := Lib.hid (show Below wr.heap.size wr (w4.drewN nq) from HB4.out.trans (below_drewN _ _ _))
            have HO5 := Lib.hid (HO4.out.drewN nq)
            have HP5 := Lib.hid (show OP (w4.drewN nq) (w1.heap.size + 1) (201 + (j : Int)) ((i : Int) + 1) (.slice (some ⟨w1.heap.size, 0, none⟩) 1 1) from HP4.out)
            clear x0 x1 x2 x3 x4 x5 x6 o0 o1 o2 g0 g1 g2 y0 y1 y2 y3 y4 y5 y6 hj0 HX4 HB4 HO4 HP4 HBW4 HAQ4 HDQ4
            rw [hw5] at HX5 HB5 HO5 HP5 ⊢
            clear hw5
            obtain ⟨o0, o1, o2, g0, g1, g2⟩ := HP5.out.cells
            have HERR := Lib.hid (errP_list (j := j) (i := i) (cs := [(k1, s1, t1, v1, a1, b1, c1)]) hj2 hi2 (by simp) (by simp) (errS_one HE1.out))
            have HOUT := Lib.hid (ho.out.below HB5.out)
            have HGD := Lib.hid (hgd.out.below HB5.out)
            have HBW := Lib.hid (bnext hb.out HB5.out)
            have hszw := HBW.out.size
            have hszr := hb.out.size
            have hqb : qs.length ≤ 1073741824 := by omega
            go_wp2_with (at_builtin; refine wp_appG1' proE (201 + (j : Int), (i : Int) + 1, (some (⟨w1.heap.size, 0, none⟩ : Addr)), 1, 1) _ rfl rfl _ _ rfl rfl HOUT.out rfl hqb hszw ?_)
            intro v8 w8 ho8 hb8 hk8
            have HO8 := Lib.hid ho8
            have HB8 := Lib.hid (HBW.out.trans hb8)
            have HG8 : Hid (GoodL w.heap.size w8 (qs ++ [(201 + (j : Int), (i : Int) + 1, (some (⟨w1.heap.size, 0, none⟩ : Addr)), 1, 1)]) j (i + 1)) := by
              have hg0 : Good w.heap.size w5 (201 + (j : Int), (i : Int) + 1, (some (⟨w1.heap.size, 0, none⟩ : Addr)), 1, 1) := ⟨_, OwnG.mono HO5.out hszr, HERR.out⟩
              exact GoodL.snoc (HGD.out.keep hk8) (hg0.keep hk8)
            have hlq : (qs ++ [((201 : Int) + (j : Int), (i : Int) + 1, (some (⟨w1.heap.size, 0, none⟩ : Addr)), 1, 1)]).length ≤ 3 * j + (i + 1) := by rw [List.length_append]; simp; omega
            have HLQ := Lib.hid hlq
            clear ho8 hb8 hk8 hlq HOUT HGD HBW hszw hszr ho hgd hb
            go_wp2
            go_roundw
            case rel => exact ⟨i + 1, tt + 2, _, by omega, by go_num, by go_num, by omega, HLQ.out, HO8, HG8, HB8⟩
            case measure => simp [intOf]; omega
        · have hqi : ¬ (i : Int) < (d : Int) := by omega
          go_wp2_with fail
          refine (HA.out _ hb.out).mono ?_
          rintro e w1 ⟨rfl, rfl⟩
          go_wp2_with fail
          refine (HD.out _).mono ?_
          rintro e w1 ⟨rfl, rfl⟩
          go_wp2
          go_roundw
          case rel => exact ⟨j + 1, tt, qs, by omega, by go_num, rfl, by omega, by omega, ho, hgd.out.next, hb⟩
          case measure => simp [intOf]; omega
    · have hqj : ¬ (j : Int) < 3 := by omega
      obtain ⟨fs, hfs, hok⟩ := good_ok hgd.out.1 hgd.out.2.1
      have HRD := Lib.hid (show RdF wr _ fs from ⟨qs, ho.out.rd, hfs⟩)
      have HOK := Lib.hid (show CM.Ok fs from hok)
      clear hfs hok
      go_wp2
      go_ret
      exact ⟨_, rfl, fs, HRD.out, HOK.out, hb.out⟩

end Go.Proofs.YtdipheijagjelaaGreat

namespace Go.Proofs.YtdipheijagjelaaGreat
open Go.RowKit
open JM (Chg)
open CM (Fp)
open VM (Ent)

set_option maxRecDepth 100000 in
set_option maxHeartbeats 4000000 in
theorem kPart (v : Value) (fs : List Fp) (n : Int) (w : World) (h : RdF w v fs) (hl : fs.length ≤ 1000) :
    Calls Tryz.prog 6 #[v, .int .i64 n] w fun e w' => ∃ u g, e = .returned u ∧ RdF w' u (CM.rs fs g) ∧ Below w.heap.size w w' := by
  obtain ⟨ad, cp, rfl, hcp, _⟩ := h.shape
  have ho0 := ownG_empty hlE 56 w
  have hb0 := below_fresh w (.cells #[] 56)
  have H := Lib.hid h
  clear h
  go_enter Tryz.func6, Tryz.ntmps6
  go_wp2
  obtain ⟨w0, hw0⟩ : ∃ w0, w.alloc (.cells #[] 56) = w0 := ⟨_, rfl⟩
  rw [hw0] at ho0 hb0 ⊢
  clear hw0
  go_loopw [5, 6] (fun u i wr => ∃ (j : Nat) (vs : List Ent), j ≤ 3 ∧ i = .int .i64 j ∧ vs.length ≤ j ∧ Hid (OwnE w.heap.size wr u vs) ∧ Hid (Below w.heap.size w wr)) (fun _ i _ => 3 - (intOf i).toNat)
  case atStart => exact ⟨0, [], by decide, rfl, Nat.le_refl _, ho0, hb0⟩
  case round =>
    obtain ⟨j, vs, hj, rfl, hvl, ho, hbl⟩ := hrel
    clear ho0 hb0
    by_cases hlt : j < 3
    · have hq : (j : Int) < 3 := by omega
      have hD := fun w => kDigit n 4 j w (by decide) (by decide) (by omega)
      generalize dg n 4 j = d at hD
      have HD := Lib.hid hD
      clear hD
      by_cases hd : 0 < d
      · have hdi : (0 : Int) < (d : Int) := by omega
        go_wp2_with fail
        refine (HD.out _).mono ?_
        rintro e w1 ⟨rfl, rfl⟩
        go_wp2_with fail
        refine (HD.out _).mono ?_
        rintro e w1 ⟨rfl, rfl⟩
        have hs := hbl.out.size
        have ho1 := ho.out
        have hvl2 : vs.length ≤ 1073741824 := by omega
        have HBL := Lib.hid hbl.out
        clear ho hbl HD
        go_wp2_with (at_builtin; refine wp_appG1' entE (201 + (j : Int), (d : Int)) _ rfl rfl _ _ rfl rfl ho1 rfl hvl2 hs ?_)
        intro v3 w3 ho3 hb3 _
        have HO3 := Lib.hid ho3
        have HB3 := Lib.hid (HBL.out.trans hb3)
        have hl3 : (vs ++ [((201 : Int) + (j : Int), (d : Int))]).length ≤ j + 1 := by rw [List.length_append]; simp; omega
        have HL3 := Lib.hid hl3
        clear ho1 ho3 hb3 HBL hs hl3
        go_wp2
        go_roundw
        case rel => exact ⟨j + 1, _, by omega, by go_num, HL3.out, HO3, HB3⟩
        case measure => simp [intOf]; omega
      · have hdi : ¬ (0 : Int) < (d : Int) := by omega
        go_wp2_with fail
        refine (HD.out _).mono ?_
        rintro e w1 ⟨rfl, rfl⟩
        clear HD
        go_wp2
        go_roundw
        case rel => exact ⟨j + 1, vs, by omega, by go_num, by omega, ho, hbl⟩
        case measure => simp [intOf]; omega
    · have hq : ¬ (j : Int) < 3 := by omega
      have HR := Lib.hid (rRestrict _ _ fs vs wr (H.out.below hbl.out) ho.out.rdV hl)
      clear ho
      go_wp2_with fail
      refine HR.out.mono ?_
      rintro e w2 ⟨v2, rfl, hr2, hb2⟩
      have HR2 := Lib.hid hr2
      clear hr2 HR
      go_wp2
      go_ret
      exact ⟨_, _, rfl, HR2.out, bnext hbl.out hb2⟩

namespace CM
def agr1 (x : Fp) (b : List Fp) : Bool := b.all fun y => !(decide (JM.cmpP x.1 x.2.1 y.1 y.2.1 = 0) && !eqP x.1 x.2.1 x.2.2 y.1 y.2.1 y.2.2)
def agr (a b : List Fp) : Bool := a.all fun x => agr1 x b
theorem agr_iff {a b : List Fp} (h : agr a b = true) : Agr a b := by
  intro x hx y hy h1 h2
  unfold agr at h
  have h3 := List.all_eq_true.1 h x hx
  unfold agr1 at h3
  have h4 := List.all_eq_true.1 h3 y hy
  rw [decide_eq_true (JM.cmpP_zero.2 ⟨h1, h2⟩)] at h4
  have h5 : eqP x.1 x.2.1 x.2.2 y.1 y.2.1 y.2.2 = true := by simpa using h4
  have h6 := of_decide_eq_true h5
  obtain ⟨x1, x2, x3⟩ := x
  obtain ⟨y1, y2, y3⟩ := y
  obtain ⟨rfl, rfl, rfl⟩ := h6
  rfl
end CM

/-- What the laws' Valid says of two configurations. -/
def valid2 (xs ys : List Fp) : Bool := decide (CM.errL (0, 0) xs = 0) && (decide (CM.errL (0, 0) ys = 0) && CM.agr ys xs)
end Go.Proofs.YtdipheijagjelaaGreat
