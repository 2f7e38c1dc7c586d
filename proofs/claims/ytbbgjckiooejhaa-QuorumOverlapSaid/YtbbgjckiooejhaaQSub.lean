/-
  The calls of the reference's subset and bits. Conditions: the members read; numbers below 2^40.
-/
import Derived.Test.YtbbgjckiooejhaaQVisit
namespace Go.Proofs.Ytbbgjckiooejhaa
open Go.RowKit
open QM (Mem)

/-- The servers of the members ahead of place j whose bit is set in m. -/
def sbs (ms : List Mem) (m : Nat) (j : Nat) : List Int := ((List.range j).filter fun i => m.testBit i).map fun i => (ms.getD i (0, 0)).1
theorem sbs_succ (ms : List Mem) (m j : Nat) : sbs ms m (j + 1) = sbs ms m j ++ if m.testBit j = true then [(ms.getD j (0, 0)).1] else [] := by
  unfold sbs
  rw [List.range_succ, List.filter_append, List.map_append]
  by_cases h : m.testBit j = true
  · rw [if_pos h]; simp [h]
  · rw [if_neg h]; simp [h]
theorem sbs_length (ms : List Mem) (m j : Nat) : (sbs ms m j).length ≤ j := by
  unfold sbs
  rw [List.length_map]
  exact Nat.le_trans (List.length_filter_le _ (List.range j)) (by rw [List.length_range]; exact Nat.le_refl _)

theorem shr_bit (m j : Nat) : (((m : Int) / 2 ^ j).tmod 2 == 1) = m.testBit j := by
  have e : ((m : Int) / 2 ^ j) = ((m / 2 ^ j : Nat) : Int) := by
    rw [Int.natCast_ediv]; congr 1
  rw [e, Nat.testBit_eq_decide_div_mod_eq, Int.tmod_eq_emod_of_nonneg (Int.natCast_nonneg _)]
  generalize m / 2 ^ j = q
  rw [Bool.eq_iff_iff, beq_iff_eq, decide_eq_true_iff]
  omega

set_option maxRecDepth 100000 in
set_option maxHeartbeats 2000000 in
theorem rSubset (sv : Value) (k c f : Int) (ms : List Mem) (m : Nat) (w : World) (hr : RdM w sv ms) (hml : ms.length ≤ 12) :
    Calls Try.prog 41 #[vw sv k c f, .int .i64 m] w fun e w' => ∃ v, e = .returned v ∧ OwnI w.heap.size w' v (sbs ms m ms.length) ∧ Below w.heap.size w w' := by
  have hv := VBox.fresh w sv k c f
  have hB := below_fresh w (.cells #[sv, .int .i64 k, .int .i64 c, .int .i64 f] 26)
  have h0 := hr.below hB
  obtain ⟨ad, cp, rfl, hcp, hl⟩ := hr.shape
  clear hr
  generalize hw0 : w.alloc (.cells #[.slice ad ms.length cp, .int .i64 k, .int .i64 c, .int .i64 f] 26) = w0 at h0 hv hB
  have HW0 := Lib.hid hw0
  have H := Lib.hid h0
  have HV := Lib.hid hv
  have HB := Lib.hid hB
  clear hw0 h0 hv hB
  obtain ⟨v0, v1, v2, v3, v4⟩ := HV.out
  go_enter Try.func41, Try.ntmps41
  go_wp2
  rw [HW0.out]
  go_loopw [5, 6] (fun u i wr => ∃ (j : Nat), j ≤ ms.length ∧ i = .int .i64 j ∧ Hid (OwnI w0.heap.size wr u (sbs ms m j)) ∧ Hid (Below w0.heap.size w0 wr)) (fun _ i _ => ms.length - (intOf i).toNat)
  case atStart => exact ⟨0, Nat.zero_le _, rfl, OwnG.nil hlI _ _ _, Below.refl _ _⟩
  case round =>
    obtain ⟨j, hj, rfl, ho, hb⟩ := hrel
    obtain ⟨z0, z1, z2, z3, z4⟩ := HV.out.below hb.out
    by_cases hlt : j < ms.length
    · have hq : (j : Int) < (ms.length : Int) := by omega
      have hj64 : (j : Int) ≤ 64 := by omega
      have hj0 : (0 : Int) ≤ (j : Int) := by omega
      obtain ⟨b1, o1, hi1, hb1, c0, c1⟩ := atM (H.out.below hb.out) j ms[j] (List.getElem?_eq_getElem hlt)
      have hsu := sbs_succ ms m j
      have hsl := sbs_length ms m j
      rw [show ms.getD j (0, 0) = ms[j] by simp [List.getD, hlt]] at hsu
      generalize ms[j] = en at c0 c1 hsu
      obtain ⟨x, y⟩ := en
      simp only at c0 c1 hsu
      have HSU := Lib.hid hsu
      have hsz := hb.out.size
      have htb := shr_bit m j
      clear hsu
      generalize m.testBit j = tb at htb HSU
      cases tb
      · have hsame : sbs ms m j = sbs ms m (j + 1) := by rw [HSU.out]; simp
        rw [hsame] at ho
        clear HSU hsame
        go_wp2
        go_round
        case rel => exact ⟨j + 1, by omega, by go_num, ho, hb⟩
        case measure => simp [intOf]; omega
      · go_wp2_with (at_builtin; refine wp_appG1 intE x rfl _ _ rfl rfl ho.out rfl (by omega) hsz ?_; intro v1 w1 ho1 hb1 _ _)
        have HO := Lib.hid (show OwnI w0.heap.size w1 v1 (sbs ms m (j + 1)) by rw [HSU.out]; exact ho1)
        have HB1 := Lib.hid (hb.out.trans hb1)
        clear ho1 hb1 ho hb HSU
        go_wp2
        go_round
        case rel => exact ⟨j + 1, by omega, by go_num, HO, HB1⟩
        case measure => simp [intOf]; omega
    · have hq : ¬ (j : Int) < (ms.length : Int) := by omega
      obtain rfl : j = ms.length := by omega
      go_wp2
      go_ret
      exact ⟨_, rfl, ho.out.mono HB.out.size, bnext HB.out hb.out⟩

/-- How many of the first bits are set. -/
def bc : Nat → Nat → Nat
  | 0, _ => 0
  | n + 1, x => x % 2 + bc n (x / 2)
theorem bc_zero : ∀ n, bc n 0 = 0
  | 0 => rfl
  | n + 1 => by show 0 % 2 + bc n (0 / 2) = 0; rw [Nat.zero_div, bc_zero n]
theorem bc_le : ∀ n x, bc n x ≤ n
  | 0, _ => Nat.le_refl _
  | n + 1, x => by
    have h1 := bc_le n (x / 2)
    have h2 := Nat.mod_lt x (show 0 < 2 by decide)
    show x % 2 + bc n (x / 2) ≤ n + 1
    omega
theorem bc_count : ∀ n x, bc n x = (List.range n).countP fun i => x.testBit i
  | 0, _ => rfl
  | n + 1, x => by
    rw [List.range_succ_eq_map, List.countP_cons, List.countP_map]
    show x % 2 + bc n (x / 2) = _
    rw [bc_count n (x / 2)]
    have e : ((fun i => x.testBit i) ∘ Nat.succ) = fun i => (x / 2).testBit i := by
      funext i
      show x.testBit (i + 1) = _
      rw [Nat.testBit_succ]
    rw [e, Nat.testBit_zero]
    rcases Nat.mod_two_eq_zero_or_one x with h | h <;> rw [h] <;> simp <;> omega

set_option maxRecDepth 100000 in
set_option maxHeartbeats 1000000 in
theorem rBits (n m : Nat) (w : World) (hm : m < 2 ^ n) (hn : n ≤ 40) : Calls Try.prog 47 #[.int .i64 m] w fun e w' => e = .returned (.int .i64 (bc n m : Int)) ∧ w = w' := by
  have hm40 : m < 1099511627776 := Nat.lt_of_lt_of_le hm (Nat.le_trans (Nat.pow_le_pow_right (by decide) hn) (by decide))
  have hbc := bc_le n m
  obtain ⟨R, hR⟩ : ∃ R, R = bc n m := ⟨_, rfl⟩
  rw [← hR] at hbc ⊢
  have HR := Lib.hid hR
  have HM := Lib.hid hm
  clear hR hm
  go_enter Try.func47, Try.ntmps47
  go_wp2
  go_loop [0, 3] (fun x c => ∃ (y s f : Nat), y < 1099511627776 ∧ s ≤ 40 ∧ x = .int .i64 y ∧ c = .int .i64 s ∧ Hid (y < 2 ^ f) ∧ Hid (s + bc f y = R)) (fun x _ => (intOf x).toNat)
  case atStart => exact ⟨m, 0, n, hm40, by decide, rfl, rfl, HM.out, (by show 0 + bc n m = R; rw [HR.out]; omega)⟩
  case round =>
    obtain ⟨y, s, f, hy, hs, rfl, rfl, hf, he⟩ := hrel
    by_cases h0 : 0 < y
    · have hq : (0 : Int) < (y : Int) := by omega
      obtain ⟨f', rfl⟩ : ∃ f', f = f' + 1 := ⟨f - 1, by
        have := hf.out
        cases f with
        | zero => simp at this; omega
        | succ f => rfl⟩
      have hmod : ((y : Int)).tmod 2 = ((y % 2 : Nat) : Int) := rfl
      have hdiv : ((y : Int)).tdiv 2 = ((y / 2 : Nat) : Int) := rfl
      have he2 : s + (y % 2 + bc f' (y / 2)) = R := he.out
      have hf2 : y / 2 < 2 ^ f' := by have := hf.out; rw [Nat.pow_succ] at this; omega
      have hlt : y / 2 < y := by omega
      have hm2 := Nat.mod_lt y (show 0 < 2 by decide)
      have hs2 : s + y % 2 ≤ 40 := by omega
      have HE := Lib.hid (show s + y % 2 + bc f' (y / 2) = R by omega)
      have HF := Lib.hid hf2
      clear he he2 hf hf2
      generalize y % 2 = r at hmod hm2 hs2 HE
      generalize y / 2 = z at hdiv hlt HE HF
      go_wp2
      go_round
      case rel => exact ⟨z, s + r, f', by omega, by omega, rfl, by go_num, HF, HE⟩
      case measure => simp [intOf]; omega
    · have hq : ¬ (0 : Int) < (y : Int) := by omega
      obtain rfl : y = 0 := by omega
      have e2 := Lib.hid (show R = s by have := he.out; rw [bc_zero] at this; omega)
      clear he
      go_wp2
      go_ret
      rw [e2.out]
      exact ⟨rfl, rfl⟩

/-! The members by their places. -/
theorem getD_mem {ms : List Mem} {i : Nat} (h : i < ms.length) : ms.getD i (0, 0) = ms[i] := by simp [List.getD, h]
theorem place_inj {ms : List Mem} (hv : QM.Val 0 ms) {i j : Nat} (hi : i < ms.length) (hj : j < ms.length) (h : (ms.getD i (0, 0)).1 = (ms.getD j (0, 0)).1) : i = j := by
  rw [getD_mem hi, getD_mem hj] at h
  have ha := hv.asc
  rw [List.pairwise_map, List.pairwise_iff_getElem] at ha
  rcases Nat.lt_trichotomy i j with h1 | h1 | h1
  · have := ha i j hi hj h1; omega
  · exact h1
  · have := ha j i hj hi h1; omega
theorem sbs_mem {ms : List Mem} (hv : QM.Val 0 ms) (M : Nat) {i : Nat} (hi : i < ms.length) : decide ((ms.getD i (0, 0)).1 ∈ sbs ms M ms.length) = M.testBit i := by
  rw [Bool.eq_iff_iff, decide_eq_true_iff]
  unfold sbs
  rw [List.mem_map]
  constructor
  · rintro ⟨j, hj, he⟩
    rw [List.mem_filter, List.mem_range] at hj
    have := place_inj hv hj.1 hi he
    rw [← this]; exact hj.2
  · intro h
    exact ⟨i, List.mem_filter.2 ⟨List.mem_range.2 hi, h⟩, rfl⟩
theorem cnt_range (p : Int → Bool) (ms : List Mem) : QM.cnt p ms = (List.range ms.length).countP fun i => p (ms.getD i (0, 0)).1 := by
  have e : ms = (List.range ms.length).map fun i => ms.getD i (0, 0) := by
    apply List.ext_getElem
    · simp
    · intro i h1 h2
      simp [List.getD, h1]
  unfold QM.cnt
  conv => lhs; rw [e]
  rw [List.countP_map]; rfl
theorem cnt_bits {p : Int → Bool} {ms : List Mem} {m : Nat} (h : ∀ i, i < ms.length → p (ms.getD i (0, 0)).1 = m.testBit i) : QM.cnt p ms = bc ms.length m := by
  rw [cnt_range, bc_count]
  apply List.countP_congr
  intro i hi
  rw [h i (List.mem_range.1 hi)]
theorem isQ_places {k c f : Int} {p q : Int → Bool} {ms : List Mem} (h : ∀ i, i < ms.length → p (ms.getD i (0, 0)).1 = q (ms.getD i (0, 0)).1) : QM.isQ k c f ms p = QM.isQ k c f ms q :=
  QM.isQ_congr fun m hm => by
    obtain ⟨i, hi, rfl⟩ := List.getElem_of_mem hm
    have := h i hi
    rwa [getD_mem hi] at this
/-- A number with the bits that one wants. -/
theorem mask_exists (g : Nat → Bool) : ∀ n, ∃ m, m < 2 ^ n ∧ ∀ i, i < n → m.testBit i = g i
  | 0 => ⟨0, by decide, fun i h => absurd h (Nat.not_lt_zero i)⟩
  | n + 1 => by
    obtain ⟨m, hm, hb⟩ := mask_exists g n
    have hp : 2 ^ n < 2 ^ (n + 1) := Nat.pow_lt_pow_right (by decide) (Nat.lt_succ_self n)
    cases hg : g n with
    | false =>
      refine ⟨m, Nat.lt_trans hm hp, fun i hi => ?_⟩
      by_cases e : i = n
      · rw [e, Nat.testBit_lt_two_pow hm, hg]
      · exact hb i (by omega)
    | true =>
      refine ⟨m ||| 2 ^ n, Nat.or_lt_two_pow (Nat.lt_trans hm hp) hp, fun i hi => ?_⟩
      rw [QM.tb_or]
      by_cases e : i = n
      · rw [e, hg]; simp
      · rw [hb i (by omega)]; simp; intro h; exact absurd h.symm e

end Go.Proofs.Ytbbgjckiooejhaa
