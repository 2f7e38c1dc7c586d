/-
  The walks of the laws WireIntDecode, WireStringDecode, WireUintRoundTrip and WireUintLength: each returns true. No conditions beyond that the arguments read as data.
-/
import Derived.Test.YtipjifdjgipocaaAwake
namespace Go.Proofs.Ytipjifdjgipocaa
open Go.RowKit
open WM (Bytes enc dec zig zag)

/-- What a shell tells of a slice of bytes that came in. -/
theorem rd_row {w : World} {a : Option Addr} {len cap : Nat} {zs : List Int}
    (h : (a = none ∧ len = 0 ∧ cap = 0 ∧ zs = []) ∨ ∃ x, a = some x ∧ len ≤ cap ∧ cap ≤ maxLen ∧ zs.length = cap ∧ (∀ i, i < zs.length → w.cell? (x.add i) = some (.int .u8 (zs.getD i 0))) ∧ ∀ n ∈ zs, (Lit.int .u8 n).wf = true) :
    Rd w (.slice a len cap) (zs.take len) := by
  rcases h with ⟨rfl, rfl, rfl, rfl⟩ | ⟨x, rfl, h1, h2, h3, h4, h5⟩
  · exact Rd.nil w
  · refine ⟨_, _, _, rfl, by rw [List.length_take]; omega, h1, h2, fun h => (by cases h), fun y hy i hi => ?_, fun c hc => ?_⟩
    · cases hy
      rw [h4 i (by omega)]
      congr 2
      simp [List.getD, hi]
    · have := bounds_u8 (h5 c (List.mem_of_mem_take hc))
      unfold WM.isByte; omega

theorem u64_nat {x : Int} (h : (Lit.int .u64 x).wf = true) : ∃ n : Nat, x = n ∧ n < 18446744073709551616 := by
  have := bounds_u64 h
  obtain ⟨n, rfl⟩ := Int.eq_ofNat_of_zero_le this.1
  exact ⟨n, rfl, by omega⟩

theorem ret_true {p : Prop} [Decidable p] (h : p) : Ending.returned (.bool (decide p)) = Ending.returned (.bool true) := by rw [decide_eq_true h]

set_option maxRecDepth 100000 in
set_option maxHeartbeats 1000000 in
theorem lIntDecode (v : Value) (xs : List Int) (w : World) (h : Rd w v xs) :
    Calls Try.prog 8 #[v] w fun e w' => e = .returned (.bool true) ∧ Below w.heap.size w w' := by
  have h1 := wInt v xs w h
  have h2 := rInt v xs w h
  obtain ⟨a, n, c, rfl, hn, _, hcm, _⟩ := id h
  subst hn
  clear h
  by_cases hbig : 300 < xs.length
  · go_enter Try.func8, Try.ntmps8
    go_wp2_with fail
    refine (awake_any _).mono ?_
    rintro e w1 ⟨rfl, hb⟩
    go_wp2
    go_ret
    exact ⟨rfl, hb⟩
  · go_enter Try.func8, Try.ntmps8
    go_wp2_with fail
    refine h1.mono ?_
    rintro e w1 ⟨rfl, rfl⟩
    clear h1
    go_wp2_with fail
    refine h2.mono ?_
    rintro e w1 ⟨rfl, rfl⟩
    clear h2
    go_wp2_with fail
    refine (awake_any _).mono ?_
    rintro e w1 ⟨rfl, hb⟩
    go_wp2
    go_ret
    exact ⟨rfl, hb⟩

set_option maxRecDepth 100000 in
set_option maxHeartbeats 1000000 in
theorem lStringDecode (v : Value) (xs : List Int) (w : World) (h : Rd w v xs) :
    Calls Try.prog 10 #[v] w fun e w' => e = .returned (.bool true) ∧ Below w.heap.size w w' := by
  have h1 := wString v xs w h
  have h2 := rString v xs w h
  obtain ⟨a, n, c, rfl, hn, _, hcm, _⟩ := id h
  subst hn
  clear h
  by_cases hbig : 300 < xs.length
  · go_enter Try.func10, Try.ntmps10
    go_wp2_with fail
    refine (awake_any _).mono ?_
    rintro e w1 ⟨rfl, hb⟩
    go_wp2
    go_ret
    exact ⟨rfl, hb⟩
  · go_enter Try.func10, Try.ntmps10
    go_wp2_with fail
    refine h1.mono ?_
    rintro e w1 ⟨rfl, rfl⟩
    clear h1
    go_wp2_with fail
    refine h2.mono ?_
    rintro e w1 ⟨rfl, rfl⟩
    clear h2
    go_wp2_with fail
    refine (awake_any _).mono ?_
    rintro e w1 ⟨rfl, hb⟩
    go_wp2
    go_ret
    exact ⟨rfl, hb⟩

theorem own_empty (w : World) : Own w.heap.size (w.alloc (.cells #[] 5)) (.slice (some ⟨w.heap.size, 0, none⟩) 0 0) [] := ⟨World.ownsRow_made w #[] 0 (Nat.le_refl _) (Nat.zero_le _) rfl, fun _ h => by cases h⟩
theorem below_empty (w : World) : Below w.heap.size w (w.alloc (.cells #[] 5)) := (Below.refl _ w).alloc (Nat.le_refl _) _
theorem Rd.shape {w : World} {v : Value} {xs : List Int} (h : Rd w v xs) : ∃ a c, v = .slice a xs.length c ∧ c ≤ 9223372036854775807 := by
  obtain ⟨a, n, c, rfl, hn, _, hcm, _⟩ := h
  subst hn
  unfold maxLen at hcm
  exact ⟨a, c, rfl, by omega⟩

set_option maxRecDepth 100000 in
set_option maxHeartbeats 1000000 in
theorem lUintRoundTrip (n : Nat) (v : Value) (xs : List Int) (w : World) (hn : n < 18446744073709551616) (h : Rd w v xs) :
    Calls Try.prog 5 #[.int .u64 n, v] w fun e w' => e = .returned (.bool true) ∧ Below w.heap.size w w' := by
  have h1 := wAppendUint _ [] n w (Rd.nil w) (by simp) hn
  have hdec := Lib.hid (WM.dec_enc0 n xs hn)
  have hl10 := WM.enc_len10 n hn
  have hl1 := WM.enc_pos n
  have HN := Lib.hid hn
  clear hn
  have H := Lib.hid h
  obtain ⟨a, c, rfl, hcm⟩ := h.shape
  clear h
  by_cases hbig : 300 < xs.length
  · go_enter Try.func5, Try.ntmps5
    go_wp2_with fail
    refine (awake_any _).mono ?_
    rintro e w1 ⟨rfl, hb⟩
    go_wp2
    go_ret
    exact ⟨rfl, hb⟩
  · go_enter Try.func5, Try.ntmps5
    go_wp2_with fail
    refine h1.mono ?_
    rintro e w1 ⟨v1, rfl, ho1, hb1⟩
    clear h1
    rw [List.nil_append] at ho1
    have hr1 := ho1.rd.below (below_empty w1)
    obtain ⟨a1, c1, rfl, hcm1⟩ := ho1.rd.shape
    have ho2 := own_empty w1
    clear ho1
    go_wp2_with (at_builtin; refine wp_appS rfl _ _ rfl rfl ho2 rfl hr1 (by simp) (by omega) (by simp) ?_)
    intro v2 w2 ho3 hb2
    have hb3 := hb1.trans (((below_empty w1).trans hb2).mono hb1.size)
    have hr2 := H.out.below hb3
    have hs1 := hb1.size
    have hsz := (below_empty w1).trans hb2 |>.size
    clear ho2 hr1 hb1 hb2
    go_wp2_with (at_builtin; refine wp_appS rfl _ _ rfl rfl ho3 rfl hr2 (by omega) (by omega) hsz ?_)
    intro v4 w4 ho4 hb4
    have hb5 := hb3.trans (hb4.mono (by have := hb3.size; omega))
    have h2 := wUint _ _ _ ho4.rd
    rw [hdec.out] at h2
    clear ho3 hr2 hb3 hb4 ho4
    go_wp2_with fail
    refine h2.mono ?_
    rintro e w5 ⟨rfl, rfl⟩
    clear h2
    go_wp2
    go_ret
    exact ⟨ret_true (by omega), hb5⟩

/-- How many bytes the groups of seven bits of n take: what the law's own loop counts. -/
theorem enc_step (m : Nat) : (enc m).length = 1 + (if m / 128 = 0 then 0 else (enc (m / 128)).length) := by
  by_cases h1 : m < 128
  · rw [if_pos (by omega), WM.enc_small h1]; rfl
  · rw [if_neg (by omega), WM.enc_big h1, List.length_cons]; omega

set_option maxRecDepth 100000 in
set_option maxHeartbeats 1000000 in
theorem lUintLength (n m : Nat) (w : World) (hn : n < 18446744073709551616) (hm : m < 18446744073709551616) :
    Calls Try.prog 6 #[.int .u64 n, .int .u64 m] w fun e w' => e = .returned (.bool true) ∧ Below w.heap.size w w' := by
  have h1 := fun w => wAppendUint _ [] n w (Rd.nil w) (by simp) hn
  have h2 := fun w => wAppendUint _ [] m w (Rd.nil w) (by simp) hm
  have hl10 := WM.enc_len10 n hn
  have hl1 := WM.enc_pos n
  have hm1 := WM.enc_pos m
  have HM := Lib.hid (fun h => WM.enc_mono n m h)
  have HN := Lib.hid hn
  have e1 := wrap_div n hn
  clear hn hm
  go_enter Try.func6, Try.ntmps6
  go_wp2_with fail
  refine (h1 _).mono ?_
  rintro e w1 ⟨v1, rfl, ho1, hb1⟩
  rw [List.nil_append] at ho1
  obtain ⟨a1, c1, rfl, hcm1⟩ := ho1.rd.shape
  clear ho1 h1
  go_wp2_with fail
  refine (h2 _).mono ?_
  rintro e w2 ⟨v2, rfl, ho2, hb2⟩
  rw [List.nil_append] at ho2
  obtain ⟨a2, c2, rfl, hcm2⟩ := ho2.rd.shape
  have hb3 := hb1.trans (hb2.mono hb1.size)
  clear ho2 h2 hb1 hb2
  go_wp2_with fail
  go_loop [7, 8] (fun g x => ∃ k q : Nat, g = .int .i64 k ∧ x = .int .u64 q ∧ Hid (q < 18446744073709551616) ∧ k + (if q = 0 then 0 else (enc q).length) = (enc n).length) (fun _ x => (intOf x).toNat)
  case atStart => exact ⟨1, n / 128, rfl, rfl, (by have := HN.out; show _ < _; omega), (enc_step n).symm⟩
  case round =>
    obtain ⟨k, q, rfl, rfl, HQ, hk⟩ := hrel
    by_cases hq : q = 0
    · subst hq
      rw [if_pos rfl, Nat.add_zero] at hk
      have hk2 := beq_iff_eq.2 (show (((enc n).length : Nat) : Int) = (k : Int) by omega)
      have HK := Lib.hid hk
      clear hk
      by_cases hnm : n ≤ m
      · have hle := HM.out hnm
        have h3 : ¬ (m : Int) < (n : Int) := by omega
        have h4 : decide ((m : Int) < (n : Int)) = false := decide_eq_false h3
        go_wp2_with fail
        refine (awake_any _).mono ?_
        rintro e w3 ⟨rfl, hb⟩
        go_wp2
        go_ret
        exact ⟨rfl, hb3.trans (hb.mono hb3.size)⟩
      · have h3 : (m : Int) < (n : Int) := by omega
        have h4 : decide ((m : Int) < (n : Int)) = true := decide_eq_true h3
        go_wp2_with fail
        refine (awake_any _).mono ?_
        rintro e w3 ⟨rfl, hb⟩
        go_wp2
        go_ret
        exact ⟨rfl, hb3.trans (hb.mono hb3.size)⟩
    · have hq0 : (0 : Int) < (q : Int) := by omega
      have hs := enc_step q
      rw [if_neg hq] at hk
      have hk10 : k ≤ 10 := by omega
      have HK := Lib.hid (show k + 1 + (if q / 128 = 0 then 0 else (enc (q / 128)).length) = (enc n).length by omega)
      clear hk hs
      go_wp2
      rw [wrap_div q HQ.out]
      go_round
      case rel => exact ⟨k + 1, q / 128, by go_num, rfl, (by have := HQ.out; show _ < _; omega), HK.out⟩
      case measure => simp [intOf]; omega

end Go.Proofs.Ytipjifdjgipocaa
