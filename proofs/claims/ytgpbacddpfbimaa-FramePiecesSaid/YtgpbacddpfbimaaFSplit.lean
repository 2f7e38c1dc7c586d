/-
  The walk of the law FrameSplit: it returns true. No conditions beyond that the arguments read as data.
-/
import Derived.Test.YtgpbacddpfbimaaFeed
import Derived.Test.YtgpbacddpfbimaaSame
import Derived.Test.YtgpbacddpfbimaaFAwake
import Derived.Deep.RegionWith
namespace Go.Proofs.Ytgpbacddpfbimaa
open Go.RowKit
open WM (Bytes)

/-- A splitter that has just been laid: its block. -/
theorem split_new (w : World) (x y : Value) : (w.alloc (.cells #[x, y] 38)).heap[w.heap.size]? = some (.cells #[x, y] 38 (0, 0)) := heap_alloc_new w _

/-- A splitter that was laid ahead of a call is there behind it. -/
theorem split_kept {w wA : World} {x y : Value} (h : Below (w.drew.alloc (.cells #[x, y] 38)).heap.size (w.drew.alloc (.cells #[x, y] 38)) wA) : wA.heap[w.heap.size]? = some (.cells #[x, y] 38 (0, 0)) :=
  (Below.keepsT h) _ _ _ _ (by decide) (split_new w.drew x y)

/-- A call of Feed behind w, told for every world behind w. -/
theorem feed_later {w w0 : World} {vB v : Value} {f : Int} {bs xs : List Int} {R : List Int × Int × List (List Int)} (hR : R = FM.next bs f xs) (hB : Rd w vB bs) (hv : Rd w v xs) (hl : bs.length + xs.length ≤ 1099511627776) (hb : Below w.heap.size w w0) :
    Calls Try.prog 20 #[.agg #[vB, .int .i64 f], v] w0 fun e w' => ∃ vR vL, e = .returned (.tuple #[.agg #[vR, .int .i64 R.2.1], vL]) ∧
      RdT w' vR R.1 ∧ OwnL w.heap.size w' vL R.2.2 ∧ Below w0.heap.size w0 w' ∧ Below w.heap.size w w' := by
  subst hR
  refine (wFeed vB v f bs xs w0 (hB.below hb) (hv.below hb) hl).mono ?_
  rintro e w1 ⟨vR, vL, rfl, h1, h2, h3⟩
  exact ⟨vR, vL, rfl, h1, h2.mono hb.size, h3, hb.trans (h3.mono hb.size)⟩

set_option maxRecDepth 100000 in
set_option maxHeartbeats 2000000 in
theorem lSplitSome (a : Option Addr) (c : Nat) (xs : List Int) (n k : Nat) (w : World) (hv : Rd w (.slice a xs.length c) xs) (hn : n < 65536) (hl : xs.length ≤ 500) (hk : k ≤ xs.length)
    (hz : 0 < xs.length) (hmod : Int.tmod (n : Int) (xs.length : Int) = (k : Int)) :
    Calls Try.prog 12 #[.slice a xs.length c, .int .u16 n] w fun e w' => e = .returned (.bool true) ∧ Below w.heap.size w w' := by
  have hb := hv.bytes
  have h1 := wFeed (.slice none 0 0) _ 0 [] xs w (Rd.nil w) hv (by simp; omega)
  obtain ⟨v0, hcut0, hr0⟩ := hv.cut0 k hk
  obtain ⟨v1, hcut1, hr1⟩ := hv.cutL k hk
  have hbig : ¬ ((500 : Int) < (xs.length : Int)) := by omega
  have H0 := Lib.hid hr0
  have H1 := Lib.hid hr1
  clear hv hr0 hr1
  obtain ⟨S, hS⟩ : ∃ S, S = FM.next [] 0 (xs.take k) := ⟨_, rfl⟩
  obtain ⟨T, hT⟩ : ∃ T, T = FM.next S.1 S.2.1 (xs.drop k) := ⟨_, rfl⟩
  have hall : FM.next [] 0 xs = (T.1, T.2.1, S.2.2 ++ T.2.2) := by
    have := FM.feed_split _ (xs.take k) (xs.drop k) (Nat.le_refl _) (FM.bytes_take hb k)
    rw [List.take_append_drop] at this
    rw [hT, hS]
    exact this
  have hSl : S.1.length ≤ 500 := by
    have := (FM.feed_bytes _ (xs.take k) (Nat.le_refl _) (FM.bytes_take hb k)).2.1
    rw [hS]
    show (FM.feed ([] ++ xs.take k)).1.length ≤ 500
    rw [List.nil_append]
    rw [List.length_take] at this
    omega
  have hLa := Lib.hid (show S.2.2.length ≤ 500 by
    have := (FM.feed_bytes _ (xs.take k) (Nat.le_refl _) (FM.bytes_take hb k)).2.2.1
    rw [hS]
    show (FM.feed ([] ++ xs.take k)).2.2.length ≤ 500
    rw [List.nil_append]
    rw [List.length_take] at this
    omega)
  have hLb := Lib.hid (show S.2.2.length + T.2.2.length ≤ 500 by
    have h3 := (FM.feed_bytes _ xs (Nat.le_refl _) hb).2.2.1
    have h4 : (FM.next [] 0 xs).2.2.length ≤ 500 := Nat.le_trans h3 hl
    rw [hall, List.length_append] at h4
    exact h4)
  rw [hall] at h1
  have ES := Lib.hid hS
  have ET := Lib.hid hT
  clear hS hT hall
  have hz1 : (0 : Int) < (xs.length : Int) := by omega
  have hz2 : ¬ ((xs.length : Int) = 0) := by omega
  go_enter Try.func12, Try.ntmps12
  go_wp2_with fail
  refine h1.mono ?_
  rintro e w1 ⟨vR, vL, rfl, hR1, hL1, hb1⟩
  obtain ⟨aR, cR, rfl, hcR⟩ := hR1.1.shape
  have hn1 := below_fresh' w1 (.cells #[.slice aR T.1.length cR, .int .i64 T.2.1] 38)
  have hg1 := split_new w1 (.slice aR T.1.length cR) (.int .i64 T.2.1)
  have hb2 := hb1.trans (hn1.mono hb1.size)
  have hR2 := hR1.below hn1
  have hL2 := hL1.below hn1
  have h2 := wFeed (.slice none 0 0) _ 0 [] (xs.take k) _ (Rd.nil _) (H0.out.below hb2) (by simp; omega)
  rw [← ES.out] at h2
  clear h1 hb1 hn1 hR1 hL1
  go_wp2_with fail
  refine h2.mono ?_
  rintro e w2 ⟨vS, vM, rfl, hS1, hM1, hb3⟩
  obtain ⟨aS, cS, rfl, hcS⟩ := hS1.1.shape
  have hn2 := below_fresh' w2 (.cells #[.slice aS S.1.length cS, .int .i64 S.2.1] 38)
  have hg2 := split_new w2 (.slice aS S.1.length cS) (.int .i64 S.2.1)
  have hg3 := (Below.keepsT (hb3.trans (hn2.mono hb3.size))) _ _ _ _ (by decide) hg1
  have hb4 := hb2.trans ((hb3.trans (hn2.mono hb3.size)).mono hb2.size)
  clear h2
  go_wp2_with fail
  have hS3 := Lib.hid (hS1.below hn2)
  have hR3 := Lib.hid ((hR2.below hb3).below hn2)
  have hL3 := Lib.hid ((hL2.below hb3).below hn2)
  have hM3 := Lib.hid (hM1.below hn2)
  have hX3 := Lib.hid (H1.out.below hb4)
  clear hS1 hM1 hR2 hL2 hb2 hb3 hn2 hg1
  generalize w2.alloc (.cells #[.slice aS S.1.length cS, .int .i64 S.2.1] 38) = w3 at hS3 hR3 hL3 hM3 hX3 hg2 hg3 hb4 ⊢
  obtain ⟨q0, q1, _, _⟩ := split_at hg2
  have hlt2 : w2.heap.size < w3.heap.size := (Array.getElem?_eq_some_iff.1 hg2).1
  have hne2 : ¬ w2.heap.size = w3.heap.size := by omega
  have HF := Lib.hid (fun (w0 : World) (hb : Below w3.heap.size w3 w0) => feed_later (w0 := w0) ET.out hS3.out.1 hX3.out (by rw [List.length_drop]; omega) hb)
  go_region_with (first
    | (go_at_call 20; refine (HF.out _ (by first | exact (Below.refl _ _).drew | exact ((Below.refl _ _).drew).alloc (by simp) _)).mono ?_; rintro e wA ⟨vT, vK, rfl, hT, hK, hbA, hbT⟩; obtain ⟨aT, cT, rfl, hcT⟩ := hT.1.shape; have hgB := (Below.keepsT hbT) _ _ _ _ (by decide) hg2; obtain ⟨f0, f1, _, _⟩ := split_at hgB; try (have hgA := split_kept hbA; obtain ⟨e0, e1, e2, e3⟩ := split_at hgA)))
  · have hnA := below_fresh' wA (.cells #[.slice aT T.1.length cT, .int .i64 T.2.1] 38)
    have hgT := split_new wA (.slice aT T.1.length cT) (.int .i64 T.2.1)
    have hbW := hbT.trans (hnA.mono hbT.size)
    have hT4 := hT.below hnA
    have hK4 := hK.below hnA
    obtain ⟨pT0, pT1, _, _⟩ := split_at hgT
    obtain ⟨pR0, pR1, _, _⟩ := split_at ((Below.keepsT hbW) _ _ _ _ (by decide) hg3)
    clear hnA hgT hbT hT hK hbA hgB f0 f1
    generalize wA.alloc (.cells #[.slice aT T.1.length cT, .int .i64 T.2.1] 38) = wz at hbW hT4 hK4 pT0 pT1 pR0 pR1 ⊢
    have hR4 := hR3.out.below hbW
    have s1 := hR4.1.str
    have s2 := hT4.1.str
    have hL4 := Lib.hid (hL3.out.below hbW)
    have hM4 := hM3.out.below hbW
    have ho0 := ownL_empty wz
    have hn0 := below_fresh' wz (.cells #[] 22)
    have hM5 := hM4.below hn0
    have hs0 := hn0.size
    have hbZ := hb4.trans (hbW.mono hb4.size)
    clear hR3 hL3 hM3 hX3 hS3 HF hg2 hg3 hbW hb4 hM4 hR4 hT4 q0 q1 hlt2 hne2
    go_wp2_with (at_builtin; refine wp_appLS rfl _ _ rfl rfl ho0 rfl hM5 (by simp) (by have := hLa.out; omega) hs0 ?_)
    intro v4 w4 ho4 hb5 hk5
    have hb6 := hn0.trans hb5
    have hK6 := hK4.below hb6
    have hs6 := hb6.size
    clear ho0 hM5 hs0 hn0 hb5 hk5 hK4 s1 s2 pT0 pT1 pR0 pR1
    go_wp2_with (at_builtin; refine wp_appLS rfl _ _ rfl rfl ho4 rfl hK6 (by have := hLa.out; omega) (by have := hLb.out; omega) hs6 ?_)
    intro v5 w5 ho5 hb7 hk7
    have hb8 := hb6.trans hb7
    have hsm := same_true _ v5 (S.2.2 ++ T.2.2) w5 (hL4.out.below hb8).rdL ho5.rdL
    have hb9 := hbZ.trans (hb8.mono hbZ.size)
    clear ho4 ho5 hK6 hs6 hb6 hb7 hb8 hk7 hbZ hL4
    go_wp2_with fail
    refine hsm.mono ?_
    rintro e w6 ⟨rfl, hb10⟩
    have hb11 := hb9.trans (hb10.mono hb9.size)
    clear hsm hb9 hb10
    go_wp2_with fail
    refine (awake2 _).mono ?_
    rintro e w7 ⟨rfl, hb12⟩
    go_wp2
    go_ret
    exact ⟨rfl, hb11.trans (hb12.mono hb11.size)⟩
  all_goals
    obtain ⟨g6, k6, b6⟩ := split_put hgA (.slice aT T.1.length cT) (.int .i64 T.2.1) w3.heap.size (Nat.le_refl _)
    have hbW := hbT.trans b6
    have hT4 := hT.keepS k6
    have hK4 := hK.keepS k6
    obtain ⟨pT0, pT1, _, _⟩ := split_at g6
    obtain ⟨pR0, pR1, _, _⟩ := split_at ((Below.keepsT hbW) _ _ _ _ (by decide) hg3)
    clear g6 k6 b6 hbT hT hK hbA hgB f0 f1 hgA e0 e1 e2 e3
    generalize (wA.setCell ⟨w3.heap.size, 0, none⟩ (.slice aT T.1.length cT)).setCell ⟨w3.heap.size, 1, none⟩ (.int .i64 T.2.1) = wz at hbW hT4 hK4 pT0 pT1 pR0 pR1 ⊢
    have hR4 := hR3.out.below hbW
    have s1 := hR4.1.str
    have s2 := hT4.1.str
    have hL4 := Lib.hid (hL3.out.below hbW)
    have hM4 := hM3.out.below hbW
    have ho0 := ownL_empty wz
    have hn0 := below_fresh' wz (.cells #[] 22)
    have hM5 := hM4.below hn0
    have hs0 := hn0.size
    have hbZ := hb4.trans (hbW.mono hb4.size)
    clear hR3 hL3 hM3 hX3 hS3 HF hg2 hg3 hbW hb4 hM4 hR4 hT4 q0 q1 hlt2 hne2
    go_wp2_with (at_builtin; refine wp_appLS rfl _ _ rfl rfl ho0 rfl hM5 (by simp) (by have := hLa.out; omega) hs0 ?_)
    intro v4 w4 ho4 hb5 hk5
    have hb6 := hn0.trans hb5
    have hK6 := hK4.below hb6
    have hs6 := hb6.size
    clear ho0 hM5 hs0 hn0 hb5 hk5 hK4 s1 s2 pT0 pT1 pR0 pR1
    go_wp2_with (at_builtin; refine wp_appLS rfl _ _ rfl rfl ho4 rfl hK6 (by have := hLa.out; omega) (by have := hLb.out; omega) hs6 ?_)
    intro v5 w5 ho5 hb7 hk7
    have hb8 := hb6.trans hb7
    have hsm := same_true _ v5 (S.2.2 ++ T.2.2) w5 (hL4.out.below hb8).rdL ho5.rdL
    have hb9 := hbZ.trans (hb8.mono hbZ.size)
    clear ho4 ho5 hK6 hs6 hb6 hb7 hb8 hk7 hbZ hL4
    go_wp2_with fail
    refine hsm.mono ?_
    rintro e w6 ⟨rfl, hb10⟩
    have hb11 := hb9.trans (hb10.mono hb9.size)
    clear hsm hb9 hb10
    go_wp2_with fail
    refine (awake2 _).mono ?_
    rintro e w7 ⟨rfl, hb12⟩
    go_wp2
    go_ret
    exact ⟨rfl, hb11.trans (hb12.mono hb11.size)⟩

set_option maxRecDepth 100000 in
set_option maxHeartbeats 2000000 in
theorem lSplitNone (a : Option Addr) (c : Nat) (xs : List Int) (n k : Nat) (w : World) (hv : Rd w (.slice a xs.length c) xs) (hl : xs.length ≤ 500) (hk : k ≤ xs.length)
    (hz : ¬ 0 < xs.length) (hz0 : k = 0) :
    Calls Try.prog 12 #[.slice a xs.length c, .int .u16 n] w fun e w' => e = .returned (.bool true) ∧ Below w.heap.size w w' := by
  have hb := hv.bytes
  have h1 := wFeed (.slice none 0 0) _ 0 [] xs w (Rd.nil w) hv (by simp; omega)
  obtain ⟨v0, hcut0, hr0⟩ := hv.cut0 k hk
  obtain ⟨v1, hcut1, hr1⟩ := hv.cutL k hk
  have hbig : ¬ ((500 : Int) < (xs.length : Int)) := by omega
  have H0 := Lib.hid hr0
  have H1 := Lib.hid hr1
  clear hv hr0 hr1
  obtain ⟨S, hS⟩ : ∃ S, S = FM.next [] 0 (xs.take k) := ⟨_, rfl⟩
  obtain ⟨T, hT⟩ : ∃ T, T = FM.next S.1 S.2.1 (xs.drop k) := ⟨_, rfl⟩
  have hall : FM.next [] 0 xs = (T.1, T.2.1, S.2.2 ++ T.2.2) := by
    have := FM.feed_split _ (xs.take k) (xs.drop k) (Nat.le_refl _) (FM.bytes_take hb k)
    rw [List.take_append_drop] at this
    rw [hT, hS]
    exact this
  have hSl : S.1.length ≤ 500 := by
    have := (FM.feed_bytes _ (xs.take k) (Nat.le_refl _) (FM.bytes_take hb k)).2.1
    rw [hS]
    show (FM.feed ([] ++ xs.take k)).1.length ≤ 500
    rw [List.nil_append]
    rw [List.length_take] at this
    omega
  have hLa := Lib.hid (show S.2.2.length ≤ 500 by
    have := (FM.feed_bytes _ (xs.take k) (Nat.le_refl _) (FM.bytes_take hb k)).2.2.1
    rw [hS]
    show (FM.feed ([] ++ xs.take k)).2.2.length ≤ 500
    rw [List.nil_append]
    rw [List.length_take] at this
    omega)
  have hLb := Lib.hid (show S.2.2.length + T.2.2.length ≤ 500 by
    have h3 := (FM.feed_bytes _ xs (Nat.le_refl _) hb).2.2.1
    have h4 : (FM.next [] 0 xs).2.2.length ≤ 500 := Nat.le_trans h3 hl
    rw [hall, List.length_append] at h4
    exact h4)
  rw [hall] at h1
  have ES := Lib.hid hS
  have ET := Lib.hid hT
  clear hS hT hall
  have hz1 : ¬ ((0 : Int) < (xs.length : Int)) := by omega
  have e0 : (k : Int) = 0 := by rw [hz0]; rfl
  rw [e0] at hcut0 hcut1
  clear e0
  clear hz hz0
  go_enter Try.func12, Try.ntmps12
  go_wp2_with fail
  refine h1.mono ?_
  rintro e w1 ⟨vR, vL, rfl, hR1, hL1, hb1⟩
  obtain ⟨aR, cR, rfl, hcR⟩ := hR1.1.shape
  have hn1 := below_fresh' w1 (.cells #[.slice aR T.1.length cR, .int .i64 T.2.1] 38)
  have hg1 := split_new w1 (.slice aR T.1.length cR) (.int .i64 T.2.1)
  have hb2 := hb1.trans (hn1.mono hb1.size)
  have hR2 := hR1.below hn1
  have hL2 := hL1.below hn1
  have h2 := wFeed (.slice none 0 0) _ 0 [] (xs.take k) _ (Rd.nil _) (H0.out.below hb2) (by simp; omega)
  rw [← ES.out] at h2
  clear h1 hb1 hn1 hR1 hL1
  go_wp2_with fail
  refine h2.mono ?_
  rintro e w2 ⟨vS, vM, rfl, hS1, hM1, hb3⟩
  obtain ⟨aS, cS, rfl, hcS⟩ := hS1.1.shape
  have hn2 := below_fresh' w2 (.cells #[.slice aS S.1.length cS, .int .i64 S.2.1] 38)
  have hg2 := split_new w2 (.slice aS S.1.length cS) (.int .i64 S.2.1)
  have hg3 := (Below.keepsT (hb3.trans (hn2.mono hb3.size))) _ _ _ _ (by decide) hg1
  have hb4 := hb2.trans ((hb3.trans (hn2.mono hb3.size)).mono hb2.size)
  clear h2
  go_wp2_with fail
  have hS3 := Lib.hid (hS1.below hn2)
  have hR3 := Lib.hid ((hR2.below hb3).below hn2)
  have hL3 := Lib.hid ((hL2.below hb3).below hn2)
  have hM3 := Lib.hid (hM1.below hn2)
  have hX3 := Lib.hid (H1.out.below hb4)
  clear hS1 hM1 hR2 hL2 hb2 hb3 hn2 hg1
  generalize w2.alloc (.cells #[.slice aS S.1.length cS, .int .i64 S.2.1] 38) = w3 at hS3 hR3 hL3 hM3 hX3 hg2 hg3 hb4 ⊢
  obtain ⟨q0, q1, _, _⟩ := split_at hg2
  have hlt2 : w2.heap.size < w3.heap.size := (Array.getElem?_eq_some_iff.1 hg2).1
  have hne2 : ¬ w2.heap.size = w3.heap.size := by omega
  have HF := Lib.hid (fun (w0 : World) (hb : Below w3.heap.size w3 w0) => feed_later (w0 := w0) ET.out hS3.out.1 hX3.out (by rw [List.length_drop]; omega) hb)
  go_region_with (first
    | (go_at_call 20; refine (HF.out _ (by first | exact (Below.refl _ _).drew | exact ((Below.refl _ _).drew).alloc (by simp) _)).mono ?_; rintro e wA ⟨vT, vK, rfl, hT, hK, hbA, hbT⟩; obtain ⟨aT, cT, rfl, hcT⟩ := hT.1.shape; have hgB := (Below.keepsT hbT) _ _ _ _ (by decide) hg2; obtain ⟨f0, f1, _, _⟩ := split_at hgB; try (have hgA := split_kept hbA; obtain ⟨e0, e1, e2, e3⟩ := split_at hgA)))
  · have hnA := below_fresh' wA (.cells #[.slice aT T.1.length cT, .int .i64 T.2.1] 38)
    have hgT := split_new wA (.slice aT T.1.length cT) (.int .i64 T.2.1)
    have hbW := hbT.trans (hnA.mono hbT.size)
    have hT4 := hT.below hnA
    have hK4 := hK.below hnA
    obtain ⟨pT0, pT1, _, _⟩ := split_at hgT
    obtain ⟨pR0, pR1, _, _⟩ := split_at ((Below.keepsT hbW) _ _ _ _ (by decide) hg3)
    clear hnA hgT hbT hT hK hbA hgB f0 f1
    generalize wA.alloc (.cells #[.slice aT T.1.length cT, .int .i64 T.2.1] 38) = wz at hbW hT4 hK4 pT0 pT1 pR0 pR1 ⊢
    have hR4 := hR3.out.below hbW
    have s1 := hR4.1.str
    have s2 := hT4.1.str
    have hL4 := Lib.hid (hL3.out.below hbW)
    have hM4 := hM3.out.below hbW
    have ho0 := ownL_empty wz
    have hn0 := below_fresh' wz (.cells #[] 22)
    have hM5 := hM4.below hn0
    have hs0 := hn0.size
    have hbZ := hb4.trans (hbW.mono hb4.size)
    clear hR3 hL3 hM3 hX3 hS3 HF hg2 hg3 hbW hb4 hM4 hR4 hT4 q0 q1 hlt2 hne2
    go_wp2_with (at_builtin; refine wp_appLS rfl _ _ rfl rfl ho0 rfl hM5 (by simp) (by have := hLa.out; omega) hs0 ?_)
    intro v4 w4 ho4 hb5 hk5
    have hb6 := hn0.trans hb5
    have hK6 := hK4.below hb6
    have hs6 := hb6.size
    clear ho0 hM5 hs0 hn0 hb5 hk5 hK4 s1 s2 pT0 pT1 pR0 pR1
    go_wp2_with (at_builtin; refine wp_appLS rfl _ _ rfl rfl ho4 rfl hK6 (by have := hLa.out; omega) (by have := hLb.out; omega) hs6 ?_)
    intro v5 w5 ho5 hb7 hk7
    have hb8 := hb6.trans hb7
    have hsm := same_true _ v5 (S.2.2 ++ T.2.2) w5 (hL4.out.below hb8).rdL ho5.rdL
    have hb9 := hbZ.trans (hb8.mono hbZ.size)
    clear ho4 ho5 hK6 hs6 hb6 hb7 hb8 hk7 hbZ hL4
    go_wp2_with fail
    refine hsm.mono ?_
    rintro e w6 ⟨rfl, hb10⟩
    have hb11 := hb9.trans (hb10.mono hb9.size)
    clear hsm hb9 hb10
    go_wp2_with fail
    refine (awake2 _).mono ?_
    rintro e w7 ⟨rfl, hb12⟩
    go_wp2
    go_ret
    exact ⟨rfl, hb11.trans (hb12.mono hb11.size)⟩
  all_goals
    obtain ⟨g6, k6, b6⟩ := split_put hgA (.slice aT T.1.length cT) (.int .i64 T.2.1) w3.heap.size (Nat.le_refl _)
    have hbW := hbT.trans b6
    have hT4 := hT.keepS k6
    have hK4 := hK.keepS k6
    obtain ⟨pT0, pT1, _, _⟩ := split_at g6
    obtain ⟨pR0, pR1, _, _⟩ := split_at ((Below.keepsT hbW) _ _ _ _ (by decide) hg3)
    clear g6 k6 b6 hbT hT hK hbA hgB f0 f1 hgA e0 e1 e2 e3
    generalize (wA.setCell ⟨w3.heap.size, 0, none⟩ (.slice aT T.1.length cT)).setCell ⟨w3.heap.size, 1, none⟩ (.int .i64 T.2.1) = wz at hbW hT4 hK4 pT0 pT1 pR0 pR1 ⊢
    have hR4 := hR3.out.below hbW
    have s1 := hR4.1.str
    have s2 := hT4.1.str
    have hL4 := Lib.hid (hL3.out.below hbW)
    have hM4 := hM3.out.below hbW
    have ho0 := ownL_empty wz
    have hn0 := below_fresh' wz (.cells #[] 22)
    have hM5 := hM4.below hn0
    have hs0 := hn0.size
    have hbZ := hb4.trans (hbW.mono hb4.size)
    clear hR3 hL3 hM3 hX3 hS3 HF hg2 hg3 hbW hb4 hM4 hR4 hT4 q0 q1 hlt2 hne2
    go_wp2_with (at_builtin; refine wp_appLS rfl _ _ rfl rfl ho0 rfl hM5 (by simp) (by have := hLa.out; omega) hs0 ?_)
    intro v4 w4 ho4 hb5 hk5
    have hb6 := hn0.trans hb5
    have hK6 := hK4.below hb6
    have hs6 := hb6.size
    clear ho0 hM5 hs0 hn0 hb5 hk5 hK4 s1 s2 pT0 pT1 pR0 pR1
    go_wp2_with (at_builtin; refine wp_appLS rfl _ _ rfl rfl ho4 rfl hK6 (by have := hLa.out; omega) (by have := hLb.out; omega) hs6 ?_)
    intro v5 w5 ho5 hb7 hk7
    have hb8 := hb6.trans hb7
    have hsm := same_true _ v5 (S.2.2 ++ T.2.2) w5 (hL4.out.below hb8).rdL ho5.rdL
    have hb9 := hbZ.trans (hb8.mono hbZ.size)
    clear ho4 ho5 hK6 hs6 hb6 hb7 hb8 hk7 hbZ hL4
    go_wp2_with fail
    refine hsm.mono ?_
    rintro e w6 ⟨rfl, hb10⟩
    have hb11 := hb9.trans (hb10.mono hb9.size)
    clear hsm hb9 hb10
    go_wp2_with fail
    refine (awake2 _).mono ?_
    rintro e w7 ⟨rfl, hb12⟩
    go_wp2
    go_ret
    exact ⟨rfl, hb11.trans (hb12.mono hb11.size)⟩

set_option maxRecDepth 100000 in
set_option maxHeartbeats 1000000 in
theorem lSplit (v : Value) (xs : List Int) (n : Nat) (w : World) (h : Rd w v xs) (hn : n < 65536) :
    Calls Try.prog 12 #[v, .int .u16 n] w fun e w' => e = .returned (.bool true) ∧ Below w.heap.size w w' := by
  obtain ⟨a, c, rfl, hc⟩ := h.shape
  by_cases hbig : 500 < xs.length
  · clear h
    go_enter Try.func12, Try.ntmps12
    go_wp2_with fail
    refine (awake2 _).mono ?_
    rintro e w1 ⟨rfl, hb⟩
    go_wp2
    go_ret
    exact ⟨rfl, hb⟩
  · by_cases hz : 0 < xs.length
    · exact lSplitSome a c xs n (n % xs.length) w h hn (by omega) (Nat.le_of_lt (Nat.mod_lt _ hz)) hz rfl
    · exact lSplitNone a c xs n 0 w h (by omega) (Nat.zero_le _) hz rfl

end Go.Proofs.Ytgpbacddpfbimaa
