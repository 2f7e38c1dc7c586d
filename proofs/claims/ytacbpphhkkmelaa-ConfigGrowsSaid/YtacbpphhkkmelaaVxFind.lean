/-
  The calls of cmp.Compare, slices.BinarySearchFunc, vector.find and its literal, vector.Get. Conditions: the arguments read as vectors, valid and within the bounds where they are named.
-/
import Derived.Test.YtacbpphhkkmelaaVxRead
namespace Go.Proofs.Ytacbpphhkkmelaa.VX
open Go.RowKit
open VM (Ent)

theorem vint {x y : Int} (h : x = y) : Value.int .i64 x = Value.int .i64 y := by rw [h]
def cmpi (x a : Int) : Int := if x < a then -1 else if a < x then 1 else 0

set_option maxRecDepth 100000 in
set_option maxHeartbeats 1000000 in
theorem wCmp (x a : Int) (w : World) : Calls Try.prog 75 #[.int .i64 x, .int .i64 a] w fun e w' => e = .returned (.int .i64 (cmpi x a)) ∧ w = w' := by
  unfold cmpi
  by_cases h1 : x < a
  · rw [if_pos h1]
    go_enter Try.func75, Try.ntmps75
    go_wp2
    go_ret
    exact ⟨rfl, rfl⟩
  · rw [if_neg h1]
    by_cases h2 : a < x
    · rw [if_pos h2]
      go_enter Try.func75, Try.ntmps75
      go_wp2
      go_ret
      exact ⟨rfl, rfl⟩
    · rw [if_neg h2]
      go_enter Try.func75, Try.ntmps75
      go_wp2
      go_ret
      exact ⟨rfl, rfl⟩

set_option maxRecDepth 100000 in
set_option maxHeartbeats 1000000 in
theorem wLit (x n a : Int) (w : World) : Calls Try.prog 99 #[.agg #[.int .i64 x, .int .i64 n], .int .i64 a] w fun e w' => e = .returned (.int .i64 (cmpi x a)) ∧ Below w.heap.size w w' := by
  have h := fun w => wCmp x a w
  generalize cmpi x a = r at h ⊢
  go_enter Try.func99, Try.ntmps99
  go_wp2_with fail
  refine (h _).mono ?_
  rintro e w1 ⟨rfl, rfl⟩
  go_wp2
  go_ret
  exact ⟨rfl, below_fresh _ _⟩

set_option maxRecDepth 100000 in
set_option maxHeartbeats 2000000 in
theorem wSearch (v : Value) (xs : List Ent) (a : Int) (w : World) (h : RdV w v xs) (hv : VM.Val 0 xs) (hl : xs.length ≤ 1000) :
    Calls Try.prog 98 #[v, .int .i64 a, .func (.func 99) #[] #[]] w
      fun e w' => ∃ i : Nat, e = .returned (.tuple #[.int .i64 i, .bool (VM.fnd xs a i)]) ∧ VM.At xs a i ∧ Below w.heap.size w w' := by
  obtain ⟨ad, cap, rfl, hc, _⟩ := h.shape
  have H := Lib.hid h
  have HV := Lib.hid hv
  clear h hv
  go_enter Try.func98, Try.ntmps98
  go_wp2
  go_loopw [9, 10] (fun i j wr => ∃ p q : Nat, p ≤ q ∧ q ≤ xs.length ∧ i = .int .i64 p ∧ j = .int .i64 q ∧ Below w.heap.size w wr ∧ Hid (∀ k e, xs[k]? = some e → k < p → e.1 < a) ∧ Hid (∀ k e, xs[k]? = some e → q ≤ k → a ≤ e.1)) (fun i j _ => (intOf j - intOf i).toNat)
  case atStart => exact ⟨0, xs.length, Nat.zero_le _, Nat.le_refl _, rfl, rfl, Below.refl _ _, (by show ∀ k e, _; intro k e _ h; omega), (by show ∀ k e, _; intro k e hk h; have := (List.getElem?_eq_some_iff.1 hk).1; omega)⟩
  case round =>
    obtain ⟨p, q, hpq, hq, rfl, rfl, hbl, hlo, hhi⟩ := hrel
    by_cases hlt : p < q
    · have hq1 : (p : Int) < (q : Int) := by omega
      have hmid : (p + q) / 2 < xs.length := by omega
      obtain ⟨b, o, hi, hb, c0, c1⟩ := (H.out.below hbl).at ((p + q) / 2) xs[(p + q) / 2] (List.getElem?_eq_getElem hmid)
      rw [show (((p + q) / 2 : Nat) : Int) = ((p : Int) + (q : Int)) / 2 by omega] at hi
      have hg := Lib.hid (List.getElem?_eq_getElem hmid)
      generalize xs[(p + q) / 2] = en at c0 c1 hg
      obtain ⟨x, n⟩ := en
      simp only at c0 c1
      have hlit := wLit x n a wr
      by_cases hx : x < a
      · rw [show cmpi x a = -1 from if_pos hx] at hlit
        have hlo2 := Lib.hid (show ∀ k e, xs[k]? = some e → k < (p + q) / 2 + 1 → e.1 < a from fun k e hk hkl => by
          by_cases hkm : k = (p + q) / 2
          · subst hkm
            rw [hg.out] at hk
            cases hk
            exact hx
          · have h2 : e.1 < x := VM.val_lt HV.out hk hg.out (by omega)
            omega)
        clear hlo hg
        go_wp2_with (go_at_call 99; refine hlit.mono ?_; rintro e w1 ⟨rfl, hb1⟩)
        go_roundw
        case rel => exact ⟨(p + q) / 2 + 1, q, by omega, hq, vint (by omega), rfl, hbl.trans (hb1.mono hbl.size), hlo2, hhi⟩
        case measure => simp [intOf]; omega
      · have hc : ¬ cmpi x a < 0 := by unfold cmpi; rw [if_neg hx]; split <;> omega
        have hhi2 := Lib.hid (show ∀ k e, xs[k]? = some e → (p + q) / 2 ≤ k → a ≤ e.1 from fun k e hk hkl => by
          by_cases hkm : k = (p + q) / 2
          · subst hkm
            rw [hg.out] at hk
            cases hk
            show a ≤ x; omega
          · have h2 : x < e.1 := VM.val_lt HV.out hg.out hk (by omega)
            omega)
        generalize cmpi x a = r at hlit hc
        clear hhi hg
        go_wp2_with (go_at_call 99; refine hlit.mono ?_; rintro e w1 ⟨rfl, hb1⟩)
        go_roundw
        case rel => exact ⟨p, (p + q) / 2, by omega, by omega, rfl, vint (by omega), hbl.trans (hb1.mono hbl.size), hlo, hhi2⟩
        case measure => simp [intOf]; omega
    · obtain rfl : p = q := by omega
      have hq1 : ¬ ((p : Int) < (p : Int)) := by omega
      have hat := Lib.hid (show VM.At xs a p from ⟨hq, hlo.out, hhi.out⟩)
      by_cases hpn : p < xs.length
      · have hpi : (p : Int) < (xs.length : Int) := by omega
        obtain ⟨b, o, hi, hb, c0, c1⟩ := (H.out.below hbl).at p xs[p] (List.getElem?_eq_getElem hpn)
        have hg := Lib.hid (List.getElem?_eq_getElem hpn)
        generalize xs[p] = en at c0 c1 hg
        obtain ⟨x, n⟩ := en
        simp only at c0 c1
        have hlit := wLit x n a wr
        have hge : a ≤ x := hhi.out p _ hg.out (Nat.le_refl _)
        by_cases hx : x = a
        · have hf := Lib.hid (show VM.fnd xs a p = true by unfold VM.fnd; rw [hg.out]; exact decide_eq_true hx)
          rw [show cmpi x a = 0 by unfold cmpi; rw [if_neg (by omega), if_neg (by omega)]] at hlit
          clear hlo hhi hg hx hge
          go_wp2_with (go_at_call 99; refine hlit.mono ?_; rintro e w1 ⟨rfl, hb1⟩)
          go_ret2
          exact ⟨p, by rw [hf.out]; rfl, hat.out, hbl.trans (hb1.mono hbl.size)⟩
        · have hf := Lib.hid (show VM.fnd xs a p = false by unfold VM.fnd; rw [hg.out]; exact decide_eq_false hx)
          rw [show cmpi x a = 1 by unfold cmpi; rw [if_neg (by omega), if_pos (by omega)]] at hlit
          clear hlo hhi hg hx hge
          go_wp2_with (go_at_call 99; refine hlit.mono ?_; rintro e w1 ⟨rfl, hb1⟩)
          go_ret2
          exact ⟨p, by rw [hf.out]; rfl, hat.out, hbl.trans (hb1.mono hbl.size)⟩
      · have hpi : ¬ ((p : Int) < (xs.length : Int)) := by omega
        have hf := Lib.hid (show VM.fnd xs a p = false by unfold VM.fnd; rw [List.getElem?_eq_none (by omega)])
        clear hlo hhi
        go_wp2
        go_ret2
        exact ⟨p, by rw [hf.out]; rfl, hat.out, hbl⟩

set_option maxRecDepth 100000 in
set_option maxHeartbeats 1000000 in
theorem wFind (v : Value) (xs : List Ent) (a : Int) (w : World) (h : RdV w v xs) (hv : VM.Val 0 xs) (hl : xs.length ≤ 1000) :
    Calls Try.prog 83 #[v, .int .i64 a] w fun e w' => ∃ i : Nat, e = .returned (.tuple #[.int .i64 i, .bool (VM.fnd xs a i)]) ∧ VM.At xs a i ∧ Below w.heap.size w w' := by
  have hs := wSearch v xs a w h hv hl
  clear h hv
  go_enter Try.func83, Try.ntmps83
  go_wp2_with fail
  refine hs.mono ?_
  rintro e w1 ⟨i, rfl, hat, hb⟩
  have HA := Lib.hid hat
  clear hs hat
  obtain ⟨r, hr⟩ : ∃ r, r = VM.fnd xs a i := ⟨_, rfl⟩
  rw [← hr]
  have HR := Lib.hid hr
  clear hr
  go_wp2
  go_ret2
  exact ⟨i, by rw [← HR.out]; rfl, HA.out, hb⟩

set_option maxRecDepth 100000 in
set_option maxHeartbeats 1000000 in
theorem wGet (v : Value) (xs : List Ent) (a : Int) (w : World) (h : RdV w v xs) (hv : VM.Val 0 xs) (hl : xs.length ≤ 1000) :
    Calls Try.prog 60 #[v, .int .i64 a] w fun e w' => e = .returned (.int .i64 (VM.cnt xs a)) ∧ Below w.heap.size w w' := by
  have hs := wFind v xs a w h hv hl
  obtain ⟨ad, cap, rfl, hc, _⟩ := h.shape
  have H := Lib.hid h
  have HV := Lib.hid hv
  clear h hv
  go_enter Try.func60, Try.ntmps60
  go_wp2_with fail
  refine hs.mono ?_
  rintro e w1 ⟨i, rfl, hat, hb⟩
  have hcn := VM.cnt_at HV.out hat
  by_cases hf : VM.fnd xs a i = true
  · have hlt : i < xs.length := by
      unfold VM.fnd at hf
      split at hf
      · rename_i he
        exact (List.getElem?_eq_some_iff.1 he).1
      · cases hf
    obtain ⟨b, o, hi, hb2, c0, c1⟩ := (H.out.below hb).at i xs[i] (List.getElem?_eq_getElem hlt)
    have hli : (i : Int) < (xs.length : Int) := by omega
    rw [hf, if_pos rfl] at hcn
    have hg : xs.getD i (0, 0) = xs[i] := by simp [List.getD, List.getElem?_eq_getElem hlt]
    rw [hg] at hcn
    rw [hf]
    generalize xs[i] = en at c0 c1 hcn
    obtain ⟨x, n⟩ := en
    simp only at c0 c1 hcn
    have HC := Lib.hid hcn
    clear hs hcn hat hf hg
    go_wp2
    go_ret
    exact ⟨by rw [HC.out]; rfl, hb⟩
  · have hf' : VM.fnd xs a i = false := by simpa using hf
    rw [hf', if_neg (by decide)] at hcn
    rw [hf']
    have HC := Lib.hid hcn
    clear hs hcn hat hf hf'
    go_wp2
    go_ret
    exact ⟨by rw [HC.out]; rfl, hb⟩

end Go.Proofs.Ytacbpphhkkmelaa.VX
