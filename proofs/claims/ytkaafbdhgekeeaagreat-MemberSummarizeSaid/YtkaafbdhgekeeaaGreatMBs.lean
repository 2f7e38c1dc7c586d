/-
  The library's binary searches at integers and at entries of weights, in ascending lists: found just where the element is there. Conditions: the list reads, ascends, is short.
-/
import Derived.Test.YtkaafbdhgekeeaaGreatMIni
namespace Go.Proofs.YtkaafbdhgekeeaaGreat
open Go.RowKit
open MM (Mem Ent Sm Tri)

theorem srt_lt {α : Type} {key : α → Int} {l : List α} (h : MM.Srt key l) {i j : Nat} {x y : α} (hi : l[i]? = some x) (hj : l[j]? = some y) (hij : i < j) : key x < key y := by
  obtain ⟨h1, rfl⟩ := List.getElem?_eq_some_iff.1 hi
  obtain ⟨h2, rfl⟩ := List.getElem?_eq_some_iff.1 hj
  exact List.pairwise_iff_getElem.1 h i j h1 h2 hij
/-- Where the search ends. -/
structure AtK {α : Type} (key : α → Int) (l : List α) (a : Int) (i : Nat) : Prop where
  le : i ≤ l.length
  lo : ∀ k e, l[k]? = some e → k < i → key e < a
  hi : ∀ k e, l[k]? = some e → i ≤ k → a ≤ key e
/-- What the search tells. -/
def fndK {α : Type} (key : α → Int) (l : List α) (a : Int) (i : Nat) : Bool := match l[i]? with
  | some e => decide (key e = a)
  | none => false
theorem fndK_lk {α : Type} {key : α → Int} {l : List α} (hs : MM.Srt key l) {a : Int} {i : Nat} (h : AtK key l a i) : (fndK key l a i = true ↔ ∃ e, l[i]? = some e ∧ MM.lk key l a = some e) ∧ (fndK key l a i = false → MM.lk key l a = none) := by
  unfold fndK
  cases hi : l[i]? with
  | none =>
    refine ⟨by simp, fun _ => MM.lk_none key fun y hy => ?_⟩
    obtain ⟨k, hk⟩ := List.getElem?_of_mem hy
    have hlen := List.getElem?_eq_none_iff.1 hi
    have := (List.getElem?_eq_some_iff.1 hk).1
    have := h.lo k y hk (by omega)
    omega
  | some e =>
    refine ⟨⟨fun hd => ⟨e, rfl, ?_⟩, fun ⟨e', h1, h2⟩ => ?_⟩, fun hd => MM.lk_none key fun y hy => ?_⟩
    · have hd' : key e = a := of_decide_eq_true hd
      rw [← hd']
      exact MM.lk_mem key hs (List.mem_of_getElem? hi)
    · cases h1
      exact decide_eq_true (MM.lk_some key h2).2
    · obtain ⟨k, hk⟩ := List.getElem?_of_mem hy
      have hne : key e ≠ a := of_decide_eq_false hd
      have hge := h.hi i e hi (Nat.le_refl _)
      rcases Nat.lt_trichotomy k i with h1 | h1 | h1
      · have := h.lo k y hk h1; omega
      · subst h1; rw [hi] at hk; cases hk; exact hne
      · have := srt_lt hs hi hk h1; omega

theorem cLess (x y : Int) (w : World) : Calls Tryz.prog 61 #[.int .i64 x, .int .i64 y] w fun e w' => e = .returned (.bool (decide (x < y))) ∧ w' = w := by
  have H := Lib.hid cNaN
  go_enter Tryz.func61, Tryz.ntmps61
  go_wp2_with (go_at_call 78; refine (H.out _ _).mono ?_; rintro e w1 ⟨rfl, rfl⟩)
  go_ret
  exact ⟨rfl, rfl⟩
theorem cNaN2 (x : Int) (w : World) : Calls Tryz.prog 62 #[.int .i64 x] w fun e w' => e = .returned (.bool false) ∧ w' = w := by
  have hx : (x != x) = false := by simp
  go_enter Tryz.func62, Tryz.ntmps62
  go_wp2
  go_ret
  exact ⟨rfl, rfl⟩

set_option maxRecDepth 100000 in
set_option maxHeartbeats 2000000 in
theorem cSearchI (v : Value) (xs : List Int) (a : Int) (w : World) (h : RdI w v xs) (hs : MM.Srt MM.kI xs) (hl : xs.length ≤ 1000000) :
    Calls Tryz.prog 31 #[v, .int .i64 a] w fun e w' => ∃ i : Nat, e = .returned (.tuple #[.int .i64 i, .bool (fndK MM.kI xs a i)]) ∧ AtK MM.kI xs a i ∧ w' = w := by
  obtain ⟨ad, cap, rfl, hc, _⟩ := h.shape
  have H := Lib.hid h
  have HV := Lib.hid hs
  have HN := Lib.hid cNaN2
  clear h hs
  go_enter Tryz.func31, Tryz.ntmps31
  go_wp2
  go_loop [7, 8] (fun i j => ∃ p q : Nat, p ≤ q ∧ q ≤ xs.length ∧ i = .int .i64 p ∧ j = .int .i64 q ∧ Hid (∀ k e, xs[k]? = some e → k < p → MM.kI e < a) ∧ Hid (∀ k e, xs[k]? = some e → q ≤ k → a ≤ MM.kI e)) (fun i j => (intOf j - intOf i).toNat)
  case atStart => exact ⟨0, xs.length, Nat.zero_le _, Nat.le_refl _, rfl, rfl, Lib.hid (by intro k e _ h; omega), Lib.hid (by intro k e hk h; have := (List.getElem?_eq_some_iff.1 hk).1; omega)⟩
  case round =>
    obtain ⟨p, q, hpq, hq, rfl, rfl, hlo, hhi⟩ := hrel
    by_cases hlt : p < q
    · have hq1 : (p : Int) < (q : Int) := by omega
      have hmid : (p + q) / 2 < xs.length := by omega
      obtain ⟨b, o, hi, hb, c0⟩ := atI H.out ((p + q) / 2) xs[(p + q) / 2] (List.getElem?_eq_getElem hmid)
      rw [show (((p + q) / 2 : Nat) : Int) = ((p : Int) + (q : Int)) / 2 by omega] at hi
      have hg := Lib.hid (List.getElem?_eq_getElem hmid)
      generalize xs[(p + q) / 2] = x at c0 hg
      have HC := Lib.hid (fun w => cLess x a w)
      by_cases hx : x < a
      · have hlo2 := Lib.hid (show ∀ k e, xs[k]? = some e → k < (p + q) / 2 + 1 → MM.kI e < a from fun k e hk hkl => by
          by_cases hkm : k = (p + q) / 2
          · subst hkm
            rw [hg.out] at hk
            cases hk
            exact hx
          · have h2 : e < x := srt_lt HV.out hk hg.out (by omega)
            show e < a; omega)
        clear hlo hg
        go_wp2_with (go_at_call 61; refine (HC.out _).mono ?_; rintro e w1 ⟨rfl, rfl⟩)
        go_round
        case rel => exact ⟨(p + q) / 2 + 1, q, by omega, hq, vint (by omega), rfl, hlo2, hhi⟩
        case measure => simp [intOf]; omega
      · have hhi2 := Lib.hid (show ∀ k e, xs[k]? = some e → (p + q) / 2 ≤ k → a ≤ MM.kI e from fun k e hk hkl => by
          by_cases hkm : k = (p + q) / 2
          · subst hkm
            rw [hg.out] at hk
            cases hk
            show a ≤ x; omega
          · have h2 : x < e := srt_lt HV.out hg.out hk (by omega)
            show a ≤ e; omega)
        clear hhi hg
        go_wp2_with (go_at_call 61; refine (HC.out _).mono ?_; rintro e w1 ⟨rfl, rfl⟩)
        go_round
        case rel => exact ⟨p, (p + q) / 2, by omega, by omega, rfl, vint (by omega), hlo, hhi2⟩
        case measure => simp [intOf]; omega
    · obtain rfl : p = q := by omega
      have hq1 : ¬ ((p : Int) < (p : Int)) := by omega
      have hat := Lib.hid (show AtK MM.kI xs a p from ⟨hq, hlo.out, hhi.out⟩)
      by_cases hpn : p < xs.length
      · have hpi : (p : Int) < (xs.length : Int) := by omega
        obtain ⟨b, o, hi, hb, c0⟩ := atI H.out p xs[p] (List.getElem?_eq_getElem hpn)
        have hg := Lib.hid (List.getElem?_eq_getElem hpn)
        generalize xs[p] = x at c0 hg
        by_cases hx : x = a
        · have hf := Lib.hid (show fndK MM.kI xs a p = true by unfold fndK; rw [hg.out]; exact decide_eq_true hx)
          have hxe : (x == a) = true := beq_t hx
          clear hlo hhi hg hx
          go_wp2_with (go_at_call 62; refine (HN.out _ _).mono ?_; rintro e w1 ⟨rfl, rfl⟩)
          go_ret2
          exact ⟨p, by rw [hf.out]; rfl, hat.out, rfl⟩
        · have hf := Lib.hid (show fndK MM.kI xs a p = false by unfold fndK; rw [hg.out]; exact decide_eq_false hx)
          have hxe : (x == a) = false := beq_f hx
          clear hlo hhi hg hx
          go_wp2_with (go_at_call 62; refine (HN.out _ _).mono ?_; rintro e w1 ⟨rfl, rfl⟩)
          go_ret2
          exact ⟨p, by rw [hf.out]; rfl, hat.out, rfl⟩
      · have hpi : ¬ ((p : Int) < (xs.length : Int)) := by omega
        have hf := Lib.hid (show fndK MM.kI xs a p = false by unfold fndK; rw [List.getElem?_eq_none (by omega)])
        clear hlo hhi
        go_wp2
        go_ret2
        exact ⟨p, by rw [hf.out]; rfl, hat.out, rfl⟩

end Go.Proofs.YtkaafbdhgekeeaaGreat
