/-
  Changes, proposals and integers in memory; the comparisons of whole structs; the small functions on servers, administrators, rules. No conditions beyond those that each lemma names.
-/
import Derived.Test.YtacbpphhkkmelaaProg
import Derived.Test.YtacbpphhkkmelaaBase
import Derived.Test.YtacbpphhkkmelaaJMath
import Derived.Deep.QuietTactic
import Derived.BigQuiet
import Derived.Laws.StructEq
namespace Go.Proofs.Ytacbpphhkkmelaa
open Go.RowKit
open JM (Chg)

def encC : Chg → List Value
  | (k, s, t, v, a, b, c) => [.int .i64 k, .int .i64 s, .int .i64 t, .int .i64 v, .int .i64 a, .int .i64 b, .int .i64 c]
def encI (x : Int) : List Value := [.int .i64 x]
/-- A proposal as its administrator, its number and where its changes lie. -/
abbrev Pro := Int × Int × Option Addr × Nat × Nat
def encQ : Pro → List Value
  | (a, n, ad, l, c) => [.int .i64 a, .int .i64 n, .slice ad l c]
/-- The values. -/
abbrev cv (k s t v a b c : Int) : Value := .agg #[.int .i64 k, .int .i64 s, .int .i64 t, .int .i64 v, .int .i64 a, .int .i64 b, .int .i64 c]
abbrev rl (k c f : Int) : Value := .agg #[.int .i64 k, .int .i64 c, .int .i64 f]
abbrev pv (a n : Int) (sv : Value) : Value := .agg #[.int .i64 a, .int .i64 n, sv]
def cvT : Chg → Value
  | (k, s, t, v, a, b, c) => cv k s t v a b c

theorem chgE : IsElem Try.prog 43 63 7 56 encC where
  ht := Try.underlying43
  info := by
    obtain ⟨i0, hi, hz0, hz1, hz2⟩ := info_parts (show (Try.prog.info? 63).map (fun i => (i.zero, i.size, i.bytes)) = some (some (.agg #[.int .i64 0, .int .i64 0, .int .i64 0, .int .i64 0, .int .i64 0, .int .i64 0, .int .i64 0]), 7, 56) by kernel_rfl)
    exact ⟨i0, _, hi, hz0, hz1, hz2, rfl⟩
  len := fun _ => rfl
  one := by
    rintro ⟨k, s, t, v, a, b, c⟩ u hu
    simp only [encC, List.mem_cons, List.mem_nil_iff, or_false] at hu
    rcases hu with rfl | rfl | rfl | rfl | rfl | rfl | rfl <;> rfl
  pos := by decide
  fits := by decide
theorem intE : IsElem Try.prog 36 3 1 8 encI where
  ht := Try.underlying36
  info := by
    obtain ⟨i0, hi, hz0, hz1, hz2⟩ := info_parts (show (Try.prog.info? 3).map (fun i => (i.zero, i.size, i.bytes)) = some (some (.int .i64 0), 1, 8) by kernel_rfl)
    exact ⟨i0, _, hi, hz0, hz1, hz2, rfl⟩
  len := fun _ => rfl
  one := by intro x u hu; simp [encI] at hu; subst hu; rfl
  pos := by decide
  fits := by decide
abbrev RdC := RdG encC 7
abbrev OwnC := OwnG encC 63 7
abbrev RdI := RdG encI 1
abbrev OwnI := OwnG encI 3 1
theorem hlC : 0 < 7 ∧ ∀ x, (encC x).length = 7 := ⟨by decide, fun _ => rfl⟩
theorem hlI : 0 < 1 ∧ ∀ x, (encI x).length = 1 := ⟨by decide, fun _ => rfl⟩
theorem drop_get {α : Type} {xs : List α} {k : Nat} (h : k < xs.length) : xs.drop k = xs[k] :: xs.drop (k + 1) := List.drop_eq_getElem_cons h

/-- 'v[k]' of changes, of integers. -/
theorem atC {w : World} {a : Option Addr} {n c : Nat} {xs : List Chg} (h : RdC w (.slice a n c) xs) (i : Nat) (k s t v x y z : Int) (hk : xs[i]? = some (k, s, t, v, x, y, z)) :
    ∃ b o, (∀ w0, (Instr.indexAt 43 (.slice a n c) (.int .i64 (i : Int))).run Try.prog w0 = .ok (.pointer (some ⟨b, o, none⟩)) w0) ∧ b < w.heap.size ∧
      w.cell? ⟨b, o, none⟩ = some (.int .i64 k) ∧ w.cell? ⟨b, o + 1, none⟩ = some (.int .i64 s) ∧ w.cell? ⟨b, o + 2, none⟩ = some (.int .i64 t) ∧ w.cell? ⟨b, o + 3, none⟩ = some (.int .i64 v) ∧
      w.cell? ⟨b, o + 4, none⟩ = some (.int .i64 x) ∧ w.cell? ⟨b, o + 5, none⟩ = some (.int .i64 y) ∧ w.cell? ⟨b, o + 6, none⟩ = some (.int .i64 z) := by
  obtain ⟨b, o, h1, h2, h3⟩ := h.at_ chgE i _ hk
  exact ⟨b, o, h1, h2, h3 0 _ rfl, h3 1 _ rfl, h3 2 _ rfl, h3 3 _ rfl, h3 4 _ rfl, h3 5 _ rfl, h3 6 _ rfl⟩
theorem atI {w : World} {a : Option Addr} {n c : Nat} {xs : List Int} (h : RdI w (.slice a n c) xs) (k : Nat) (x : Int) (hk : xs[k]? = some x) :
    ∃ b o, (∀ w0, (Instr.indexAt 36 (.slice a n c) (.int .i64 (k : Int))).run Try.prog w0 = .ok (.pointer (some ⟨b, o, none⟩)) w0) ∧ b < w.heap.size ∧ w.cell? ⟨b, o, none⟩ = some (.int .i64 x) := by
  obtain ⟨b, o, h1, h2, h3⟩ := h.at_ intE k x hk
  exact ⟨b, o, h1, h2, h3 0 _ rfl⟩

theorem beq_t {a b : Int} (h : a = b) : (a == b) = true := by simpa using h
theorem beq_f {a b : Int} (h : a ≠ b) : (a == b) = false := by simpa using h
theorem bne_t {a b : Int} (h : a ≠ b) : (a != b) = true := by simpa using h
theorem bne_f {a b : Int} (h : a = b) : (a != b) = false := by simpa using h

/-- '==', '!=' of rules and of changes. -/
theorem eq_rule (a b c x y z : Int) (w : World) : (Op.equalIn 10000 61 (rl a b c) (rl x y z)).run Try.prog w = .ok (decide (a = x ∧ b = y ∧ c = z)) w := by
  have u3 := Try.underlying3
  have a3 := Try.isAgg3
  have z3 := Try.sizeOf3
  have hS : Try.prog.underlying 61 = some (.struct (Try.prog.fieldsOf 61)) := by kernel_rfl
  have hp : Try.prog.stoodInHeld 61 = false := by kernel_rfl
  rw [show (10000 : Nat) = 9999 + 1 from rfl, run_equalIn_agg w 9999 61 _ _ hS hp]
  simp only [Program.fieldsOf, Try.underlying61]
  go_simp
  by_cases h1 : a = x <;> by_cases h2 : b = y <;> by_cases h3 : c = z <;> simp [h1, h2, h3]
theorem eql_rule (a b c x y z : Int) (w : World) : (binOp .eql 61 (rl a b c) (rl x y z)).run Try.prog w = .ok (.bool (decide (a = x ∧ b = y ∧ c = z))) w := by
  rw [run_eql_struct, eq_rule]; rfl
theorem neq_rule (a b c x y z : Int) (w : World) : (binOp .neq 61 (rl a b c) (rl x y z)).run Try.prog w = .ok (.bool (!decide (a = x ∧ b = y ∧ c = z))) w := by
  rw [run_neq_struct, eq_rule]; rfl

theorem eq_rule' (d : Nat) (a b c x y z : Int) (w : World) : (Op.equalIn (d + 2) 61 (rl a b c) (rl x y z)).run Try.prog w = .ok (decide (a = x ∧ b = y ∧ c = z)) w := by
  have u3 := Try.underlying3
  have a3 := Try.isAgg3
  have z3 := Try.sizeOf3
  have hS : Try.prog.underlying 61 = some (.struct (Try.prog.fieldsOf 61)) := by kernel_rfl
  have hp : Try.prog.stoodInHeld 61 = false := by kernel_rfl
  rw [run_equalIn_agg w (d + 1) 61 _ _ hS hp]
  simp only [Program.fieldsOf, Try.underlying61]
  go_simp
  by_cases h1 : a = x <;> by_cases h2 : b = y <;> by_cases h3 : c = z <;> simp [h1, h2, h3]
theorem eq_chg (x y : Chg) (w : World) : (Op.equalIn 10000 63 (cvT x) (cvT y)).run Try.prog w = .ok (decide (x = y)) w := by
  obtain ⟨k, s, t, v, a, b, c⟩ := x
  obtain ⟨k', s', t', v', a', b', c'⟩ := y
  have u3 := Try.underlying3
  have a3 := Try.isAgg3
  have z3 := Try.sizeOf3
  have a23 := Try.isAgg61
  have z23 := Try.sizeOf61
  have hr := fun w => eq_rule' 9997 a b c a' b' c' w
  have hS : Try.prog.underlying 63 = some (.struct (Try.prog.fieldsOf 63)) := by kernel_rfl
  have hp : Try.prog.stoodInHeld 63 = false := by kernel_rfl
  show (Op.equalIn 10000 63 (cv k s t v a b c) (cv k' s' t' v' a' b' c')).run Try.prog w = _
  rw [show (10000 : Nat) = 9999 + 1 from rfl, run_equalIn_agg w 9999 63 _ _ hS hp]
  simp only [Program.fieldsOf, Try.underlying63]
  go_simp
  by_cases h1 : k = k' <;> by_cases h2 : s = s' <;> by_cases h3 : t = t' <;> by_cases h4 : v = v' <;> by_cases h5 : a = a' <;> by_cases h6 : b = b' <;> by_cases h7 : c = c' <;> simp [h1, h2, h3, h4, h5, h6, h7]
theorem neq_chg (x y : Chg) (w : World) : (binOp .neq 63 (cvT x) (cvT y)).run Try.prog w = .ok (.bool (!decide (x = y))) w := by
  obtain ⟨k, s, t, v, a, b, c⟩ := x
  obtain ⟨k', s', t', v', a', b', c'⟩ := y
  show (binOp .neq 63 (cv k s t v a b c) (cv k' s' t' v' a' b' c')).run Try.prog w = _
  rw [run_neq_struct]
  have := eq_chg (k, s, t, v, a, b, c) (k', s', t', v', a', b', c') w
  rw [show cvT (k, s, t, v, a, b, c) = cv k s t v a b c from rfl, show cvT (k', s', t', v', a', b', c') = cv k' s' t' v' a' b' c' from rfl] at this
  rw [this]; rfl

theorem rServer (x : Int) (w : World) : Calls Try.prog 96 #[.int .i64 x] w fun e w' => e = .returned (.bool (JM.isSrv x)) ∧ w = w' := by
  obtain ⟨R, hR⟩ : ∃ R, R = JM.isSrv x := ⟨_, rfl⟩
  rw [← hR]
  by_cases h1 : 1 ≤ x
  · by_cases h2 : x ≤ 12
    · have e := Lib.hid (show R = true by rw [hR]; exact decide_eq_true ⟨h1, h2⟩)
      clear hR
      go_enter Try.func96, Try.ntmps96
      go_wp2
      go_ret
      rw [e.out]; exact ⟨rfl, rfl⟩
    · have e := Lib.hid (show R = false by rw [hR]; exact decide_eq_false (by omega))
      have hd : decide (x ≤ 12) = false := decide_eq_false h2
      clear hR
      go_enter Try.func96, Try.ntmps96
      go_wp2
      go_ret
      rw [e.out]; exact ⟨rfl, rfl⟩
  · have e := Lib.hid (show R = false by rw [hR]; exact decide_eq_false (by omega))
    have h2' : x < 1 := by omega
    clear hR h1
    go_enter Try.func96, Try.ntmps96
    go_wp2
    go_ret
    rw [e.out]; exact ⟨rfl, rfl⟩
theorem rAdmin (x : Int) (w : World) : Calls Try.prog 76 #[.int .i64 x] w fun e w' => e = .returned (.bool (JM.isAdm x)) ∧ w = w' := by
  obtain ⟨R, hR⟩ : ∃ R, R = JM.isAdm x := ⟨_, rfl⟩
  rw [← hR]
  by_cases h1 : 201 ≤ x
  · by_cases h2 : x < 204
    · have e := Lib.hid (show R = true by rw [hR]; exact decide_eq_true ⟨h1, by omega⟩)
      clear hR
      go_enter Try.func76, Try.ntmps76
      go_wp2
      go_ret
      rw [e.out]; exact ⟨rfl, rfl⟩
    · have e := Lib.hid (show R = false by rw [hR]; exact decide_eq_false (by omega))
      have hd : decide (x < 204) = false := decide_eq_false h2
      clear hR
      go_enter Try.func76, Try.ntmps76
      go_wp2
      go_ret
      rw [e.out]; exact ⟨rfl, rfl⟩
  · have e := Lib.hid (show R = false by rw [hR]; exact decide_eq_false (by omega))
    have h2' : x < 201 := by omega
    clear hR h1
    go_enter Try.func76, Try.ntmps76
    go_wp2
    go_ret
    rw [e.out]; exact ⟨rfl, rfl⟩
theorem cAdmin (x : Int) (w : World) : Calls Try.prog 70 #[.int .i64 x] w fun e w' => e = .returned (.bool (JM.isAdm x)) ∧ w = w' := by
  obtain ⟨R, hR⟩ : ∃ R, R = JM.isAdm x := ⟨_, rfl⟩
  rw [← hR]
  by_cases h1 : 201 ≤ x
  · by_cases h2 : x < 204
    · have e := Lib.hid (show R = true by rw [hR]; exact decide_eq_true ⟨h1, by omega⟩)
      clear hR
      go_enter Try.func70, Try.ntmps70
      go_wp2
      go_ret
      rw [e.out]; exact ⟨rfl, rfl⟩
    · have e := Lib.hid (show R = false by rw [hR]; exact decide_eq_false (by omega))
      have hd : decide (x < 204) = false := decide_eq_false h2
      clear hR
      go_enter Try.func70, Try.ntmps70
      go_wp2
      go_ret
      rw [e.out]; exact ⟨rfl, rfl⟩
  · have e := Lib.hid (show R = false by rw [hR]; exact decide_eq_false (by omega))
    have h2' : x < 201 := by omega
    clear hR h1
    go_enter Try.func70, Try.ntmps70
    go_wp2
    go_ret
    rw [e.out]; exact ⟨rfl, rfl⟩

/-- What 'min' of integers gives. -/
def lo (m : Int) : Int := if m < 1 then m else 1
theorem cFits (n m : Int) (w : World) : Calls Try.prog 71 #[.int .i64 n, .int .i64 m] w fun e w' => e = .returned (.bool (JM.fit n m)) ∧ w = w' := by
  obtain ⟨R, hR⟩ : ∃ R, R = JM.fit n m := ⟨_, rfl⟩
  rw [← hR]
  by_cases h0 : m < 1
  · by_cases h1 : m ≤ n
    · by_cases h2 : n ≤ m
      · have e := Lib.hid (show R = true by rw [hR]; exact decide_eq_true ⟨by rw [if_pos h0]; exact h1, h2⟩)
        clear hR
        go_enter Try.func71, Try.ntmps71
        go_wp2
        go_ret
        rw [e.out]; exact ⟨rfl, rfl⟩
      · have e := Lib.hid (show R = false by rw [hR]; exact decide_eq_false (fun h => h2 h.2))
        have hd : decide (n ≤ m) = false := decide_eq_false h2
        clear hR
        go_enter Try.func71, Try.ntmps71
        go_wp2
        go_ret
        rw [e.out]; exact ⟨rfl, rfl⟩
    · have e := Lib.hid (show R = false by rw [hR]; exact decide_eq_false (fun h => h1 (by have := h.1; rw [if_pos h0] at this; exact this)))
      clear hR
      go_enter Try.func71, Try.ntmps71
      go_wp2
      go_ret
      rw [e.out]; exact ⟨rfl, rfl⟩
  · by_cases h1 : 1 ≤ n
    · by_cases h2 : n ≤ m
      · have e := Lib.hid (show R = true by rw [hR]; exact decide_eq_true ⟨by rw [if_neg h0]; exact h1, h2⟩)
        clear hR
        go_enter Try.func71, Try.ntmps71
        go_wp2
        go_ret
        rw [e.out]; exact ⟨rfl, rfl⟩
      · have e := Lib.hid (show R = false by rw [hR]; exact decide_eq_false (fun h => h2 h.2))
        have hd : decide (n ≤ m) = false := decide_eq_false h2
        clear hR
        go_enter Try.func71, Try.ntmps71
        go_wp2
        go_ret
        rw [e.out]; exact ⟨rfl, rfl⟩
    · have e := Lib.hid (show R = false by rw [hR]; exact decide_eq_false (fun h => h1 (by have := h.1; rw [if_neg h0] at this; exact this)))
      clear hR
      go_enter Try.func71, Try.ntmps71
      go_wp2
      go_ret
      rw [e.out]; exact ⟨rfl, rfl⟩

set_option maxHeartbeats 1000000 in
theorem cValRule (k c f : Int) (w : World) : Calls Try.prog 92 #[rl k c f] w fun e w' => e = .returned (.int .i64 (JM.errR k c f)) ∧ Below w.heap.size w w' := by
  obtain ⟨R, hR⟩ : ∃ R, R = JM.errR k c f := ⟨_, rfl⟩
  rw [← hR]
  have HR := Lib.hid hR
  clear hR
  go_enter Try.func92, Try.ntmps92
  go_wp2
  go_quiet (fail)
  go_wp2
  all_goals
    go_ret
    refine ⟨ret_int ?_, (below_fresh _ _).trans (below_drewN _ _ _)⟩
    rw [HR.out]
    clear HR
    unfold JM.errR
    simp only [beq_iff_eq, beq_eq_false_iff_ne, decide_eq_true_eq, decide_eq_false_iff_not, Bool.not_eq_true', Bool.not_eq_false', ne_eq] at *
    (repeat' split) <;> omega

set_option maxRecDepth 100000 in
set_option maxHeartbeats 1000000 in
theorem rValRule (k c f : Int) (w : World) : Calls Try.prog 97 #[rl k c f] w fun e w' => e = .returned (.int .i64 (JM.errR k c f)) ∧ Below w.heap.size w w' := by
  obtain ⟨R, hR⟩ : ∃ R, R = JM.errR k c f := ⟨_, rfl⟩
  rw [← hR]
  have HR := Lib.hid hR
  clear hR
  have hs := fun w => rServer c w
  obtain ⟨S, hS⟩ : ∃ S, S = JM.isSrv c := ⟨_, rfl⟩
  rw [← hS] at hs
  have HS := Lib.hid (show S = true ↔ 1 ≤ c ∧ c ≤ 12 by rw [hS]; exact JM.isSrv_iff)
  clear hS
  have HC := Lib.hid hs
  clear hs
  cases S
  all_goals
    go_enter Try.func97, Try.ntmps97
    go_wp2_with (go_at_call 96; refine (HC.out _).mono ?_; rintro e w1 ⟨rfl, rfl⟩)
    all_goals
      go_ret
      refine ⟨ret_int ?_, below_fresh _ _⟩
      rw [HR.out]
      have hx := HS.out
      simp only [true_iff, false_iff, reduceCtorEq] at hx
      clear HR HC HS
      unfold JM.errR
      simp only [bne_iff_ne, bne_eq_false_iff_eq, ne_eq] at *
      (repeat' split) <;> omega

end Go.Proofs.Ytacbpphhkkmelaa
