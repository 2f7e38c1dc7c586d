/-
  Members, servers, sets and lists of servers in memory; the small functions on rules and servers. No conditions beyond those that each lemma names.
-/
import Derived.Test.YtbbgjckiooejhaaProg
import Derived.Test.YtbbgjckiooejhaaSl
import Derived.Test.YtbbgjckiooejhaaQRun
import Derived.Deep.QuietTactic
import Derived.BigQuiet
import Derived.Laws.StructEq
namespace Go.Proofs.Ytbbgjckiooejhaa
open Go.RowKit
open QM (Mem)

def encM (m : Mem) : List Value := [.int .i64 m.1, .int .i64 m.2]
def encI (x : Int) : List Value := [.int .i64 x]
def encS (s : Nat) : List Value := [.int .u16 (s : Int)]
abbrev SlV := Option Addr × Nat × Nat
def slV (s : SlV) : Value := .slice s.1 s.2.1 s.2.2
def encL (s : SlV) : List Value := [slV s]

theorem memE : IsElem Try.prog 24 44 2 16 encM where
  ht := Try.underlying24
  info := by
    obtain ⟨i0, hi, hz0, hz1, hz2⟩ := info_parts (show (Try.prog.info? 44).map (fun i => (i.zero, i.size, i.bytes)) = some (some (.agg #[.int .i64 0, .int .i64 0]), 2, 16) by kernel_rfl)
    exact ⟨i0, _, hi, hz0, hz1, hz2, rfl⟩
  len := fun _ => rfl
  one := by intro x u hu; simp [encM] at hu; rcases hu with rfl | rfl <;> rfl
  pos := by decide
  fits := by decide
theorem intE : IsElem Try.prog 33 3 1 8 encI where
  ht := Try.underlying33
  info := by
    obtain ⟨i0, hi, hz0, hz1, hz2⟩ := info_parts (show (Try.prog.info? 3).map (fun i => (i.zero, i.size, i.bytes)) = some (some (.int .i64 0), 1, 8) by kernel_rfl)
    exact ⟨i0, _, hi, hz0, hz1, hz2, rfl⟩
  len := fun _ => rfl
  one := by intro x u hu; simp [encI] at hu; subst hu; rfl
  pos := by decide
  fits := by decide
theorem setE : IsElem Try.prog 57 54 1 2 encS where
  ht := Try.underlying57
  info := by
    obtain ⟨i0, hi, hz0, hz1, hz2⟩ := info_parts (show (Try.prog.info? 54).map (fun i => (i.zero, i.size, i.bytes)) = some (some (.int .u16 0), 1, 2) by kernel_rfl)
    exact ⟨i0, _, hi, hz0, hz1, hz2, rfl⟩
  len := fun _ => rfl
  one := by intro x u hu; simp [encS] at hu; subst hu; rfl
  pos := by decide
  fits := by decide
theorem listE : IsElem Try.prog 36 33 1 24 encL where
  ht := Try.underlying36
  info := by
    obtain ⟨i0, hi, hz0, hz1, hz2⟩ := info_parts (show (Try.prog.info? 33).map (fun i => (i.zero, i.size, i.bytes)) = some (some (.slice none 0 0), 1, 24) by kernel_rfl)
    exact ⟨i0, _, hi, hz0, hz1, hz2, rfl⟩
  len := fun _ => rfl
  one := by intro x u hu; simp [encL] at hu; subst hu; rfl
  pos := by decide
  fits := by decide

abbrev RdM := RdG encM 2
abbrev OwnM := OwnG encM 44 2
abbrev RdI := RdG encI 1
abbrev OwnI := OwnG encI 3 1
abbrev RdS := RdG encS 1
abbrev OwnS := OwnG encS 54 1

/-- 'v[k]' of members, of integers, of sets. -/
theorem atM {w : World} {a : Option Addr} {n c : Nat} {xs : List Mem} (h : RdM w (.slice a n c) xs) (k : Nat) (m : Mem) (hk : xs[k]? = some m) :
    ∃ b o, (∀ w0, (Instr.indexAt 24 (.slice a n c) (.int .i64 (k : Int))).run Try.prog w0 = .ok (.pointer (some ⟨b, o, none⟩)) w0) ∧ b < w.heap.size ∧ w.cell? ⟨b, o, none⟩ = some (.int .i64 m.1) ∧ w.cell? ⟨b, o + 1, none⟩ = some (.int .i64 m.2) := by
  obtain ⟨b, o, h1, h2, h3⟩ := h.at_ memE k m hk
  exact ⟨b, o, h1, h2, h3 0 _ rfl, h3 1 _ rfl⟩
theorem atI {w : World} {a : Option Addr} {n c : Nat} {xs : List Int} (h : RdI w (.slice a n c) xs) (k : Nat) (x : Int) (hk : xs[k]? = some x) :
    ∃ b o, (∀ w0, (Instr.indexAt 33 (.slice a n c) (.int .i64 (k : Int))).run Try.prog w0 = .ok (.pointer (some ⟨b, o, none⟩)) w0) ∧ b < w.heap.size ∧ w.cell? ⟨b, o, none⟩ = some (.int .i64 x) := by
  obtain ⟨b, o, h1, h2, h3⟩ := h.at_ intE k x hk
  exact ⟨b, o, h1, h2, h3 0 _ rfl⟩
theorem atS {w : World} {a : Option Addr} {n c : Nat} {xs : List Nat} (h : RdS w (.slice a n c) xs) (k : Nat) (x : Nat) (hk : xs[k]? = some x) :
    ∃ b o, (∀ w0, (Instr.indexAt 57 (.slice a n c) (.int .i64 (k : Int))).run Try.prog w0 = .ok (.pointer (some ⟨b, o, none⟩)) w0) ∧ b < w.heap.size ∧ w.cell? ⟨b, o, none⟩ = some (.int .u16 (x : Int)) := by
  obtain ⟨b, o, h1, h2, h3⟩ := h.at_ setE k x hk
  exact ⟨b, o, h1, h2, h3 0 _ rfl⟩
theorem hlM : 0 < 2 ∧ ∀ x, (encM x).length = 2 := ⟨by decide, fun _ => rfl⟩
theorem hlI : 0 < 1 ∧ ∀ x, (encI x).length = 1 := ⟨by decide, fun _ => rfl⟩
theorem hlS : 0 < 1 ∧ ∀ x, (encS x).length = 1 := ⟨by decide, fun _ => rfl⟩
theorem hlL : 0 < 1 ∧ ∀ x, (encL x).length = 1 := ⟨by decide, fun _ => rfl⟩
theorem drop_get {α : Type} {xs : List α} {k : Nat} (h : k < xs.length) : xs.drop k = xs[k] :: xs.drop (k + 1) := List.drop_eq_getElem_cons h

/-- The servers 1 to 12. -/
theorem cIsServer (x : Int) (w : World) : Calls Try.prog 32 #[.int .i64 x] w fun e w' => e = .returned (.bool (QM.isSrv x)) ∧ w = w' := by
  obtain ⟨R, hR⟩ : ∃ R, R = QM.isSrv x := ⟨_, rfl⟩
  rw [← hR]
  by_cases h1 : 1 ≤ x
  · by_cases h2 : x ≤ 12
    · have e := Lib.hid (show R = true by rw [hR]; exact decide_eq_true ⟨h1, h2⟩)
      clear hR
      go_enter Try.func32, Try.ntmps32
      go_wp2
      go_ret
      rw [e.out]; exact ⟨rfl, rfl⟩
    · have e := Lib.hid (show R = false by rw [hR]; exact decide_eq_false (by omega))
      have hd : decide (x ≤ 12) = false := decide_eq_false h2
      clear hR
      go_enter Try.func32, Try.ntmps32
      go_wp2
      go_ret
      rw [e.out]; exact ⟨rfl, rfl⟩
  · have e := Lib.hid (show R = false by rw [hR]; exact decide_eq_false (by omega))
    have h2' : x < 1 := by omega
    clear hR h1
    go_enter Try.func32, Try.ntmps32
    go_wp2
    go_ret
    rw [e.out]; exact ⟨rfl, rfl⟩
theorem rServer (x : Int) (w : World) : Calls Try.prog 31 #[.int .i64 x] w fun e w' => e = .returned (.bool (QM.isSrv x)) ∧ w = w' := by
  obtain ⟨R, hR⟩ : ∃ R, R = QM.isSrv x := ⟨_, rfl⟩
  rw [← hR]
  by_cases h1 : 1 ≤ x
  · by_cases h2 : x ≤ 12
    · have e := Lib.hid (show R = true by rw [hR]; exact decide_eq_true ⟨h1, h2⟩)
      clear hR
      go_enter Try.func31, Try.ntmps31
      go_wp2
      go_ret
      rw [e.out]; exact ⟨rfl, rfl⟩
    · have e := Lib.hid (show R = false by rw [hR]; exact decide_eq_false (by omega))
      have hd : decide (x ≤ 12) = false := decide_eq_false h2
      clear hR
      go_enter Try.func31, Try.ntmps31
      go_wp2
      go_ret
      rw [e.out]; exact ⟨rfl, rfl⟩
  · have e := Lib.hid (show R = false by rw [hR]; exact decide_eq_false (by omega))
    have h2' : x < 1 := by omega
    clear hR h1
    go_enter Try.func31, Try.ntmps31
    go_wp2
    go_ret
    rw [e.out]; exact ⟨rfl, rfl⟩
theorem isSrv_iff {x : Int} : QM.isSrv x = true ↔ 1 ≤ x ∧ x ≤ 12 := decide_eq_true_iff
theorem isSrv_false {x : Int} : QM.isSrv x = false ↔ x < 1 ∨ 12 < x := by
  unfold QM.isSrv
  rw [decide_eq_false_iff_not]; omega

/-- A view's value. -/
abbrev vw (s : Value) (k c f : Int) : Value := .agg #[s, .int .i64 k, .int .i64 c, .int .i64 f]
abbrev rl (k c f : Int) : Value := .agg #[.int .i64 k, .int .i64 c, .int .i64 f]

theorem cFaulty (k c f : Int) (w : World) : Calls Try.prog 16 #[rl k c f] w fun e w' => e = .returned (.int .i64 f) ∧ Below w.heap.size w w' := by
  go_enter Try.func16, Try.ntmps16
  go_wp2
  go_ret
  exact ⟨rfl, below_fresh _ _⟩

end Go.Proofs.Ytbbgjckiooejhaa
