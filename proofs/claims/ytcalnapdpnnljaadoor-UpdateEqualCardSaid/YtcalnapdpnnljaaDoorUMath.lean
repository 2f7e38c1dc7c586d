/-
  Plain mathematics of updates (P11.1 to P11.4): errors, the orders, the encoding and what reads it; how effects and updates lie in memory. No program but its types. No conditions beyond those that each lemma names.
-/
import Derived.Test.YtcalnapdpnnljaaDoorKE
import Derived.Test.YtcalnapdpnnljaaDoorKS
namespace Go.Proofs.YtcalnapdpnnljaaDoor
open Go.RowKit

namespace UM
open WM (enc dec Bytes)
/-- An effect: kind, object, field, number, text. -/
abbrev Ef := Int × ByteArray × ByteArray × Int × ByteArray
def errE : Ef → Int
  | (k, o, f, n, s) =>
    if k < 1 ∨ 5 < k then 10
    else if o.size = 0 ∨ f.size = 0 then 2
    else if 16 < o.size ∨ 16 < f.size ∨ 32 < s.size then 3
    else if k = 3 ∧ (n < -1000000 ∨ 1000000 < n) then 9
    else if (k = 4 ∨ k = 5) ∧ n ≠ 0 then 9
    else if (k = 2 ∨ k = 3 ∨ k = 5) ∧ s.size ≠ 0 then 2 else 0
/-- No effect overwrites. -/
def com (es : List Ef) : Bool := es.all fun e => decide (e.1 ≠ 1)
def isCl (c : Int) : Bool := decide (101 ≤ c ∧ c ≤ 106)
/-- The first error of the effects. -/
def errL : List Ef → Int
  | [] => 0
  | e :: r => if errE e ≠ 0 then errE e else errL r
def errU (c q t : Int) (es : List Ef) : Int :=
  if isCl c = false ∨ q < 1 ∨ 8 < q ∨ t < 0 ∨ 1000 < t then 9
  else if es = [] then 2
  else if 4 < es.length then 3
  else if errL es ≠ 0 then errL es
  else if (com es = false ∧ 1 < es.length) ∨ (com es = true ∧ t ≠ 0) then 2 else 0
def cmpU (c q d r : Int) : Int := if c < d ∨ (c = d ∧ q < r) then -1 else if c = d ∧ q = r then 0 else 1
def bef (c q t d r u : Int) : Bool := decide (t < u ∨ (t = u ∧ cmpU c q d r < 0))
end UM

/-- The value of an effect, of an update. -/
abbrev ev (k : Int) (o f : ByteArray) (n : Int) (s : ByteArray) : Value := .agg #[.int .i64 k, .string o, .string f, .int .i64 n, .string s]
abbrev uv (c q t : Int) (es : Value) : Value := .agg #[.int .i64 c, .int .i64 q, .int .i64 t, es]
def encEf : UM.Ef → List Value
  | (k, o, f, n, s) => [.int .i64 k, .string o, .string f, .int .i64 n, .string s]
theorem hlEf : 0 < 5 ∧ ∀ x, (encEf x).length = 5 := ⟨by decide, fun x => by obtain ⟨a, b, c, d, e⟩ := x; rfl⟩
theorem efE : IsElem Tryd.prog 28 23 5 64 encEf where
  ht := Tryd.underlying28
  info := by
    obtain ⟨i0, hi, hz0, hz1, hz2⟩ := info_parts (show (Tryd.prog.info? 23).map (fun i => (i.zero, i.size, i.bytes)) = some (some (ev 0 ByteArray.empty ByteArray.empty 0 ByteArray.empty), 5, 64) by kernel_rfl)
    exact ⟨i0, _, hi, hz0, hz1, hz2, rfl⟩
  len := hlEf.2
  one := by intro x u hu; obtain ⟨a, b, c, d, e⟩ := x; simp [encEf] at hu; rcases hu with rfl | rfl | rfl | rfl | rfl <;> rfl
  pos := by decide
  fits := by decide
abbrev RdEf := RdG encEf 5
abbrev OwnEf := OwnG encEf 23 5
/-- 'v[k]' of effects: where its five cells lie. -/
theorem atEf {w : World} {a : Option Addr} {n c : Nat} {xs : List UM.Ef} (h : RdEf w (.slice a n c) xs) (i : Nat) (k : Int) (o f : ByteArray) (m : Int) (s : ByteArray) (hk : xs[i]? = some (k, o, f, m, s)) :
    ∃ b q, (∀ w0, (Instr.indexAt 28 (.slice a n c) (.int .i64 (i : Int))).run Tryd.prog w0 = .ok (.pointer (some ⟨b, q, none⟩)) w0) ∧ b < w.heap.size ∧
      w.cell? ⟨b, q, none⟩ = some (.int .i64 k) ∧ w.cell? ⟨b, q + 1, none⟩ = some (.string o) ∧ w.cell? ⟨b, q + 2, none⟩ = some (.string f) ∧ w.cell? ⟨b, q + 3, none⟩ = some (.int .i64 m) ∧ w.cell? ⟨b, q + 4, none⟩ = some (.string s) := by
  obtain ⟨b, q, h1, h2, h3⟩ := h.at_ efE i _ hk
  exact ⟨b, q, h1, h2, h3 0 _ rfl, h3 1 _ rfl, h3 2 _ rfl, h3 3 _ rfl, h3 4 _ rfl⟩
/-- A block that holds an effect, an update. -/
theorem ebox {w : World} {g : Nat} {t : TypeId} {a0 a1 a2 a3 a4 : Value} (h : w.heap[g]? = some (.cells #[a0, a1, a2, a3, a4] t (0, 0))) :
    w.cell? ⟨g, 0, none⟩ = some a0 ∧ w.cell? ⟨g, 1, none⟩ = some a1 ∧ w.cell? ⟨g, 2, none⟩ = some a2 ∧ w.cell? ⟨g, 3, none⟩ = some a3 ∧ w.cell? ⟨g, 4, none⟩ = some a4 := by
  refine ⟨?_, ?_, ?_, ?_, ?_⟩ <;> simp [World.cell?, h]
theorem ubox {w : World} {g : Nat} {t : TypeId} {a0 a1 a2 a3 : Value} (h : w.heap[g]? = some (.cells #[a0, a1, a2, a3] t (0, 0))) :
    w.cell? ⟨g, 0, none⟩ = some a0 ∧ w.cell? ⟨g, 1, none⟩ = some a1 ∧ w.cell? ⟨g, 2, none⟩ = some a2 ∧ w.cell? ⟨g, 3, none⟩ = some a3 := by
  refine ⟨?_, ?_, ?_, ?_⟩ <;> simp [World.cell?, h]
theorem isEmpty_size (s : ByteArray) : s.toList.isEmpty = decide (s.size = 0) := by
  rw [ByteArray.toList_eq]
  by_cases h : s.size = 0
  · rw [decide_eq_true h, ByteArray.size_eq_zero_iff.1 h]; rfl
  · rw [decide_eq_false h]
    cases hl : s.data.toList with
    | nil =>
      exfalso
      apply h
      show s.data.size = 0
      rw [← Array.length_toList, hl]; rfl
    | cons _ _ => rfl

set_option maxRecDepth 100000 in
set_option maxHeartbeats 4000000 in
theorem rValEff (k : Int) (o f : ByteArray) (n : Int) (s : ByteArray) (w : World) :
    Calls Tryd.prog 12 #[ev k o f n s] w fun e w' => e = .returned (.int .i64 (UM.errE (k, o, f, n, s))) ∧ Below w.heap.size w w' := by
  obtain ⟨R, hR⟩ : ∃ R, R = UM.errE (k, o, f, n, s) := ⟨_, rfl⟩
  rw [← hR]
  unfold UM.errE at hR
  have HR := Lib.hid hR
  clear hR
  have hx := heap_alloc_new w (.cells #[.int .i64 k, .string o, .string f, .int .i64 n, .string s] 23)
  have hb := below_fresh w (.cells #[.int .i64 k, .string o, .string f, .int .i64 n, .string s] 23)
  obtain ⟨w1, hw1⟩ : ∃ z, w.alloc (.cells #[.int .i64 k, .string o, .string f, .int .i64 n, .string s] 23) = z := ⟨_, rfl⟩
  rw [hw1] at hx hb
  have HW := Lib.hid hw1
  have HB := Lib.hid hb
  obtain ⟨c0, c1, c2, c3, c4⟩ := ebox hx
  clear hw1 hb hx
  have eo := isEmpty_size o
  have ef := isEmpty_size f
  have es := isEmpty_size s
  go_enter Tryd.func12, Tryd.ntmps12
  go_upto_region 1 with fail
  rw [HW.out]
  clear HW
  go_wp2
  all_goals
    go_ret
    refine ⟨ret_int ?_, HB.out⟩
    have hr := HR.out
    rw [hr]
    clear eo ef es c0 c1 c2 c3 c4 HR HB
    (try simp only [← ByteArray.size_eq_zero_iff] at *)
    (try simp only [ByteArray.size_empty] at *)
    (try simp only [bne_iff_ne, bne_eq_false_iff_eq, ne_eq, Bool.not_eq_true', Bool.not_eq_false', decide_eq_true_eq, decide_eq_false_iff_not] at *)
    (repeat' split) <;> first | rfl | omega

end Go.Proofs.YtcalnapdpnnljaaDoor
