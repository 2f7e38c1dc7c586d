/-
  What the walk of WireSequence needs beside it: lists that are encoded one after the other; slices of one-cell elements that came in, read by an index. No conditions beyond those that each lemma names.
-/
import Derived.Test.YtipjifdjgipocaaDrawn
namespace Go.Proofs.Ytipjifdjgipocaa
open Go.RowKit
open WM (Bytes enc dec zig zag)

/-- The encodings of a list's elements, one after the other. -/
def cat {α : Type} (f : α → List Int) (l : List α) : List Int := (l.map f).flatten
theorem cat_nil {α : Type} (f : α → List Int) : cat f [] = [] := rfl
theorem cat_append {α : Type} (f : α → List Int) (a b : List α) : cat f (a ++ b) = cat f a ++ cat f b := by simp [cat]
theorem cat_one {α : Type} (f : α → List Int) (x : α) : cat f [x] = f x := by simp [cat]
theorem take_snoc {α : Type} (l : List α) (k : Nat) (h : k < l.length) : l.take (k + 1) = l.take k ++ [l[k]] := by rw [List.take_succ_eq_append_getElem h]
theorem cat_snoc {α : Type} (f : α → List Int) (l : List α) (k : Nat) (h : k < l.length) : cat f (l.take (k + 1)) = cat f (l.take k) ++ f l[k] := by rw [take_snoc l k h, cat_append, cat_one]
theorem cat_split {α : Type} (f : α → List Int) (l : List α) (k : Nat) (h : k < l.length) : cat f l = cat f (l.take k) ++ (f l[k] ++ cat f (l.drop (k + 1))) := by
  conv => lhs; rw [← List.take_append_drop k l, List.drop_eq_getElem_cons h]
  rw [cat_append]
  congr 1
theorem cat_drop {α : Type} (f : α → List Int) (l : List α) (P R : List Int) (k : Nat) (h : k < l.length) :
    (P ++ (cat f l ++ R)).drop (P.length + (cat f (l.take k)).length) = f l[k] ++ (cat f (l.drop (k + 1)) ++ R) := by
  rw [cat_split f l k h, List.append_assoc, List.append_assoc, ← List.length_append, ← List.append_assoc, List.drop_left]
theorem cat_len {α : Type} (f : α → List Int) (b : Nat) : ∀ (l : List α), (∀ x ∈ l, (f x).length ≤ b) → (cat f l).length ≤ l.length * b
  | [], _ => by simp [cat]
  | x :: r, h => by
    have h1 := cat_len f b r (fun y hy => h y (by simp [hy]))
    have h2 := h x (by simp)
    have e : cat f (x :: r) = f x ++ cat f r := by simp [cat]
    rw [e, List.length_append, List.length_cons, Nat.add_mul]
    omega
theorem cat_fit {α : Type} (f : α → List Int) (l : List α) (k : Nat) (h : k < l.length) : (cat f (l.take k)).length + (f l[k]).length ≤ (cat f l).length := by
  rw [cat_split f l k h, List.length_append, List.length_append]; omega

/-- A cell that was there reads the same behind a call. -/
theorem below_cell {w wr : World} {p : Addr} {v : Value} (hb : Below w.heap.size w wr) (hc : w.cell? p = some v) : wr.cell? p = some v := by
  rw [hb.cell (World.block_lt_of_cell? w _ hc)]; exact hc

/-- 'x[k]' of a slice of one-cell elements that came in: where the index leads, and what is there. -/
theorem index_of {w : World} {t e : TypeId} {a : Option Addr} {n c : Nat} {f : Nat → Value} (ht : Try.prog.underlying t = some (.slice e)) (hs : ∀ w, Sem.run Try.prog (Go.sizeOf e) w = .ok 1 w)
    (hn : a = none → n = 0) (hc : ∀ x, a = some x → ∀ i, i < n → w.cell? (x.add i) = some (f i)) (k : Nat) (hk : k < n) :
    ∃ p, (∀ w0, (Instr.indexAt t (.slice a n c) (.int .i64 (k : Int))).run Try.prog w0 = .ok (.pointer (some p)) w0) ∧ w.cell? p = some (f k) := by
  cases a with
  | none => have := hn rfl; omega
  | some x =>
    refine ⟨x.add k, fun w0 => ?_, hc x rfl k hk⟩
    have h1 : (0 : Int) ≤ (k : Int) := by omega
    have h2 : (k : Int) < (n : Int) := by omega
    have h3 : ¬ n ≤ k := by omega
    simp [Instr.indexAt, asIntOf, run_underlying ht, h1, hs, Result.andThen]
    intro h4
    exact absurd h4 h3

theorem run_size {e : TypeId} {z : Value} {b : Nat} (h : (Try.prog.info? e).map (fun i => (i.zero, i.size, i.bytes)) = some (some z, 1, b)) (w : World) : Sem.run Try.prog (Go.sizeOf e) w = .ok 1 w := by
  obtain ⟨i0, hi, hz0, hz1, hz2⟩ := info_parts h
  simp [Go.sizeOf, typeInfo, hi, hz1]
theorem infoI64 : (Try.prog.info? 2).map (fun i => (i.zero, i.size, i.bytes)) = some (some (.int .i64 0), 1, 8) := by kernel_rfl
theorem infoStr : (Try.prog.info? 9).map (fun i => (i.zero, i.size, i.bytes)) = some (some (.string ByteArray.empty), 1, 16) := by kernel_rfl
theorem infoBool : (Try.prog.info? 4).map (fun i => (i.zero, i.size, i.bytes)) = some (some (.bool false), 1, 1) := by kernel_rfl

/-- 'b[lo:]': one run equation, and what it reads as. -/
theorem Rd.cutL {w : World} {a : Option Addr} {c : Nat} {xs : List Int} (h : Rd w (.slice a xs.length c) xs) (lo : Nat) (h2 : lo ≤ xs.length) :
    ∃ v', (∀ w0 : World, (Instr.slice 22 (.slice a xs.length c) (some (.int .i64 (lo : Int))) none none).run Try.prog w0 = .ok v' w0) ∧ Rd w v' (xs.drop lo) := by
  obtain ⟨v', hv', hsl, hrd⟩ := h.cut lo xs.length h2 (Nat.le_refl _)
  refine ⟨v', fun w0 => ?_, by rw [← List.length_drop, List.take_length] at hrd; exact hrd⟩
  rw [hv']
  have e1 : (0 : Int) ≤ (lo : Int) := by omega
  have e2 : (lo : Int) ≤ (xs.length : Int) := by omega
  have hz := fun w => run_sizeU8 w
  simp [Instr.slice, run_underlying Try.underlying22, Instr.sliceBounds, run_sliceBound, e1, e2, hz, Result.andThen]

def eI (z : Int) : List Int := enc (zig z)
def eS (s : ByteArray) : List Int := enc s.size ++ nums s
def eB (b : Bool) : List Int := [bit b]

theorem decS_seq (s : ByteArray) (xs : List Int) (hs : s.size < 18446744073709551616) : decS (eS s ++ xs) = (nums s, ((eS s).length : Int), 0) := by
  unfold eS
  have hd : dec 0 0 (enc s.size ++ nums s ++ xs) = ((s.size : Int), ((enc s.size).length : Int), 0) := by rw [List.append_assoc]; exact WM.dec_enc0 s.size _ hs
  have hn := nums_length s
  rw [decS_ok hd (by simp only [List.length_append]; omega)]
  rw [List.append_assoc, List.drop_left, ← hn, List.take_left, List.length_append]
theorem decB_seq (b : Bool) (xs : List Int) : decB (eB b ++ xs) = (b, 1, 0) := by cases b <;> rfl
theorem eS_len (s : ByteArray) (h : s.size ≤ 300) : (eS s).length ≤ 310 := by
  have h1 := WM.enc_len10 s.size (by omega)
  have h2 := nums_length s
  unfold eS
  rw [List.length_append]; omega
theorem eS_pos (s : ByteArray) : 1 ≤ (eS s).length := by
  have h1 := WM.enc_pos s.size
  unfold eS
  rw [List.length_append]; omega

/-- A call of wire.Int on a slice that begins with an encoding. -/
theorem int_at {v : Value} {w : World} {z : Int} {r : List Int} (h : Rd w v (eI z ++ r)) (h1 : -9223372036854775808 ≤ z) (h2 : z ≤ 9223372036854775807) :
    Calls Try.prog 19 #[v] w fun e w' => e = .returned (.tuple #[.int .i64 z, .int .i64 ((eI z).length : Int), .int .i64 0]) ∧ w = w' := by
  have h3 := wInt v _ w h
  unfold eI at h3
  rw [WM.dec_enc0 _ r (WM.zig_lt z h1 h2), WM.zag_zig] at h3
  exact h3
theorem str_at {v : Value} {w : World} {s : ByteArray} {r : List Int} (h : Rd w v (eS s ++ r)) (h1 : s.size ≤ 300) :
    Calls Try.prog 23 #[v] w fun e w' => e = .returned (.tuple #[.string s, .int .i64 ((eS s).length : Int), .int .i64 0]) ∧ w = w' := by
  have h3 := wString v _ w h
  rw [decS_seq s r (by omega), strOfNums_nums] at h3
  exact h3
theorem bool_at {v : Value} {w : World} {b : Bool} {r : List Int} (h : Rd w v (eB b ++ r)) :
    Calls Try.prog 26 #[v] w fun e w' => e = .returned (.tuple #[.bool b, .int .i64 1, .int .i64 0]) ∧ w = w' := by
  have h3 := wBool v _ w h
  rw [decB_seq b r] at h3
  exact h3

end Go.Proofs.Ytipjifdjgipocaa
