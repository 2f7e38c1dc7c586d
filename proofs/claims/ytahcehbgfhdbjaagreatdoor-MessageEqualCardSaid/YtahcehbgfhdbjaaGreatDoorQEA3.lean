/-
  Plain mathematics of updates (P11.1 to P11.4): errors, the orders, the encoding and what reads it; how effects and updates lie in memory. No program but its types. No conditions beyond those that each lemma names.
  The encoding of an update (P11.4), and the calls of the reference's AppendInt and AppendUpdate. Conditions: the bytes and effects read; the update is valid, its numbers are of 64 bits.
  The calls of the reference's Commutes, Client, ValidateUpdate, CompareUpdate, Before: what the plain mathematics says. Conditions: the effects read.
  Reading an effect (P11.4): the plain mathematics; the call of the reference's effect. Conditions: the slice reads as bytes.
  Reading an update (P11.4): the plain mathematics; the call of the reference's DecodeUpdate. Conditions: the slice reads as bytes.
  '!=' of two effects; the call of the reference's EqualUpdate. Conditions: the effects read.
-/
import Derived.Test.YtahcehbgfhdbjaaGreatDoorQEKE
import Derived.Test.YtahcehbgfhdbjaaGreatDoorQEKS
import Derived.ChangeKeysEq
namespace Go.Proofs.YtahcehbgfhdbjaaGreatDoor
open Go.RowKit

namespace UM
open WM (enc dec Bytes)
/-- An effect: kind, object, field, number, text. -/
abbrev Ef := Int × ByteArray × ByteArray × Int × ByteArray
def errE : Ef → Int
  | (k, o, f, n, s) =>
    if k < 1 ∨ 5 < k then 10
    else if o.size = 0 ∨ f.size = 0 then 2
    else if 16 < o.size ∨ 16 < f.size ∨ 32 < s.size then 3
    else if k = 3 ∧ (n < -1000000 ∨ 1000000 < n) then 9
    else if (k = 4 ∨ k = 5) ∧ n ≠ 0 then 9
    else if (k = 2 ∨ k = 3 ∨ k = 5) ∧ s.size ≠ 0 then 2 else 0
/-- No effect overwrites. -/
def com (es : List Ef) : Bool := es.all fun e => decide (e.1 ≠ 1)
def isCl (c : Int) : Bool := decide (101 ≤ c ∧ c ≤ 106)
/-- The first error of the effects. -/
def errL : List Ef → Int
  | [] => 0
  | e :: r => if errE e ≠ 0 then errE e else errL r
def errU (c q t : Int) (es : List Ef) : Int :=
  if isCl c = false ∨ q < 1 ∨ 8 < q ∨ t < 0 ∨ 1000 < t then 9
  else if es = [] then 2
  else if 4 < es.length then 3
  else if errL es ≠ 0 then errL es
  else if (com es = false ∧ 1 < es.length) ∨ (com es = true ∧ t ≠ 0) then 2 else 0
def cmpU (c q d r : Int) : Int := if c < d ∨ (c = d ∧ q < r) then -1 else if c = d ∧ q = r then 0 else 1
def bef (c q t d r u : Int) : Bool := decide (t < u ∨ (t = u ∧ cmpU c q d r < 0))
end UM

/-- The value of an effect, of an update. -/
abbrev ev (k : Int) (o f : ByteArray) (n : Int) (s : ByteArray) : Value := .agg #[.int .i64 k, .string o, .string f, .int .i64 n, .string s]
abbrev uv (c q t : Int) (es : Value) : Value := .agg #[.int .i64 c, .int .i64 q, .int .i64 t, es]
def encEf : UM.Ef → List Value
  | (k, o, f, n, s) => [.int .i64 k, .string o, .string f, .int .i64 n, .string s]
theorem hlEf : 0 < 5 ∧ ∀ x, (encEf x).length = 5 := ⟨by decide, fun x => by obtain ⟨a, b, c, d, e⟩ := x; rfl⟩
theorem efE : IsElem Tryz.prog 94 138 5 64 encEf where
  ht := Tryz.underlying94
  info := by
    obtain ⟨i0, hi, hz0, hz1, hz2⟩ := info_parts (show (Tryz.prog.info? 138).map (fun i => (i.zero, i.size, i.bytes)) = some (some (ev 0 ByteArray.empty ByteArray.empty 0 ByteArray.empty), 5, 64) by kernel_rfl)
    exact ⟨i0, _, hi, hz0, hz1, hz2, rfl⟩
  len := hlEf.2
  one := by intro x u hu; obtain ⟨a, b, c, d, e⟩ := x; simp [encEf] at hu; rcases hu with rfl | rfl | rfl | rfl | rfl <;> rfl
  pos := by decide
  fits := by decide
abbrev RdEf := RdG encEf 5
abbrev OwnEf := OwnG encEf 138 5
/-- 'v[k]' of effects: where its five cells lie. -/
theorem atEf {w : World} {a : Option Addr} {n c : Nat} {xs : List UM.Ef} (h : RdEf w (.slice a n c) xs) (i : Nat) (k : Int) (o f : ByteArray) (m : Int) (s : ByteArray) (hk : xs[i]? = some (k, o, f, m, s)) :
    ∃ b q, (∀ w0, (Instr.indexAt 94 (.slice a n c) (.int .i64 (i : Int))).run Tryz.prog w0 = .ok (.pointer (some ⟨b, q, none⟩)) w0) ∧ b < w.heap.size ∧
      w.cell? ⟨b, q, none⟩ = some (.int .i64 k) ∧ w.cell? ⟨b, q + 1, none⟩ = some (.string o) ∧ w.cell? ⟨b, q + 2, none⟩ = some (.string f) ∧ w.cell? ⟨b, q + 3, none⟩ = some (.int .i64 m) ∧ w.cell? ⟨b, q + 4, none⟩ = some (.string s) := by
  obtain ⟨b, q, h1, h2, h3⟩ := h.at_ efE i _ hk
  exact ⟨b, q, h1, h2, h3 0 _ rfl, h3 1 _ rfl, h3 2 _ rfl, h3 3 _ rfl, h3 4 _ rfl⟩
theorem ubox {w : World} {g : Nat} {t : TypeId} {a0 a1 a2 a3 : Value} (h : w.heap[g]? = some (.cells #[a0, a1, a2, a3] t (0, 0))) :
    w.cell? ⟨g, 0, none⟩ = some a0 ∧ w.cell? ⟨g, 1, none⟩ = some a1 ∧ w.cell? ⟨g, 2, none⟩ = some a2 ∧ w.cell? ⟨g, 3, none⟩ = some a3 := by
  refine ⟨?_, ?_, ?_, ?_⟩ <;> simp [World.cell?, h]
theorem isEmpty_size (s : ByteArray) : s.toList.isEmpty = decide (s.size = 0) := by
  rw [ByteArray.toList_eq]
  by_cases h : s.size = 0
  · rw [decide_eq_true h, ByteArray.size_eq_zero_iff.1 h]; rfl
  · rw [decide_eq_false h]
    cases hl : s.data.toList with
    | nil =>
      exfalso
      apply h
      show s.data.size = 0
      rw [← Array.length_toList, hl]; rfl
    | cons _ _ => rfl

end Go.Proofs.YtahcehbgfhdbjaaGreatDoor

namespace Go.Proofs.YtahcehbgfhdbjaaGreatDoor
open Go.RowKit
open UM (Ef)
open WM (enc zig)

namespace UM
def encS (s : ByteArray) : List Int := enc s.size ++ nums s
def encE : Ef → List Int
  | (k, o, f, n, s) => JM.encN [k] ++ (encS o ++ encS f) ++ (enc (zig n) ++ encS s)
def encEs (es : List Ef) : List Int := es.flatMap encE
def encU (c q t : Int) (es : List Ef) : List Int := JM.encN [c, q, t, (es.length : Int)] ++ encEs es
/-- The effect's number is one of 64 bits. -/
def in64 (e : Ef) : Prop := -9223372036854775808 ≤ e.2.2.2.1 ∧ e.2.2.2.1 ≤ 9223372036854775807
theorem errE_ok {k : Int} {o f : ByteArray} {n : Int} {s : ByteArray} (h : errE (k, o, f, n, s) = 0) : 1 ≤ k ∧ k ≤ 5 ∧ o.size ≤ 16 ∧ f.size ≤ 16 ∧ s.size ≤ 32 := by
  unfold errE at h
  dsimp only at h
  split at h
  · omega
  split at h
  · omega
  split at h
  · omega
  · omega
theorem errL_ok : ∀ {es : List Ef}, errL es = 0 → ∀ e ∈ es, errE e = 0
  | [], _ => by simp
  | e :: r, h => by
    unfold errL at h
    split at h
    · exact absurd h (by assumption)
    · rename_i h1
      have h2 : errE e = 0 := by omega
      intro x hx
      rcases List.mem_cons.1 hx with rfl | hx
      · exact h2
      · exact errL_ok h x hx
theorem errU_ok {c q t : Int} {es : List Ef} (h : errU c q t es = 0) : isCl c = true ∧ 1 ≤ q ∧ q ≤ 8 ∧ 0 ≤ t ∧ t ≤ 1000 ∧ 1 ≤ es.length ∧ es.length ≤ 4 ∧ ∀ e ∈ es, errE e = 0 := by
  unfold errU at h
  split at h
  · omega
  rename_i h1
  split at h
  · omega
  rename_i h2
  split at h
  · omega
  rename_i h3
  split at h
  · rename_i h4
    exact absurd h h4
  rename_i h4
  have hl : 1 ≤ es.length := by cases es with | nil => exact absurd rfl h2 | cons _ _ => simp
  refine ⟨by cases hc : isCl c with | true => rfl | false => exact absurd (Or.inl hc) h1, ?_, ?_, ?_, ?_, hl, by omega, errL_ok (by omega)⟩ <;> omega
theorem isCl_ok {c : Int} (h : isCl c = true) : 101 ≤ c ∧ c ≤ 106 := of_decide_eq_true h
theorem encS_len (s : ByteArray) (h : s.size ≤ 1000000) : (encS s).length ≤ 10 + s.size := by
  unfold encS
  rw [List.length_append, nums_length]
  have := WM.enc_len10 s.size (by omega)
  omega
theorem encE_len {k : Int} {o f : ByteArray} {n : Int} {s : ByteArray} (h : errE (k, o, f, n, s) = 0) (hr : in64 (k, o, f, n, s)) : (encE (k, o, f, n, s)).length ≤ 200 := by
  obtain ⟨h1, h2, h3, h4, h5⟩ := errE_ok h
  have a1 := JM.encN_len [k] (by intro x hx; rw [List.mem_singleton] at hx; subst hx; unfold JM.small; omega)
  have a2 := encS_len o (by omega)
  have a3 := encS_len f (by omega)
  have a4 := encS_len s (by omega)
  have a5 := WM.enc_len10 (zig n) (WM.zig_lt n hr.1 hr.2)
  simp only [List.length_cons, List.length_nil] at a1
  unfold encE
  simp only [List.length_append]
  omega
theorem encEs_snoc {l : List Ef} {k : Nat} {x : Ef} (h : l[k]? = some x) : encEs (l.take (k + 1)) = encEs (l.take k) ++ encE x := by
  have hlt : k < l.length := (List.getElem?_eq_some_iff.1 h).1
  have hx : l[k] = x := (List.getElem?_eq_some_iff.1 h).2
  rw [← List.take_append_getElem hlt, hx]
  unfold encEs
  rw [List.flatMap_append]
  simp
theorem encEs_len (l : List Ef) (h : ∀ e ∈ l, errE e = 0) (hr : ∀ e ∈ l, in64 e) : (encEs l).length ≤ 200 * l.length := by
  induction l with
  | nil => simp [encEs]
  | cons x r ih =>
    obtain ⟨k, o, f, n, s⟩ := x
    have h1 := encE_len (h _ (List.mem_cons_self ..)) (hr _ (List.mem_cons_self ..))
    have h2 := ih (fun e he => h e (List.mem_cons_of_mem _ he)) (fun e he => hr e (List.mem_cons_of_mem _ he))
    have h3 : encEs ((k, o, f, n, s) :: r) = encE (k, o, f, n, s) ++ encEs r := by simp [encEs]
    rw [h3, List.length_append, List.length_cons]
    omega
end UM

end Go.Proofs.YtahcehbgfhdbjaaGreatDoor

namespace Go.Proofs.YtahcehbgfhdbjaaGreatDoor
open Go.RowKit
open UM (Ef)

end Go.Proofs.YtahcehbgfhdbjaaGreatDoor

namespace Go.Proofs.YtahcehbgfhdbjaaGreatDoor
open Go.RowKit
open UM (Ef)
open WM (enc dec zig zag Bytes)

namespace UM
def z0 : Ef := (0, ⟨#[]⟩, ⟨#[]⟩, 0, ⟨#[]⟩)
def decE5 (k : Int) (o f : ByteArray) (n : Int) (xs : List Int) (u : Nat) : Ef × Nat × Int :=
  if (decS (xs.drop u)).2.2 ≠ 0 then (z0, 0, (decS (xs.drop u)).2.2) else ((k, o, f, n, strOfNums (decS (xs.drop u)).1), u + (decS (xs.drop u)).2.1.toNat, 0)
def decE4 (k : Int) (o f : ByteArray) (xs : List Int) (u : Nat) : Ef × Nat × Int :=
  if (dec 0 0 (xs.drop u)).2.2 ≠ 0 then (z0, 0, (dec 0 0 (xs.drop u)).2.2) else decE5 k o f (zag (dec 0 0 (xs.drop u)).1) xs (u + (dec 0 0 (xs.drop u)).2.1.toNat)
def decE3 (k : Int) (o : ByteArray) (xs : List Int) (u : Nat) : Ef × Nat × Int :=
  if (decS (xs.drop u)).2.2 ≠ 0 then (z0, 0, (decS (xs.drop u)).2.2) else decE4 k o (strOfNums (decS (xs.drop u)).1) xs (u + (decS (xs.drop u)).2.1.toNat)
def decE2 (k : Int) (xs : List Int) (u : Nat) : Ef × Nat × Int :=
  if (decS (xs.drop u)).2.2 ≠ 0 then (z0, 0, (decS (xs.drop u)).2.2) else decE3 k (strOfNums (decS (xs.drop u)).1) xs (u + (decS (xs.drop u)).2.1.toNat)
/-- An effect read: the effect, the bytes read, the error. -/
def decE (xs : List Int) : Ef × Nat × Int :=
  if (JM.num xs).2.2 ≠ 0 then (z0, 0, (JM.num xs).2.2) else decE2 (JM.num xs).1 xs (JM.num xs).2.1.toNat
end UM
theorem decS_two {xs : List Int} (hb : Bytes xs) : (∃ e : Int, (e = 1 ∨ e = 2 ∨ e = 9) ∧ decS xs = ([], 0, e)) ∨ ∃ (l : List Int) (n : Nat), decS xs = (l, (n : Int), 0) ∧ n ≤ xs.length := by
  rcases WM.dec_two xs hb with ⟨e, he, hd⟩ | ⟨m, hm, hd, hml, _⟩
  · exact .inl ⟨e, he, decS_err hd (by omega)⟩
  · by_cases hl : (xs.length : Int) - (enc m).length < m
    · exact .inl ⟨1, .inl rfl, decS_short hd hl⟩
    · exact .inr ⟨_, _, decS_ok hd hl, by omega⟩

/-- The value of an effect. -/
abbrev efv (e : Ef) : Value := ev e.1 e.2.1 e.2.2.1 e.2.2.2.1 e.2.2.2.2
/-- Block B is an effect. -/
def OE (w : World) (B : Nat) (a b c d e : Value) : Prop := w.heap[B]? = some (.cells #[a, b, c, d, e] 138 (0, 0))
theorem OE.cells {w : World} {B : Nat} {a b c d e : Value} (h : OE w B a b c d e) : w.cell? ⟨B, 0, none⟩ = some a ∧ w.cell? ⟨B, 1, none⟩ = some b ∧ w.cell? ⟨B, 2, none⟩ = some c ∧ w.cell? ⟨B, 3, none⟩ = some d ∧ w.cell? ⟨B, 4, none⟩ = some e ∧
    w.frozen? ⟨B, 0, none⟩ = false ∧ w.frozen? ⟨B, 1, none⟩ = false ∧ w.frozen? ⟨B, 2, none⟩ = false ∧ w.frozen? ⟨B, 3, none⟩ = false ∧ w.frozen? ⟨B, 4, none⟩ = false := by
  unfold OE at h
  refine ⟨?_, ?_, ?_, ?_, ?_, ?_, ?_, ?_, ?_, ?_⟩ <;> simp [World.cell?, World.frozen?, h]
theorem OE.fresh (w : World) (a b c d e : Value) : OE (w.alloc (.cells #[a, b, c, d, e] 138)) w.heap.size a b c d e := heap_alloc_new w _
theorem OE.put5 {w : World} {B : Nat} {a b c d e : Value} (h : OE w B a b c d e) (a' b' c' d' e' : Value) :
    OE (((((w.setCell ⟨B, 0, none⟩ a').setCell ⟨B, 1, none⟩ b').setCell ⟨B, 2, none⟩ c').setCell ⟨B, 3, none⟩ d').setCell ⟨B, 4, none⟩ e') B a' b' c' d' e' := by
  have h1 : (w.setCell ⟨B, 0, none⟩ a').heap[B]? = some (.cells #[a', b, c, d, e] 138 (0, 0)) := heap_setCell_same w B 0 _ _ _ h
  have h2 : ((w.setCell ⟨B, 0, none⟩ a').setCell ⟨B, 1, none⟩ b').heap[B]? = some (.cells #[a', b', c, d, e] 138 (0, 0)) := heap_setCell_same _ B 1 _ _ _ h1
  have h3 : (((w.setCell ⟨B, 0, none⟩ a').setCell ⟨B, 1, none⟩ b').setCell ⟨B, 2, none⟩ c').heap[B]? = some (.cells #[a', b', c', d, e] 138 (0, 0)) := heap_setCell_same _ B 2 _ _ _ h2
  have h4 : ((((w.setCell ⟨B, 0, none⟩ a').setCell ⟨B, 1, none⟩ b').setCell ⟨B, 2, none⟩ c').setCell ⟨B, 3, none⟩ d').heap[B]? = some (.cells #[a', b', c', d', e] 138 (0, 0)) := heap_setCell_same _ B 3 _ _ _ h3
  exact heap_setCell_same _ B 4 _ _ _ h4
end Go.Proofs.YtahcehbgfhdbjaaGreatDoor

namespace Go.Proofs.YtahcehbgfhdbjaaGreatDoor
open Go.RowKit
open UM (Ef)
open WM (enc dec zig zag Bytes)

namespace UM
theorem bdrop {xs : List Int} (hb : Bytes xs) (u : Nat) : Bytes (xs.drop u) := fun x hx => hb x (List.mem_of_mem_drop hx)
theorem decE5_used {k : Int} {o f : ByteArray} {n : Int} {xs : List Int} {u : Nat} (hb : Bytes xs) (hu : u ≤ xs.length) : (decE5 k o f n xs u).2.1 ≤ xs.length := by
  unfold decE5
  rcases decS_two (bdrop hb u) with ⟨e1, he1, hd⟩ | ⟨l, n, hd, hl⟩
  · rw [hd, if_pos (show ¬ e1 = 0 by omega)]; exact Nat.zero_le _
  · rw [hd, if_neg (by simp)]
    rw [List.length_drop] at hl
    show u + (n : Int).toNat ≤ _
    omega
theorem decE4_used {k : Int} {o f : ByteArray} {xs : List Int} {u : Nat} (hb : Bytes xs) (hu : u ≤ xs.length) : (decE4 k o f xs u).2.1 ≤ xs.length := by
  unfold decE4
  rcases WM.dec_two _ (bdrop hb u) with ⟨e1, he1, hd⟩ | ⟨m4, hm4, hd, hl, _⟩
  · rw [hd, if_pos (show ¬ e1 = 0 by omega)]; exact Nat.zero_le _
  · rw [hd, if_neg (by simp)]
    rw [List.length_drop] at hl
    exact decE5_used hb (by show u + ((enc m4).length : Int).toNat ≤ _; omega)
theorem decE3_used {k : Int} {o : ByteArray} {xs : List Int} {u : Nat} (hb : Bytes xs) (hu : u ≤ xs.length) : (decE3 k o xs u).2.1 ≤ xs.length := by
  unfold decE3
  rcases decS_two (bdrop hb u) with ⟨e1, he1, hd⟩ | ⟨l, n, hd, hl⟩
  · rw [hd, if_pos (show ¬ e1 = 0 by omega)]; exact Nat.zero_le _
  · rw [hd, if_neg (by simp)]
    rw [List.length_drop] at hl
    exact decE4_used hb (by show u + (n : Int).toNat ≤ _; omega)
theorem decE2_used {k : Int} {xs : List Int} {u : Nat} (hb : Bytes xs) (hu : u ≤ xs.length) : (decE2 k xs u).2.1 ≤ xs.length := by
  unfold decE2
  rcases decS_two (bdrop hb u) with ⟨e1, he1, hd⟩ | ⟨l, n, hd, hl⟩
  · rw [hd, if_pos (show ¬ e1 = 0 by omega)]; exact Nat.zero_le _
  · rw [hd, if_neg (by simp)]
    rw [List.length_drop] at hl
    exact decE3_used hb (by show u + (n : Int).toNat ≤ _; omega)
theorem decE_used {xs : List Int} (hb : Bytes xs) : (decE xs).2.1 ≤ xs.length := by
  unfold decE
  rcases JM.num_two xs hb with ⟨e1, he1, hd⟩ | ⟨m, hm, hd, hml⟩
  · rw [hd, if_pos (show ¬ e1 = 0 by omega)]; exact Nat.zero_le _
  · rw [hd, if_neg (by simp)]
    exact decE2_used hb hml
/-- k effects read one after the other: the effects, the bytes read, the first error. -/
def chE (xs : List Int) (u : Nat) : Nat → List Ef × Nat × Int
  | 0 => ([], u, 0)
  | k + 1 => if (chE xs u k).2.2 ≠ 0 then chE xs u k
    else if (decE (xs.drop (chE xs u k).2.1)).2.2 ≠ 0 then ((chE xs u k).1, (chE xs u k).2.1, (decE (xs.drop (chE xs u k).2.1)).2.2)
    else ((chE xs u k).1 ++ [(decE (xs.drop (chE xs u k).2.1)).1], (chE xs u k).2.1 + (decE (xs.drop (chE xs u k).2.1)).2.1, 0)
theorem chE_err_le {xs : List Int} {u k n : Nat} (h : k ≤ n) (he : (chE xs u k).2.2 ≠ 0) : chE xs u n = chE xs u k := by
  induction n with
  | zero => obtain rfl : k = 0 := by omega
            rfl
  | succ n ih =>
    by_cases hk : k = n + 1
    · rw [hk]
    · have h1 := ih (by omega)
      rw [chE, if_pos (by rw [h1]; exact he), h1]
theorem chE_used {xs : List Int} {u : Nat} (hb : Bytes xs) (hu : u ≤ xs.length) (k : Nat) : (chE xs u k).2.1 ≤ xs.length := by
  induction k with
  | zero => exact hu
  | succ k ih =>
    rw [chE]
    split
    · exact ih
    split
    · exact ih
    · have := decE_used (bdrop hb (chE xs u k).2.1)
      rw [List.length_drop] at this
      dsimp only
      omega
abbrev Du := Int × Nat × (Int × Int × Int) × List Ef
def badU (e : Int) : Du := (e, 0, (0, 0, 0), [])
def finU (c q t : Int) (p : List Ef × Nat × Int) : Du :=
  if p.2.2 ≠ 0 then badU p.2.2 else if errU c q t p.1 ≠ 0 then badU (errU c q t p.1) else (0, p.2.1, (c, q, t), p.1)
/-- Reading an update: the error, the bytes read, the update. -/
def decU (xs : List Int) : Du :=
  if (JM.many xs (0, 0) 4).2.2 ≠ 0 then badU (JM.many xs (0, 0) 4).2.2
  else if 4 < (JM.many xs (0, 0) 4).1.getD 3 0 then badU 3
  else finU ((JM.many xs (0, 0) 4).1.getD 0 0) ((JM.many xs (0, 0) 4).1.getD 1 0) ((JM.many xs (0, 0) 4).1.getD 2 0) (chE xs (JM.many xs (0, 0) 4).2.1 ((JM.many xs (0, 0) 4).1.getD 3 0).toNat)
end UM
/-- Block B is an update. -/
def OU (w : World) (B : Nat) (c q t : Int) (s : Value) : Prop := w.heap[B]? = some (.cells #[.int .i64 c, .int .i64 q, .int .i64 t, s] 96 (0, 0))
theorem OU.cells {w : World} {B : Nat} {c q t : Int} {s : Value} (h : OU w B c q t s) : w.cell? ⟨B, 0, none⟩ = some (.int .i64 c) ∧ w.cell? ⟨B, 1, none⟩ = some (.int .i64 q) ∧ w.cell? ⟨B, 2, none⟩ = some (.int .i64 t) ∧ w.cell? ⟨B, 3, none⟩ = some s ∧
    w.frozen? ⟨B, 0, none⟩ = false ∧ w.frozen? ⟨B, 1, none⟩ = false ∧ w.frozen? ⟨B, 2, none⟩ = false ∧ w.frozen? ⟨B, 3, none⟩ = false := by
  unfold OU at h
  refine ⟨?_, ?_, ?_, ?_, ?_, ?_, ?_, ?_⟩ <;> simp [World.cell?, World.frozen?, h]
theorem OU.below {w w' : World} {B : Nat} {c q t : Int} {s : Value} (h : OU w B c q t s) (hb : Below w.heap.size w w') : OU w' B c q t s := below_block h hb
theorem OU.keep {w w' : World} {e : TypeId} {B : Nat} {c q t : Int} {s : Value} (h : OU w B c q t s) (he : 96 ≠ e) (hk : KeepsX e w w') : OU w' B c q t s := hk.at h he
theorem OU.only {w w' : World} {g B : Nat} {c q t : Int} {s : Value} (h : OU w B c q t s) (ho : Only g w w') (hne : B ≠ g) : OU w' B c q t s := ho.at h hne
theorem OU.fresh (w : World) (c q t : Int) (s : Value) : OU (w.alloc (.cells #[.int .i64 c, .int .i64 q, .int .i64 t, s] 96)) w.heap.size c q t s := heap_alloc_new w _
theorem OU.put {w : World} {B : Nat} {c q t : Int} {s : Value} (h : OU w B c q t s) (u : Value) : OU (w.setCell ⟨B, 3, none⟩ u) B c q t u := heap_setCell_same w B 3 _ _ u h
theorem OU.put4 {w : World} {B : Nat} {c q t : Int} {s : Value} (h : OU w B c q t s) (c' q' t' : Int) (u : Value) :
    OU ((((w.setCell ⟨B, 0, none⟩ (.int .i64 c')).setCell ⟨B, 1, none⟩ (.int .i64 q')).setCell ⟨B, 2, none⟩ (.int .i64 t')).setCell ⟨B, 3, none⟩ u) B c' q' t' u := by
  have h1 : (w.setCell ⟨B, 0, none⟩ (.int .i64 c')).heap[B]? = some (.cells #[.int .i64 c', .int .i64 q, .int .i64 t, s] 96 (0, 0)) := heap_setCell_same w B 0 _ _ _ h
  have h2 : ((w.setCell ⟨B, 0, none⟩ (.int .i64 c')).setCell ⟨B, 1, none⟩ (.int .i64 q')).heap[B]? = some (.cells #[.int .i64 c', .int .i64 q', .int .i64 t, s] 96 (0, 0)) := heap_setCell_same _ B 1 _ _ _ h1
  have h3 : (((w.setCell ⟨B, 0, none⟩ (.int .i64 c')).setCell ⟨B, 1, none⟩ (.int .i64 q')).setCell ⟨B, 2, none⟩ (.int .i64 t')).heap[B]? = some (.cells #[.int .i64 c', .int .i64 q', .int .i64 t', s] 96 (0, 0)) := heap_setCell_same _ B 2 _ _ _ h2
  exact heap_setCell_same _ B 3 _ _ _ h3
theorem only4 {w : World} {B : Nat} (a b c d : Value) : Only B w ((((w.setCell ⟨B, 0, none⟩ a).setCell ⟨B, 1, none⟩ b).setCell ⟨B, 2, none⟩ c).setCell ⟨B, 3, none⟩ d) :=
  (((Only.set 0 a).trans (Only.set 1 b)).trans (Only.set 2 c)).trans (Only.set 3 d)
end Go.Proofs.YtahcehbgfhdbjaaGreatDoor

namespace Go.Proofs.YtahcehbgfhdbjaaGreatDoor
open Go.RowKit
open UM (Ef)

theorem toList_inj {a b : ByteArray} : a.toList = b.toList ↔ a = b := by
  rw [ByteArray.toList_eq, ByteArray.toList_eq]
  constructor
  · intro h
    obtain ⟨⟨x⟩⟩ := a
    obtain ⟨⟨y⟩⟩ := b
    simp at h
    rw [h]
  · rintro rfl; rfl
theorem eq_ev (k : Int) (o f : ByteArray) (n : Int) (s : ByteArray) (k' : Int) (o' f' : ByteArray) (n' : Int) (s' : ByteArray) (w : World) :
    (Op.equalIn 10000 138 (ev k o f n s) (ev k' o' f' n' s')).run Tryz.prog w = .ok (decide ((k, o, f, n, s) = (k', o', f', n', s'))) w := by
  have u3 := Tryz.underlying3
  have a3 := Tryz.isAgg3
  have z3 := Tryz.sizeOf3
  have u4 := Tryz.underlying2
  have a4 := Tryz.isAgg2
  have z4 := Tryz.sizeOf2
  have u5 := Tryz.underlying9
  have a5 := Tryz.isAgg9
  have z5 := Tryz.sizeOf9
  have hS : Tryz.prog.underlying 138 = some (.struct (Tryz.prog.fieldsOf 138)) := by kernel_rfl
  have hp : Tryz.prog.stoodInHeld 138 = false := by kernel_rfl
  rw [show (10000 : Nat) = 9999 + 1 from rfl, run_equalIn_agg w 9999 138 _ _ hS hp]
  simp only [Program.fieldsOf, Tryz.underlying138]
  go_simp
  by_cases h1 : k = k' <;> by_cases h2 : o = o' <;> by_cases h3 : f = f' <;> by_cases h4 : n = n' <;> by_cases h5 : s = s' <;> simp [h1, h2, h3, h4, h5, toList_inj]
theorem neq_ev (k : Int) (o f : ByteArray) (n : Int) (s : ByteArray) (k' : Int) (o' f' : ByteArray) (n' : Int) (s' : ByteArray) (w : World) :
    (binOp .neq 138 (ev k o f n s) (ev k' o' f' n' s')).run Tryz.prog w = .ok (.bool (!decide ((k, o, f, n, s) = (k', o', f', n', s')))) w := by
  rw [run_neq_struct]
  rw [eq_ev]; rfl

namespace UM
def eqU (c q t : Int) (es : List Ef) (d r y : Int) (fs : List Ef) : Bool := decide (c = d ∧ q = r ∧ t = y ∧ es = fs)
end UM
theorem list_drop_eq {α : Type} {xs ys : List α} {k : Nat} {x y : α} (hx : xs.drop k = x :: xs.drop (k + 1)) (hy : ys.drop k = y :: ys.drop (k + 1)) : (xs.drop k = ys.drop k) = (x = y ∧ xs.drop (k + 1) = ys.drop (k + 1)) := by
  rw [hx, hy]; exact propext List.cons_eq_cons

set_option maxRecDepth 100000 in
set_option maxHeartbeats 4000000 in
theorem rEqU (c q t : Int) (u : Value) (es : List Ef) (d r y : Int) (v : Value) (fs : List Ef) (w : World) (hu : RdEf w u es) (hv : RdEf w v fs) :
    Calls Tryz.prog 81 #[uv c q t u, uv d r y v] w fun e w' => e = .returned (.bool (UM.eqU c q t es d r y fs)) ∧ Below w.heap.size w w' := by
  obtain ⟨a1, k1, rfl, hk1, _⟩ := hu.shape
  obtain ⟨a2, k2, rfl, hk2, _⟩ := hv.shape
  obtain ⟨R, hR⟩ : ∃ R, R = UM.eqU c q t es d r y fs := ⟨_, rfl⟩
  rw [← hR]
  unfold UM.eqU at hR
  have HE := Lib.hid hu
  have HF := Lib.hid hv
  have hl1 : es.length ≤ 9223372036854775807 := by omega
  have hl2 : fs.length ≤ 9223372036854775807 := by omega
  have hx := heap_alloc_new w (.cells #[.int .i64 c, .int .i64 q, .int .i64 t, .slice a1 es.length k1] 96)
  have hb := below_fresh w (.cells #[.int .i64 c, .int .i64 q, .int .i64 t, .slice a1 es.length k1] 96)
  have hy := heap_alloc_new (w.alloc (.cells #[.int .i64 c, .int .i64 q, .int .i64 t, .slice a1 es.length k1] 96)) (.cells #[.int .i64 d, .int .i64 r, .int .i64 y, .slice a2 fs.length k2] 96)
  have hb2 := below_fresh (w.alloc (.cells #[.int .i64 c, .int .i64 q, .int .i64 t, .slice a1 es.length k1] 96)) (.cells #[.int .i64 d, .int .i64 r, .int .i64 y, .slice a2 fs.length k2] 96)
  rw [World.size_alloc] at hy
  obtain ⟨w1, hw1⟩ : ∃ z, (w.alloc (.cells #[.int .i64 c, .int .i64 q, .int .i64 t, .slice a1 es.length k1] 96)).alloc (.cells #[.int .i64 d, .int .i64 r, .int .i64 y, .slice a2 fs.length k2] 96) = z := ⟨_, rfl⟩
  rw [hw1] at hy hb2
  have HW := Lib.hid hw1
  have HB := Lib.hid (bnext hb hb2)
  have HX := Lib.hid (below_block hx hb2)
  have HY := Lib.hid hy
  obtain ⟨c0, c1, c2, c3⟩ := ubox (below_block hx hb2)
  obtain ⟨d0, d1, d2, d3⟩ := ubox hy
  clear hw1 hb hb2 hx hy hu hv
  go_enter Tryz.func81, Tryz.ntmps81
  go_upto_region 1 with fail
  rw [HW.out]
  clear HW
  by_cases h1 : c = d
  case neg =>
    have g1 : (c != d) = true := bne_t h1
    have HR := Lib.hid (show R = false by rw [hR]; exact decide_eq_false (by intro h; exact h1 h.1))
    clear hR h1 HE HF
    go_wp2
    go_ret
    exact ⟨by rw [HR.out]; rfl, HB.out⟩
  by_cases h2 : q = r
  case neg =>
    have g1 : (c != d) = false := by simp [h1]
    have g2 : (q != r) = true := bne_t h2
    have HR := Lib.hid (show R = false by rw [hR]; exact decide_eq_false (by intro h; exact h2 h.2.1))
    clear hR h1 h2 HE HF
    go_wp2
    go_ret
    exact ⟨by rw [HR.out]; rfl, HB.out⟩
  by_cases h3 : t = y
  case neg =>
    have g1 : (c != d) = false := by simp [h1]
    have g2 : (q != r) = false := by simp [h2]
    have g3 : (t != y) = true := bne_t h3
    have HR := Lib.hid (show R = false by rw [hR]; exact decide_eq_false (by intro h; exact h3 h.2.2.1))
    clear hR h1 h2 h3 HE HF
    go_wp2
    go_ret
    exact ⟨by rw [HR.out]; rfl, HB.out⟩
  have g1 : (c != d) = false := by simp [h1]
  have g2 : (q != r) = false := by simp [h2]
  have g3 : (t != y) = false := by simp [h3]
  replace hR : R = decide (es = fs) := by rw [hR]; simp [h1, h2, h3]
  clear h1 h2 h3
  by_cases h4 : es.length = fs.length
  case neg =>
    have g4 : ((es.length : Int) != (fs.length : Int)) = true := bne_t (by omega)
    have HR := Lib.hid (show R = false by rw [hR]; exact decide_eq_false (by rintro rfl; exact h4 rfl))
    clear hR h4 HE HF
    go_wp2
    go_ret
    exact ⟨by rw [HR.out]; rfl, HB.out⟩
  have g4 : ((es.length : Int) != (fs.length : Int)) = false := by simp; omega
  have HR := Lib.hid hR
  have HL := Lib.hid h4
  clear hR h4
  go_wp2
  clear g1 g2 g3 g4 c0 c1 c2 c3 d0 d1 d2 d3
  go_loopw [5] (fun i wr => ∃ k : Nat, k ≤ es.length ∧ i = .int .i64 k ∧ Hid (R = decide (es.drop k = fs.drop k)) ∧ Hid (Below w1.heap.size w1 wr)) (fun i _ => es.length - (intOf i).toNat)
  case atStart => exact ⟨0, Nat.zero_le _, rfl, HR, Lib.hid (Below.refl _ _)⟩
  case round =>
    obtain ⟨k, hk, rfl, hc, hbw⟩ := hrel
    obtain ⟨c0, c1, c2, c3⟩ := ubox (below_block HX.out hbw.out)
    by_cases hlt : k < es.length
    · have hq : (k : Int) < (es.length : Int) := by omega
      have hlt2 : k < fs.length := by have := HL.out; omega
      have hq2 : (k : Int) < (fs.length : Int) := by omega
      have hat := List.getElem?_eq_getElem hlt
      have hat2 := List.getElem?_eq_getElem hlt2
      have hdx := drop_get hlt
      have hdy := drop_get hlt2
      generalize es[k] = e at hat hdx
      generalize fs[k] = f at hat2 hdy
      have HDX := Lib.hid (show R = decide (e = f ∧ es.drop (k + 1) = fs.drop (k + 1)) by rw [hc.out]; exact decide_eq_decide.2 (by rw [list_drop_eq hdx hdy]))
      obtain ⟨k', o', f', n', s'⟩ := e
      obtain ⟨k2', o2, f2, n2, s2⟩ := f
      have HBW := Lib.hid (bnext HB.out hbw.out)
      obtain ⟨b, p, hi, hbb, e0, e1, e2, e3, e4⟩ := atEf HE.out k _ _ _ _ _ hat
      obtain ⟨bb, pp, hi2, hbb2, f0, f1, f2', f3, f4⟩ := atEf HF.out k _ _ _ _ _ hat2
      have hneq := fun w => neq_ev k' o' f' n' s' k2' o2 f2 n2 s2 w
      obtain ⟨Z, hZ⟩ : ∃ Z : Bool, Z = decide ((k', o', f', n', s') = (k2', o2, f2, n2, s2)) := ⟨_, rfl⟩
      rw [← hZ] at hneq
      have hgm : Tryz.prog.eqGuardType Tryz.prog.depth 138 = false := by kernel_rfl
      have l0 : ∀ p' : Later wr, p'.val.cell? ⟨b, p, none⟩ = some (.int .i64 k') := fun p' => below_cell (bnext HBW.out p'.h) e0
      have l1 : ∀ p' : Later wr, p'.val.cell? ⟨b, p + 1, none⟩ = some (.string o') := fun p' => below_cell (bnext HBW.out p'.h) e1
      have l2 : ∀ p' : Later wr, p'.val.cell? ⟨b, p + 2, none⟩ = some (.string f') := fun p' => below_cell (bnext HBW.out p'.h) e2
      have l3 : ∀ p' : Later wr, p'.val.cell? ⟨b, p + 3, none⟩ = some (.int .i64 n') := fun p' => below_cell (bnext HBW.out p'.h) e3
      have l4 : ∀ p' : Later wr, p'.val.cell? ⟨b, p + 4, none⟩ = some (.string s') := fun p' => below_cell (bnext HBW.out p'.h) e4
      have r0 : ∀ p' : Later wr, p'.val.cell? ⟨bb, pp, none⟩ = some (.int .i64 k2') := fun p' => below_cell (bnext HBW.out p'.h) f0
      have r1 : ∀ p' : Later wr, p'.val.cell? ⟨bb, pp + 1, none⟩ = some (.string o2) := fun p' => below_cell (bnext HBW.out p'.h) f1
      have r2 : ∀ p' : Later wr, p'.val.cell? ⟨bb, pp + 2, none⟩ = some (.string f2) := fun p' => below_cell (bnext HBW.out p'.h) f2'
      have r3 : ∀ p' : Later wr, p'.val.cell? ⟨bb, pp + 3, none⟩ = some (.int .i64 n2) := fun p' => below_cell (bnext HBW.out p'.h) f3
      have r4 : ∀ p' : Later wr, p'.val.cell? ⟨bb, pp + 4, none⟩ = some (.string s2) := fun p' => below_cell (bnext HBW.out p'.h) f4
      have m3 : ∀ p' : Later wr, p'.val.cell? ⟨w.heap.size, 3, none⟩ = some (.slice a1 es.length k1) := fun p' => (ubox (below_block HX.out (bnext hbw.out p'.h))).2.2.2
      have m7 : ∀ p' : Later wr, p'.val.cell? ⟨w.heap.size + 1, 3, none⟩ = some (.slice a2 fs.length k2) := fun p' => (ubox (below_block HY.out (bnext hbw.out p'.h))).2.2.2
      clear hat hat2 hdx hdy hc e0 e1 e2 e3 e4 f0 f1 f2' f3 f4 hbb hbb2
      go_wp2
      refine wp_region_later (by kernel_rfl) (by kernel_rfl) ?_
      repeat (go_big_quiet_step (fail))
      refine wpQuiet_nil ?_
      rintro _ ⟨p', rfl⟩
      have hbx := Lib.hid (bnext hbw.out p'.h)
      have HZ := Lib.hid hZ
      clear l0 l1 l2 l3 l4 r0 r1 r2 r3 r4 m3 m7 HBW hZ hneq c0 c1 c2 c3
      generalize p'.val = wr2 at hbx ⊢
      clear hbw
      by_cases he : (k', o', f', n', s') = (k2', o2, f2, n2, s2)
      · have HR1 := Lib.hid (show R = decide (es.drop (k + 1) = fs.drop (k + 1)) by rw [HDX.out]; exact decide_eq_decide.2 ⟨fun h => h.2, fun h => ⟨he, h⟩⟩)
        clear HDX HZ
        simp only [Prod.mk.injEq] at he
        obtain ⟨rfl, rfl, rfl, rfl, rfl⟩ := he
        go_wp2
        go_roundw
        case rel => exact ⟨k + 1, by omega, by go_num, HR1, hbx⟩
        case measure => simp [intOf]; omega
      · have HR1 := Lib.hid (show R = false by rw [HDX.out]; exact decide_eq_false (by intro h; exact he h.1))
        clear HDX HZ
        simp only [Prod.mk.injEq] at he
        have HHe := Lib.hid he
        clear he
        go_wp2
        all_goals first | (exfalso; rename_i hh; simp at hh; exact HHe.out hh) | skip
        go_ret
        exact ⟨by rw [HR1.out]; rfl, bnext HB.out hbx.out⟩
    have hq : ¬ ((k : Int) < (es.length : Int)) := by omega
    have HR1 := Lib.hid (show R = true by rw [hc.out, List.drop_of_length_le (by omega), List.drop_of_length_le (by have := HL.out; omega)]; rfl)
    go_wp2
    go_ret
    exact ⟨by rw [HR1.out]; rfl, bnext HB.out hbw.out⟩

end Go.Proofs.YtahcehbgfhdbjaaGreatDoor
