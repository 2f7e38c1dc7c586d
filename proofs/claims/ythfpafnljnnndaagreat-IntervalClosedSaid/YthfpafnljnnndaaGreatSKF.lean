/-
  Plain mathematics of version vectors, as P3.1 to P3.4 speak of them: lists of an author and a count; nothing of the program. No conditions beyond those that each lemma names.
  Vectors in memory: when a slice value reads as a list of an author and a count; what the call's own vector is; an index, a cut, an append. No conditions beyond those that each lemma names.
  The calls of the reference's Count, LessEqual, EqualVector, Size, ValidateVector, and of vector.Size, vector.Validate: each returns what the plain mathematics says. Conditions: the arguments read as vectors, within the bounds that are named.
  The calls of the reference's With, Join, Meet: each returns the call's own vector that the plain mathematics says. Conditions: the arguments read as vectors, valid and within the bounds where they are named.
  The calls of cmp.Compare, slices.BinarySearchFunc, vector.find and its literal, vector.Get. Conditions: the arguments read as vectors, valid and within the bounds where they are named.
-/
import Derived.Test.YthfpafnljnnndaaGreatProg
import Derived.WalkKit
import Derived.ProofKit
import Derived.OpenShut
import Derived.ShutString
import Derived.ChangeOld
import Derived.Below
import Derived.WalkSpells
import Derived.WalkLawsBesides
import Derived.Laws.AppendOwnNone
import Derived.Lib.Hide
import Derived.Lib.SliceRun
import Derived.Handy
import Derived.OneCell
import Derived.BigQuiet
import Derived.Deep.QuietTactic
import Derived.Laws.StructEq
import Derived.StillTailTactics
namespace Go.Proofs.YthfpafnljnnndaaGreat.VM

abbrev Ent := Int × Int

/-- The count of an author (P3.2). -/
def cnt : List Ent → Int → Int
  | [], _ => 0
  | e :: v, a => if e.1 = a then e.2 else cnt v a

def off (e : Ent) : Bool := decide (e.1 < 1) || (decide (e.2 < 1) || decide (1000000 < e.2))

/-- The error of P3.1, behind an entry of author p (0: none). -/
def err : Int → List Ent → Int
  | _, [] => 0
  | p, e :: v => if off e = true then 9 else if e.1 ≤ p then 7 else err e.1 v

/-- Valid, behind an entry of author p. -/
def Val : Int → List Ent → Prop
  | _, [] => True
  | p, e :: v => p < e.1 ∧ 1 ≤ e.2 ∧ e.2 ≤ 1000000 ∧ Val e.1 v

theorem Val.nil (p : Int) : Val p [] := trivial
theorem Val.weak {p q : Int} {v : List Ent} (h : Val q v) (hp : p ≤ q) : Val p v := by
  cases v with
  | nil => trivial
  | cons e v => exact ⟨by have := h.1; omega, h.2⟩

theorem cnt_cons (e : Ent) (v : List Ent) (a : Int) : cnt (e :: v) a = if e.1 = a then e.2 else cnt v a := rfl

theorem cnt_low {v : List Ent} : ∀ {p a : Int}, Val p v → a ≤ p → cnt v a = 0 := by
  induction v with
  | nil => intro p a _ _; rfl
  | cons e v ih =>
    intro p a h ha
    obtain ⟨h1, _, _, h4⟩ := h
    unfold cnt
    rw [if_neg (by omega)]
    exact ih h4 (by omega)

/-- A valid vector is told by its counts. -/
theorem ext {u : List Ent} : ∀ {v : List Ent} {p q : Int}, Val p u → Val q v → (∀ a, cnt u a = cnt v a) → u = v := by
  induction u with
  | nil =>
    intro v p q _ hv h
    cases v with
    | nil => rfl
    | cons f v =>
      have := h f.1
      obtain ⟨h1, h2, h3, h4⟩ := hv
      simp [cnt] at this
      omega
  | cons e u ih =>
    intro v p q hu hv h
    obtain ⟨u1, u2, u3, u4⟩ := hu
    cases v with
    | nil =>
      have := h e.1
      simp [cnt] at this
      omega
    | cons f v =>
      obtain ⟨v1, v2, v3, v4⟩ := hv
      have he := h e.1
      have hf := h f.1
      simp only [cnt, if_true] at he hf
      by_cases hlt : e.1 < f.1
      · rw [if_neg (by omega), cnt_low v4 (by omega)] at he
        omega
      · by_cases hgt : f.1 < e.1
        · rw [if_neg (by omega), cnt_low u4 (by omega)] at hf
          omega
        · have h1 : e.1 = f.1 := by omega
          rw [if_pos h1.symm] at he
          have h2 : e = f := Prod.ext h1 he
          subst h2
          congr 1
          refine ih u4 v4 fun a => ?_
          by_cases ha : e.1 = a
          · rw [cnt_low u4 (by omega), cnt_low v4 (by omega)]
          · have := h a
            simp only [cnt, if_neg ha] at this
            exact this

/-- An entry, unless the count is 0. -/
def one (a n : Int) : List Ent := if n = 0 then [] else [(a, n)]

/-- The authors of two vectors, ascending, each with its counts in both. -/
def mrg : List Ent → List Ent → List (Int × Int × Int)
  | [], [] => []
  | e :: a, [] => (e.1, e.2, 0) :: mrg a []
  | [], f :: b => (f.1, 0, f.2) :: mrg [] b
  | e :: a, f :: b =>
    if e.1 < f.1 then (e.1, e.2, 0) :: mrg a (f :: b)
    else if f.1 < e.1 then (f.1, 0, f.2) :: mrg (e :: a) b
    else (e.1, e.2, f.2) :: mrg a b
termination_by a b => a.length + b.length

def sel (f : Int → Int → Int) (ts : List (Int × Int × Int)) : List Ent := ts.flatMap fun t => one t.1 (f t.2.1 t.2.2)
/-- Join and Meet (P3.3). -/
def jn (a b : List Ent) : List Ent := sel max (mrg a b)
def mt (a b : List Ent) : List Ent := sel min (mrg a b)

theorem one_length (a n : Int) : (one a n).length ≤ 1 := by unfold one; split <;> simp
/-- LessEqual (P3.3). -/
def le (a b : List Ent) : Bool := a.all fun e => decide (e.2 ≤ cnt b e.1)

/-- Some count is smaller in the first, in the second (what Compare gathers). -/
def anyL (ts : List (Int × Int × Int)) : Bool := ts.any fun t => decide (t.2.1 < t.2.2)
def anyG (ts : List (Int × Int × Int)) : Bool := ts.any fun t => decide (t.2.2 < t.2.1)
def code (l g : Bool) : Int := (if l then 1 else 0) + (if g then 2 else 0)

/-- The sum of all counts (P3.3). -/
def size : List Ent → Int
  | [] => 0
  | e :: v => e.2 + size v
theorem size_append (u v : List Ent) : size (u ++ v) = size u + size v := by
  induction u with
  | nil => simp [size]
  | cons e u ih => rw [List.cons_append]; simp only [size]; omega
/-- What the reference's With appends from here on. -/
def wl (put : Bool) (a c : Int) : List Ent → List Ent
  | [] => if put then [] else [(a, c)]
  | e :: v => (if !put && decide (a ≤ e.1) then [(a, c)] else []) ++ ((if e.1 = a then [] else [e]) ++ wl (put || decide (a ≤ e.1)) a c v)

theorem wl_true {a c : Int} {v : List Ent} : ∀ {p : Int}, Val p v → Val p (wl true a c v) ∧ ∀ x, cnt (wl true a c v) x = if a = x then 0 else cnt v x := by
  induction v with
  | nil => intro p _; exact ⟨trivial, fun x => by simp [wl, cnt]⟩
  | cons e v ih =>
    intro p h
    obtain ⟨h1, h2, h3, h4⟩ := h
    obtain ⟨i1, i2⟩ := ih h4
    unfold wl
    simp only [Bool.not_true, Bool.false_and, Bool.true_or]
    by_cases he : e.1 = a
    · rw [if_pos he]
      refine ⟨i1.weak (by omega), fun x => ?_⟩
      simp only [List.nil_append, cnt, Bool.false_eq_true, if_false]
      rw [i2 x]
      by_cases hx : a = x
      · rw [if_pos hx, if_pos hx]
      · rw [if_neg hx, if_neg hx, if_neg (by omega)]
    · rw [if_neg he]
      refine ⟨⟨h1, h2, h3, i1⟩, fun x => ?_⟩
      simp only [List.nil_append, List.cons_append, cnt, Bool.false_eq_true, if_false]
      rw [i2 x]
      by_cases hx : a = x
      · rw [if_pos hx, if_neg (by omega), if_pos hx]
      · rw [if_neg hx, if_neg hx]
theorem wl_false {a c : Int} (hc : 1 ≤ c) (hc2 : c ≤ 1000000) {v : List Ent} : ∀ {p : Int}, Val p v → p < a → Val p (wl false a c v) ∧ ∀ x, cnt (wl false a c v) x = if a = x then c else cnt v x := by
  induction v with
  | nil => intro p _ ha; exact ⟨⟨ha, hc, hc2, trivial⟩, fun x => by simp [wl, cnt]⟩
  | cons e v ih =>
    intro p h ha
    obtain ⟨h1, h2, h3, h4⟩ := h
    unfold wl
    by_cases hle : a ≤ e.1
    · obtain ⟨i1, i2⟩ := wl_true (a := a) (c := c) h4
      simp only [hle, decide_true, Bool.not_false, Bool.true_and, Bool.or_true, if_true]
      by_cases he : e.1 = a
      · rw [if_pos he]
        refine ⟨⟨ha, hc, hc2, by rw [List.nil_append]; rw [he] at i1; exact i1⟩, fun x => ?_⟩
        simp only [List.nil_append, List.cons_append, cnt]
        rw [i2 x]
        by_cases hx : a = x
        · rw [if_pos hx, if_pos hx]
        · rw [if_neg hx, if_neg hx, if_neg hx, if_neg (by omega)]
      · rw [if_neg he]
        refine ⟨⟨ha, hc, hc2, by show a < e.1; omega, h2, h3, i1⟩, fun x => ?_⟩
        simp only [List.nil_append, List.cons_append, cnt]
        rw [i2 x]
        by_cases hx : a = x
        · rw [if_pos hx, if_pos hx]
        · rw [if_neg hx, if_neg hx, if_neg hx]
    · obtain ⟨i1, i2⟩ := ih h4 (by omega)
      simp only [hle, decide_false, Bool.and_false, Bool.or_false, Bool.false_eq_true, if_false, List.nil_append]
      rw [if_neg (by omega)]
      refine ⟨⟨h1, h2, h3, i1⟩, fun x => ?_⟩
      simp only [List.nil_append, List.cons_append, cnt]
      rw [i2 x]
      by_cases hx : a = x
      · rw [if_pos hx, if_neg (by omega), if_pos hx]
      · rw [if_neg hx, if_neg hx]

/-- With (P3.2), of arguments within the bounds. -/
def wi (v : List Ent) (a c : Int) : List Ent := wl (decide (c = 0)) a c v
theorem wi_spec {a c : Int} (ha : 1 ≤ a) (hc : 0 ≤ c) (hc2 : c ≤ 1000000) {v : List Ent} (h : Val 0 v) : Val 0 (wi v a c) ∧ ∀ x, cnt (wi v a c) x = if a = x then c else cnt v x := by
  unfold wi
  by_cases h0 : c = 0
  · subst h0
    exact wl_true h
  · rw [decide_eq_false h0]
    exact wl_false (by omega) hc2 h (by omega)
theorem wl_length (put : Bool) (a c : Int) (v : List Ent) : (wl put a c v).length ≤ v.length + (if put then 0 else 1) := by
  induction v generalizing put with
  | nil => cases put <;> simp [wl]
  | cons e v ih =>
    have := ih (put || decide (a ≤ e.1))
    unfold wl
    simp only [List.length_append, List.length_cons]
    cases put
    · by_cases h : a ≤ e.1
      · simp only [h, decide_true, Bool.not_false, Bool.true_and, Bool.or_true, if_true, Bool.false_eq_true, if_false] at this ⊢
        split <;> simp <;> omega
      · simp only [h, decide_false, Bool.and_false, Bool.or_false, Bool.false_eq_true, if_false] at this ⊢
        split <;> simp <;> omega
    · simp only [Bool.not_true, Bool.false_and, Bool.true_or, Bool.false_eq_true, if_false, if_true] at this ⊢
      split <;> simp <;> omega
theorem wi_length (v : List Ent) (a c : Int) : (wi v a c).length ≤ v.length + 1 := by
  have := wl_length (decide (c = 0)) a c v
  unfold wi
  split at this <;> omega

/-- The reference's Join. -/
def rj (out : List Ent) : List Ent → List Ent
  | [] => out
  | e :: b => rj (if cnt out e.1 < e.2 then wi out e.1 e.2 else out) b
/-- The reference's Meet. -/
def rm (b : List Ent) : List Ent → List Ent
  | [] => []
  | e :: a => (if 0 < min e.2 (cnt b e.1) then [(e.1, min e.2 (cnt b e.1))] else []) ++ rm b a
/-- Where the entry of an author is, or would be. -/
def At (v : List Ent) (a : Int) (i : Nat) : Prop := i ≤ v.length ∧ (∀ k e, v[k]? = some e → k < i → e.1 < a) ∧ (∀ k e, v[k]? = some e → i ≤ k → a ≤ e.1)
def fnd (v : List Ent) (a : Int) (i : Nat) : Bool :=
  match v[i]? with
  | some e => decide (e.1 = a)
  | none => false

theorem val_get {v : List Ent} : ∀ {p : Int} {k : Nat} {e : Ent}, Val p v → v[k]? = some e → p < e.1 ∧ 1 ≤ e.2 ∧ e.2 ≤ 1000000 := by
  induction v with
  | nil => intro p k e _ h; cases h
  | cons f v ih =>
    intro p k e h hk
    obtain ⟨h1, h2, h3, h4⟩ := h
    cases k with
    | zero => cases hk; exact ⟨h1, h2, h3⟩
    | succ k =>
      obtain ⟨j1, j2, j3⟩ := ih h4 hk
      exact ⟨by omega, j2, j3⟩
theorem val_lt {v : List Ent} : ∀ {p : Int} {j k : Nat} {e f : Ent}, Val p v → v[j]? = some e → v[k]? = some f → j < k → e.1 < f.1 := by
  induction v with
  | nil => intro p j k e f _ h; cases h
  | cons g v ih =>
    intro p j k e f h hj hk hlt
    obtain ⟨h1, h2, h3, h4⟩ := h
    cases k with
    | zero => omega
    | succ k =>
      cases j with
      | zero => cases hj; exact (val_get h4 hk).1
      | succ j => exact ih h4 hj hk (by omega)

theorem cnt_at {v : List Ent} {a : Int} : ∀ {p : Int} {i : Nat}, Val p v → At v a i → cnt v a = if fnd v a i then (v.getD i (0, 0)).2 else 0 := by
  induction v with
  | nil => intro p i _ _; simp [cnt, fnd]
  | cons e v ih =>
    intro p i h hat
    obtain ⟨h1, h2, h3, h4⟩ := h
    obtain ⟨a1, a2, a3⟩ := hat
    cases i with
    | zero =>
      have := a3 0 e rfl (Nat.le_refl _)
      unfold cnt fnd
      simp only [List.getElem?_cons_zero]
      by_cases he : e.1 = a
      · simp [he]
      · rw [if_neg he, cnt_low h4 (by omega)]
        simp [he]
    | succ i =>
      have := a2 0 e rfl (by omega)
      have hi : At v a i := ⟨by simp at a1; omega, fun k f hk hlt => a2 (k + 1) f hk (by omega), fun k f hk hle => a3 (k + 1) f hk (by omega)⟩
      have hf : fnd (e :: v) a (i + 1) = fnd v a i := by simp [fnd]
      have hg : (e :: v).getD (i + 1) (0, 0) = v.getD i (0, 0) := by simp [List.getD]
      rw [cnt_cons, if_neg (by omega), ih h4 hi, hf, hg]

theorem wi_at {v : List Ent} {a c : Int} : ∀ {p : Int} {i : Nat}, Val p v → At v a i → wi v a c = v.take i ++ (one a c ++ v.drop (i + if fnd v a i then 1 else 0)) := by
  have hfil : ∀ (v : List Ent) (p : Int), Val p v → a ≤ p → wl true a c v = v := by
    intro v
    induction v with
    | nil => intro p _ _; rfl
    | cons e v ih =>
      intro p h hp
      obtain ⟨h1, h2, h3, h4⟩ := h
      unfold wl
      simp only [Bool.not_true, Bool.false_and, Bool.true_or]
      rw [if_neg (by omega : ¬ e.1 = a), ih _ h4 (by omega)]
      rfl
  unfold wi
  induction v with
  | nil =>
    intro p i _ hat
    obtain rfl : i = 0 := by have := hat.1; simpa using this
    by_cases h0 : c = 0 <;> simp [wl, one, h0, fnd]
  | cons e v ih =>
    intro p i h hat
    obtain ⟨h1, h2, h3, h4⟩ := h
    obtain ⟨a1, a2, a3⟩ := hat
    cases i with
    | zero =>
      have hle := a3 0 e rfl (Nat.le_refl _)
      unfold wl
      simp only [hle, decide_true, Bool.or_true, Bool.and_true]
      rw [hfil v e.1 h4 hle]
      by_cases h0 : c = 0 <;> by_cases he : e.1 = a <;> simp [one, h0, fnd, he]
    | succ i =>
      have hlt := a2 0 e rfl (by omega)
      have hi : At v a i := ⟨by simp at a1; omega, fun k f hk hlt => a2 (k + 1) f hk (by omega), fun k f hk hle => a3 (k + 1) f hk (by omega)⟩
      have hr := ih h4 hi
      have hn : ¬ a ≤ e.1 := by omega
      unfold wl
      simp only [hn, decide_false, Bool.or_false, Bool.and_false, Bool.false_eq_true, if_false, List.nil_append]
      rw [if_neg (by omega), hr]
      have hf : fnd (e :: v) a (i + 1) = fnd v a i := by simp [fnd]
      rw [hf, show i + 1 + (if fnd v a i = true then 1 else 0) = (i + if fnd v a i = true then 1 else 0) + 1 by omega]
      simp

end Go.Proofs.YthfpafnljnnndaaGreat.VM

namespace Go.Proofs.YthfpafnljnnndaaGreat.VX
open Go.RowKit
open VM (Ent)

theorem infoEnt : (Tryz.prog.info? 89).map (fun i => (i.zero, i.size, i.bytes)) = some (some (.agg #[.int .i64 0, .int .i64 0]), 2, 16) := by kernel_rfl

/-- The cells of a vector. -/
def ents : List Ent → List Value
  | [] => []
  | e :: v => .int .i64 e.1 :: .int .i64 e.2 :: ents v

theorem ents_length (xs : List Ent) : (ents xs).length = xs.length * 2 := by
  induction xs with
  | nil => rfl
  | cons e v ih => simp only [ents, List.length_cons, ih]; omega
theorem ents_append (xs ys : List Ent) : ents (xs ++ ys) = ents xs ++ ents ys := by
  induction xs with
  | nil => rfl
  | cons e v ih => simp only [ents, List.cons_append, ih]
theorem ents_even (xs : List Ent) : ∀ i : Nat, (ents xs)[i * 2]? = xs[i]?.map fun e => .int .i64 e.1 := by
  induction xs with
  | nil => intro i; simp [ents]
  | cons e v ih =>
    intro i
    cases i with
    | zero => rfl
    | succ i => rw [show (i + 1) * 2 = i * 2 + 1 + 1 by omega]; simp only [ents, List.getElem?_cons_succ]; exact ih i
theorem ents_odd (xs : List Ent) : ∀ i : Nat, (ents xs)[i * 2 + 1]? = xs[i]?.map fun e => .int .i64 e.2 := by
  induction xs with
  | nil => intro i; simp [ents]
  | cons e v ih =>
    intro i
    cases i with
    | zero => rfl
    | succ i => rw [show (i + 1) * 2 + 1 = i * 2 + 1 + 1 + 1 by omega]; simp only [ents, List.getElem?_cons_succ]; exact ih i
theorem ents_one (xs : List Ent) : ∀ u ∈ ents xs, u.oneCell' = true := by
  induction xs with
  | nil => intro u h; cases h
  | cons e v ih =>
    intro u h
    simp only [ents, List.mem_cons] at h
    rcases h with rfl | rfl | h
    · rfl
    · rfl
    · exact ih u h

/-- The slice value v reads in w as the vector xs. -/
def RdV (w : World) (v : Value) (xs : List Ent) : Prop :=
  ∃ a c, v = .slice a xs.length c ∧ xs.length ≤ c ∧ c ≤ maxLen ∧ (a = none → xs = [] ∧ c = 0) ∧
    (∀ x, a = some x → ∀ j u, (ents xs)[j]? = some u → w.cell? (x.add j) = some u)

/-- The slice value v holds the vector xs in memory of the call's own (blocks from 'base' on). -/
def OwnV (base : Nat) (w : World) (v : Value) (xs : List Ent) : Prop := w.ownsRow base 89 2 v xs.length (ents xs)

theorem RdV.nil (w : World) : RdV w (.slice none 0 0) [] := ⟨none, 0, rfl, Nat.le_refl _, Nat.zero_le _, fun _ => ⟨rfl, rfl⟩, fun _ h => by cases h⟩
theorem below_cell {w wr : World} {p : Addr} {v : Value} (hb : Below w.heap.size w wr) (hc : w.cell? p = some v) : wr.cell? p = some v := by
  rw [hb.cell (World.block_lt_of_cell? w _ hc)]; exact hc
theorem RdV.below {w w' : World} {v : Value} {xs : List Ent} (h : RdV w v xs) (hb : Below w.heap.size w w') : RdV w' v xs := by
  obtain ⟨a, c, rfl, h1, h2, h3, h4⟩ := h
  exact ⟨a, c, rfl, h1, h2, h3, fun x hx j u hu => below_cell hb (h4 x hx j u hu)⟩
theorem below_drewN (B : Nat) (w : World) (m : Nat) : Below B w (w.drewN m) := ⟨rfl, rfl, rfl, Nat.le_refl _, fun _ _ => rfl⟩
theorem below_fresh (w : World) (o : Obj) : Below w.heap.size w (w.alloc o) := (Below.refl _ w).alloc (Nat.le_refl _) _
theorem RdV.shape {w : World} {v : Value} {xs : List Ent} (h : RdV w v xs) : ∃ a c, v = .slice a xs.length c ∧ c ≤ 9223372036854775807 ∧ xs.length ≤ c := by
  obtain ⟨a, c, rfl, h1, h2, _⟩ := h
  unfold maxLen at h2
  exact ⟨a, c, rfl, by omega, h1⟩

theorem OwnV.nil (base : Nat) (w : World) : OwnV base w (.slice none 0 0) [] := World.ownsRow_nil _ _ _ _
theorem OwnV.rd {base : Nat} {w : World} {v : Value} {xs : List Ent} (h : OwnV base w v xs) : RdV w v xs := by
  have ho := h
  rcases h.2 with ⟨rfl, h0⟩ | ⟨g, cap, cur, rfl, hg, hh, hn, hm, hs, ht⟩
  · obtain rfl : xs = [] := List.eq_nil_of_length_eq_zero h0
    exact RdV.nil w
  · refine ⟨_, cap, rfl, hn, hm, (fun h => by cases h), fun x hx j u hu => ?_⟩
    cases hx
    exact ho.cells (g := g) rfl j u hu
theorem OwnV.below {base : Nat} {w w' : World} {v : Value} {xs : List Ent} (h : OwnV base w v xs) (hb : Below w.heap.size w w') : OwnV base w' v xs :=
  World.ownsRow.kept h (row := none) ⟨hb.os, hb.tape, hb.output, hb.size, fun k hk _ => hb.block k hk⟩ (by cases v.ownBlock <;> simp)
theorem OwnV.mono {base base' : Nat} {w : World} {v : Value} {xs : List Ent} (h : OwnV base w v xs) (hle : base' ≤ base) : OwnV base' w v xs := by
  obtain ⟨hl, h⟩ := h
  refine ⟨hl, ?_⟩
  rcases h with h | ⟨g, cap, cur, hv, hg, r⟩
  · exact .inl h
  · exact .inr ⟨g, cap, cur, hv, Nat.le_trans hle hg, r⟩
theorem addr_plain (b off j : Nat) : (⟨b, off, none⟩ : Addr).add j = ⟨b, off + j, none⟩ := by unfold Addr.add; split <;> simp_all
theorem addr_block (x : Addr) (j : Nat) : (x.add j).block = x.block := by unfold Addr.add; split <;> rfl

theorem run_sizeEnt (w : World) : Sem.run Tryz.prog (Go.sizeOf 89) w = .ok 2 w := by
  obtain ⟨i0, hi, hz0, hz1, hz2⟩ := info_parts infoEnt
  simp [Go.sizeOf, typeInfo, hi, hz1]

/-- A vector that has entries lies at a plain address. -/
theorem RdV.plain {w : World} {a : Option Addr} {n c : Nat} {xs : List Ent} (h : RdV w (.slice a n c) xs) (h0 : 0 < xs.length) :
    ∃ b o, a = some ⟨b, o, none⟩ ∧ b < w.heap.size ∧ ∀ i e, xs[i]? = some e → w.cell? ⟨b, o + i * 2, none⟩ = some (.int .i64 e.1) ∧ w.cell? ⟨b, o + i * 2 + 1, none⟩ = some (.int .i64 e.2) := by
  obtain ⟨a', c', hv, h1, h2, h3, h4⟩ := h
  cases hv
  cases a with
  | none => have := (h3 rfl).1; subst this; simp at h0
  | some x =>
    obtain ⟨b, o, spot⟩ := x
    have hc0 := h4 _ rfl 0 _ (by rw [show 0 = 0 * 2 from rfl, ents_even, List.getElem?_eq_getElem h0]; rfl)
    have hspot : spot = none := by simpa [Addr.add] using World.cell?_spot hc0
    subst hspot
    rw [addr_plain] at hc0
    refine ⟨b, o, rfl, World.block_lt_of_cell? w _ hc0, fun i e he => ⟨?_, ?_⟩⟩
    · have := h4 _ rfl (i * 2) (.int .i64 e.1) (by rw [ents_even, he]; rfl)
      rw [addr_plain] at this
      exact this
    · have := h4 _ rfl (i * 2 + 1) (.int .i64 e.2) (by rw [ents_odd, he]; rfl)
      rw [addr_plain] at this
      exact this

/-- 'v[k]': where the index leads, and what is there. -/
theorem RdV.at {w : World} {a : Option Addr} {n c : Nat} {xs : List Ent} (h : RdV w (.slice a n c) xs) (k : Nat) (e : Ent) (hk : xs[k]? = some e) :
    ∃ b o, (∀ w0, (Instr.indexAt 54 (.slice a n c) (.int .i64 (k : Int))).run Tryz.prog w0 = .ok (.pointer (some ⟨b, o, none⟩)) w0) ∧ b < w.heap.size ∧
      w.cell? ⟨b, o, none⟩ = some (.int .i64 e.1) ∧ w.cell? ⟨b, o + 1, none⟩ = some (.int .i64 e.2) := by
  have hlt : k < xs.length := (List.getElem?_eq_some_iff.1 hk).1
  obtain ⟨b, o, rfl, hb, hc⟩ := h.plain (by omega)
  obtain ⟨a', c', hv, _⟩ := h
  cases hv
  refine ⟨b, o + k * 2, fun w0 => ?_, hb, hc k e hk⟩
  have h1 : (0 : Int) ≤ (k : Int) := by omega
  have h2 : (k : Int) < (xs.length : Int) := by omega
  have h3 : ¬ xs.length ≤ k := by omega
  simp [Instr.indexAt, asIntOf, run_underlying Tryz.underlying54, h1, Result.andThen, addr_plain]
  intro h4
  exact absurd h4 h3

/-- 'v[lo:]', 'v[:hi]': one run equation each, and what it reads as. -/
theorem RdV.cutL {w : World} {a : Option Addr} {n c : Nat} {xs : List Ent} (h : RdV w (.slice a n c) xs) (lo : Nat) (h2 : lo ≤ xs.length) :
    ∃ v', (∀ w0 : World, (Instr.slice 54 (.slice a n c) (some (.int .i64 (lo : Int))) none none).run Tryz.prog w0 = .ok v' w0) ∧ RdV w v' (xs.drop lo) := by
  obtain ⟨a', c', hv, h3, h4, h5, h6⟩ := h
  cases hv
  refine ⟨.slice (if c = lo then a else a.map (·.add (lo * 2))) (xs.length - lo) (c - lo), fun w0 => ?_, ?_⟩
  · have e1 : (0 : Int) ≤ (lo : Int) := by omega
    have e2 : (lo : Int) ≤ (xs.length : Int) := by omega
    have hz := fun w => run_sizeEnt w
    simp [Instr.slice, run_underlying Tryz.underlying54, Instr.sliceBounds, run_sliceBound, e1, e2, hz, Result.andThen]
  · refine ⟨if c = lo then a else a.map (·.add (lo * 2)), c - lo, by rw [List.length_drop], by rw [List.length_drop]; omega, by omega, ?_, ?_⟩
    · intro hn
      have : a = none := by
        split at hn
        · exact hn
        · simpa using hn
      obtain ⟨rfl, rfl⟩ := h5 this
      simp
    · intro x hx j u hu
      have hne : ¬ c = lo := by
        rintro rfl
        rw [List.drop_of_length_le (by omega)] at hu
        cases hu
      rw [if_neg hne] at hx
      obtain ⟨y, rfl, rfl⟩ := Option.map_eq_some_iff.1 hx
      have hd : ents (xs.drop lo) = (ents xs).drop (lo * 2) := by
        have := congrArg (List.drop (lo * 2)) (ents_append (xs.take lo) (xs.drop lo))
        rw [List.take_append_drop] at this
        rw [this, List.drop_left' (by rw [ents_length, List.length_take]; omega)]
      rw [hd, List.getElem?_drop] at hu
      have hc := h6 y rfl _ _ hu
      have hpos : 0 < xs.length := by
        have := (List.getElem?_eq_some_iff.1 hu).1
        rw [ents_length] at this
        omega
      obtain ⟨b, o, hy, _, _⟩ := RdV.plain ⟨_, _, rfl, h3, h4, h5, h6⟩ hpos
      cases hy
      rw [addr_plain] at hc
      rw [addr_plain, addr_plain, Nat.add_assoc]
      exact hc
theorem RdV.cut0 {w : World} {a : Option Addr} {n c : Nat} {xs : List Ent} (h : RdV w (.slice a n c) xs) (hi : Nat) (h2 : hi ≤ xs.length) :
    ∃ v', (∀ w0 : World, (Instr.slice 54 (.slice a n c) none (some (.int .i64 (hi : Int))) none).run Tryz.prog w0 = .ok v' w0) ∧ RdV w v' (xs.take hi) := by
  obtain ⟨a', c', hv, h3, h4, h5, h6⟩ := h
  cases hv
  refine ⟨.slice a hi c, fun w0 => ?_, ?_⟩
  · have e4 : (0 : Int) ≤ (hi : Int) := by omega
    have e3 : (hi : Int) ≤ (c : Int) := by omega
    have hz := fun w => run_sizeEnt w
    cases a <;> simp [Instr.slice, run_underlying Tryz.underlying54, Instr.sliceBounds, run_sliceBound, e3, e4, hz, Result.andThen, Addr.add]
  · refine ⟨a, c, by rw [List.length_take]; congr 1; omega, by rw [List.length_take]; omega, h4, fun ha => ?_, fun x hx j u hu => ?_⟩
    · obtain ⟨rfl, rfl⟩ := h5 ha
      simp
    · refine h6 x hx j u ?_
      have hd := ents_append (xs.take hi) (xs.drop hi)
      rw [List.take_append_drop] at hd
      rw [hd, List.getElem?_append_left (List.getElem?_eq_some_iff.1 hu).1]
      exact hu

/-- All blocks that hold something else than entries are as they were. -/
def KeepsE (w w' : World) : Prop := ∀ (k : Nat) (cur : Array Value) (t : TypeId) (fr : Nat × Nat), t ≠ 89 → w.heap[k]? = some (Obj.cells cur t fr) → w'.heap[k]? = some (Obj.cells cur t fr)
theorem Below.keepsE {w w' : World} (h : Below w.heap.size w w') : KeepsE w w' := fun k cur t fr _ hk => by
  have hlt : k < w.heap.size := (Array.getElem?_eq_some_iff.1 hk).1
  rw [h.block k hlt]; exact hk
theorem KeepsE.trans {a b c : World} (h : KeepsE a b) (k : KeepsE b c) : KeepsE a c := fun i cur t fr ht hi => k i cur t fr ht (h i cur t fr ht hi)
theorem keepsE_grown {base : Nat} {w w' : World} {v : Value} {n : Nat} {us : List Value} (ho : w.ownsRow base 89 2 v n us) (hg : w.grownBy w' v.ownBlock) : KeepsE w w' := by
  intro k cur t fr ht hk
  have hlt : k < w.heap.size := (Array.getElem?_eq_some_iff.1 hk).1
  rw [hg.block k hlt]
  · exact hk
  · intro he
    rcases ho.2 with ⟨rfl, _⟩ | ⟨g, cap, cur', rfl, _, hh, _⟩
    · cases he
    · simp only [Value.ownBlock] at he
      cases he
      rw [hh] at hk
      cases hk
      exact ht rfl

section
variable {w : World} {ops : Array Oper} {rest : List Oper} {o : Oper} {a : Act} {Q : Exit → Act → World → Prop} {base : Nat} {v : Value} {ys : List Ent}

/-- 'out = append(out, Entry{x, n})', out the call's own vector. -/
theorem wp_appV1 {x n : Int} (hgd : o.guard = none) (s r : Operand) (ho : o.op = .call { callee := .builtin .append, args := #[s, r], argTypes := #[54, 54] })
    (hs : a.eval s = v) (hown : OwnV base w v ys) (hx : a.eval r = .slice (some ⟨w.heap.size, 0, none⟩) 1 1) (hlen : ys.length ≤ 1099511627776) (hb : base ≤ w.heap.size)
    (h : ∀ v' w', OwnV base w' v' (ys ++ [(x, n)]) → Below base w w' → KeepsE w w' → wpList Tryz.prog ops Q rest (a.put o.dst v') w') :
    wpList Tryz.prog ops Q (o :: rest) a (w.alloc (.cells #[.int .i64 x, .int .i64 n] 89)) := by
  obtain ⟨i0, hi, hz0, hz1, hz2⟩ := info_parts infoEnt
  refine wpList_append_own _ hgd s r 54 ho base 89 i0 _ 2 16 Tryz.underlying54 hi hz0 hz1 hz2 rfl (by decide) _ _ _ hs (World.ownsRow.alloc hown _) ⟨w.heap.size, 0, none⟩ 1 1 [.int .i64 x, .int .i64 n] hx rfl ?_ ?_ ?_ ?_ ?_ ?_
  · intro j u hu
    rw [addr_plain, Nat.zero_add, World.cell?_alloc_new]
    simpa using hu
  · intro u hu
    simp at hu
    rcases hu with rfl | rfl <;> rfl
  · unfold maxLen; omega
  · omega
  · simp; omega
  · intro v' w1 ho1 hg1 _
    have hk0 : KeepsE w (w.alloc (.cells #[.int .i64 x, .int .i64 n] 89)) := Below.keepsE (below_fresh w _)
    refine h v' w1 ?_ (((Below.refl _ _).alloc hb _).grown hg1 (by simp; omega) (fun k hk => (World.ownsRow.lt hown k hk).1)) (hk0.trans (keepsE_grown (World.ownsRow.alloc hown _) hg1))
    unfold OwnV
    rw [ents_append, List.length_append]
    exact ho1

/-- 'append(out, u...)', out the call's own vector, u any vector. -/
theorem wp_appVS {u : Value} {zs : List Ent} (hgd : o.guard = none) (s r : Operand) (ho : o.op = .call { callee := .builtin .append, args := #[s, r], argTypes := #[54, 54] })
    (hs : a.eval s = v) (hown : OwnV base w v ys) (hx : a.eval r = u) (hu : RdV w u zs) (hlen : ys.length ≤ 1099511627776) (hlen2 : zs.length ≤ 1099511627776) (hb : base ≤ w.heap.size)
    (h : ∀ v' w', OwnV base w' v' (ys ++ zs) → Below base w w' → wpList Tryz.prog ops Q rest (a.put o.dst v') w') :
    wpList Tryz.prog ops Q (o :: rest) a w := by
  obtain ⟨i0, hi, hz0, hz1, hz2⟩ := info_parts infoEnt
  obtain ⟨ad, c, rfl, h1, h2, h3, h4⟩ := hu
  cases ad with
  | none =>
    obtain ⟨rfl, rfl⟩ := h3 rfl
    exact wpList_append_own_none hgd s r 54 ho base 89 i0 2 Tryz.underlying54 hi _ _ _ hs hown hx (h _ _ (by rw [List.append_nil]; exact hown) (Below.refl _ _))
  | some ad =>
    refine wpList_append_own _ hgd s r 54 ho base 89 i0 _ 2 16 Tryz.underlying54 hi hz0 hz1 hz2 rfl (by decide) _ _ _ hs hown ad zs.length c (ents zs) hx (ents_length zs) (h4 ad rfl) (ents_one zs) ?_ ?_ hb ?_
    · unfold maxLen; omega
    · omega
    · intro v' w1 ho1 hg1 _
      refine h v' w1 ?_ ((Below.refl _ _).grown hg1 hb (fun k hk => (World.ownsRow.lt hown k hk).1))
      unfold OwnV
      rw [ents_append, List.length_append]
      exact ho1
end

end Go.Proofs.YthfpafnljnnndaaGreat.VX

namespace Go.Proofs.YthfpafnljnnndaaGreat.VX
open Go.RowKit
open VM (Ent)

theorem drop_get {xs : List Ent} {k : Nat} (h : k < xs.length) : xs.drop k = xs[k] :: xs.drop (k + 1) := List.drop_eq_getElem_cons h

set_option maxRecDepth 100000 in
set_option maxHeartbeats 1000000 in
theorem rCount (v : Value) (xs : List Ent) (a : Int) (w : World) (h : RdV w v xs) :
    Calls Tryz.prog 29 #[v, .int .i64 a] w fun e w' => e = .returned (.int .i64 (VM.cnt xs a)) ∧ w = w' := by
  obtain ⟨ad, c, rfl, hc, hl⟩ := h.shape
  have H := Lib.hid h
  clear h
  obtain ⟨R, hR⟩ : ∃ R, R = VM.cnt xs a := ⟨_, rfl⟩
  rw [← hR]
  have HR := Lib.hid hR
  clear hR
  go_enter Tryz.func29, Tryz.ntmps29
  go_wp2
  go_loop [5] (fun i => ∃ k : Nat, k ≤ xs.length ∧ i = .int .i64 k ∧ Hid (R = VM.cnt (xs.drop k) a)) (fun i => xs.length - (intOf i).toNat)
  case atStart => exact ⟨0, Nat.zero_le _, rfl, HR.out⟩
  case round =>
    obtain ⟨k, hk, rfl, he⟩ := hrel
    by_cases hlt : k < xs.length
    · obtain ⟨b, o, hi, hb, c0, c1⟩ := H.out.at k xs[k] (List.getElem?_eq_getElem hlt)
      have hq : (k : Int) < (xs.length : Int) := by omega
      have hd := Lib.hid (drop_get hlt)
      generalize xs[k] = en at c0 c1 hd
      obtain ⟨x, n⟩ := en
      simp only at c0 c1
      clear HR
      by_cases hx : x = a
      · have e2 := Lib.hid (show R = n by rw [he.out, hd.out, VM.cnt_cons, if_pos hx])
        subst hx
        clear he hd
        go_wp2
        go_ret
        rw [e2.out]
        exact ⟨rfl, rfl⟩
      · have e2 := Lib.hid (show R = VM.cnt (xs.drop (k + 1)) a by rw [he.out, hd.out, VM.cnt_cons, if_neg hx])
        have hx' : (x == a) = false := by simpa using hx
        clear he hd hx
        go_wp2
        go_round
        case rel => exact ⟨k + 1, by omega, by go_num, e2⟩
        case measure => simp [intOf]; omega
    · have hq : ¬ ((k : Int) < (xs.length : Int)) := by omega
      have e2 := Lib.hid (show R = 0 by rw [he.out, List.drop_of_length_le (by omega)]; rfl)
      clear he HR
      go_wp2
      go_ret
      rw [e2.out]
      exact ⟨rfl, rfl⟩

/-- The author ahead of place k. -/
def prev (xs : List Ent) (k : Nat) : Int := if k = 0 then 0 else (xs.getD (k - 1) (0, 0)).1
end Go.Proofs.YthfpafnljnnndaaGreat.VX

namespace Go.Proofs.YthfpafnljnnndaaGreat.VX
open Go.RowKit
open VM (Ent)

theorem wl_cons (p : Bool) (a c : Int) (e : Ent) (v : List Ent) :
    VM.wl p a c (e :: v) = (if !p && decide (a ≤ e.1) then [(a, c)] else []) ++ ((if e.1 = a then [] else [e]) ++ VM.wl (p || decide (a ≤ e.1)) a c v) := rfl

set_option maxRecDepth 100000 in
set_option maxHeartbeats 2000000 in
theorem rWithIn (v : Value) (xs : List Ent) (a c : Int) (p0 : Bool) (w : World) (h : RdV w v xs) (ha : 1 ≤ a) (hc0 : 0 ≤ c) (hc1 : c ≤ 1000000) (hp : (c == 0) = p0) (hlx : xs.length ≤ 100000) :
    Calls Tryz.prog 39 #[v, .int .i64 a, .int .i64 c] w fun e w' => ∃ v', e = .returned v' ∧ OwnV w.heap.size w' v' (VM.wl p0 a c xs) ∧ Below w.heap.size w w' := by
  obtain ⟨ad, cap, rfl, hc, hl⟩ := h.shape
  have H := Lib.hid h
  clear h
  obtain ⟨R, hR⟩ : ∃ R, R = VM.wl p0 a c xs := ⟨_, rfl⟩
  rw [← hR]
  have HR := Lib.hid hR
  have k1 : ¬ a < 1 := by omega
  have k2 : ¬ c < 0 := by omega
  have k3 : ¬ 1000000 < c := by omega
  clear hR
  go_enter Tryz.func39, Tryz.ntmps39
  go_wp2
  clear hp
  go_loopw [7, 8, 9] (fun z p i wr => ∃ (k : Nat) (os : List Ent) (pb : Bool), k ≤ xs.length ∧ i = .int .i64 k ∧ p = .bool pb ∧ OwnV w.heap.size wr z os ∧ os.length ≤ 2 * k ∧ Below w.heap.size w wr ∧ Hid (os ++ VM.wl pb a c (xs.drop k) = R)) (fun _ _ i _ => xs.length - (intOf i).toNat)
  case atStart => exact ⟨0, [], p0, Nat.zero_le _, rfl, rfl, OwnV.nil _ _, Nat.zero_le _, Below.refl _ _, (by show _ = _; rw [HR.out]; rfl)⟩
  case round =>
    obtain ⟨k, os, pb, hk, rfl, rfl, ho, hol, hbl, he⟩ := hrel
    have hsz := hbl.size
    by_cases hlt : k < xs.length
    · obtain ⟨b, o, hi, hb, c0, c1⟩ := H.out.at k xs[k] (List.getElem?_eq_getElem hlt)
      have hq : (k : Int) < (xs.length : Int) := by omega
      have hd := Lib.hid (drop_get hlt)
      clear HR
      generalize xs[k] = en at c0 c1 hd
      obtain ⟨x, n⟩ := en
      simp only at c0 c1
      have C0 := Lib.hid c0
      have C1 := Lib.hid c1
      have d0 := below_cell hbl c0
      have d1 := below_cell hbl c1
      clear c0 c1
      cases pb with
      | true =>
        by_cases hx : x = a
        · have e2 := Lib.hid (show os ++ VM.wl true a c (xs.drop (k + 1)) = R by rw [← he.out, hd.out, wl_cons, if_pos hx]; rfl)
          have hx' : (x != a) = false := by simpa using hx
          clear he hd hx
          go_wp2
          go_roundw
          case rel => exact ⟨k + 1, os, true, by omega, by go_num, rfl, ho, by omega, hbl, e2⟩
          case measure => simp [intOf]; omega
        · have e2 := Lib.hid (show (os ++ [(x, n)]) ++ VM.wl true a c (xs.drop (k + 1)) = R by rw [← he.out, hd.out, wl_cons, if_neg hx, List.append_assoc]; rfl)
          have hx' : (x != a) = true := by simpa using hx
          clear he hd hx
          go_wp2_with (at_builtin; refine wp_appV1 rfl _ _ rfl rfl ho rfl (by omega) hsz ?_)
          intro v5 w5 ho6 hb7 _
          have hb8 := hbl.trans hb7
          clear ho hb7 d0 d1
          go_wp2
          go_roundw
          case rel => exact ⟨k + 1, _, true, by omega, by go_num, rfl, ho6, (by rw [List.length_append, List.length_singleton]; omega), hb8, e2⟩
          case measure => simp [intOf]; omega
      | false =>
        by_cases hle : a ≤ x
        · have hge : x ≥ a := hle
          by_cases hx : x = a
          · have e2 := Lib.hid (show (os ++ [(a, c)]) ++ VM.wl true a c (xs.drop (k + 1)) = R by rw [← he.out, hd.out, wl_cons, if_pos hx, List.append_assoc]; simp [hle])
            have hx' : (x != a) = false := by simpa using hx
            clear he hd hx
            go_wp2_with (at_builtin; refine wp_appV1 rfl _ _ rfl rfl ho rfl (by omega) hsz ?_)
            intro v5 w5 ho6 hb7 _
            have hb8 := hbl.trans hb7
            clear ho hb7 d0 d1
            have d0 := below_cell hb8 C0.out
            go_wp2
            go_roundw
            case rel => exact ⟨k + 1, _, true, by omega, by go_num, rfl, ho6, (by rw [List.length_append, List.length_singleton]; omega), hb8, e2⟩
            case measure => simp [intOf]; omega
          · have e2 := Lib.hid (show (os ++ [(a, c), (x, n)]) ++ VM.wl true a c (xs.drop (k + 1)) = R by rw [← he.out, hd.out, wl_cons, if_neg hx, List.append_assoc]; simp [hle])
            have hx' : (x != a) = true := by simpa using hx
            clear he hd hx
            go_wp2_with (at_builtin; refine wp_appV1 rfl _ _ rfl rfl ho rfl (by omega) hsz ?_)
            intro v5 w5 ho6 hb7 _
            have hb8 := hbl.trans hb7
            clear ho hb7 d0 d1
            have d0 := below_cell hb8 C0.out
            have d1 := below_cell hb8 C1.out
            have hs8 := hb8.size
            have hol2 : (os ++ [(a, c)]).length ≤ 2 * k + 1 := by rw [List.length_append, List.length_singleton]; omega
            go_wp2_with (at_builtin; refine wp_appV1 rfl _ _ rfl rfl ho6 rfl (by omega) hs8 ?_)
            intro v6 w6 ho7 hb9 _
            have hb10 := hb8.trans hb9
            clear ho6 hb9 d0 d1
            go_wp2
            go_roundw
            case rel => exact ⟨k + 1, _, true, by omega, by go_num, rfl, ho7, (by simp; omega), hb10, e2⟩
            case measure => simp [intOf]; omega
        · have hge : ¬ x ≥ a := hle
          have hx : ¬ x = a := by omega
          have e2 := Lib.hid (show (os ++ [(x, n)]) ++ VM.wl false a c (xs.drop (k + 1)) = R by rw [← he.out, hd.out, wl_cons, if_neg hx, List.append_assoc]; simp [hle])
          have hx' : (x != a) = true := by simpa using hx
          clear he hd hx
          go_wp2_with (at_builtin; refine wp_appV1 rfl _ _ rfl rfl ho rfl (by omega) hsz ?_)
          intro v5 w5 ho6 hb7 _
          have hb8 := hbl.trans hb7
          clear ho hb7 d0 d1
          go_wp2
          go_roundw
          case rel => exact ⟨k + 1, _, false, by omega, by go_num, rfl, ho6, (by rw [List.length_append, List.length_singleton]; omega), hb8, e2⟩
          case measure => simp [intOf]; omega
    · have hq : ¬ ((k : Int) < (xs.length : Int)) := by omega
      have e2 := he.out
      rw [List.drop_of_length_le (by omega)] at e2
      cases pb with
      | true =>
        have e3 := Lib.hid (show os = R by rw [← e2]; simp [VM.wl])
        clear he HR e2
        go_wp2
        go_ret
        rw [← e3.out]
        exact ⟨_, rfl, ho, hbl⟩
      | false =>
        have e3 := Lib.hid (show os ++ [(a, c)] = R by rw [← e2]; simp [VM.wl])
        clear he HR e2
        go_wp2_with (at_builtin; refine wp_appV1 rfl _ _ rfl rfl ho rfl (by omega) hsz ?_)
        intro v5 w5 ho6 hb7 _
        have hb8 := hbl.trans hb7
        clear ho hb7
        go_wp2
        go_ret
        rw [← e3.out]
        exact ⟨_, rfl, ho6, hb8⟩

theorem rWith (v : Value) (xs : List Ent) (a c : Int) (w : World) (h : RdV w v xs) (ha : 1 ≤ a) (hc0 : 0 ≤ c) (hc1 : c ≤ 1000000) (hlx : xs.length ≤ 100000) :
    Calls Tryz.prog 39 #[v, .int .i64 a, .int .i64 c] w fun e w' => ∃ v', e = .returned v' ∧ OwnV w.heap.size w' v' (VM.wi xs a c) ∧ Below w.heap.size w w' :=
  rWithIn v xs a c _ w h ha hc0 hc1 rfl hlx

end Go.Proofs.YthfpafnljnnndaaGreat.VX

namespace Go.Proofs.YthfpafnljnnndaaGreat.VX
open Go.RowKit
open VM (Ent)

theorem vint {x y : Int} (h : x = y) : Value.int .i64 x = Value.int .i64 y := by rw [h]
def cmpi (x a : Int) : Int := if x < a then -1 else if a < x then 1 else 0

set_option maxRecDepth 100000 in
set_option maxHeartbeats 1000000 in
theorem wCmp (x a : Int) (w : World) : Calls Tryz.prog 109 #[.int .i64 x, .int .i64 a] w fun e w' => e = .returned (.int .i64 (cmpi x a)) ∧ w = w' := by
  unfold cmpi
  by_cases h1 : x < a
  · rw [if_pos h1]
    go_enter Tryz.func109, Tryz.ntmps109
    go_wp2
    go_ret
    exact ⟨rfl, rfl⟩
  · rw [if_neg h1]
    by_cases h2 : a < x
    · rw [if_pos h2]
      go_enter Tryz.func109, Tryz.ntmps109
      go_wp2
      go_ret
      exact ⟨rfl, rfl⟩
    · rw [if_neg h2]
      go_enter Tryz.func109, Tryz.ntmps109
      go_wp2
      go_ret
      exact ⟨rfl, rfl⟩

set_option maxRecDepth 100000 in
set_option maxHeartbeats 1000000 in
theorem wLit (x n a : Int) (w : World) : Calls Tryz.prog 120 #[.agg #[.int .i64 x, .int .i64 n], .int .i64 a] w fun e w' => e = .returned (.int .i64 (cmpi x a)) ∧ Below w.heap.size w w' := by
  have h := fun w => wCmp x a w
  generalize cmpi x a = r at h ⊢
  go_enter Tryz.func120, Tryz.ntmps120
  go_wp2_with fail
  refine (h _).mono ?_
  rintro e w1 ⟨rfl, rfl⟩
  go_wp2
  go_ret
  exact ⟨rfl, below_fresh _ _⟩

set_option maxRecDepth 100000 in
set_option maxHeartbeats 2000000 in
theorem wSearch (v : Value) (xs : List Ent) (a : Int) (w : World) (h : RdV w v xs) (hv : VM.Val 0 xs) (hl : xs.length ≤ 1000) :
    Calls Tryz.prog 119 #[v, .int .i64 a, .func (.func 120) #[] #[]] w
      fun e w' => ∃ i : Nat, e = .returned (.tuple #[.int .i64 i, .bool (VM.fnd xs a i)]) ∧ VM.At xs a i ∧ Below w.heap.size w w' := by
  obtain ⟨ad, cap, rfl, hc, _⟩ := h.shape
  have H := Lib.hid h
  have HV := Lib.hid hv
  clear h hv
  go_enter Tryz.func119, Tryz.ntmps119
  go_wp2
  go_loopw [9, 10] (fun i j wr => ∃ p q : Nat, p ≤ q ∧ q ≤ xs.length ∧ i = .int .i64 p ∧ j = .int .i64 q ∧ Below w.heap.size w wr ∧ Hid (∀ k e, xs[k]? = some e → k < p → e.1 < a) ∧ Hid (∀ k e, xs[k]? = some e → q ≤ k → a ≤ e.1)) (fun i j _ => (intOf j - intOf i).toNat)
  case atStart => exact ⟨0, xs.length, Nat.zero_le _, Nat.le_refl _, rfl, rfl, Below.refl _ _, (by show ∀ k e, _; intro k e _ h; omega), (by show ∀ k e, _; intro k e hk h; have := (List.getElem?_eq_some_iff.1 hk).1; omega)⟩
  case round =>
    obtain ⟨p, q, hpq, hq, rfl, rfl, hbl, hlo, hhi⟩ := hrel
    by_cases hlt : p < q
    · have hq1 : (p : Int) < (q : Int) := by omega
      have hmid : (p + q) / 2 < xs.length := by omega
      obtain ⟨b, o, hi, hb, c0, c1⟩ := (H.out.below hbl).at ((p + q) / 2) xs[(p + q) / 2] (List.getElem?_eq_getElem hmid)
      rw [show (((p + q) / 2 : Nat) : Int) = ((p : Int) + (q : Int)) / 2 by omega] at hi
      have hg := Lib.hid (List.getElem?_eq_getElem hmid)
      generalize xs[(p + q) / 2] = en at c0 c1 hg
      obtain ⟨x, n⟩ := en
      simp only at c0 c1
      have hlit := wLit x n a wr
      by_cases hx : x < a
      · rw [show cmpi x a = -1 from if_pos hx] at hlit
        have hlo2 := Lib.hid (show ∀ k e, xs[k]? = some e → k < (p + q) / 2 + 1 → e.1 < a from fun k e hk hkl => by
          by_cases hkm : k = (p + q) / 2
          · subst hkm
            rw [hg.out] at hk
            cases hk
            exact hx
          · have h2 : e.1 < x := VM.val_lt HV.out hk hg.out (by omega)
            omega)
        clear hlo hg
        go_wp2_with (go_at_call 120; refine hlit.mono ?_; rintro e w1 ⟨rfl, hb1⟩)
        go_roundw
        case rel => exact ⟨(p + q) / 2 + 1, q, by omega, hq, vint (by omega), rfl, hbl.trans (hb1.mono hbl.size), hlo2, hhi⟩
        case measure => simp [intOf]; omega
      · have hc : ¬ cmpi x a < 0 := by unfold cmpi; rw [if_neg hx]; split <;> omega
        have hhi2 := Lib.hid (show ∀ k e, xs[k]? = some e → (p + q) / 2 ≤ k → a ≤ e.1 from fun k e hk hkl => by
          by_cases hkm : k = (p + q) / 2
          · subst hkm
            rw [hg.out] at hk
            cases hk
            show a ≤ x; omega
          · have h2 : x < e.1 := VM.val_lt HV.out hg.out hk (by omega)
            omega)
        generalize cmpi x a = r at hlit hc
        clear hhi hg
        go_wp2_with (go_at_call 120; refine hlit.mono ?_; rintro e w1 ⟨rfl, hb1⟩)
        go_roundw
        case rel => exact ⟨p, (p + q) / 2, by omega, by omega, rfl, vint (by omega), hbl.trans (hb1.mono hbl.size), hlo, hhi2⟩
        case measure => simp [intOf]; omega
    · obtain rfl : p = q := by omega
      have hq1 : ¬ ((p : Int) < (p : Int)) := by omega
      have hat := Lib.hid (show VM.At xs a p from ⟨hq, hlo.out, hhi.out⟩)
      by_cases hpn : p < xs.length
      · have hpi : (p : Int) < (xs.length : Int) := by omega
        obtain ⟨b, o, hi, hb, c0, c1⟩ := (H.out.below hbl).at p xs[p] (List.getElem?_eq_getElem hpn)
        have hg := Lib.hid (List.getElem?_eq_getElem hpn)
        generalize xs[p] = en at c0 c1 hg
        obtain ⟨x, n⟩ := en
        simp only at c0 c1
        have hlit := wLit x n a wr
        have hge : a ≤ x := hhi.out p _ hg.out (Nat.le_refl _)
        by_cases hx : x = a
        · have hf := Lib.hid (show VM.fnd xs a p = true by unfold VM.fnd; rw [hg.out]; exact decide_eq_true hx)
          rw [show cmpi x a = 0 by unfold cmpi; rw [if_neg (by omega), if_neg (by omega)]] at hlit
          clear hlo hhi hg hx hge
          go_wp2_with (go_at_call 120; refine hlit.mono ?_; rintro e w1 ⟨rfl, hb1⟩)
          go_ret2
          exact ⟨p, by rw [hf.out]; rfl, hat.out, hbl.trans (hb1.mono hbl.size)⟩
        · have hf := Lib.hid (show VM.fnd xs a p = false by unfold VM.fnd; rw [hg.out]; exact decide_eq_false hx)
          rw [show cmpi x a = 1 by unfold cmpi; rw [if_neg (by omega), if_pos (by omega)]] at hlit
          clear hlo hhi hg hx hge
          go_wp2_with (go_at_call 120; refine hlit.mono ?_; rintro e w1 ⟨rfl, hb1⟩)
          go_ret2
          exact ⟨p, by rw [hf.out]; rfl, hat.out, hbl.trans (hb1.mono hbl.size)⟩
      · have hpi : ¬ ((p : Int) < (xs.length : Int)) := by omega
        have hf := Lib.hid (show VM.fnd xs a p = false by unfold VM.fnd; rw [List.getElem?_eq_none (by omega)])
        clear hlo hhi
        go_wp2
        go_ret2
        exact ⟨p, by rw [hf.out]; rfl, hat.out, hbl⟩

set_option maxRecDepth 100000 in
set_option maxHeartbeats 1000000 in
theorem wFind (v : Value) (xs : List Ent) (a : Int) (w : World) (h : RdV w v xs) (hv : VM.Val 0 xs) (hl : xs.length ≤ 1000) :
    Calls Tryz.prog 86 #[v, .int .i64 a] w fun e w' => ∃ i : Nat, e = .returned (.tuple #[.int .i64 i, .bool (VM.fnd xs a i)]) ∧ VM.At xs a i ∧ Below w.heap.size w w' := by
  have hs := wSearch v xs a w h hv hl
  clear h hv
  go_enter Tryz.func86, Tryz.ntmps86
  go_wp2_with fail
  refine hs.mono ?_
  rintro e w1 ⟨i, rfl, hat, hb⟩
  have HA := Lib.hid hat
  clear hs hat
  obtain ⟨r, hr⟩ : ∃ r, r = VM.fnd xs a i := ⟨_, rfl⟩
  rw [← hr]
  have HR := Lib.hid hr
  clear hr
  go_wp2
  go_ret2
  exact ⟨i, by rw [← HR.out]; rfl, HA.out, hb⟩

set_option maxRecDepth 100000 in
set_option maxHeartbeats 1000000 in
theorem wGet (v : Value) (xs : List Ent) (a : Int) (w : World) (h : RdV w v xs) (hv : VM.Val 0 xs) (hl : xs.length ≤ 1000) :
    Calls Tryz.prog 61 #[v, .int .i64 a] w fun e w' => e = .returned (.int .i64 (VM.cnt xs a)) ∧ Below w.heap.size w w' := by
  have hs := wFind v xs a w h hv hl
  obtain ⟨ad, cap, rfl, hc, _⟩ := h.shape
  have H := Lib.hid h
  have HV := Lib.hid hv
  clear h hv
  go_enter Tryz.func61, Tryz.ntmps61
  go_wp2_with fail
  refine hs.mono ?_
  rintro e w1 ⟨i, rfl, hat, hb⟩
  have hcn := VM.cnt_at HV.out hat
  by_cases hf : VM.fnd xs a i = true
  · have hlt : i < xs.length := by
      unfold VM.fnd at hf
      split at hf
      · rename_i he
        exact (List.getElem?_eq_some_iff.1 he).1
      · cases hf
    obtain ⟨b, o, hi, hb2, c0, c1⟩ := (H.out.below hb).at i xs[i] (List.getElem?_eq_getElem hlt)
    have hli : (i : Int) < (xs.length : Int) := by omega
    rw [hf, if_pos rfl] at hcn
    have hg : xs.getD i (0, 0) = xs[i] := by simp [List.getD, List.getElem?_eq_getElem hlt]
    rw [hg] at hcn
    rw [hf]
    generalize xs[i] = en at c0 c1 hcn
    obtain ⟨x, n⟩ := en
    simp only at c0 c1 hcn
    have HC := Lib.hid hcn
    clear hs hcn hat hf hg
    go_wp2
    go_ret
    exact ⟨by rw [HC.out]; rfl, hb⟩
  · have hf' : VM.fnd xs a i = false := by simpa using hf
    rw [hf', if_neg (by decide)] at hcn
    rw [hf']
    have HC := Lib.hid hcn
    clear hs hcn hat hf hf'
    go_wp2
    go_ret
    exact ⟨by rw [HC.out]; rfl, hb⟩

end Go.Proofs.YthfpafnljnnndaaGreat.VX
