/-
  Plain mathematics of version vectors, as P3.1 to P3.4 speak of them: lists of an author and a count; nothing of the program. No conditions beyond those that each lemma names.
  Vectors in memory: when a slice value reads as a list of an author and a count; what the call's own vector is; an index, a cut, an append. No conditions beyond those that each lemma names.
  The calls of the reference's Count, LessEqual, EqualVector, Size, ValidateVector, and of vector.Size, vector.Validate: each returns what the plain mathematics says. Conditions: the arguments read as vectors, within the bounds that are named.
  The calls of the reference's With, Join, Meet: each returns the call's own vector that the plain mathematics says. Conditions: the arguments read as vectors, valid and within the bounds where they are named.
  The calls of cmp.Compare, slices.BinarySearchFunc, vector.find and its literal, vector.Get. Conditions: the arguments read as vectors, valid and within the bounds where they are named.
-/
import Derived.Test.YtkaafbdhgekeeaaGreatProg
import Derived.WalkKit
import Derived.ProofKit
import Derived.OpenShut
import Derived.ShutString
import Derived.ChangeOld
import Derived.Below
import Derived.WalkSpells
import Derived.WalkLawsBesides
import Derived.Laws.AppendOwnNone
import Derived.Lib.Hide
import Derived.Lib.SliceRun
import Derived.Handy
import Derived.OneCell
import Derived.BigQuiet
import Derived.Deep.QuietTactic
import Derived.Laws.StructEq
import Derived.StillTailTactics
namespace Go.Proofs.YtkaafbdhgekeeaaGreat.VM

abbrev Ent := Int × Int

/-- The count of an author (P3.2). -/
def cnt : List Ent → Int → Int
  | [], _ => 0
  | e :: v, a => if e.1 = a then e.2 else cnt v a

def off (e : Ent) : Bool := decide (e.1 < 1) || (decide (e.2 < 1) || decide (1000000 < e.2))

/-- The error of P3.1, behind an entry of author p (0: none). -/
def err : Int → List Ent → Int
  | _, [] => 0
  | p, e :: v => if off e = true then 9 else if e.1 ≤ p then 7 else err e.1 v

/-- Valid, behind an entry of author p. -/
def Val : Int → List Ent → Prop
  | _, [] => True
  | p, e :: v => p < e.1 ∧ 1 ≤ e.2 ∧ e.2 ≤ 1000000 ∧ Val e.1 v

theorem Val.nil (p : Int) : Val p [] := trivial
theorem Val.weak {p q : Int} {v : List Ent} (h : Val q v) (hp : p ≤ q) : Val p v := by
  cases v with
  | nil => trivial
  | cons e v => exact ⟨by have := h.1; omega, h.2⟩

theorem err_val {v : List Ent} : ∀ {p : Int}, 0 ≤ p → (err p v = 0 ↔ Val p v) := by
  induction v with
  | nil => intro p _; exact ⟨fun _ => trivial, fun _ => rfl⟩
  | cons e v ih =>
    intro p hp
    unfold err Val
    by_cases h1 : off e = true
    · rw [if_pos h1]
      simp [off] at h1
      exact ⟨fun h => by omega, fun h => by obtain ⟨_, _, _, _⟩ := h; omega⟩
    · rw [if_neg h1]
      simp [off] at h1
      by_cases h2 : e.1 ≤ p
      · rw [if_pos h2]
        exact ⟨fun h => by omega, fun h => by obtain ⟨_, _, _, _⟩ := h; omega⟩
      · rw [if_neg h2, ih (by omega)]
        exact ⟨fun h => ⟨by omega, by omega, by omega, h⟩, fun h => h.2.2.2⟩

theorem cnt_cons (e : Ent) (v : List Ent) (a : Int) : cnt (e :: v) a = if e.1 = a then e.2 else cnt v a := rfl

theorem cnt_low {v : List Ent} : ∀ {p a : Int}, Val p v → a ≤ p → cnt v a = 0 := by
  induction v with
  | nil => intro p a _ _; rfl
  | cons e v ih =>
    intro p a h ha
    obtain ⟨h1, _, _, h4⟩ := h
    unfold cnt
    rw [if_neg (by omega)]
    exact ih h4 (by omega)

theorem cnt_bound {v : List Ent} : ∀ {p : Int} (a : Int), Val p v → 0 ≤ cnt v a ∧ cnt v a ≤ 1000000 := by
  induction v with
  | nil => intro p a _; exact ⟨by simp [cnt], by simp [cnt]⟩
  | cons e v ih =>
    intro p a h
    obtain ⟨h1, h2, h3, h4⟩ := h
    unfold cnt
    split
    · omega
    · exact ih a h4

/-- A valid vector is told by its counts. -/
theorem ext {u : List Ent} : ∀ {v : List Ent} {p q : Int}, Val p u → Val q v → (∀ a, cnt u a = cnt v a) → u = v := by
  induction u with
  | nil =>
    intro v p q _ hv h
    cases v with
    | nil => rfl
    | cons f v =>
      have := h f.1
      obtain ⟨h1, h2, h3, h4⟩ := hv
      simp [cnt] at this
      omega
  | cons e u ih =>
    intro v p q hu hv h
    obtain ⟨u1, u2, u3, u4⟩ := hu
    cases v with
    | nil =>
      have := h e.1
      simp [cnt] at this
      omega
    | cons f v =>
      obtain ⟨v1, v2, v3, v4⟩ := hv
      have he := h e.1
      have hf := h f.1
      simp only [cnt, if_true] at he hf
      by_cases hlt : e.1 < f.1
      · rw [if_neg (by omega), cnt_low v4 (by omega)] at he
        omega
      · by_cases hgt : f.1 < e.1
        · rw [if_neg (by omega), cnt_low u4 (by omega)] at hf
          omega
        · have h1 : e.1 = f.1 := by omega
          rw [if_pos h1.symm] at he
          have h2 : e = f := Prod.ext h1 he
          subst h2
          congr 1
          refine ih u4 v4 fun a => ?_
          by_cases ha : e.1 = a
          · rw [cnt_low u4 (by omega), cnt_low v4 (by omega)]
          · have := h a
            simp only [cnt, if_neg ha] at this
            exact this

/-- An entry, unless the count is 0. -/
def one (a n : Int) : List Ent := if n = 0 then [] else [(a, n)]

theorem cnt_one {x n : Int} {r : List Ent} (h : Val x r) (c : Int) : cnt (one x n ++ r) c = if x = c then n else cnt r c := by
  unfold one
  by_cases hn : n = 0
  · rw [if_pos hn, List.nil_append]
    split
    · rename_i hx
      rw [cnt_low h (by omega), hn]
    · rfl
  · rw [if_neg hn]
    rfl

theorem val_one {p x n : Int} {r : List Ent} (h : Val x r) (hp : p < x) (h0 : 0 ≤ n) (h1 : n ≤ 1000000) : Val p (one x n ++ r) := by
  unfold one
  by_cases hn : n = 0
  · rw [if_pos hn, List.nil_append]
    exact h.weak (by omega)
  · rw [if_neg hn]
    exact ⟨hp, by show 1 ≤ n; omega, h1, h⟩

/-- The authors of two vectors, ascending, each with its counts in both. -/
def mrg : List Ent → List Ent → List (Int × Int × Int)
  | [], [] => []
  | e :: a, [] => (e.1, e.2, 0) :: mrg a []
  | [], f :: b => (f.1, 0, f.2) :: mrg [] b
  | e :: a, f :: b =>
    if e.1 < f.1 then (e.1, e.2, 0) :: mrg a (f :: b)
    else if f.1 < e.1 then (f.1, 0, f.2) :: mrg (e :: a) b
    else (e.1, e.2, f.2) :: mrg a b
termination_by a b => a.length + b.length

def sel (f : Int → Int → Int) (ts : List (Int × Int × Int)) : List Ent := ts.flatMap fun t => one t.1 (f t.2.1 t.2.2)
theorem sel_snoc (f : Int → Int → Int) (ts : List (Int × Int × Int)) (t : Int × Int × Int) : sel f (ts ++ [t]) = sel f ts ++ one t.1 (f t.2.1 t.2.2) := by
  simp [sel, List.flatMap_append]
theorem sel_cons (f : Int → Int → Int) (t : Int × Int × Int) (ts : List (Int × Int × Int)) : sel f (t :: ts) = one t.1 (f t.2.1 t.2.2) ++ sel f ts := rfl

/-- What mrg does, as a way to prove: three steps. -/
theorem mrg_rec {M : Int → List Ent → List Ent → List (Int × Int × Int) → Prop} (h0 : ∀ p, M p [] [] [])
    (h1 : ∀ p e a b ts, p < e.1 → 1 ≤ e.2 → e.2 ≤ 1000000 → Val e.1 a → Val e.1 b → M e.1 a b ts → M p (e :: a) b ((e.1, e.2, 0) :: ts))
    (h2 : ∀ p f a b ts, p < f.1 → 1 ≤ f.2 → f.2 ≤ 1000000 → Val f.1 a → Val f.1 b → M f.1 a b ts → M p a (f :: b) ((f.1, 0, f.2) :: ts))
    (h3 : ∀ p e f a b ts, p < e.1 → e.1 = f.1 → 1 ≤ e.2 → e.2 ≤ 1000000 → 1 ≤ f.2 → f.2 ≤ 1000000 → Val e.1 a → Val e.1 b → M e.1 a b ts → M p (e :: a) (f :: b) ((e.1, e.2, f.2) :: ts))
    (a b : List Ent) : ∀ p, Val p a → Val p b → M p a b (mrg a b) := by
  induction a, b using mrg.induct with
  | case1 => intro p _ _; rw [mrg]; exact h0 p
  | case2 e a ih =>
    intro p ha _
    obtain ⟨a1, a2, a3, a4⟩ := ha
    rw [mrg]
    exact h1 p e a [] _ a1 a2 a3 a4 trivial (ih _ a4 trivial)
  | case3 f b ih =>
    intro p _ hb
    obtain ⟨b1, b2, b3, b4⟩ := hb
    rw [mrg]
    exact h2 p f [] b _ b1 b2 b3 trivial b4 (ih _ trivial b4)
  | case4 e a f b hlt ih =>
    intro p ha hb
    obtain ⟨a1, a2, a3, a4⟩ := ha
    obtain ⟨b1, b2, b3, b4⟩ := hb
    have hb' : Val e.1 (f :: b) := ⟨hlt, b2, b3, b4⟩
    rw [mrg, if_pos hlt]
    exact h1 p e a _ _ a1 a2 a3 a4 hb' (ih _ a4 hb')
  | case5 e a f b hlt hgt ih =>
    intro p ha hb
    obtain ⟨a1, a2, a3, a4⟩ := ha
    obtain ⟨b1, b2, b3, b4⟩ := hb
    have ha' : Val f.1 (e :: a) := ⟨hgt, a2, a3, a4⟩
    rw [mrg, if_neg hlt, if_pos hgt]
    exact h2 p f _ b _ b1 b2 b3 ha' b4 (ih _ ha' b4)
  | case6 e a f b hlt hgt ih =>
    intro p ha hb
    obtain ⟨a1, a2, a3, a4⟩ := ha
    obtain ⟨b1, b2, b3, b4⟩ := hb
    have he : e.1 = f.1 := by omega
    have hb' : Val e.1 b := by rw [he]; exact b4
    rw [mrg, if_neg hlt, if_neg hgt]
    exact h3 p e f a b _ a1 he a2 a3 b2 b3 a4 hb' (ih _ a4 hb')

theorem sel_spec {f : Int → Int → Int} (h00 : f 0 0 = 0) (hb : ∀ x y, 0 ≤ x → x ≤ 1000000 → 0 ≤ y → y ≤ 1000000 → 0 ≤ f x y ∧ f x y ≤ 1000000) {p : Int} {a b : List Ent} (ha : Val p a) (hv : Val p b) :
    Val p (sel f (mrg a b)) ∧ ∀ c, cnt (sel f (mrg a b)) c = f (cnt a c) (cnt b c) := by
  refine mrg_rec (M := fun p a b ts => Val p (sel f ts) ∧ ∀ c, cnt (sel f ts) c = f (cnt a c) (cnt b c)) ?_ ?_ ?_ ?_ a b p ha hv
  · exact fun p => ⟨trivial, fun c => h00.symm⟩
  · rintro p e a b ts k1 k2 k3 k4 k5 ⟨i1, i2⟩
    have := hb e.2 0 (by omega) k3 (by omega) (by omega)
    refine ⟨val_one i1 k1 this.1 this.2, fun c => ?_⟩
    rw [sel_cons, cnt_one i1, i2]
    simp only [cnt]
    split
    · rename_i hc
      subst hc
      rw [cnt_low k5 (by omega)]
    · rfl
  · rintro p e a b ts k1 k2 k3 k4 k5 ⟨i1, i2⟩
    have := hb 0 e.2 (by omega) (by omega) (by omega) k3
    refine ⟨val_one i1 k1 this.1 this.2, fun c => ?_⟩
    rw [sel_cons, cnt_one i1, i2]
    simp only [cnt]
    split
    · rename_i hc
      subst hc
      rw [cnt_low k4 (by omega)]
    · rfl
  · rintro p e g a b ts k1 k2 k3 k4 k5 k6 k7 k8 ⟨i1, i2⟩
    have := hb e.2 g.2 (by omega) k4 (by omega) k6
    refine ⟨val_one i1 k1 this.1 this.2, fun c => ?_⟩
    rw [sel_cons, cnt_one i1, i2]
    simp only [cnt, ← k2]
    split <;> rfl

/-- Join and Meet (P3.3). -/
def jn (a b : List Ent) : List Ent := sel max (mrg a b)
def mt (a b : List Ent) : List Ent := sel min (mrg a b)

theorem jn_spec {p : Int} {a b : List Ent} (ha : Val p a) (hb : Val p b) : Val p (jn a b) ∧ ∀ c, cnt (jn a b) c = max (cnt a c) (cnt b c) :=
  sel_spec (by decide) (fun x y _ _ _ _ => by omega) ha hb
theorem mt_spec {p : Int} {a b : List Ent} (ha : Val p a) (hb : Val p b) : Val p (mt a b) ∧ ∀ c, cnt (mt a b) c = min (cnt a c) (cnt b c) :=
  sel_spec (by decide) (fun x y _ _ _ _ => by omega) ha hb

theorem mrg_length (a b : List Ent) : (mrg a b).length ≤ a.length + b.length := by
  induction a, b using mrg.induct with
  | case1 => rw [mrg]; simp
  | case2 e a ih => rw [mrg]; simp at ih ⊢; omega
  | case3 f b ih => rw [mrg]; simp at ih ⊢; omega
  | case4 e a f b hlt ih => rw [mrg, if_pos hlt]; simp at ih ⊢; omega
  | case5 e a f b hlt hgt ih => rw [mrg, if_neg hlt, if_pos hgt]; simp at ih ⊢; omega
  | case6 e a f b hlt hgt ih => rw [mrg, if_neg hlt, if_neg hgt]; simp at ih ⊢; omega
theorem one_length (a n : Int) : (one a n).length ≤ 1 := by unfold one; split <;> simp
theorem sel_length (f : Int → Int → Int) (ts : List (Int × Int × Int)) : (sel f ts).length ≤ ts.length := by
  induction ts with
  | nil => simp [sel]
  | cons t ts ih => rw [sel_cons, List.length_append, List.length_cons]; have := one_length t.1 (f t.2.1 t.2.2); omega
theorem jn_length (a b : List Ent) : (jn a b).length ≤ a.length + b.length := Nat.le_trans (sel_length _ _) (mrg_length _ _)
theorem mt_length (a b : List Ent) : (mt a b).length ≤ a.length + b.length := Nat.le_trans (sel_length _ _) (mrg_length _ _)

/-- LessEqual (P3.3). -/
def le (a b : List Ent) : Bool := a.all fun e => decide (e.2 ≤ cnt b e.1)

theorem le_iff {p q : Int} {a b : List Ent} (ha : Val p a) (hb : Val q b) : le a b = true ↔ ∀ c, cnt a c ≤ cnt b c := by
  induction a generalizing p with
  | nil => exact ⟨fun _ c => by have := cnt_bound c hb; simp only [cnt]; omega, fun _ => rfl⟩
  | cons e a ih =>
    obtain ⟨h1, h2, h3, h4⟩ := ha
    have hi := ih h4
    unfold le at hi ⊢
    rw [List.all_cons, Bool.and_eq_true, hi, decide_eq_true_iff]
    refine ⟨fun ⟨k1, k2⟩ c => ?_, fun h => ⟨?_, fun c => ?_⟩⟩
    · rw [cnt_cons]
      split
      · rename_i hc; subst hc; exact k1
      · exact k2 c
    · have := h e.1
      simp only [cnt, if_true] at this
      exact this
    · by_cases hc : e.1 = c
      · subst hc
        rw [cnt_low h4 (by omega)]
        have := cnt_bound e.1 hb
        omega
      · have := h c
        simp only [cnt, if_neg hc] at this
        exact this

theorem mrg_mem {p : Int} {a b : List Ent} (ha : Val p a) (hb : Val p b) :
    (∀ t ∈ mrg a b, p < t.1 ∧ t.2.1 = cnt a t.1 ∧ t.2.2 = cnt b t.1) ∧ ∀ c, (cnt a c = 0 ∧ cnt b c = 0) ∨ (c, cnt a c, cnt b c) ∈ mrg a b := by
  refine mrg_rec (M := fun p a b ts => (∀ t ∈ ts, p < t.1 ∧ t.2.1 = cnt a t.1 ∧ t.2.2 = cnt b t.1) ∧ ∀ c, (cnt a c = 0 ∧ cnt b c = 0) ∨ (c, cnt a c, cnt b c) ∈ ts) ?_ ?_ ?_ ?_ a b p ha hb
  · exact fun p => ⟨fun t h => (by cases h), fun c => .inl ⟨rfl, rfl⟩⟩
  · rintro p e a b ts k1 k2 k3 k4 k5 ⟨i1, i2⟩
    refine ⟨fun t ht => ?_, fun c => ?_⟩
    · rcases List.mem_cons.1 ht with rfl | ht
      · exact ⟨k1, by simp [cnt], (cnt_low k5 (by show e.1 ≤ e.1; omega)).symm⟩
      · obtain ⟨j1, j2, j3⟩ := i1 t ht
        refine ⟨by omega, ?_, j3⟩
        rw [j2]
        unfold cnt
        rw [if_neg (by omega)]
        cases a <;> rfl
    · by_cases hc : e.1 = c
      · subst hc
        refine .inr (List.mem_cons.2 (.inl ?_))
        rw [cnt_low k5 (by omega)]
        simp [cnt]
      · simp only [cnt, if_neg hc]
        rcases i2 c with h | h
        · exact .inl h
        · exact .inr (List.mem_cons.2 (.inr h))
  · rintro p e a b ts k1 k2 k3 k4 k5 ⟨i1, i2⟩
    refine ⟨fun t ht => ?_, fun c => ?_⟩
    · rcases List.mem_cons.1 ht with rfl | ht
      · exact ⟨k1, (cnt_low k4 (by show e.1 ≤ e.1; omega)).symm, by simp [cnt]⟩
      · obtain ⟨j1, j2, j3⟩ := i1 t ht
        refine ⟨by omega, j2, ?_⟩
        rw [j3]
        show _ = if e.1 = t.1 then e.2 else cnt b t.1
        rw [if_neg (by omega)]
    · by_cases hc : e.1 = c
      · subst hc
        refine .inr (List.mem_cons.2 (.inl ?_))
        rw [cnt_low k4 (by omega)]
        simp [cnt]
      · simp only [cnt, if_neg hc]
        rcases i2 c with h | h
        · exact .inl h
        · exact .inr (List.mem_cons.2 (.inr h))
  · rintro p e g a b ts k1 k2 k3 k4 k5 k6 k7 k8 ⟨i1, i2⟩
    refine ⟨fun t ht => ?_, fun c => ?_⟩
    · rcases List.mem_cons.1 ht with rfl | ht
      · exact ⟨k1, by simp [cnt], by simp [cnt, k2]⟩
      · obtain ⟨j1, j2, j3⟩ := i1 t ht
        refine ⟨by omega, ?_, ?_⟩
        · rw [j2]
          show _ = if e.1 = t.1 then e.2 else cnt a t.1
          rw [if_neg (by omega)]
        · rw [j3]
          show _ = if g.1 = t.1 then g.2 else cnt b t.1
          rw [if_neg (by omega)]
    · by_cases hc : e.1 = c
      · subst hc
        refine .inr (List.mem_cons.2 (.inl ?_))
        simp [cnt, k2]
      · simp only [cnt, ← k2, if_neg hc]
        rcases i2 c with h | h
        · exact .inl h
        · exact .inr (List.mem_cons.2 (.inr h))

/-- Some count is smaller in the first, in the second (what Compare gathers). -/
def anyL (ts : List (Int × Int × Int)) : Bool := ts.any fun t => decide (t.2.1 < t.2.2)
def anyG (ts : List (Int × Int × Int)) : Bool := ts.any fun t => decide (t.2.2 < t.2.1)
def code (l g : Bool) : Int := (if l then 1 else 0) + (if g then 2 else 0)

theorem anyL_le {p : Int} {a b : List Ent} (ha : Val p a) (hb : Val p b) : anyL (mrg a b) = !le b a := by
  obtain ⟨m1, m2⟩ := mrg_mem ha hb
  rw [Bool.eq_iff_iff, Bool.not_eq_true', ← Bool.not_eq_true, le_iff hb ha]
  unfold anyL
  rw [List.any_eq_true]
  refine ⟨fun ⟨t, ht, hl⟩ h => ?_, fun h => ?_⟩
  · obtain ⟨_, j2, j3⟩ := m1 t ht
    have := h t.1
    simp at hl
    omega
  · simp only [Classical.not_forall, Int.not_le] at h
    obtain ⟨c, hc⟩ := h
    rcases m2 c with ⟨k1, k2⟩ | k
    · omega
    · exact ⟨_, k, by simpa using hc⟩
theorem anyG_le {p : Int} {a b : List Ent} (ha : Val p a) (hb : Val p b) : anyG (mrg a b) = !le a b := by
  obtain ⟨m1, m2⟩ := mrg_mem ha hb
  rw [Bool.eq_iff_iff, Bool.not_eq_true', ← Bool.not_eq_true, le_iff ha hb]
  unfold anyG
  rw [List.any_eq_true]
  refine ⟨fun ⟨t, ht, hl⟩ h => ?_, fun h => ?_⟩
  · obtain ⟨_, j2, j3⟩ := m1 t ht
    have := h t.1
    simp at hl
    omega
  · simp only [Classical.not_forall, Int.not_le] at h
    obtain ⟨c, hc⟩ := h
    rcases m2 c with ⟨k1, k2⟩ | k
    · omega
    · exact ⟨_, k, by simpa using hc⟩

/-- The sum of all counts (P3.3). -/
def size : List Ent → Int
  | [] => 0
  | e :: v => e.2 + size v
theorem size_append (u v : List Ent) : size (u ++ v) = size u + size v := by
  induction u with
  | nil => simp [size]
  | cons e u ih => rw [List.cons_append]; simp only [size]; omega
theorem size_one (x n : Int) (r : List Ent) : size (one x n ++ r) = n + size r := by
  rw [size_append]
  unfold one
  split
  · rename_i h; subst h; simp [size]
  · simp [size]
theorem size_bound {v : List Ent} : ∀ {p : Int}, Val p v → 0 ≤ size v ∧ size v ≤ 1000000 * (v.length : Int) := by
  induction v with
  | nil => intro p _; simp [size]
  | cons e v ih =>
    intro p h
    obtain ⟨_, h2, h3, h4⟩ := h
    have := ih h4
    simp only [size, List.length_cons]
    omega

theorem size_sum {p : Int} {a b : List Ent} (ha : Val p a) (hb : Val p b) : size (jn a b) + size (mt a b) = size a + size b := by
  refine mrg_rec (M := fun p a b ts => size (sel max ts) + size (sel min ts) = size a + size b) ?_ ?_ ?_ ?_ a b p ha hb
  · exact fun p => rfl
  · intro p e a b ts k1 k2 k3 k4 k5 i
    rw [sel_cons, sel_cons, size_one, size_one]
    simp only [size]
    omega
  · intro p e a b ts k1 k2 k3 k4 k5 i
    rw [sel_cons, sel_cons, size_one, size_one]
    simp only [size]
    omega
  · intro p e g a b ts k1 k2 k3 k4 k5 k6 k7 k8 i
    rw [sel_cons, sel_cons, size_one, size_one]
    simp only [size]
    omega

/-- The last sentence of P3.4, beside what a comparison says of sizes. -/
theorem size_le {p : Int} {a b : List Ent} (ha : Val p a) (hb : Val p b) (h : le a b = true) : size a < size b ∨ a = b := by
  have hle := (le_iff ha hb).1 h
  obtain ⟨m1, m2⟩ := mrg_mem ha hb
  have key : size a ≤ size b ∧ (size a = size b → ∀ t ∈ mrg a b, t.2.1 = t.2.2) := by
    have hall : ∀ t ∈ mrg a b, t.2.1 ≤ t.2.2 := fun t ht => by
      obtain ⟨_, j2, j3⟩ := m1 t ht
      rw [j2, j3]
      exact hle _
    refine mrg_rec (M := fun p a b ts => (∀ t ∈ ts, t.2.1 ≤ t.2.2) → size a ≤ size b ∧ (size a = size b → ∀ t ∈ ts, t.2.1 = t.2.2)) ?_ ?_ ?_ ?_ a b p ha hb hall
    · exact fun p _ => ⟨Int.le_refl _, fun _ t ht => by cases ht⟩
    · intro p e a b ts k1 k2 k3 k4 k5 i hall
      have h1 := hall _ (List.mem_cons.2 (.inl rfl))
      have h2 := i fun t ht => hall t (List.mem_cons.2 (.inr ht))
      simp only at h1
      omega
    · intro p e a b ts k1 k2 k3 k4 k5 i hall
      have h2 := i fun t ht => hall t (List.mem_cons.2 (.inr ht))
      simp only [size]
      refine ⟨by omega, fun he => by omega⟩
    · intro p e g a b ts k1 k2 k3 k4 k5 k6 k7 k8 i hall
      have h1 := hall _ (List.mem_cons.2 (.inl rfl))
      have h2 := i fun t ht => hall t (List.mem_cons.2 (.inr ht))
      simp only at h1
      simp only [size]
      refine ⟨by omega, fun he t ht => ?_⟩
      rcases List.mem_cons.1 ht with rfl | ht
      · show e.2 = g.2; omega
      · exact h2.2 (by omega) t ht
  by_cases hs : size a = size b
  · refine .inr (ext ha hb fun c => ?_)
    rcases m2 c with ⟨k1, k2⟩ | k
    · rw [k1, k2]
    · exact key.2 hs _ k
  · exact .inl (by omega)

/-- What the reference's With appends from here on. -/
def wl (put : Bool) (a c : Int) : List Ent → List Ent
  | [] => if put then [] else [(a, c)]
  | e :: v => (if !put && decide (a ≤ e.1) then [(a, c)] else []) ++ ((if e.1 = a then [] else [e]) ++ wl (put || decide (a ≤ e.1)) a c v)

theorem wl_true {a c : Int} {v : List Ent} : ∀ {p : Int}, Val p v → Val p (wl true a c v) ∧ ∀ x, cnt (wl true a c v) x = if a = x then 0 else cnt v x := by
  induction v with
  | nil => intro p _; exact ⟨trivial, fun x => by simp [wl, cnt]⟩
  | cons e v ih =>
    intro p h
    obtain ⟨h1, h2, h3, h4⟩ := h
    obtain ⟨i1, i2⟩ := ih h4
    unfold wl
    simp only [Bool.not_true, Bool.false_and, Bool.true_or]
    by_cases he : e.1 = a
    · rw [if_pos he]
      refine ⟨i1.weak (by omega), fun x => ?_⟩
      simp only [List.nil_append, cnt, Bool.false_eq_true, if_false]
      rw [i2 x]
      by_cases hx : a = x
      · rw [if_pos hx, if_pos hx]
      · rw [if_neg hx, if_neg hx, if_neg (by omega)]
    · rw [if_neg he]
      refine ⟨⟨h1, h2, h3, i1⟩, fun x => ?_⟩
      simp only [List.nil_append, List.cons_append, cnt, Bool.false_eq_true, if_false]
      rw [i2 x]
      by_cases hx : a = x
      · rw [if_pos hx, if_neg (by omega), if_pos hx]
      · rw [if_neg hx, if_neg hx]
theorem wl_false {a c : Int} (hc : 1 ≤ c) (hc2 : c ≤ 1000000) {v : List Ent} : ∀ {p : Int}, Val p v → p < a → Val p (wl false a c v) ∧ ∀ x, cnt (wl false a c v) x = if a = x then c else cnt v x := by
  induction v with
  | nil => intro p _ ha; exact ⟨⟨ha, hc, hc2, trivial⟩, fun x => by simp [wl, cnt]⟩
  | cons e v ih =>
    intro p h ha
    obtain ⟨h1, h2, h3, h4⟩ := h
    unfold wl
    by_cases hle : a ≤ e.1
    · obtain ⟨i1, i2⟩ := wl_true (a := a) (c := c) h4
      simp only [hle, decide_true, Bool.not_false, Bool.true_and, Bool.or_true, if_true]
      by_cases he : e.1 = a
      · rw [if_pos he]
        refine ⟨⟨ha, hc, hc2, by rw [List.nil_append]; rw [he] at i1; exact i1⟩, fun x => ?_⟩
        simp only [List.nil_append, List.cons_append, cnt]
        rw [i2 x]
        by_cases hx : a = x
        · rw [if_pos hx, if_pos hx]
        · rw [if_neg hx, if_neg hx, if_neg hx, if_neg (by omega)]
      · rw [if_neg he]
        refine ⟨⟨ha, hc, hc2, by show a < e.1; omega, h2, h3, i1⟩, fun x => ?_⟩
        simp only [List.nil_append, List.cons_append, cnt]
        rw [i2 x]
        by_cases hx : a = x
        · rw [if_pos hx, if_pos hx]
        · rw [if_neg hx, if_neg hx, if_neg hx]
    · obtain ⟨i1, i2⟩ := ih h4 (by omega)
      simp only [hle, decide_false, Bool.and_false, Bool.or_false, Bool.false_eq_true, if_false, List.nil_append]
      rw [if_neg (by omega)]
      refine ⟨⟨h1, h2, h3, i1⟩, fun x => ?_⟩
      simp only [List.nil_append, List.cons_append, cnt]
      rw [i2 x]
      by_cases hx : a = x
      · rw [if_pos hx, if_neg (by omega), if_pos hx]
      · rw [if_neg hx, if_neg hx]

/-- With (P3.2), of arguments within the bounds. -/
def wi (v : List Ent) (a c : Int) : List Ent := wl (decide (c = 0)) a c v
theorem wi_spec {a c : Int} (ha : 1 ≤ a) (hc : 0 ≤ c) (hc2 : c ≤ 1000000) {v : List Ent} (h : Val 0 v) : Val 0 (wi v a c) ∧ ∀ x, cnt (wi v a c) x = if a = x then c else cnt v x := by
  unfold wi
  by_cases h0 : c = 0
  · subst h0
    exact wl_true h
  · rw [decide_eq_false h0]
    exact wl_false (by omega) hc2 h (by omega)
theorem wl_length (put : Bool) (a c : Int) (v : List Ent) : (wl put a c v).length ≤ v.length + (if put then 0 else 1) := by
  induction v generalizing put with
  | nil => cases put <;> simp [wl]
  | cons e v ih =>
    have := ih (put || decide (a ≤ e.1))
    unfold wl
    simp only [List.length_append, List.length_cons]
    cases put
    · by_cases h : a ≤ e.1
      · simp only [h, decide_true, Bool.not_false, Bool.true_and, Bool.or_true, if_true, Bool.false_eq_true, if_false] at this ⊢
        split <;> simp <;> omega
      · simp only [h, decide_false, Bool.and_false, Bool.or_false, Bool.false_eq_true, if_false] at this ⊢
        split <;> simp <;> omega
    · simp only [Bool.not_true, Bool.false_and, Bool.true_or, Bool.false_eq_true, if_false, if_true] at this ⊢
      split <;> simp <;> omega
theorem wi_length (v : List Ent) (a c : Int) : (wi v a c).length ≤ v.length + 1 := by
  have := wl_length (decide (c = 0)) a c v
  unfold wi
  split at this <;> omega

/-- The reference's Join. -/
def rj (out : List Ent) : List Ent → List Ent
  | [] => out
  | e :: b => rj (if cnt out e.1 < e.2 then wi out e.1 e.2 else out) b
theorem rj_spec {b : List Ent} : ∀ {out : List Ent} {q : Int}, 0 ≤ q → Val 0 out → Val q b → Val 0 (rj out b) ∧ ∀ x, cnt (rj out b) x = max (cnt out x) (cnt b x) := by
  induction b with
  | nil => intro out q _ ho _; exact ⟨ho, fun x => by have := cnt_bound x ho; show cnt out x = max (cnt out x) 0; omega⟩
  | cons e b ih =>
    intro out q hq ho hb
    obtain ⟨b1, b2, b3, b4⟩ := hb
    unfold rj
    by_cases h : cnt out e.1 < e.2
    · rw [if_pos h]
      obtain ⟨k1, k2⟩ := wi_spec (a := e.1) (c := e.2) (by omega) (by omega) b3 ho
      obtain ⟨i1, i2⟩ := ih (by omega) k1 b4
      refine ⟨i1, fun x => ?_⟩
      rw [i2, k2]
      simp only [cnt]
      by_cases hx : e.1 = x
      · subst hx
        rw [if_pos rfl, if_pos rfl, cnt_low b4 (by omega)]
        omega
      · rw [if_neg hx, if_neg hx]
    · rw [if_neg h]
      obtain ⟨i1, i2⟩ := ih (by omega) ho b4
      refine ⟨i1, fun x => ?_⟩
      rw [i2]
      simp only [cnt]
      by_cases hx : e.1 = x
      · subst hx
        rw [if_pos rfl, cnt_low b4 (by omega)]
        omega
      · rw [if_neg hx]
theorem rj_jn {a b : List Ent} (ha : Val 0 a) (hb : Val 0 b) : rj a b = jn a b := by
  obtain ⟨h1, h2⟩ := rj_spec (Int.le_refl 0) ha hb
  obtain ⟨k1, k2⟩ := jn_spec ha hb
  exact ext h1 k1 fun c => by rw [h2, k2]

/-- The reference's Meet. -/
def rm (b : List Ent) : List Ent → List Ent
  | [] => []
  | e :: a => (if 0 < min e.2 (cnt b e.1) then [(e.1, min e.2 (cnt b e.1))] else []) ++ rm b a
theorem rm_spec {b : List Ent} {q : Int} (hb : Val q b) {a : List Ent} : ∀ {p : Int}, Val p a → Val p (rm b a) ∧ ∀ x, cnt (rm b a) x = min (cnt a x) (cnt b x) := by
  induction a with
  | nil => intro p _; exact ⟨trivial, fun x => by have := cnt_bound x hb; show 0 = min 0 (cnt b x); omega⟩
  | cons e a ih =>
    intro p ha
    obtain ⟨a1, a2, a3, a4⟩ := ha
    obtain ⟨i1, i2⟩ := ih a4
    have hbd := cnt_bound e.1 hb
    have hs : rm b (e :: a) = one e.1 (min e.2 (cnt b e.1)) ++ rm b a := by
      show _ ++ _ = _
      unfold one
      by_cases h0 : min e.2 (cnt b e.1) = 0
      · rw [if_pos h0, if_neg (by omega)]
      · rw [if_neg h0, if_pos (by omega)]
    rw [hs]
    refine ⟨val_one i1 a1 (by omega) (by omega), fun x => ?_⟩
    rw [cnt_one i1, i2]
    simp only [cnt]
    split
    · rename_i hx; rw [hx]
    · rfl
theorem rm_mt {a b : List Ent} (ha : Val 0 a) (hb : Val 0 b) : rm b a = mt a b := by
  obtain ⟨h1, h2⟩ := rm_spec hb ha
  obtain ⟨k1, k2⟩ := mt_spec ha hb
  exact ext h1 k1 fun c => by rw [h2, k2]

/-- Where the entry of an author is, or would be. -/
def At (v : List Ent) (a : Int) (i : Nat) : Prop := i ≤ v.length ∧ (∀ k e, v[k]? = some e → k < i → e.1 < a) ∧ (∀ k e, v[k]? = some e → i ≤ k → a ≤ e.1)
def fnd (v : List Ent) (a : Int) (i : Nat) : Bool :=
  match v[i]? with
  | some e => decide (e.1 = a)
  | none => false

theorem val_get {v : List Ent} : ∀ {p : Int} {k : Nat} {e : Ent}, Val p v → v[k]? = some e → p < e.1 ∧ 1 ≤ e.2 ∧ e.2 ≤ 1000000 := by
  induction v with
  | nil => intro p k e _ h; cases h
  | cons f v ih =>
    intro p k e h hk
    obtain ⟨h1, h2, h3, h4⟩ := h
    cases k with
    | zero => cases hk; exact ⟨h1, h2, h3⟩
    | succ k =>
      obtain ⟨j1, j2, j3⟩ := ih h4 hk
      exact ⟨by omega, j2, j3⟩
theorem val_lt {v : List Ent} : ∀ {p : Int} {j k : Nat} {e f : Ent}, Val p v → v[j]? = some e → v[k]? = some f → j < k → e.1 < f.1 := by
  induction v with
  | nil => intro p j k e f _ h; cases h
  | cons g v ih =>
    intro p j k e f h hj hk hlt
    obtain ⟨h1, h2, h3, h4⟩ := h
    cases k with
    | zero => omega
    | succ k =>
      cases j with
      | zero => cases hj; exact (val_get h4 hk).1
      | succ j => exact ih h4 hj hk (by omega)

theorem cnt_at {v : List Ent} {a : Int} : ∀ {p : Int} {i : Nat}, Val p v → At v a i → cnt v a = if fnd v a i then (v.getD i (0, 0)).2 else 0 := by
  induction v with
  | nil => intro p i _ _; simp [cnt, fnd]
  | cons e v ih =>
    intro p i h hat
    obtain ⟨h1, h2, h3, h4⟩ := h
    obtain ⟨a1, a2, a3⟩ := hat
    cases i with
    | zero =>
      have := a3 0 e rfl (Nat.le_refl _)
      unfold cnt fnd
      simp only [List.getElem?_cons_zero]
      by_cases he : e.1 = a
      · simp [he]
      · rw [if_neg he, cnt_low h4 (by omega)]
        simp [he]
    | succ i =>
      have := a2 0 e rfl (by omega)
      have hi : At v a i := ⟨by simp at a1; omega, fun k f hk hlt => a2 (k + 1) f hk (by omega), fun k f hk hle => a3 (k + 1) f hk (by omega)⟩
      have hf : fnd (e :: v) a (i + 1) = fnd v a i := by simp [fnd]
      have hg : (e :: v).getD (i + 1) (0, 0) = v.getD i (0, 0) := by simp [List.getD]
      rw [cnt_cons, if_neg (by omega), ih h4 hi, hf, hg]

theorem wi_at {v : List Ent} {a c : Int} : ∀ {p : Int} {i : Nat}, Val p v → At v a i → wi v a c = v.take i ++ (one a c ++ v.drop (i + if fnd v a i then 1 else 0)) := by
  have hfil : ∀ (v : List Ent) (p : Int), Val p v → a ≤ p → wl true a c v = v := by
    intro v
    induction v with
    | nil => intro p _ _; rfl
    | cons e v ih =>
      intro p h hp
      obtain ⟨h1, h2, h3, h4⟩ := h
      unfold wl
      simp only [Bool.not_true, Bool.false_and, Bool.true_or]
      rw [if_neg (by omega : ¬ e.1 = a), ih _ h4 (by omega)]
      rfl
  unfold wi
  induction v with
  | nil =>
    intro p i _ hat
    obtain rfl : i = 0 := by have := hat.1; simpa using this
    by_cases h0 : c = 0 <;> simp [wl, one, h0, fnd]
  | cons e v ih =>
    intro p i h hat
    obtain ⟨h1, h2, h3, h4⟩ := h
    obtain ⟨a1, a2, a3⟩ := hat
    cases i with
    | zero =>
      have hle := a3 0 e rfl (Nat.le_refl _)
      unfold wl
      simp only [hle, decide_true, Bool.or_true, Bool.and_true]
      rw [hfil v e.1 h4 hle]
      by_cases h0 : c = 0 <;> by_cases he : e.1 = a <;> simp [one, h0, fnd, he]
    | succ i =>
      have hlt := a2 0 e rfl (by omega)
      have hi : At v a i := ⟨by simp at a1; omega, fun k f hk hlt => a2 (k + 1) f hk (by omega), fun k f hk hle => a3 (k + 1) f hk (by omega)⟩
      have hr := ih h4 hi
      have hn : ¬ a ≤ e.1 := by omega
      unfold wl
      simp only [hn, decide_false, Bool.or_false, Bool.and_false, Bool.false_eq_true, if_false, List.nil_append]
      rw [if_neg (by omega), hr]
      have hf : fnd (e :: v) a (i + 1) = fnd v a i := by simp [fnd]
      rw [hf, show i + 1 + (if fnd v a i = true then 1 else 0) = (i + if fnd v a i = true then 1 else 0) + 1 by omega]
      simp

/-- The laws of a distributive lattice (P3.4). -/
theorem jn_comm {a b : List Ent} (ha : Val 0 a) (hb : Val 0 b) : jn a b = jn b a :=
  ext (jn_spec ha hb).1 (jn_spec hb ha).1 fun c => by rw [(jn_spec ha hb).2, (jn_spec hb ha).2]; omega
theorem mt_comm {a b : List Ent} (ha : Val 0 a) (hb : Val 0 b) : mt a b = mt b a :=
  ext (mt_spec ha hb).1 (mt_spec hb ha).1 fun c => by rw [(mt_spec ha hb).2, (mt_spec hb ha).2]; omega
theorem jn_self {a : List Ent} (ha : Val 0 a) : jn a a = a := ext (jn_spec ha ha).1 ha fun c => by rw [(jn_spec ha ha).2]; omega
theorem mt_self {a : List Ent} (ha : Val 0 a) : mt a a = a := ext (mt_spec ha ha).1 ha fun c => by rw [(mt_spec ha ha).2]; omega
theorem jn_assoc {a b c : List Ent} (ha : Val 0 a) (hb : Val 0 b) (hc : Val 0 c) : jn a (jn b c) = jn (jn a b) c := by
  have h1 := jn_spec hb hc
  have h2 := jn_spec ha hb
  have h3 := jn_spec ha h1.1
  have h4 := jn_spec h2.1 hc
  exact ext h3.1 h4.1 fun x => by rw [h3.2, h4.2, h1.2, h2.2]; omega
theorem mt_assoc {a b c : List Ent} (ha : Val 0 a) (hb : Val 0 b) (hc : Val 0 c) : mt a (mt b c) = mt (mt a b) c := by
  have h1 := mt_spec hb hc
  have h2 := mt_spec ha hb
  have h3 := mt_spec ha h1.1
  have h4 := mt_spec h2.1 hc
  exact ext h3.1 h4.1 fun x => by rw [h3.2, h4.2, h1.2, h2.2]; omega
theorem jn_mt {a b : List Ent} (ha : Val 0 a) (hb : Val 0 b) : jn a (mt a b) = a := by
  have h1 := mt_spec ha hb
  have h2 := jn_spec ha h1.1
  exact ext h2.1 ha fun x => by rw [h2.2, h1.2]; omega
theorem mt_jn {a b c : List Ent} (ha : Val 0 a) (hb : Val 0 b) (hc : Val 0 c) : mt a (jn b c) = jn (mt a b) (mt a c) := by
  have h1 := jn_spec hb hc
  have h2 := mt_spec ha h1.1
  have h3 := mt_spec ha hb
  have h4 := mt_spec ha hc
  have h5 := jn_spec h3.1 h4.1
  exact ext h2.1 h5.1 fun x => by rw [h2.2, h5.2, h1.2, h3.2, h4.2]; omega
theorem le_jn1 {a b : List Ent} (ha : Val 0 a) (hb : Val 0 b) : le a (jn a b) = true := (le_iff ha (jn_spec ha hb).1).2 fun c => by rw [(jn_spec ha hb).2]; omega
theorem le_jn2 {a b : List Ent} (ha : Val 0 a) (hb : Val 0 b) : le b (jn a b) = true := (le_iff hb (jn_spec ha hb).1).2 fun c => by rw [(jn_spec ha hb).2]; omega
theorem le_mt1 {a b : List Ent} (ha : Val 0 a) (hb : Val 0 b) : le (mt a b) a = true := (le_iff (mt_spec ha hb).1 ha).2 fun c => by rw [(mt_spec ha hb).2]; omega
theorem le_mt2 {a b : List Ent} (ha : Val 0 a) (hb : Val 0 b) : le (mt a b) b = true := (le_iff (mt_spec ha hb).1 hb).2 fun c => by rw [(mt_spec ha hb).2]; omega
theorem jn_le {a b c : List Ent} (ha : Val 0 a) (hb : Val 0 b) (hc : Val 0 c) (h1 : le a c = true) (h2 : le b c = true) : le (jn a b) c = true :=
  (le_iff (jn_spec ha hb).1 hc).2 fun x => by rw [(jn_spec ha hb).2]; have := (le_iff ha hc).1 h1 x; have := (le_iff hb hc).1 h2 x; omega
theorem le_mt {a b c : List Ent} (ha : Val 0 a) (hb : Val 0 b) (hc : Val 0 c) (h1 : le c a = true) (h2 : le c b = true) : le c (mt a b) = true :=
  (le_iff hc (mt_spec ha hb).1).2 fun x => by rw [(mt_spec ha hb).2]; have := (le_iff hc ha).1 h1 x; have := (le_iff hc hb).1 h2 x; omega
theorem le_both {a b : List Ent} (ha : Val 0 a) (hb : Val 0 b) : (le a b = true ∧ le b a = true) ↔ a = b := by
  refine ⟨fun ⟨h1, h2⟩ => ext ha hb fun x => ?_, fun h => ?_⟩
  · have := (le_iff ha hb).1 h1 x
    have := (le_iff hb ha).1 h2 x
    omega
  · subst h
    have := (le_iff ha ha).2 fun _ => Int.le_refl _
    exact ⟨this, this⟩
end Go.Proofs.YtkaafbdhgekeeaaGreat.VM

namespace Go.Proofs.YtkaafbdhgekeeaaGreat.VX
open Go.RowKit
open VM (Ent)

/-- The cells of a vector. -/
def ents : List Ent → List Value
  | [] => []
  | e :: v => .int .i64 e.1 :: .int .i64 e.2 :: ents v

theorem ents_length (xs : List Ent) : (ents xs).length = xs.length * 2 := by
  induction xs with
  | nil => rfl
  | cons e v ih => simp only [ents, List.length_cons, ih]; omega
theorem ents_append (xs ys : List Ent) : ents (xs ++ ys) = ents xs ++ ents ys := by
  induction xs with
  | nil => rfl
  | cons e v ih => simp only [ents, List.cons_append, ih]
theorem ents_even (xs : List Ent) : ∀ i : Nat, (ents xs)[i * 2]? = xs[i]?.map fun e => .int .i64 e.1 := by
  induction xs with
  | nil => intro i; simp [ents]
  | cons e v ih =>
    intro i
    cases i with
    | zero => rfl
    | succ i => rw [show (i + 1) * 2 = i * 2 + 1 + 1 by omega]; simp only [ents, List.getElem?_cons_succ]; exact ih i
theorem ents_odd (xs : List Ent) : ∀ i : Nat, (ents xs)[i * 2 + 1]? = xs[i]?.map fun e => .int .i64 e.2 := by
  induction xs with
  | nil => intro i; simp [ents]
  | cons e v ih =>
    intro i
    cases i with
    | zero => rfl
    | succ i => rw [show (i + 1) * 2 + 1 = i * 2 + 1 + 1 + 1 by omega]; simp only [ents, List.getElem?_cons_succ]; exact ih i
theorem ents_one (xs : List Ent) : ∀ u ∈ ents xs, u.oneCell' = true := by
  induction xs with
  | nil => intro u h; cases h
  | cons e v ih =>
    intro u h
    simp only [ents, List.mem_cons] at h
    rcases h with rfl | rfl | h
    · rfl
    · rfl
    · exact ih u h

/-- The slice value v reads in w as the vector xs. -/
def RdV (w : World) (v : Value) (xs : List Ent) : Prop :=
  ∃ a c, v = .slice a xs.length c ∧ xs.length ≤ c ∧ c ≤ maxLen ∧ (a = none → xs = [] ∧ c = 0) ∧
    (∀ x, a = some x → ∀ j u, (ents xs)[j]? = some u → w.cell? (x.add j) = some u)

theorem RdV.nil (w : World) : RdV w (.slice none 0 0) [] := ⟨none, 0, rfl, Nat.le_refl _, Nat.zero_le _, fun _ => ⟨rfl, rfl⟩, fun _ h => by cases h⟩
theorem below_cell {w wr : World} {p : Addr} {v : Value} (hb : Below w.heap.size w wr) (hc : w.cell? p = some v) : wr.cell? p = some v := by
  rw [hb.cell (World.block_lt_of_cell? w _ hc)]; exact hc
theorem RdV.below {w w' : World} {v : Value} {xs : List Ent} (h : RdV w v xs) (hb : Below w.heap.size w w') : RdV w' v xs := by
  obtain ⟨a, c, rfl, h1, h2, h3, h4⟩ := h
  exact ⟨a, c, rfl, h1, h2, h3, fun x hx j u hu => below_cell hb (h4 x hx j u hu)⟩
theorem rdV_drewN {w : World} {v : Value} {xs : List Ent} (h : RdV w v xs) (n : Nat) : RdV (w.drewN n) v xs := h
theorem below_drewN (B : Nat) (w : World) (m : Nat) : Below B w (w.drewN m) := ⟨rfl, rfl, rfl, Nat.le_refl _, fun _ _ => rfl⟩
theorem below_fresh (w : World) (o : Obj) : Below w.heap.size w (w.alloc o) := (Below.refl _ w).alloc (Nat.le_refl _) _
theorem RdV.shape {w : World} {v : Value} {xs : List Ent} (h : RdV w v xs) : ∃ a c, v = .slice a xs.length c ∧ c ≤ 9223372036854775807 ∧ xs.length ≤ c := by
  obtain ⟨a, c, rfl, h1, h2, _⟩ := h
  unfold maxLen at h2
  exact ⟨a, c, rfl, by omega, h1⟩

theorem addr_plain (b off j : Nat) : (⟨b, off, none⟩ : Addr).add j = ⟨b, off + j, none⟩ := by unfold Addr.add; split <;> simp_all
theorem addr_block (x : Addr) (j : Nat) : (x.add j).block = x.block := by unfold Addr.add; split <;> rfl

/-- A vector that has entries lies at a plain address. -/
theorem RdV.plain {w : World} {a : Option Addr} {n c : Nat} {xs : List Ent} (h : RdV w (.slice a n c) xs) (h0 : 0 < xs.length) :
    ∃ b o, a = some ⟨b, o, none⟩ ∧ b < w.heap.size ∧ ∀ i e, xs[i]? = some e → w.cell? ⟨b, o + i * 2, none⟩ = some (.int .i64 e.1) ∧ w.cell? ⟨b, o + i * 2 + 1, none⟩ = some (.int .i64 e.2) := by
  obtain ⟨a', c', hv, h1, h2, h3, h4⟩ := h
  cases hv
  cases a with
  | none => have := (h3 rfl).1; subst this; simp at h0
  | some x =>
    obtain ⟨b, o, spot⟩ := x
    have hc0 := h4 _ rfl 0 _ (by rw [show 0 = 0 * 2 from rfl, ents_even, List.getElem?_eq_getElem h0]; rfl)
    have hspot : spot = none := by simpa [Addr.add] using World.cell?_spot hc0
    subst hspot
    rw [addr_plain] at hc0
    refine ⟨b, o, rfl, World.block_lt_of_cell? w _ hc0, fun i e he => ⟨?_, ?_⟩⟩
    · have := h4 _ rfl (i * 2) (.int .i64 e.1) (by rw [ents_even, he]; rfl)
      rw [addr_plain] at this
      exact this
    · have := h4 _ rfl (i * 2 + 1) (.int .i64 e.2) (by rw [ents_odd, he]; rfl)
      rw [addr_plain] at this
      exact this

section
variable {w : World} {ops : Array Oper} {rest : List Oper} {o : Oper} {a : Act} {Q : Exit → Act → World → Prop} {base : Nat} {v : Value} {ys : List Ent}

end

theorem ret_true {p : Prop} [Decidable p] (h : p) : Ending.returned (.bool (decide p)) = Ending.returned (.bool true) := by rw [decide_eq_true h]

end Go.Proofs.YtkaafbdhgekeeaaGreat.VX

namespace Go.Proofs.YtkaafbdhgekeeaaGreat.VX
open Go.RowKit
open VM (Ent)

theorem drop_get {xs : List Ent} {k : Nat} (h : k < xs.length) : xs.drop k = xs[k] :: xs.drop (k + 1) := List.drop_eq_getElem_cons h

theorem le_cons (e : Ent) (v b : List Ent) : VM.le (e :: v) b = (decide (e.2 ≤ VM.cnt b e.1) && VM.le v b) := rfl

theorem err_cons (p : Int) (e : Ent) (v : List Ent) : VM.err p (e :: v) = if VM.off e = true then 9 else if e.1 ≤ p then 7 else VM.err e.1 v := rfl
/-- The author ahead of place k. -/
def prev (xs : List Ent) (k : Nat) : Int := if k = 0 then 0 else (xs.getD (k - 1) (0, 0)).1
theorem prev_succ {xs : List Ent} {k : Nat} {e : Ent} (h : xs[k]? = some e) : prev xs (k + 1) = e.1 := by simp [prev, List.getD, h]

end Go.Proofs.YtkaafbdhgekeeaaGreat.VX

namespace Go.Proofs.YtkaafbdhgekeeaaGreat.VX
open Go.RowKit
open VM (Ent)

theorem wl_cons (p : Bool) (a c : Int) (e : Ent) (v : List Ent) :
    VM.wl p a c (e :: v) = (if !p && decide (a ≤ e.1) then [(a, c)] else []) ++ ((if e.1 = a then [] else [e]) ++ VM.wl (p || decide (a ≤ e.1)) a c v) := rfl

theorem rj_cons (o : List Ent) (e : Ent) (b : List Ent) : VM.rj o (e :: b) = VM.rj (if VM.cnt o e.1 < e.2 then VM.wi o e.1 e.2 else o) b := rfl

theorem rm_cons (b : List Ent) (e : Ent) (v : List Ent) : VM.rm b (e :: v) = (if 0 < min e.2 (VM.cnt b e.1) then [(e.1, min e.2 (VM.cnt b e.1))] else []) ++ VM.rm b v := rfl

end Go.Proofs.YtkaafbdhgekeeaaGreat.VX

namespace Go.Proofs.YtkaafbdhgekeeaaGreat.VX
open Go.RowKit
open VM (Ent)

theorem vint {x y : Int} (h : x = y) : Value.int .i64 x = Value.int .i64 y := by rw [h]
def cmpi (x a : Int) : Int := if x < a then -1 else if a < x then 1 else 0

set_option maxRecDepth 100000 in
set_option maxHeartbeats 1000000 in
theorem wCmp (x a : Int) (w : World) : Calls Tryz.prog 50 #[.int .i64 x, .int .i64 a] w fun e w' => e = .returned (.int .i64 (cmpi x a)) ∧ w = w' := by
  unfold cmpi
  by_cases h1 : x < a
  · rw [if_pos h1]
    go_enter Tryz.func50, Tryz.ntmps50
    go_wp2
    go_ret
    exact ⟨rfl, rfl⟩
  · rw [if_neg h1]
    by_cases h2 : a < x
    · rw [if_pos h2]
      go_enter Tryz.func50, Tryz.ntmps50
      go_wp2
      go_ret
      exact ⟨rfl, rfl⟩
    · rw [if_neg h2]
      go_enter Tryz.func50, Tryz.ntmps50
      go_wp2
      go_ret
      exact ⟨rfl, rfl⟩

end Go.Proofs.YtkaafbdhgekeeaaGreat.VX
