/-
  Plain mathematics of version vectors, as P3.1 to P3.4 speak of them: lists of an author and a count; nothing of the program. No conditions beyond those that each lemma names.
  Vectors in memory: when a slice value reads as a list of an author and a count; what the call's own vector is; an index, a cut, an append. No conditions beyond those that each lemma names.
  The calls of the reference's Count, LessEqual, EqualVector, Size, ValidateVector, and of vector.Size, vector.Validate: each returns what the plain mathematics says. Conditions: the arguments read as vectors, within the bounds that are named.
  The calls of the reference's With, Join, Meet: each returns the call's own vector that the plain mathematics says. Conditions: the arguments read as vectors, valid and within the bounds where they are named.
-/
import Derived.Test.YtejedodicihecaaProg
import Derived.WalkKit
import Derived.ProofKit
import Derived.OpenShut
import Derived.ShutString
import Derived.ChangeOld
import Derived.Below
import Derived.WalkSpells
import Derived.WalkLawsBesides
import Derived.Laws.AppendOwnNone
import Derived.Lib.Hide
import Derived.Lib.SliceRun
import Derived.Handy
import Derived.OneCell
import Derived.BigQuiet
import Derived.Deep.QuietTactic
import Derived.Laws.StructEq
import Derived.StillTailTactics
namespace Go.Proofs.Ytejedodicihecaa.VM

abbrev Ent := Int × Int

/-- The count of an author (P3.2). -/
def cnt : List Ent → Int → Int
  | [], _ => 0
  | e :: v, a => if e.1 = a then e.2 else cnt v a

def off (e : Ent) : Bool := decide (e.1 < 1) || (decide (e.2 < 1) || decide (1000000 < e.2))

/-- The error of P3.1, behind an entry of author p (0: none). -/
def err : Int → List Ent → Int
  | _, [] => 0
  | p, e :: v => if off e = true then 9 else if e.1 ≤ p then 7 else err e.1 v

/-- Valid, behind an entry of author p. -/
def Val : Int → List Ent → Prop
  | _, [] => True
  | p, e :: v => p < e.1 ∧ 1 ≤ e.2 ∧ e.2 ≤ 1000000 ∧ Val e.1 v

theorem Val.nil (p : Int) : Val p [] := trivial
theorem Val.weak {p q : Int} {v : List Ent} (h : Val q v) (hp : p ≤ q) : Val p v := by
  cases v with
  | nil => trivial
  | cons e v => exact ⟨by have := h.1; omega, h.2⟩

theorem err_val {v : List Ent} : ∀ {p : Int}, 0 ≤ p → (err p v = 0 ↔ Val p v) := by
  induction v with
  | nil => intro p _; exact ⟨fun _ => trivial, fun _ => rfl⟩
  | cons e v ih =>
    intro p hp
    unfold err Val
    by_cases h1 : off e = true
    · rw [if_pos h1]
      simp [off] at h1
      exact ⟨fun h => by omega, fun h => by obtain ⟨_, _, _, _⟩ := h; omega⟩
    · rw [if_neg h1]
      simp [off] at h1
      by_cases h2 : e.1 ≤ p
      · rw [if_pos h2]
        exact ⟨fun h => by omega, fun h => by obtain ⟨_, _, _, _⟩ := h; omega⟩
      · rw [if_neg h2, ih (by omega)]
        exact ⟨fun h => ⟨by omega, by omega, by omega, h⟩, fun h => h.2.2.2⟩

theorem cnt_cons (e : Ent) (v : List Ent) (a : Int) : cnt (e :: v) a = if e.1 = a then e.2 else cnt v a := rfl

theorem cnt_low {v : List Ent} : ∀ {p a : Int}, Val p v → a ≤ p → cnt v a = 0 := by
  induction v with
  | nil => intro p a _ _; rfl
  | cons e v ih =>
    intro p a h ha
    obtain ⟨h1, _, _, h4⟩ := h
    unfold cnt
    rw [if_neg (by omega)]
    exact ih h4 (by omega)

theorem cnt_bound {v : List Ent} : ∀ {p : Int} (a : Int), Val p v → 0 ≤ cnt v a ∧ cnt v a ≤ 1000000 := by
  induction v with
  | nil => intro p a _; exact ⟨by simp [cnt], by simp [cnt]⟩
  | cons e v ih =>
    intro p a h
    obtain ⟨h1, h2, h3, h4⟩ := h
    unfold cnt
    split
    · omega
    · exact ih a h4

/-- A valid vector is told by its counts. -/
theorem ext {u : List Ent} : ∀ {v : List Ent} {p q : Int}, Val p u → Val q v → (∀ a, cnt u a = cnt v a) → u = v := by
  induction u with
  | nil =>
    intro v p q _ hv h
    cases v with
    | nil => rfl
    | cons f v =>
      have := h f.1
      obtain ⟨h1, h2, h3, h4⟩ := hv
      simp [cnt] at this
      omega
  | cons e u ih =>
    intro v p q hu hv h
    obtain ⟨u1, u2, u3, u4⟩ := hu
    cases v with
    | nil =>
      have := h e.1
      simp [cnt] at this
      omega
    | cons f v =>
      obtain ⟨v1, v2, v3, v4⟩ := hv
      have he := h e.1
      have hf := h f.1
      simp only [cnt, if_true] at he hf
      by_cases hlt : e.1 < f.1
      · rw [if_neg (by omega), cnt_low v4 (by omega)] at he
        omega
      · by_cases hgt : f.1 < e.1
        · rw [if_neg (by omega), cnt_low u4 (by omega)] at hf
          omega
        · have h1 : e.1 = f.1 := by omega
          rw [if_pos h1.symm] at he
          have h2 : e = f := Prod.ext h1 he
          subst h2
          congr 1
          refine ih u4 v4 fun a => ?_
          by_cases ha : e.1 = a
          · rw [cnt_low u4 (by omega), cnt_low v4 (by omega)]
          · have := h a
            simp only [cnt, if_neg ha] at this
            exact this

/-- An entry, unless the count is 0. -/
def one (a n : Int) : List Ent := if n = 0 then [] else [(a, n)]

theorem cnt_one {x n : Int} {r : List Ent} (h : Val x r) (c : Int) : cnt (one x n ++ r) c = if x = c then n else cnt r c := by
  unfold one
  by_cases hn : n = 0
  · rw [if_pos hn, List.nil_append]
    split
    · rename_i hx
      rw [cnt_low h (by omega), hn]
    · rfl
  · rw [if_neg hn]
    rfl

theorem val_one {p x n : Int} {r : List Ent} (h : Val x r) (hp : p < x) (h0 : 0 ≤ n) (h1 : n ≤ 1000000) : Val p (one x n ++ r) := by
  unfold one
  by_cases hn : n = 0
  · rw [if_pos hn, List.nil_append]
    exact h.weak (by omega)
  · rw [if_neg hn]
    exact ⟨hp, by show 1 ≤ n; omega, h1, h⟩

/-- The authors of two vectors, ascending, each with its counts in both. -/
def mrg : List Ent → List Ent → List (Int × Int × Int)
  | [], [] => []
  | e :: a, [] => (e.1, e.2, 0) :: mrg a []
  | [], f :: b => (f.1, 0, f.2) :: mrg [] b
  | e :: a, f :: b =>
    if e.1 < f.1 then (e.1, e.2, 0) :: mrg a (f :: b)
    else if f.1 < e.1 then (f.1, 0, f.2) :: mrg (e :: a) b
    else (e.1, e.2, f.2) :: mrg a b
termination_by a b => a.length + b.length

def sel (f : Int → Int → Int) (ts : List (Int × Int × Int)) : List Ent := ts.flatMap fun t => one t.1 (f t.2.1 t.2.2)
theorem sel_snoc (f : Int → Int → Int) (ts : List (Int × Int × Int)) (t : Int × Int × Int) : sel f (ts ++ [t]) = sel f ts ++ one t.1 (f t.2.1 t.2.2) := by
  simp [sel, List.flatMap_append]
theorem sel_cons (f : Int → Int → Int) (t : Int × Int × Int) (ts : List (Int × Int × Int)) : sel f (t :: ts) = one t.1 (f t.2.1 t.2.2) ++ sel f ts := rfl

/-- What mrg does, as a way to prove: three steps. -/
theorem mrg_rec {M : Int → List Ent → List Ent → List (Int × Int × Int) → Prop} (h0 : ∀ p, M p [] [] [])
    (h1 : ∀ p e a b ts, p < e.1 → 1 ≤ e.2 → e.2 ≤ 1000000 → Val e.1 a → Val e.1 b → M e.1 a b ts → M p (e :: a) b ((e.1, e.2, 0) :: ts))
    (h2 : ∀ p f a b ts, p < f.1 → 1 ≤ f.2 → f.2 ≤ 1000000 → Val f.1 a → Val f.1 b → M f.1 a b ts → M p a (f :: b) ((f.1, 0, f.2) :: ts))
    (h3 : ∀ p e f a b ts, p < e.1 → e.1 = f.1 → 1 ≤ e.2 → e.2 ≤ 1000000 → 1 ≤ f.2 → f.2 ≤ 1000000 → Val e.1 a → Val e.1 b → M e.1 a b ts → M p (e :: a) (f :: b) ((e.1, e.2, f.2) :: ts))
    (a b : List Ent) : ∀ p, Val p a → Val p b → M p a b (mrg a b) := by
  induction a, b using mrg.induct with
  | case1 => intro p _ _; rw [mrg]; exact h0 p
  | case2 e a ih =>
    intro p ha _
    obtain ⟨a1, a2, a3, a4⟩ := ha
    rw [mrg]
    exact h1 p e a [] _ a1 a2 a3 a4 trivial (ih _ a4 trivial)
  | case3 f b ih =>
    intro p _ hb
    obtain ⟨b1, b2, b3, b4⟩ := hb
    rw [mrg]
    exact h2 p f [] b _ b1 b2 b3 trivial b4 (ih _ trivial b4)
  | case4 e a f b hlt ih =>
    intro p ha hb
    obtain ⟨a1, a2, a3, a4⟩ := ha
    obtain ⟨b1, b2, b3, b4⟩ := hb
    have hb' : Val e.1 (f :: b) := ⟨hlt, b2, b3, b4⟩
    rw [mrg, if_pos hlt]
    exact h1 p e a _ _ a1 a2 a3 a4 hb' (ih _ a4 hb')
  | case5 e a f b hlt hgt ih =>
    intro p ha hb
    obtain ⟨a1, a2, a3, a4⟩ := ha
    obtain ⟨b1, b2, b3, b4⟩ := hb
    have ha' : Val f.1 (e :: a) := ⟨hgt, a2, a3, a4⟩
    rw [mrg, if_neg hlt, if_pos hgt]
    exact h2 p f _ b _ b1 b2 b3 ha' b4 (ih _ ha' b4)
  | case6 e a f b hlt hgt ih =>
    intro p ha hb
    obtain ⟨a1, a2, a3, a4⟩ := ha
    obtain ⟨b1, b2, b3, b4⟩ := hb
    have he : e.1 = f.1 := by omega
    have hb' : Val e.1 b := by rw [he]; exact b4
    rw [mrg, if_neg hlt, if_neg hgt]
    exact h3 p e f a b _ a1 he a2 a3 b2 b3 a4 hb' (ih _ a4 hb')

theorem sel_spec {f : Int → Int → Int} (h00 : f 0 0 = 0) (hb : ∀ x y, 0 ≤ x → x ≤ 1000000 → 0 ≤ y → y ≤ 1000000 → 0 ≤ f x y ∧ f x y ≤ 1000000) {p : Int} {a b : List Ent} (ha : Val p a) (hv : Val p b) :
    Val p (sel f (mrg a b)) ∧ ∀ c, cnt (sel f (mrg a b)) c = f (cnt a c) (cnt b c) := by
  refine mrg_rec (M := fun p a b ts => Val p (sel f ts) ∧ ∀ c, cnt (sel f ts) c = f (cnt a c) (cnt b c)) ?_ ?_ ?_ ?_ a b p ha hv
  · exact fun p => ⟨trivial, fun c => h00.symm⟩
  · rintro p e a b ts k1 k2 k3 k4 k5 ⟨i1, i2⟩
    have := hb e.2 0 (by omega) k3 (by omega) (by omega)
    refine ⟨val_one i1 k1 this.1 this.2, fun c => ?_⟩
    rw [sel_cons, cnt_one i1, i2]
    simp only [cnt]
    split
    · rename_i hc
      subst hc
      rw [cnt_low k5 (by omega)]
    · rfl
  · rintro p e a b ts k1 k2 k3 k4 k5 ⟨i1, i2⟩
    have := hb 0 e.2 (by omega) (by omega) (by omega) k3
    refine ⟨val_one i1 k1 this.1 this.2, fun c => ?_⟩
    rw [sel_cons, cnt_one i1, i2]
    simp only [cnt]
    split
    · rename_i hc
      subst hc
      rw [cnt_low k4 (by omega)]
    · rfl
  · rintro p e g a b ts k1 k2 k3 k4 k5 k6 k7 k8 ⟨i1, i2⟩
    have := hb e.2 g.2 (by omega) k4 (by omega) k6
    refine ⟨val_one i1 k1 this.1 this.2, fun c => ?_⟩
    rw [sel_cons, cnt_one i1, i2]
    simp only [cnt, ← k2]
    split <;> rfl

/-- Join and Meet (P3.3). -/
def jn (a b : List Ent) : List Ent := sel max (mrg a b)
def mt (a b : List Ent) : List Ent := sel min (mrg a b)

theorem jn_spec {p : Int} {a b : List Ent} (ha : Val p a) (hb : Val p b) : Val p (jn a b) ∧ ∀ c, cnt (jn a b) c = max (cnt a c) (cnt b c) :=
  sel_spec (by decide) (fun x y _ _ _ _ => by omega) ha hb
theorem mt_spec {p : Int} {a b : List Ent} (ha : Val p a) (hb : Val p b) : Val p (mt a b) ∧ ∀ c, cnt (mt a b) c = min (cnt a c) (cnt b c) :=
  sel_spec (by decide) (fun x y _ _ _ _ => by omega) ha hb

theorem mrg_length (a b : List Ent) : (mrg a b).length ≤ a.length + b.length := by
  induction a, b using mrg.induct with
  | case1 => rw [mrg]; simp
  | case2 e a ih => rw [mrg]; simp at ih ⊢; omega
  | case3 f b ih => rw [mrg]; simp at ih ⊢; omega
  | case4 e a f b hlt ih => rw [mrg, if_pos hlt]; simp at ih ⊢; omega
  | case5 e a f b hlt hgt ih => rw [mrg, if_neg hlt, if_pos hgt]; simp at ih ⊢; omega
  | case6 e a f b hlt hgt ih => rw [mrg, if_neg hlt, if_neg hgt]; simp at ih ⊢; omega
theorem one_length (a n : Int) : (one a n).length ≤ 1 := by unfold one; split <;> simp
theorem sel_length (f : Int → Int → Int) (ts : List (Int × Int × Int)) : (sel f ts).length ≤ ts.length := by
  induction ts with
  | nil => simp [sel]
  | cons t ts ih => rw [sel_cons, List.length_append, List.length_cons]; have := one_length t.1 (f t.2.1 t.2.2); omega
theorem jn_length (a b : List Ent) : (jn a b).length ≤ a.length + b.length := Nat.le_trans (sel_length _ _) (mrg_length _ _)
theorem mt_length (a b : List Ent) : (mt a b).length ≤ a.length + b.length := Nat.le_trans (sel_length _ _) (mrg_length _ _)

/-- LessEqual (P3.3). -/
def le (a b : List Ent) : Bool := a.all fun e => decide (e.2 ≤ cnt b e.1)

theorem le_iff {p q : Int} {a b : List Ent} (ha : Val p a) (hb : Val q b) : le a b = true ↔ ∀ c, cnt a c ≤ cnt b c := by
  induction a generalizing p with
  | nil => exact ⟨fun _ c => by have := cnt_bound c hb; simp only [cnt]; omega, fun _ => rfl⟩
  | cons e a ih =>
    obtain ⟨h1, h2, h3, h4⟩ := ha
    have hi := ih h4
    unfold le at hi ⊢
    rw [List.all_cons, Bool.and_eq_true, hi, decide_eq_true_iff]
    refine ⟨fun ⟨k1, k2⟩ c => ?_, fun h => ⟨?_, fun c => ?_⟩⟩
    · rw [cnt_cons]
      split
      · rename_i hc; subst hc; exact k1
      · exact k2 c
    · have := h e.1
      simp only [cnt, if_true] at this
      exact this
    · by_cases hc : e.1 = c
      · subst hc
        rw [cnt_low h4 (by omega)]
        have := cnt_bound e.1 hb
        omega
      · have := h c
        simp only [cnt, if_neg hc] at this
        exact this

theorem mrg_mem {p : Int} {a b : List Ent} (ha : Val p a) (hb : Val p b) :
    (∀ t ∈ mrg a b, p < t.1 ∧ t.2.1 = cnt a t.1 ∧ t.2.2 = cnt b t.1) ∧ ∀ c, (cnt a c = 0 ∧ cnt b c = 0) ∨ (c, cnt a c, cnt b c) ∈ mrg a b := by
  refine mrg_rec (M := fun p a b ts => (∀ t ∈ ts, p < t.1 ∧ t.2.1 = cnt a t.1 ∧ t.2.2 = cnt b t.1) ∧ ∀ c, (cnt a c = 0 ∧ cnt b c = 0) ∨ (c, cnt a c, cnt b c) ∈ ts) ?_ ?_ ?_ ?_ a b p ha hb
  · exact fun p => ⟨fun t h => (by cases h), fun c => .inl ⟨rfl, rfl⟩⟩
  · rintro p e a b ts k1 k2 k3 k4 k5 ⟨i1, i2⟩
    refine ⟨fun t ht => ?_, fun c => ?_⟩
    · rcases List.mem_cons.1 ht with rfl | ht
      · exact ⟨k1, by simp [cnt], (cnt_low k5 (by show e.1 ≤ e.1; omega)).symm⟩
      · obtain ⟨j1, j2, j3⟩ := i1 t ht
        refine ⟨by omega, ?_, j3⟩
        rw [j2]
        unfold cnt
        rw [if_neg (by omega)]
        cases a <;> rfl
    · by_cases hc : e.1 = c
      · subst hc
        refine .inr (List.mem_cons.2 (.inl ?_))
        rw [cnt_low k5 (by omega)]
        simp [cnt]
      · simp only [cnt, if_neg hc]
        rcases i2 c with h | h
        · exact .inl h
        · exact .inr (List.mem_cons.2 (.inr h))
  · rintro p e a b ts k1 k2 k3 k4 k5 ⟨i1, i2⟩
    refine ⟨fun t ht => ?_, fun c => ?_⟩
    · rcases List.mem_cons.1 ht with rfl | ht
      · exact ⟨k1, (cnt_low k4 (by show e.1 ≤ e.1; omega)).symm, by simp [cnt]⟩
      · obtain ⟨j1, j2, j3⟩ := i1 t ht
        refine ⟨by omega, j2, ?_⟩
        rw [j3]
        show _ = if e.1 = t.1 then e.2 else cnt b t.1
        rw [if_neg (by omega)]
    · by_cases hc : e.1 = c
      · subst hc
        refine .inr (List.mem_cons.2 (.inl ?_))
        rw [cnt_low k4 (by omega)]
        simp [cnt]
      · simp only [cnt, if_neg hc]
        rcases i2 c with h | h
        · exact .inl h
        · exact .inr (List.mem_cons.2 (.inr h))
  · rintro p e g a b ts k1 k2 k3 k4 k5 k6 k7 k8 ⟨i1, i2⟩
    refine ⟨fun t ht => ?_, fun c => ?_⟩
    · rcases List.mem_cons.1 ht with rfl | ht
      · exact ⟨k1, by simp [cnt], by simp [cnt, k2]⟩
      · obtain ⟨j1, j2, j3⟩ := i1 t ht
        refine ⟨by omega, ?_, ?_⟩
        · rw [j2]
          show _ = if e.1 = t.1 then e.2 else cnt a t.1
          rw [if_neg (by omega)]
        · rw [j3]
          show _ = if g.1 = t.1 then g.2 else cnt b t.1
          rw [if_neg (by omega)]
    · by_cases hc : e.1 = c
      · subst hc
        refine .inr (List.mem_cons.2 (.inl ?_))
        simp [cnt, k2]
      · simp only [cnt, ← k2, if_neg hc]
        rcases i2 c with h | h
        · exact .inl h
        · exact .inr (List.mem_cons.2 (.inr h))

/-- Some count is smaller in the first, in the second (what Compare gathers). -/
def anyL (ts : List (Int × Int × Int)) : Bool := ts.any fun t => decide (t.2.1 < t.2.2)
def anyG (ts : List (Int × Int × Int)) : Bool := ts.any fun t => decide (t.2.2 < t.2.1)
def code (l g : Bool) : Int := (if l then 1 else 0) + (if g then 2 else 0)

theorem anyL_le {p : Int} {a b : List Ent} (ha : Val p a) (hb : Val p b) : anyL (mrg a b) = !le b a := by
  obtain ⟨m1, m2⟩ := mrg_mem ha hb
  rw [Bool.eq_iff_iff, Bool.not_eq_true', ← Bool.not_eq_true, le_iff hb ha]
  unfold anyL
  rw [List.any_eq_true]
  refine ⟨fun ⟨t, ht, hl⟩ h => ?_, fun h => ?_⟩
  · obtain ⟨_, j2, j3⟩ := m1 t ht
    have := h t.1
    simp at hl
    omega
  · simp only [Classical.not_forall, Int.not_le] at h
    obtain ⟨c, hc⟩ := h
    rcases m2 c with ⟨k1, k2⟩ | k
    · omega
    · exact ⟨_, k, by simpa using hc⟩
theorem anyG_le {p : Int} {a b : List Ent} (ha : Val p a) (hb : Val p b) : anyG (mrg a b) = !le a b := by
  obtain ⟨m1, m2⟩ := mrg_mem ha hb
  rw [Bool.eq_iff_iff, Bool.not_eq_true', ← Bool.not_eq_true, le_iff ha hb]
  unfold anyG
  rw [List.any_eq_true]
  refine ⟨fun ⟨t, ht, hl⟩ h => ?_, fun h => ?_⟩
  · obtain ⟨_, j2, j3⟩ := m1 t ht
    have := h t.1
    simp at hl
    omega
  · simp only [Classical.not_forall, Int.not_le] at h
    obtain ⟨c, hc⟩ := h
    rcases m2 c with ⟨k1, k2⟩ | k
    · omega
    · exact ⟨_, k, by simpa using hc⟩

/-- The sum of all counts (P3.3). -/
def size : List Ent → Int
  | [] => 0
  | e :: v => e.2 + size v
theorem size_append (u v : List Ent) : size (u ++ v) = size u + size v := by
  induction u with
  | nil => simp [size]
  | cons e u ih => rw [List.cons_append]; simp only [size]; omega
theorem size_one (x n : Int) (r : List Ent) : size (one x n ++ r) = n + size r := by
  rw [size_append]
  unfold one
  split
  · rename_i h; subst h; simp [size]
  · simp [size]
theorem size_bound {v : List Ent} : ∀ {p : Int}, Val p v → 0 ≤ size v ∧ size v ≤ 1000000 * (v.length : Int) := by
  induction v with
  | nil => intro p _; simp [size]
  | cons e v ih =>
    intro p h
    obtain ⟨_, h2, h3, h4⟩ := h
    have := ih h4
    simp only [size, List.length_cons]
    omega

theorem size_sum {p : Int} {a b : List Ent} (ha : Val p a) (hb : Val p b) : size (jn a b) + size (mt a b) = size a + size b := by
  refine mrg_rec (M := fun p a b ts => size (sel max ts) + size (sel min ts) = size a + size b) ?_ ?_ ?_ ?_ a b p ha hb
  · exact fun p => rfl
  · intro p e a b ts k1 k2 k3 k4 k5 i
    rw [sel_cons, sel_cons, size_one, size_one]
    simp only [size]
    omega
  · intro p e a b ts k1 k2 k3 k4 k5 i
    rw [sel_cons, sel_cons, size_one, size_one]
    simp only [size]
    omega
  · intro p e g a b ts k1 k2 k3 k4 k5 k6 k7 k8 i
    rw [sel_cons, sel_cons, size_one, size_one]
    simp only [size]
    omega

/-- The last sentence of P3.4, beside what a comparison says of sizes. -/
theorem size_le {p : Int} {a b : List Ent} (ha : Val p a) (hb : Val p b) (h : le a b = true) : size a < size b ∨ a = b := by
  have hle := (le_iff ha hb).1 h
  obtain ⟨m1, m2⟩ := mrg_mem ha hb
  have key : size a ≤ size b ∧ (size a = size b → ∀ t ∈ mrg a b, t.2.1 = t.2.2) := by
    have hall : ∀ t ∈ mrg a b, t.2.1 ≤ t.2.2 := fun t ht => by
      obtain ⟨_, j2, j3⟩ := m1 t ht
      rw [j2, j3]
      exact hle _
    refine mrg_rec (M := fun p a b ts => (∀ t ∈ ts, t.2.1 ≤ t.2.2) → size a ≤ size b ∧ (size a = size b → ∀ t ∈ ts, t.2.1 = t.2.2)) ?_ ?_ ?_ ?_ a b p ha hb hall
    · exact fun p _ => ⟨Int.le_refl _, fun _ t ht => by cases ht⟩
    · intro p e a b ts k1 k2 k3 k4 k5 i hall
      have h1 := hall _ (List.mem_cons.2 (.inl rfl))
      have h2 := i fun t ht => hall t (List.mem_cons.2 (.inr ht))
      simp only at h1
      omega
    · intro p e a b ts k1 k2 k3 k4 k5 i hall
      have h2 := i fun t ht => hall t (List.mem_cons.2 (.inr ht))
      simp only [size]
      refine ⟨by omega, fun he => by omega⟩
    · intro p e g a b ts k1 k2 k3 k4 k5 k6 k7 k8 i hall
      have h1 := hall _ (List.mem_cons.2 (.inl rfl))
      have h2 := i fun t ht => hall t (List.mem_cons.2 (.inr ht))
      simp only at h1
      simp only [size]
      refine ⟨by omega, fun he t ht => ?_⟩
      rcases List.mem_cons.1 ht with rfl | ht
      · show e.2 = g.2; omega
      · exact h2.2 (by omega) t ht
  by_cases hs : size a = size b
  · refine .inr (ext ha hb fun c => ?_)
    rcases m2 c with ⟨k1, k2⟩ | k
    · rw [k1, k2]
    · exact key.2 hs _ k
  · exact .inl (by omega)

/-- What the reference's With appends from here on. -/
def wl (put : Bool) (a c : Int) : List Ent → List Ent
  | [] => if put then [] else [(a, c)]
  | e :: v => (if !put && decide (a ≤ e.1) then [(a, c)] else []) ++ ((if e.1 = a then [] else [e]) ++ wl (put || decide (a ≤ e.1)) a c v)

theorem wl_true {a c : Int} {v : List Ent} : ∀ {p : Int}, Val p v → Val p (wl true a c v) ∧ ∀ x, cnt (wl true a c v) x = if a = x then 0 else cnt v x := by
  induction v with
  | nil => intro p _; exact ⟨trivial, fun x => by simp [wl, cnt]⟩
  | cons e v ih =>
    intro p h
    obtain ⟨h1, h2, h3, h4⟩ := h
    obtain ⟨i1, i2⟩ := ih h4
    unfold wl
    simp only [Bool.not_true, Bool.false_and, Bool.true_or]
    by_cases he : e.1 = a
    · rw [if_pos he]
      refine ⟨i1.weak (by omega), fun x => ?_⟩
      simp only [List.nil_append, cnt, Bool.false_eq_true, if_false]
      rw [i2 x]
      by_cases hx : a = x
      · rw [if_pos hx, if_pos hx]
      · rw [if_neg hx, if_neg hx, if_neg (by omega)]
    · rw [if_neg he]
      refine ⟨⟨h1, h2, h3, i1⟩, fun x => ?_⟩
      simp only [List.nil_append, List.cons_append, cnt, Bool.false_eq_true, if_false]
      rw [i2 x]
      by_cases hx : a = x
      · rw [if_pos hx, if_neg (by omega), if_pos hx]
      · rw [if_neg hx, if_neg hx]
theorem wl_false {a c : Int} (hc : 1 ≤ c) (hc2 : c ≤ 1000000) {v : List Ent} : ∀ {p : Int}, Val p v → p < a → Val p (wl false a c v) ∧ ∀ x, cnt (wl false a c v) x = if a = x then c else cnt v x := by
  induction v with
  | nil => intro p _ ha; exact ⟨⟨ha, hc, hc2, trivial⟩, fun x => by simp [wl, cnt]⟩
  | cons e v ih =>
    intro p h ha
    obtain ⟨h1, h2, h3, h4⟩ := h
    unfold wl
    by_cases hle : a ≤ e.1
    · obtain ⟨i1, i2⟩ := wl_true (a := a) (c := c) h4
      simp only [hle, decide_true, Bool.not_false, Bool.true_and, Bool.or_true, if_true]
      by_cases he : e.1 = a
      · rw [if_pos he]
        refine ⟨⟨ha, hc, hc2, by rw [List.nil_append]; rw [he] at i1; exact i1⟩, fun x => ?_⟩
        simp only [List.nil_append, List.cons_append, cnt]
        rw [i2 x]
        by_cases hx : a = x
        · rw [if_pos hx, if_pos hx]
        · rw [if_neg hx, if_neg hx, if_neg hx, if_neg (by omega)]
      · rw [if_neg he]
        refine ⟨⟨ha, hc, hc2, by show a < e.1; omega, h2, h3, i1⟩, fun x => ?_⟩
        simp only [List.nil_append, List.cons_append, cnt]
        rw [i2 x]
        by_cases hx : a = x
        · rw [if_pos hx, if_pos hx]
        · rw [if_neg hx, if_neg hx, if_neg hx]
    · obtain ⟨i1, i2⟩ := ih h4 (by omega)
      simp only [hle, decide_false, Bool.and_false, Bool.or_false, Bool.false_eq_true, if_false, List.nil_append]
      rw [if_neg (by omega)]
      refine ⟨⟨h1, h2, h3, i1⟩, fun x => ?_⟩
      simp only [List.nil_append, List.cons_append, cnt]
      rw [i2 x]
      by_cases hx : a = x
      · rw [if_pos hx, if_neg (by omega), if_pos hx]
      · rw [if_neg hx, if_neg hx]

/-- With (P3.2), of arguments within the bounds. -/
def wi (v : List Ent) (a c : Int) : List Ent := wl (decide (c = 0)) a c v
theorem wi_spec {a c : Int} (ha : 1 ≤ a) (hc : 0 ≤ c) (hc2 : c ≤ 1000000) {v : List Ent} (h : Val 0 v) : Val 0 (wi v a c) ∧ ∀ x, cnt (wi v a c) x = if a = x then c else cnt v x := by
  unfold wi
  by_cases h0 : c = 0
  · subst h0
    exact wl_true h
  · rw [decide_eq_false h0]
    exact wl_false (by omega) hc2 h (by omega)
theorem wl_length (put : Bool) (a c : Int) (v : List Ent) : (wl put a c v).length ≤ v.length + (if put then 0 else 1) := by
  induction v generalizing put with
  | nil => cases put <;> simp [wl]
  | cons e v ih =>
    have := ih (put || decide (a ≤ e.1))
    unfold wl
    simp only [List.length_append, List.length_cons]
    cases put
    · by_cases h : a ≤ e.1
      · simp only [h, decide_true, Bool.not_false, Bool.true_and, Bool.or_true, if_true, Bool.false_eq_true, if_false] at this ⊢
        split <;> simp <;> omega
      · simp only [h, decide_false, Bool.and_false, Bool.or_false, Bool.false_eq_true, if_false] at this ⊢
        split <;> simp <;> omega
    · simp only [Bool.not_true, Bool.false_and, Bool.true_or, Bool.false_eq_true, if_false, if_true] at this ⊢
      split <;> simp <;> omega
theorem wi_length (v : List Ent) (a c : Int) : (wi v a c).length ≤ v.length + 1 := by
  have := wl_length (decide (c = 0)) a c v
  unfold wi
  split at this <;> omega

/-- The reference's Join. -/
def rj (out : List Ent) : List Ent → List Ent
  | [] => out
  | e :: b => rj (if cnt out e.1 < e.2 then wi out e.1 e.2 else out) b
theorem rj_spec {b : List Ent} : ∀ {out : List Ent} {q : Int}, 0 ≤ q → Val 0 out → Val q b → Val 0 (rj out b) ∧ ∀ x, cnt (rj out b) x = max (cnt out x) (cnt b x) := by
  induction b with
  | nil => intro out q _ ho _; exact ⟨ho, fun x => by have := cnt_bound x ho; show cnt out x = max (cnt out x) 0; omega⟩
  | cons e b ih =>
    intro out q hq ho hb
    obtain ⟨b1, b2, b3, b4⟩ := hb
    unfold rj
    by_cases h : cnt out e.1 < e.2
    · rw [if_pos h]
      obtain ⟨k1, k2⟩ := wi_spec (a := e.1) (c := e.2) (by omega) (by omega) b3 ho
      obtain ⟨i1, i2⟩ := ih (by omega) k1 b4
      refine ⟨i1, fun x => ?_⟩
      rw [i2, k2]
      simp only [cnt]
      by_cases hx : e.1 = x
      · subst hx
        rw [if_pos rfl, if_pos rfl, cnt_low b4 (by omega)]
        omega
      · rw [if_neg hx, if_neg hx]
    · rw [if_neg h]
      obtain ⟨i1, i2⟩ := ih (by omega) ho b4
      refine ⟨i1, fun x => ?_⟩
      rw [i2]
      simp only [cnt]
      by_cases hx : e.1 = x
      · subst hx
        rw [if_pos rfl, cnt_low b4 (by omega)]
        omega
      · rw [if_neg hx]
theorem rj_jn {a b : List Ent} (ha : Val 0 a) (hb : Val 0 b) : rj a b = jn a b := by
  obtain ⟨h1, h2⟩ := rj_spec (Int.le_refl 0) ha hb
  obtain ⟨k1, k2⟩ := jn_spec ha hb
  exact ext h1 k1 fun c => by rw [h2, k2]

/-- The reference's Meet. -/
def rm (b : List Ent) : List Ent → List Ent
  | [] => []
  | e :: a => (if 0 < min e.2 (cnt b e.1) then [(e.1, min e.2 (cnt b e.1))] else []) ++ rm b a
theorem rm_spec {b : List Ent} {q : Int} (hb : Val q b) {a : List Ent} : ∀ {p : Int}, Val p a → Val p (rm b a) ∧ ∀ x, cnt (rm b a) x = min (cnt a x) (cnt b x) := by
  induction a with
  | nil => intro p _; exact ⟨trivial, fun x => by have := cnt_bound x hb; show 0 = min 0 (cnt b x); omega⟩
  | cons e a ih =>
    intro p ha
    obtain ⟨a1, a2, a3, a4⟩ := ha
    obtain ⟨i1, i2⟩ := ih a4
    have hbd := cnt_bound e.1 hb
    have hs : rm b (e :: a) = one e.1 (min e.2 (cnt b e.1)) ++ rm b a := by
      show _ ++ _ = _
      unfold one
      by_cases h0 : min e.2 (cnt b e.1) = 0
      · rw [if_pos h0, if_neg (by omega)]
      · rw [if_neg h0, if_pos (by omega)]
    rw [hs]
    refine ⟨val_one i1 a1 (by omega) (by omega), fun x => ?_⟩
    rw [cnt_one i1, i2]
    simp only [cnt]
    split
    · rename_i hx; rw [hx]
    · rfl
theorem rm_mt {a b : List Ent} (ha : Val 0 a) (hb : Val 0 b) : rm b a = mt a b := by
  obtain ⟨h1, h2⟩ := rm_spec hb ha
  obtain ⟨k1, k2⟩ := mt_spec ha hb
  exact ext h1 k1 fun c => by rw [h2, k2]

/-- Where the entry of an author is, or would be. -/
def At (v : List Ent) (a : Int) (i : Nat) : Prop := i ≤ v.length ∧ (∀ k e, v[k]? = some e → k < i → e.1 < a) ∧ (∀ k e, v[k]? = some e → i ≤ k → a ≤ e.1)
def fnd (v : List Ent) (a : Int) (i : Nat) : Bool :=
  match v[i]? with
  | some e => decide (e.1 = a)
  | none => false

theorem val_get {v : List Ent} : ∀ {p : Int} {k : Nat} {e : Ent}, Val p v → v[k]? = some e → p < e.1 ∧ 1 ≤ e.2 ∧ e.2 ≤ 1000000 := by
  induction v with
  | nil => intro p k e _ h; cases h
  | cons f v ih =>
    intro p k e h hk
    obtain ⟨h1, h2, h3, h4⟩ := h
    cases k with
    | zero => cases hk; exact ⟨h1, h2, h3⟩
    | succ k =>
      obtain ⟨j1, j2, j3⟩ := ih h4 hk
      exact ⟨by omega, j2, j3⟩
theorem val_lt {v : List Ent} : ∀ {p : Int} {j k : Nat} {e f : Ent}, Val p v → v[j]? = some e → v[k]? = some f → j < k → e.1 < f.1 := by
  induction v with
  | nil => intro p j k e f _ h; cases h
  | cons g v ih =>
    intro p j k e f h hj hk hlt
    obtain ⟨h1, h2, h3, h4⟩ := h
    cases k with
    | zero => omega
    | succ k =>
      cases j with
      | zero => cases hj; exact (val_get h4 hk).1
      | succ j => exact ih h4 hj hk (by omega)

theorem cnt_at {v : List Ent} {a : Int} : ∀ {p : Int} {i : Nat}, Val p v → At v a i → cnt v a = if fnd v a i then (v.getD i (0, 0)).2 else 0 := by
  induction v with
  | nil => intro p i _ _; simp [cnt, fnd]
  | cons e v ih =>
    intro p i h hat
    obtain ⟨h1, h2, h3, h4⟩ := h
    obtain ⟨a1, a2, a3⟩ := hat
    cases i with
    | zero =>
      have := a3 0 e rfl (Nat.le_refl _)
      unfold cnt fnd
      simp only [List.getElem?_cons_zero]
      by_cases he : e.1 = a
      · simp [he]
      · rw [if_neg he, cnt_low h4 (by omega)]
        simp [he]
    | succ i =>
      have := a2 0 e rfl (by omega)
      have hi : At v a i := ⟨by simp at a1; omega, fun k f hk hlt => a2 (k + 1) f hk (by omega), fun k f hk hle => a3 (k + 1) f hk (by omega)⟩
      have hf : fnd (e :: v) a (i + 1) = fnd v a i := by simp [fnd]
      have hg : (e :: v).getD (i + 1) (0, 0) = v.getD i (0, 0) := by simp [List.getD]
      rw [cnt_cons, if_neg (by omega), ih h4 hi, hf, hg]

theorem wi_at {v : List Ent} {a c : Int} : ∀ {p : Int} {i : Nat}, Val p v → At v a i → wi v a c = v.take i ++ (one a c ++ v.drop (i + if fnd v a i then 1 else 0)) := by
  have hfil : ∀ (v : List Ent) (p : Int), Val p v → a ≤ p → wl true a c v = v := by
    intro v
    induction v with
    | nil => intro p _ _; rfl
    | cons e v ih =>
      intro p h hp
      obtain ⟨h1, h2, h3, h4⟩ := h
      unfold wl
      simp only [Bool.not_true, Bool.false_and, Bool.true_or]
      rw [if_neg (by omega : ¬ e.1 = a), ih _ h4 (by omega)]
      rfl
  unfold wi
  induction v with
  | nil =>
    intro p i _ hat
    obtain rfl : i = 0 := by have := hat.1; simpa using this
    by_cases h0 : c = 0 <;> simp [wl, one, h0, fnd]
  | cons e v ih =>
    intro p i h hat
    obtain ⟨h1, h2, h3, h4⟩ := h
    obtain ⟨a1, a2, a3⟩ := hat
    cases i with
    | zero =>
      have hle := a3 0 e rfl (Nat.le_refl _)
      unfold wl
      simp only [hle, decide_true, Bool.or_true, Bool.and_true]
      rw [hfil v e.1 h4 hle]
      by_cases h0 : c = 0 <;> by_cases he : e.1 = a <;> simp [one, h0, fnd, he]
    | succ i =>
      have hlt := a2 0 e rfl (by omega)
      have hi : At v a i := ⟨by simp at a1; omega, fun k f hk hlt => a2 (k + 1) f hk (by omega), fun k f hk hle => a3 (k + 1) f hk (by omega)⟩
      have hr := ih h4 hi
      have hn : ¬ a ≤ e.1 := by omega
      unfold wl
      simp only [hn, decide_false, Bool.or_false, Bool.and_false, Bool.false_eq_true, if_false, List.nil_append]
      rw [if_neg (by omega), hr]
      have hf : fnd (e :: v) a (i + 1) = fnd v a i := by simp [fnd]
      rw [hf, show i + 1 + (if fnd v a i = true then 1 else 0) = (i + if fnd v a i = true then 1 else 0) + 1 by omega]
      simp

/-- The laws of a distributive lattice (P3.4). -/
theorem jn_comm {a b : List Ent} (ha : Val 0 a) (hb : Val 0 b) : jn a b = jn b a :=
  ext (jn_spec ha hb).1 (jn_spec hb ha).1 fun c => by rw [(jn_spec ha hb).2, (jn_spec hb ha).2]; omega
theorem mt_comm {a b : List Ent} (ha : Val 0 a) (hb : Val 0 b) : mt a b = mt b a :=
  ext (mt_spec ha hb).1 (mt_spec hb ha).1 fun c => by rw [(mt_spec ha hb).2, (mt_spec hb ha).2]; omega
theorem jn_self {a : List Ent} (ha : Val 0 a) : jn a a = a := ext (jn_spec ha ha).1 ha fun c => by rw [(jn_spec ha ha).2]; omega
theorem mt_self {a : List Ent} (ha : Val 0 a) : mt a a = a := ext (mt_spec ha ha).1 ha fun c => by rw [(mt_spec ha ha).2]; omega
theorem jn_assoc {a b c : List Ent} (ha : Val 0 a) (hb : Val 0 b) (hc : Val 0 c) : jn a (jn b c) = jn (jn a b) c := by
  have h1 := jn_spec hb hc
  have h2 := jn_spec ha hb
  have h3 := jn_spec ha h1.1
  have h4 := jn_spec h2.1 hc
  exact ext h3.1 h4.1 fun x => by rw [h3.2, h4.2, h1.2, h2.2]; omega
theorem mt_assoc {a b c : List Ent} (ha : Val 0 a) (hb : Val 0 b) (hc : Val 0 c) : mt a (mt b c) = mt (mt a b) c := by
  have h1 := mt_spec hb hc
  have h2 := mt_spec ha hb
  have h3 := mt_spec ha h1.1
  have h4 := mt_spec h2.1 hc
  exact ext h3.1 h4.1 fun x => by rw [h3.2, h4.2, h1.2, h2.2]; omega
theorem jn_mt {a b : List Ent} (ha : Val 0 a) (hb : Val 0 b) : jn a (mt a b) = a := by
  have h1 := mt_spec ha hb
  have h2 := jn_spec ha h1.1
  exact ext h2.1 ha fun x => by rw [h2.2, h1.2]; omega
theorem mt_jn {a b c : List Ent} (ha : Val 0 a) (hb : Val 0 b) (hc : Val 0 c) : mt a (jn b c) = jn (mt a b) (mt a c) := by
  have h1 := jn_spec hb hc
  have h2 := mt_spec ha h1.1
  have h3 := mt_spec ha hb
  have h4 := mt_spec ha hc
  have h5 := jn_spec h3.1 h4.1
  exact ext h2.1 h5.1 fun x => by rw [h2.2, h5.2, h1.2, h3.2, h4.2]; omega
theorem le_jn1 {a b : List Ent} (ha : Val 0 a) (hb : Val 0 b) : le a (jn a b) = true := (le_iff ha (jn_spec ha hb).1).2 fun c => by rw [(jn_spec ha hb).2]; omega
theorem le_jn2 {a b : List Ent} (ha : Val 0 a) (hb : Val 0 b) : le b (jn a b) = true := (le_iff hb (jn_spec ha hb).1).2 fun c => by rw [(jn_spec ha hb).2]; omega
theorem le_mt1 {a b : List Ent} (ha : Val 0 a) (hb : Val 0 b) : le (mt a b) a = true := (le_iff (mt_spec ha hb).1 ha).2 fun c => by rw [(mt_spec ha hb).2]; omega
theorem le_mt2 {a b : List Ent} (ha : Val 0 a) (hb : Val 0 b) : le (mt a b) b = true := (le_iff (mt_spec ha hb).1 hb).2 fun c => by rw [(mt_spec ha hb).2]; omega
theorem jn_le {a b c : List Ent} (ha : Val 0 a) (hb : Val 0 b) (hc : Val 0 c) (h1 : le a c = true) (h2 : le b c = true) : le (jn a b) c = true :=
  (le_iff (jn_spec ha hb).1 hc).2 fun x => by rw [(jn_spec ha hb).2]; have := (le_iff ha hc).1 h1 x; have := (le_iff hb hc).1 h2 x; omega
theorem le_mt {a b c : List Ent} (ha : Val 0 a) (hb : Val 0 b) (hc : Val 0 c) (h1 : le c a = true) (h2 : le c b = true) : le c (mt a b) = true :=
  (le_iff hc (mt_spec ha hb).1).2 fun x => by rw [(mt_spec ha hb).2]; have := (le_iff hc ha).1 h1 x; have := (le_iff hc hb).1 h2 x; omega
theorem le_both {a b : List Ent} (ha : Val 0 a) (hb : Val 0 b) : (le a b = true ∧ le b a = true) ↔ a = b := by
  refine ⟨fun ⟨h1, h2⟩ => ext ha hb fun x => ?_, fun h => ?_⟩
  · have := (le_iff ha hb).1 h1 x
    have := (le_iff hb ha).1 h2 x
    omega
  · subst h
    have := (le_iff ha ha).2 fun _ => Int.le_refl _
    exact ⟨this, this⟩
end Go.Proofs.Ytejedodicihecaa.VM

namespace Go.Proofs.Ytejedodicihecaa.VX
open Go.RowKit
open VM (Ent)

theorem infoEnt : (Try.prog.info? 49).map (fun i => (i.zero, i.size, i.bytes)) = some (some (.agg #[.int .i64 0, .int .i64 0]), 2, 16) := by kernel_rfl

/-- The cells of a vector. -/
def ents : List Ent → List Value
  | [] => []
  | e :: v => .int .i64 e.1 :: .int .i64 e.2 :: ents v

theorem ents_length (xs : List Ent) : (ents xs).length = xs.length * 2 := by
  induction xs with
  | nil => rfl
  | cons e v ih => simp only [ents, List.length_cons, ih]; omega
theorem ents_append (xs ys : List Ent) : ents (xs ++ ys) = ents xs ++ ents ys := by
  induction xs with
  | nil => rfl
  | cons e v ih => simp only [ents, List.cons_append, ih]
theorem ents_even (xs : List Ent) : ∀ i : Nat, (ents xs)[i * 2]? = xs[i]?.map fun e => .int .i64 e.1 := by
  induction xs with
  | nil => intro i; simp [ents]
  | cons e v ih =>
    intro i
    cases i with
    | zero => rfl
    | succ i => rw [show (i + 1) * 2 = i * 2 + 1 + 1 by omega]; simp only [ents, List.getElem?_cons_succ]; exact ih i
theorem ents_odd (xs : List Ent) : ∀ i : Nat, (ents xs)[i * 2 + 1]? = xs[i]?.map fun e => .int .i64 e.2 := by
  induction xs with
  | nil => intro i; simp [ents]
  | cons e v ih =>
    intro i
    cases i with
    | zero => rfl
    | succ i => rw [show (i + 1) * 2 + 1 = i * 2 + 1 + 1 + 1 by omega]; simp only [ents, List.getElem?_cons_succ]; exact ih i
theorem ents_one (xs : List Ent) : ∀ u ∈ ents xs, u.oneCell' = true := by
  induction xs with
  | nil => intro u h; cases h
  | cons e v ih =>
    intro u h
    simp only [ents, List.mem_cons] at h
    rcases h with rfl | rfl | h
    · rfl
    · rfl
    · exact ih u h

/-- The slice value v reads in w as the vector xs. -/
def RdV (w : World) (v : Value) (xs : List Ent) : Prop :=
  ∃ a c, v = .slice a xs.length c ∧ xs.length ≤ c ∧ c ≤ maxLen ∧ (a = none → xs = [] ∧ c = 0) ∧
    (∀ x, a = some x → ∀ j u, (ents xs)[j]? = some u → w.cell? (x.add j) = some u)

/-- The slice value v holds the vector xs in memory of the call's own (blocks from 'base' on). -/
def OwnV (base : Nat) (w : World) (v : Value) (xs : List Ent) : Prop := w.ownsRow base 49 2 v xs.length (ents xs)

theorem RdV.nil (w : World) : RdV w (.slice none 0 0) [] := ⟨none, 0, rfl, Nat.le_refl _, Nat.zero_le _, fun _ => ⟨rfl, rfl⟩, fun _ h => by cases h⟩
theorem below_cell {w wr : World} {p : Addr} {v : Value} (hb : Below w.heap.size w wr) (hc : w.cell? p = some v) : wr.cell? p = some v := by
  rw [hb.cell (World.block_lt_of_cell? w _ hc)]; exact hc
theorem RdV.below {w w' : World} {v : Value} {xs : List Ent} (h : RdV w v xs) (hb : Below w.heap.size w w') : RdV w' v xs := by
  obtain ⟨a, c, rfl, h1, h2, h3, h4⟩ := h
  exact ⟨a, c, rfl, h1, h2, h3, fun x hx j u hu => below_cell hb (h4 x hx j u hu)⟩
theorem rdV_drewN {w : World} {v : Value} {xs : List Ent} (h : RdV w v xs) (n : Nat) : RdV (w.drewN n) v xs := h
theorem below_drewN (B : Nat) (w : World) (m : Nat) : Below B w (w.drewN m) := ⟨rfl, rfl, rfl, Nat.le_refl _, fun _ _ => rfl⟩
theorem below_fresh (w : World) (o : Obj) : Below w.heap.size w (w.alloc o) := (Below.refl _ w).alloc (Nat.le_refl _) _
theorem RdV.shape {w : World} {v : Value} {xs : List Ent} (h : RdV w v xs) : ∃ a c, v = .slice a xs.length c ∧ c ≤ 9223372036854775807 ∧ xs.length ≤ c := by
  obtain ⟨a, c, rfl, h1, h2, _⟩ := h
  unfold maxLen at h2
  exact ⟨a, c, rfl, by omega, h1⟩

theorem OwnV.nil (base : Nat) (w : World) : OwnV base w (.slice none 0 0) [] := World.ownsRow_nil _ _ _ _
theorem OwnV.rd {base : Nat} {w : World} {v : Value} {xs : List Ent} (h : OwnV base w v xs) : RdV w v xs := by
  have ho := h
  rcases h.2 with ⟨rfl, h0⟩ | ⟨g, cap, cur, rfl, hg, hh, hn, hm, hs, ht⟩
  · obtain rfl : xs = [] := List.eq_nil_of_length_eq_zero h0
    exact RdV.nil w
  · refine ⟨_, cap, rfl, hn, hm, (fun h => by cases h), fun x hx j u hu => ?_⟩
    cases hx
    exact ho.cells (g := g) rfl j u hu
theorem OwnV.below {base : Nat} {w w' : World} {v : Value} {xs : List Ent} (h : OwnV base w v xs) (hb : Below w.heap.size w w') : OwnV base w' v xs :=
  World.ownsRow.kept h (row := none) ⟨hb.os, hb.tape, hb.output, hb.size, fun k hk _ => hb.block k hk⟩ (by cases v.ownBlock <;> simp)
theorem OwnV.mono {base base' : Nat} {w : World} {v : Value} {xs : List Ent} (h : OwnV base w v xs) (hle : base' ≤ base) : OwnV base' w v xs := by
  obtain ⟨hl, h⟩ := h
  refine ⟨hl, ?_⟩
  rcases h with h | ⟨g, cap, cur, hv, hg, r⟩
  · exact .inl h
  · exact .inr ⟨g, cap, cur, hv, Nat.le_trans hle hg, r⟩
theorem ownV_empty (w : World) : OwnV w.heap.size (w.alloc (.cells #[] 49)) (.slice (some ⟨w.heap.size, 0, none⟩) 0 0) [] := World.ownsRow_made w #[] 0 (Nat.le_refl _) (Nat.zero_le _) rfl
/-- A vector that is made out of the values at hand. -/
theorem ownV_fresh (w : World) (xs : List Ent) (h : xs.length ≤ maxLen) : OwnV w.heap.size (w.alloc (.cells (ents xs).toArray 49)) (.slice (some ⟨w.heap.size, 0, none⟩) xs.length xs.length) xs :=
  ⟨ents_length xs, .inr ⟨w.heap.size, xs.length, (ents xs).toArray, rfl, Nat.le_refl _, heap_alloc_new w _, Nat.le_refl _, h, by simp [ents_length], by rw [List.take_of_length_le]; simp [ents_length]⟩⟩

theorem addr_plain (b off j : Nat) : (⟨b, off, none⟩ : Addr).add j = ⟨b, off + j, none⟩ := by unfold Addr.add; split <;> simp_all
theorem addr_block (x : Addr) (j : Nat) : (x.add j).block = x.block := by unfold Addr.add; split <;> rfl

theorem run_sizeEnt (w : World) : Sem.run Try.prog (Go.sizeOf 49) w = .ok 2 w := by
  obtain ⟨i0, hi, hz0, hz1, hz2⟩ := info_parts infoEnt
  simp [Go.sizeOf, typeInfo, hi, hz1]

/-- A vector that has entries lies at a plain address. -/
theorem RdV.plain {w : World} {a : Option Addr} {n c : Nat} {xs : List Ent} (h : RdV w (.slice a n c) xs) (h0 : 0 < xs.length) :
    ∃ b o, a = some ⟨b, o, none⟩ ∧ b < w.heap.size ∧ ∀ i e, xs[i]? = some e → w.cell? ⟨b, o + i * 2, none⟩ = some (.int .i64 e.1) ∧ w.cell? ⟨b, o + i * 2 + 1, none⟩ = some (.int .i64 e.2) := by
  obtain ⟨a', c', hv, h1, h2, h3, h4⟩ := h
  cases hv
  cases a with
  | none => have := (h3 rfl).1; subst this; simp at h0
  | some x =>
    obtain ⟨b, o, spot⟩ := x
    have hc0 := h4 _ rfl 0 _ (by rw [show 0 = 0 * 2 from rfl, ents_even, List.getElem?_eq_getElem h0]; rfl)
    have hspot : spot = none := by simpa [Addr.add] using World.cell?_spot hc0
    subst hspot
    rw [addr_plain] at hc0
    refine ⟨b, o, rfl, World.block_lt_of_cell? w _ hc0, fun i e he => ⟨?_, ?_⟩⟩
    · have := h4 _ rfl (i * 2) (.int .i64 e.1) (by rw [ents_even, he]; rfl)
      rw [addr_plain] at this
      exact this
    · have := h4 _ rfl (i * 2 + 1) (.int .i64 e.2) (by rw [ents_odd, he]; rfl)
      rw [addr_plain] at this
      exact this

/-- 'v[k]': where the index leads, and what is there. -/
theorem RdV.at {w : World} {a : Option Addr} {n c : Nat} {xs : List Ent} (h : RdV w (.slice a n c) xs) (k : Nat) (e : Ent) (hk : xs[k]? = some e) :
    ∃ b o, (∀ w0, (Instr.indexAt 23 (.slice a n c) (.int .i64 (k : Int))).run Try.prog w0 = .ok (.pointer (some ⟨b, o, none⟩)) w0) ∧ b < w.heap.size ∧
      w.cell? ⟨b, o, none⟩ = some (.int .i64 e.1) ∧ w.cell? ⟨b, o + 1, none⟩ = some (.int .i64 e.2) := by
  have hlt : k < xs.length := (List.getElem?_eq_some_iff.1 hk).1
  obtain ⟨b, o, rfl, hb, hc⟩ := h.plain (by omega)
  obtain ⟨a', c', hv, _⟩ := h
  cases hv
  refine ⟨b, o + k * 2, fun w0 => ?_, hb, hc k e hk⟩
  have h1 : (0 : Int) ≤ (k : Int) := by omega
  have h2 : (k : Int) < (xs.length : Int) := by omega
  have h3 : ¬ xs.length ≤ k := by omega
  simp [Instr.indexAt, asIntOf, run_underlying Try.underlying23, h1, Result.andThen, addr_plain]
  intro h4
  exact absurd h4 h3

/-- 'v[lo:]', 'v[:hi]': one run equation each, and what it reads as. -/
theorem RdV.cutL {w : World} {a : Option Addr} {n c : Nat} {xs : List Ent} (h : RdV w (.slice a n c) xs) (lo : Nat) (h2 : lo ≤ xs.length) :
    ∃ v', (∀ w0 : World, (Instr.slice 23 (.slice a n c) (some (.int .i64 (lo : Int))) none none).run Try.prog w0 = .ok v' w0) ∧ RdV w v' (xs.drop lo) := by
  obtain ⟨a', c', hv, h3, h4, h5, h6⟩ := h
  cases hv
  refine ⟨.slice (if c = lo then a else a.map (·.add (lo * 2))) (xs.length - lo) (c - lo), fun w0 => ?_, ?_⟩
  · have e1 : (0 : Int) ≤ (lo : Int) := by omega
    have e2 : (lo : Int) ≤ (xs.length : Int) := by omega
    have hz := fun w => run_sizeEnt w
    simp [Instr.slice, run_underlying Try.underlying23, Instr.sliceBounds, run_sliceBound, e1, e2, hz, Result.andThen]
  · refine ⟨if c = lo then a else a.map (·.add (lo * 2)), c - lo, by rw [List.length_drop], by rw [List.length_drop]; omega, by omega, ?_, ?_⟩
    · intro hn
      have : a = none := by
        split at hn
        · exact hn
        · simpa using hn
      obtain ⟨rfl, rfl⟩ := h5 this
      simp
    · intro x hx j u hu
      have hne : ¬ c = lo := by
        rintro rfl
        rw [List.drop_of_length_le (by omega)] at hu
        cases hu
      rw [if_neg hne] at hx
      obtain ⟨y, rfl, rfl⟩ := Option.map_eq_some_iff.1 hx
      have hd : ents (xs.drop lo) = (ents xs).drop (lo * 2) := by
        have := congrArg (List.drop (lo * 2)) (ents_append (xs.take lo) (xs.drop lo))
        rw [List.take_append_drop] at this
        rw [this, List.drop_left' (by rw [ents_length, List.length_take]; omega)]
      rw [hd, List.getElem?_drop] at hu
      have hc := h6 y rfl _ _ hu
      have hpos : 0 < xs.length := by
        have := (List.getElem?_eq_some_iff.1 hu).1
        rw [ents_length] at this
        omega
      obtain ⟨b, o, hy, _, _⟩ := RdV.plain ⟨_, _, rfl, h3, h4, h5, h6⟩ hpos
      cases hy
      rw [addr_plain] at hc
      rw [addr_plain, addr_plain, Nat.add_assoc]
      exact hc
theorem RdV.cut0 {w : World} {a : Option Addr} {n c : Nat} {xs : List Ent} (h : RdV w (.slice a n c) xs) (hi : Nat) (h2 : hi ≤ xs.length) :
    ∃ v', (∀ w0 : World, (Instr.slice 23 (.slice a n c) none (some (.int .i64 (hi : Int))) none).run Try.prog w0 = .ok v' w0) ∧ RdV w v' (xs.take hi) := by
  obtain ⟨a', c', hv, h3, h4, h5, h6⟩ := h
  cases hv
  refine ⟨.slice a hi c, fun w0 => ?_, ?_⟩
  · have e4 : (0 : Int) ≤ (hi : Int) := by omega
    have e3 : (hi : Int) ≤ (c : Int) := by omega
    have hz := fun w => run_sizeEnt w
    cases a <;> simp [Instr.slice, run_underlying Try.underlying23, Instr.sliceBounds, run_sliceBound, e3, e4, hz, Result.andThen, Addr.add]
  · refine ⟨a, c, by rw [List.length_take]; congr 1; omega, by rw [List.length_take]; omega, h4, fun ha => ?_, fun x hx j u hu => ?_⟩
    · obtain ⟨rfl, rfl⟩ := h5 ha
      simp
    · refine h6 x hx j u ?_
      have hd := ents_append (xs.take hi) (xs.drop hi)
      rw [List.take_append_drop] at hd
      rw [hd, List.getElem?_append_left (List.getElem?_eq_some_iff.1 hu).1]
      exact hu

/-- All blocks that hold something else than entries are as they were. -/
def KeepsE (w w' : World) : Prop := ∀ (k : Nat) (cur : Array Value) (t : TypeId) (fr : Nat × Nat), t ≠ 49 → w.heap[k]? = some (Obj.cells cur t fr) → w'.heap[k]? = some (Obj.cells cur t fr)
theorem Below.keepsE {w w' : World} (h : Below w.heap.size w w') : KeepsE w w' := fun k cur t fr _ hk => by
  have hlt : k < w.heap.size := (Array.getElem?_eq_some_iff.1 hk).1
  rw [h.block k hlt]; exact hk
theorem KeepsE.trans {a b c : World} (h : KeepsE a b) (k : KeepsE b c) : KeepsE a c := fun i cur t fr ht hi => k i cur t fr ht (h i cur t fr ht hi)
theorem keepsE_grown {base : Nat} {w w' : World} {v : Value} {n : Nat} {us : List Value} (ho : w.ownsRow base 49 2 v n us) (hg : w.grownBy w' v.ownBlock) : KeepsE w w' := by
  intro k cur t fr ht hk
  have hlt : k < w.heap.size := (Array.getElem?_eq_some_iff.1 hk).1
  rw [hg.block k hlt]
  · exact hk
  · intro he
    rcases ho.2 with ⟨rfl, _⟩ | ⟨g, cap, cur', rfl, _, hh, _⟩
    · cases he
    · simp only [Value.ownBlock] at he
      cases he
      rw [hh] at hk
      cases hk
      exact ht rfl

section
variable {w : World} {ops : Array Oper} {rest : List Oper} {o : Oper} {a : Act} {Q : Exit → Act → World → Prop} {base : Nat} {v : Value} {ys : List Ent}

/-- 'out = append(out, Entry{x, n})', out the call's own vector. -/
theorem wp_appV1 {x n : Int} (hgd : o.guard = none) (s r : Operand) (ho : o.op = .call { callee := .builtin .append, args := #[s, r], argTypes := #[23, 23] })
    (hs : a.eval s = v) (hown : OwnV base w v ys) (hx : a.eval r = .slice (some ⟨w.heap.size, 0, none⟩) 1 1) (hlen : ys.length ≤ 1099511627776) (hb : base ≤ w.heap.size)
    (h : ∀ v' w', OwnV base w' v' (ys ++ [(x, n)]) → Below base w w' → KeepsE w w' → wpList Try.prog ops Q rest (a.put o.dst v') w') :
    wpList Try.prog ops Q (o :: rest) a (w.alloc (.cells #[.int .i64 x, .int .i64 n] 49)) := by
  obtain ⟨i0, hi, hz0, hz1, hz2⟩ := info_parts infoEnt
  refine wpList_append_own _ hgd s r 23 ho base 49 i0 _ 2 16 Try.underlying23 hi hz0 hz1 hz2 rfl (by decide) _ _ _ hs (World.ownsRow.alloc hown _) ⟨w.heap.size, 0, none⟩ 1 1 [.int .i64 x, .int .i64 n] hx rfl ?_ ?_ ?_ ?_ ?_ ?_
  · intro j u hu
    rw [addr_plain, Nat.zero_add, World.cell?_alloc_new]
    simpa using hu
  · intro u hu
    simp at hu
    rcases hu with rfl | rfl <;> rfl
  · unfold maxLen; omega
  · omega
  · simp; omega
  · intro v' w1 ho1 hg1 _
    have hk0 : KeepsE w (w.alloc (.cells #[.int .i64 x, .int .i64 n] 49)) := Below.keepsE (below_fresh w _)
    refine h v' w1 ?_ (((Below.refl _ _).alloc hb _).grown hg1 (by simp; omega) (fun k hk => (World.ownsRow.lt hown k hk).1)) (hk0.trans (keepsE_grown (World.ownsRow.alloc hown _) hg1))
    unfold OwnV
    rw [ents_append, List.length_append]
    exact ho1

/-- 'append(out, u...)', out the call's own vector, u any vector. -/
theorem wp_appVS {u : Value} {zs : List Ent} (hgd : o.guard = none) (s r : Operand) (ho : o.op = .call { callee := .builtin .append, args := #[s, r], argTypes := #[23, 23] })
    (hs : a.eval s = v) (hown : OwnV base w v ys) (hx : a.eval r = u) (hu : RdV w u zs) (hlen : ys.length ≤ 1099511627776) (hlen2 : zs.length ≤ 1099511627776) (hb : base ≤ w.heap.size)
    (h : ∀ v' w', OwnV base w' v' (ys ++ zs) → Below base w w' → wpList Try.prog ops Q rest (a.put o.dst v') w') :
    wpList Try.prog ops Q (o :: rest) a w := by
  obtain ⟨i0, hi, hz0, hz1, hz2⟩ := info_parts infoEnt
  obtain ⟨ad, c, rfl, h1, h2, h3, h4⟩ := hu
  cases ad with
  | none =>
    obtain ⟨rfl, rfl⟩ := h3 rfl
    exact wpList_append_own_none hgd s r 23 ho base 49 i0 2 Try.underlying23 hi _ _ _ hs hown hx (h _ _ (by rw [List.append_nil]; exact hown) (Below.refl _ _))
  | some ad =>
    refine wpList_append_own _ hgd s r 23 ho base 49 i0 _ 2 16 Try.underlying23 hi hz0 hz1 hz2 rfl (by decide) _ _ _ hs hown ad zs.length c (ents zs) hx (ents_length zs) (h4 ad rfl) (ents_one zs) ?_ ?_ hb ?_
    · unfold maxLen; omega
    · omega
    · intro v' w1 ho1 hg1 _
      refine h v' w1 ?_ ((Below.refl _ _).grown hg1 hb (fun k hk => (World.ownsRow.lt hown k hk).1))
      unfold OwnV
      rw [ents_append, List.length_append]
      exact ho1
end

theorem ret_true {p : Prop} [Decidable p] (h : p) : Ending.returned (.bool (decide p)) = Ending.returned (.bool true) := by rw [decide_eq_true h]

end Go.Proofs.Ytejedodicihecaa.VX

namespace Go.Proofs.Ytejedodicihecaa.VX
open Go.RowKit
open VM (Ent)

theorem drop_get {xs : List Ent} {k : Nat} (h : k < xs.length) : xs.drop k = xs[k] :: xs.drop (k + 1) := List.drop_eq_getElem_cons h

set_option maxRecDepth 100000 in
set_option maxHeartbeats 1000000 in
theorem rCount (v : Value) (xs : List Ent) (a : Int) (w : World) (h : RdV w v xs) :
    Calls Try.prog 25 #[v, .int .i64 a] w fun e w' => e = .returned (.int .i64 (VM.cnt xs a)) ∧ w = w' := by
  obtain ⟨ad, c, rfl, hc, hl⟩ := h.shape
  have H := Lib.hid h
  clear h
  obtain ⟨R, hR⟩ : ∃ R, R = VM.cnt xs a := ⟨_, rfl⟩
  rw [← hR]
  have HR := Lib.hid hR
  clear hR
  go_enter Try.func25, Try.ntmps25
  go_wp2
  go_loop [5] (fun i => ∃ k : Nat, k ≤ xs.length ∧ i = .int .i64 k ∧ Hid (R = VM.cnt (xs.drop k) a)) (fun i => xs.length - (intOf i).toNat)
  case atStart => exact ⟨0, Nat.zero_le _, rfl, HR.out⟩
  case round =>
    obtain ⟨k, hk, rfl, he⟩ := hrel
    by_cases hlt : k < xs.length
    · obtain ⟨b, o, hi, hb, c0, c1⟩ := H.out.at k xs[k] (List.getElem?_eq_getElem hlt)
      have hq : (k : Int) < (xs.length : Int) := by omega
      have hd := Lib.hid (drop_get hlt)
      generalize xs[k] = en at c0 c1 hd
      obtain ⟨x, n⟩ := en
      simp only at c0 c1
      clear HR
      by_cases hx : x = a
      · have e2 := Lib.hid (show R = n by rw [he.out, hd.out, VM.cnt_cons, if_pos hx])
        subst hx
        clear he hd
        go_wp2
        go_ret
        rw [e2.out]
        exact ⟨rfl, rfl⟩
      · have e2 := Lib.hid (show R = VM.cnt (xs.drop (k + 1)) a by rw [he.out, hd.out, VM.cnt_cons, if_neg hx])
        have hx' : (x == a) = false := by simpa using hx
        clear he hd hx
        go_wp2
        go_round
        case rel => exact ⟨k + 1, by omega, by go_num, e2⟩
        case measure => simp [intOf]; omega
    · have hq : ¬ ((k : Int) < (xs.length : Int)) := by omega
      have e2 := Lib.hid (show R = 0 by rw [he.out, List.drop_of_length_le (by omega)]; rfl)
      clear he HR
      go_wp2
      go_ret
      rw [e2.out]
      exact ⟨rfl, rfl⟩

/-- A quiet call's contract, at a world that has drawn. -/
theorem rCountQ {v : Value} {xs : List Ent} (a : Int) {w : World} (h : RdV w v xs) (n : Nat) :
    Calls Try.prog 25 #[v, .int .i64 a] (w.drewN n) fun e w' => e = .returned (.int .i64 (VM.cnt xs a)) ∧ ∃ m, w' = w.drewN m := by
  refine (rCount v xs a _ (rdV_drewN h n)).mono ?_
  rintro e w1 ⟨rfl, rfl⟩
  exact ⟨rfl, n, rfl⟩

theorem le_cons (e : Ent) (v b : List Ent) : VM.le (e :: v) b = (decide (e.2 ≤ VM.cnt b e.1) && VM.le v b) := rfl

set_option maxRecDepth 100000 in
set_option maxHeartbeats 1000000 in
theorem rLessEqual (va vb : Value) (xs ys : List Ent) (w : World) (ha : RdV w va xs) (hb : RdV w vb ys) :
    Calls Try.prog 16 #[va, vb] w fun e w' => e = .returned (.bool (VM.le xs ys)) ∧ Below w.heap.size w w' := by
  obtain ⟨ad, c, rfl, hc, hl⟩ := ha.shape
  have HA := Lib.hid ha
  have HB := Lib.hid hb
  clear ha hb
  obtain ⟨R, hR⟩ : ∃ R, R = VM.le xs ys := ⟨_, rfl⟩
  rw [← hR]
  have HR := Lib.hid hR
  clear hR
  go_enter Try.func16, Try.ntmps16
  go_wp2
  go_loopw [5] (fun i wr => ∃ k : Nat, k ≤ xs.length ∧ i = .int .i64 k ∧ Below w.heap.size w wr ∧ Hid (R = VM.le (xs.drop k) ys)) (fun i _ => xs.length - (intOf i).toNat)
  case atStart => exact ⟨0, Nat.zero_le _, rfl, Below.refl _ _, HR.out⟩
  case round =>
    obtain ⟨k, hk, rfl, hbl, he⟩ := hrel
    by_cases hlt : k < xs.length
    · obtain ⟨b, o, hi, hb, c0, c1⟩ := (HA.out.below hbl).at k xs[k] (List.getElem?_eq_getElem hlt)
      have hq : (k : Int) < (xs.length : Int) := by omega
      have hd := Lib.hid (drop_get hlt)
      have HBr := Lib.hid (HB.out.below hbl)
      generalize xs[k] = en at c0 c1 hd
      obtain ⟨x, n⟩ := en
      simp only at c0 c1
      clear HR
      by_cases hx : n ≤ VM.cnt ys x
      · have e2 := Lib.hid (show R = VM.le (xs.drop (k + 1)) ys by rw [he.out, hd.out, le_cons, decide_eq_true hx]; rfl)
        have hx' : ¬ VM.cnt ys x < n := by omega
        clear he hd
        go_wp2
        go_quiet ((go_at_call 25; exact rCountQ x HBr.out _))
        go_wp2
        go_roundw
        case rel => exact ⟨k + 1, by omega, by go_num, hbl.trans (below_drewN _ _ _), e2⟩
        case measure => simp [intOf]; omega
      · have e2 := Lib.hid (show R = false by rw [he.out, hd.out, le_cons, decide_eq_false hx]; rfl)
        have hx' : VM.cnt ys x < n := by omega
        clear he hd
        go_wp2
        go_quiet ((go_at_call 25; exact rCountQ x HBr.out _))
        go_wp2
        go_ret
        rw [e2.out]
        exact ⟨rfl, hbl.trans (below_drewN _ _ _)⟩
    · have hq : ¬ ((k : Int) < (xs.length : Int)) := by omega
      have e2 := Lib.hid (show R = true by rw [he.out, List.drop_of_length_le (by omega)]; rfl)
      clear he HR
      go_wp2
      go_ret
      rw [e2.out]
      exact ⟨rfl, hbl⟩

/-- '!=' of two entries. -/
theorem neq_ent (x n y m : Int) (w : World) : (binOp .neq 49 (.agg #[.int .i64 x, .int .i64 n]) (.agg #[.int .i64 y, .int .i64 m])).run Try.prog w = .ok (.bool (!(decide (x = y) && decide (n = m)))) w := by
  have u3 := Try.underlying3
  have a3 := Try.isAgg3
  have z3 := Try.sizeOf3
  have hS : Try.prog.underlying 49 = some (.struct (Try.prog.fieldsOf 49)) := by kernel_rfl
  have hp : Try.prog.stoodInHeld 49 = false := by kernel_rfl
  rw [run_neq_struct, show (10000 : Nat) = 9999 + 1 from rfl, run_equalIn_agg w 9999 49 _ _ hS hp]
  simp only [Program.fieldsOf, Try.underlying49]
  go_simp
  by_cases h1 : x = y <;> by_cases h2 : n = m <;> simp [h1, h2]

set_option maxRecDepth 100000 in
set_option maxHeartbeats 1000000 in
theorem rEqual (va vb : Value) (xs ys : List Ent) (w : World) (ha : RdV w va xs) (hb : RdV w vb ys) :
    Calls Try.prog 15 #[va, vb] w fun e w' => e = .returned (.bool (decide (xs = ys))) ∧ Below w.heap.size w w' := by
  obtain ⟨ad, c, rfl, hc, hl⟩ := ha.shape
  obtain ⟨bd, d, rfl, hd, hld⟩ := hb.shape
  have HA := Lib.hid ha
  have HB := Lib.hid hb
  clear ha hb
  by_cases hlen : xs.length = ys.length
  · obtain ⟨R, hR⟩ : ∃ R, R = decide (xs = ys) := ⟨_, rfl⟩
    rw [← hR]
    have HR := Lib.hid hR
    clear hR
    have HL := Lib.hid hlen
    have hq0 : ((xs.length : Int) != (ys.length : Int)) = false := by simp; omega
    rw [← hlen] at hq0 ⊢
    clear hlen
    have hneq := neq_ent
    have hm : Try.prog.eqGuardType Try.prog.depth 49 = false := by kernel_rfl
    go_enter Try.func15, Try.ntmps15
    go_wp2
    go_loopw [5] (fun i wr => ∃ k : Nat, k ≤ xs.length ∧ i = .int .i64 k ∧ Below w.heap.size w wr ∧ Hid (R = decide (xs.drop k = ys.drop k))) (fun i _ => xs.length - (intOf i).toNat)
    case atStart => exact ⟨0, Nat.zero_le _, rfl, Below.refl _ _, HR.out⟩
    case round =>
      obtain ⟨k, hk, rfl, hbl, he⟩ := hrel
      by_cases hlt : k < xs.length
      · have hlt2 : k < ys.length := by rw [← HL.out]; exact hlt
        obtain ⟨b, o, hi, hb, c0, c1⟩ := (HA.out.below hbl).at k xs[k] (List.getElem?_eq_getElem hlt)
        obtain ⟨b2, o2, hi2, hb2, d0, d1⟩ := (HB.out.below hbl).at k ys[k] (List.getElem?_eq_getElem hlt2)
        rw [← HL.out] at hi2
        have hq : (k : Int) < (xs.length : Int) := by omega
        have hdx := Lib.hid (drop_get hlt)
        have hdy := Lib.hid (drop_get hlt2)
        clear HR
        generalize xs[k] = en at c0 c1 hdx
        generalize ys[k] = em at d0 d1 hdy
        obtain ⟨x, n⟩ := en
        obtain ⟨y, m⟩ := em
        simp only at c0 c1 d0 d1
        by_cases hx : x = y ∧ n = m
        · obtain ⟨rfl, rfl⟩ := hx
          have e2 := Lib.hid (show R = decide (xs.drop (k + 1) = ys.drop (k + 1)) by rw [he.out, hdx.out, hdy.out]; simp)
          clear he hdx hdy
          go_wp2
          go_quiet (fail)
          go_wp2
          go_roundw
          case rel => exact ⟨k + 1, by omega, by go_num, hbl.trans (below_drewN _ _ _), e2⟩
          case measure => simp [intOf]; omega
        · have e2 := Lib.hid (show R = false by rw [he.out, hdx.out, hdy.out]; simp; exact fun h1 h2 => absurd ⟨h1, h2⟩ hx)
          have hx2 : (decide (x = y) && decide (n = m)) = false := by simpa using hx
          clear he hdx hdy hx
          go_wp2
          go_quiet (fail)
          go_wp2
          go_ret
          rw [e2.out]
          exact ⟨rfl, hbl.trans (below_drewN _ _ _)⟩
      · have hq : ¬ ((k : Int) < (xs.length : Int)) := by omega
        have e2 := Lib.hid (show R = true by rw [he.out, List.drop_of_length_le (by omega), List.drop_of_length_le (by rw [← HL.out]; omega)]; rfl)
        clear he HR
        go_wp2
        go_ret
        rw [e2.out]
        exact ⟨rfl, hbl⟩
  · have e2 := Lib.hid (show decide (xs = ys) = false from decide_eq_false fun h => hlen (by rw [h]))
    have hq0 : ((xs.length : Int) != (ys.length : Int)) = true := by simp; omega
    clear hlen HA HB
    go_enter Try.func15, Try.ntmps15
    go_wp2
    go_ret
    rw [e2.out]
    exact ⟨rfl, Below.refl _ _⟩

theorem err_cons (p : Int) (e : Ent) (v : List Ent) : VM.err p (e :: v) = if VM.off e = true then 9 else if e.1 ≤ p then 7 else VM.err e.1 v := rfl
/-- The author ahead of place k. -/
def prev (xs : List Ent) (k : Nat) : Int := if k = 0 then 0 else (xs.getD (k - 1) (0, 0)).1
theorem prev_succ {xs : List Ent} {k : Nat} {e : Ent} (h : xs[k]? = some e) : prev xs (k + 1) = e.1 := by simp [prev, List.getD, h]

set_option maxRecDepth 100000 in
set_option maxHeartbeats 2000000 in
theorem rValidate (v : Value) (xs : List Ent) (w : World) (h : RdV w v xs) :
    Calls Try.prog 6 #[v] w fun e w' => e = .returned (.int .i64 (VM.err 0 xs)) ∧ Below w.heap.size w w' := by
  obtain ⟨ad, c, rfl, hc, hl⟩ := h.shape
  have H := Lib.hid h
  clear h
  obtain ⟨R, hR⟩ : ∃ R, R = VM.err 0 xs := ⟨_, rfl⟩
  rw [← hR]
  have HR := Lib.hid hR
  clear hR
  go_enter Try.func6, Try.ntmps6
  go_wp2
  go_loopw [3] (fun i wr => ∃ k : Nat, k ≤ xs.length ∧ i = .int .i64 k ∧ Below w.heap.size w wr ∧ Hid (R = VM.err (prev xs k) (xs.drop k))) (fun i _ => xs.length - (intOf i).toNat)
  case atStart => exact ⟨0, Nat.zero_le _, rfl, Below.refl _ _, HR.out⟩
  case round =>
    obtain ⟨k, hk, rfl, hbl, he⟩ := hrel
    by_cases hlt : k < xs.length
    · obtain ⟨b, o, hi, hb, c0, c1⟩ := (H.out.below hbl).at k xs[k] (List.getElem?_eq_getElem hlt)
      have hq : (k : Int) < (xs.length : Int) := by omega
      have hd := Lib.hid (drop_get hlt)
      have hp := Lib.hid (prev_succ (List.getElem?_eq_getElem hlt))
      clear HR
      generalize xs[k] = en at c0 c1 hd hp
      obtain ⟨x, n⟩ := en
      simp only at c0 c1
      by_cases hoff : VM.off (x, n) = true
      · have e2 := Lib.hid (show R = 9 by rw [he.out, hd.out, err_cons, if_pos hoff])
        simp [VM.off] at hoff
        clear he hd hp
        by_cases h1 : x < 1
        · clear hoff
          go_wp2
          go_ret
          rw [e2.out]
          exact ⟨rfl, hbl⟩
        · by_cases h2 : n < 1
          · clear hoff
            go_wp2
            go_ret
            rw [e2.out]
            exact ⟨rfl, hbl⟩
          · have h3 : 1000000 < n := by omega
            clear hoff
            go_wp2
            go_ret
            rw [e2.out]
            exact ⟨rfl, hbl⟩
      · have e1 := Lib.hid (show R = if x ≤ prev xs k then 7 else VM.err x (xs.drop (k + 1)) by rw [he.out, hd.out, err_cons, if_neg hoff])
        simp [VM.off] at hoff
        obtain ⟨h1, h2, h3⟩ := hoff
        have h1' : ¬ x < 1 := by omega
        have h2' : ¬ n < 1 := by omega
        have h3' : ¬ 1000000 < n := by omega
        clear he hd
        by_cases h0 : k = 0
        · subst h0
          have e2 := Lib.hid (show R = VM.err (prev xs (0 + 1)) (xs.drop (0 + 1)) by rw [e1.out, if_neg (by show ¬ x ≤ 0; omega), hp.out])
          have hi0 : ∀ w0 : World, (Instr.indexAt 23 (.slice ad xs.length c) (.int .i64 0)).run Try.prog w0 = .ok (.pointer (some ⟨b, o, none⟩)) w0 := hi
          have hq0 : (0 : Int) < (xs.length : Int) := hq
          clear e1 hp hi hq
          go_wp2
          go_quiet (fail)
          go_wp2
          go_roundw
          case rel => exact ⟨0 + 1, by omega, by go_num, hbl.trans (below_drewN _ _ _), e2⟩
          case measure => simp [intOf]; omega
        · have hk1 : (0 : Int) < (k : Int) := by omega
          have hk2 : 0 < k := by omega
          have hkl : k - 1 < xs.length := by omega
          obtain ⟨b2, o2, hi2, hb2, d0, d1⟩ := (H.out.below hbl).at (k - 1) xs[k - 1] (List.getElem?_eq_getElem hkl)
          have hpk := Lib.hid (show prev xs k = xs[k - 1].1 by simp [prev, h0, List.getD, List.getElem?_eq_getElem hkl])
          generalize xs[k - 1] = em at d0 d1 hpk
          obtain ⟨y, m⟩ := em
          simp only at d0 d1
          rw [show ((k - 1 : Nat) : Int) = (k : Int) - 1 by omega] at hi2
          by_cases hy : x ≤ y
          · have e2 := Lib.hid (show R = 7 by rw [e1.out, hpk.out, if_pos hy])
            have hy' : y ≥ x := hy
            clear e1 hp hpk
            go_wp2
            go_quiet (fail)
            go_wp2
            go_ret
            rw [e2.out]
            exact ⟨rfl, hbl.trans (below_drewN _ _ _)⟩
          · have e2 := Lib.hid (show R = VM.err (prev xs (k + 1)) (xs.drop (k + 1)) by rw [e1.out, hpk.out, if_neg hy, hp.out])
            have hy' : ¬ y ≥ x := hy
            clear e1 hp hpk
            go_wp2
            go_quiet (fail)
            go_wp2
            go_roundw
            case rel => exact ⟨k + 1, by omega, by go_num, hbl.trans (below_drewN _ _ _), e2⟩
            case measure => simp [intOf]; omega
    · have hq : ¬ ((k : Int) < (xs.length : Int)) := by omega
      have e2 := Lib.hid (show R = 0 by rw [he.out, List.drop_of_length_le (by omega)]; rfl)
      clear he HR
      go_wp2
      go_ret
      rw [e2.out]
      exact ⟨rfl, hbl⟩

end Go.Proofs.Ytejedodicihecaa.VX

namespace Go.Proofs.Ytejedodicihecaa.VX
open Go.RowKit
open VM (Ent)

set_option maxRecDepth 100000 in
set_option maxHeartbeats 1000000 in
theorem rWithOut (v : Value) (a c : Int) (w : World) (h : ¬ (1 ≤ a ∧ 0 ≤ c ∧ c ≤ 1000000)) :
    Calls Try.prog 28 #[v, .int .i64 a, .int .i64 c] w fun e w' => e = .returned v ∧ w = w' := by
  by_cases h1 : a < 1
  · clear h
    go_enter Try.func28, Try.ntmps28
    go_wp2
    go_ret
    exact ⟨rfl, rfl⟩
  · by_cases h2 : c < 0
    · clear h
      go_enter Try.func28, Try.ntmps28
      go_wp2
      go_ret
      exact ⟨rfl, rfl⟩
    · have h3 : 1000000 < c := by omega
      clear h
      go_enter Try.func28, Try.ntmps28
      go_wp2
      go_ret
      exact ⟨rfl, rfl⟩

theorem wl_cons (p : Bool) (a c : Int) (e : Ent) (v : List Ent) :
    VM.wl p a c (e :: v) = (if !p && decide (a ≤ e.1) then [(a, c)] else []) ++ ((if e.1 = a then [] else [e]) ++ VM.wl (p || decide (a ≤ e.1)) a c v) := rfl

set_option maxRecDepth 100000 in
set_option maxHeartbeats 2000000 in
theorem rWithIn (v : Value) (xs : List Ent) (a c : Int) (p0 : Bool) (w : World) (h : RdV w v xs) (ha : 1 ≤ a) (hc0 : 0 ≤ c) (hc1 : c ≤ 1000000) (hp : (c == 0) = p0) (hlx : xs.length ≤ 100000) :
    Calls Try.prog 28 #[v, .int .i64 a, .int .i64 c] w fun e w' => ∃ v', e = .returned v' ∧ OwnV w.heap.size w' v' (VM.wl p0 a c xs) ∧ Below w.heap.size w w' := by
  obtain ⟨ad, cap, rfl, hc, hl⟩ := h.shape
  have H := Lib.hid h
  clear h
  obtain ⟨R, hR⟩ : ∃ R, R = VM.wl p0 a c xs := ⟨_, rfl⟩
  rw [← hR]
  have HR := Lib.hid hR
  have k1 : ¬ a < 1 := by omega
  have k2 : ¬ c < 0 := by omega
  have k3 : ¬ 1000000 < c := by omega
  clear hR
  go_enter Try.func28, Try.ntmps28
  go_wp2
  clear hp
  go_loopw [7, 8, 9] (fun z p i wr => ∃ (k : Nat) (os : List Ent) (pb : Bool), k ≤ xs.length ∧ i = .int .i64 k ∧ p = .bool pb ∧ OwnV w.heap.size wr z os ∧ os.length ≤ 2 * k ∧ Below w.heap.size w wr ∧ Hid (os ++ VM.wl pb a c (xs.drop k) = R)) (fun _ _ i _ => xs.length - (intOf i).toNat)
  case atStart => exact ⟨0, [], p0, Nat.zero_le _, rfl, rfl, OwnV.nil _ _, Nat.zero_le _, Below.refl _ _, (by show _ = _; rw [HR.out]; rfl)⟩
  case round =>
    obtain ⟨k, os, pb, hk, rfl, rfl, ho, hol, hbl, he⟩ := hrel
    have hsz := hbl.size
    by_cases hlt : k < xs.length
    · obtain ⟨b, o, hi, hb, c0, c1⟩ := H.out.at k xs[k] (List.getElem?_eq_getElem hlt)
      have hq : (k : Int) < (xs.length : Int) := by omega
      have hd := Lib.hid (drop_get hlt)
      clear HR
      generalize xs[k] = en at c0 c1 hd
      obtain ⟨x, n⟩ := en
      simp only at c0 c1
      have C0 := Lib.hid c0
      have C1 := Lib.hid c1
      have d0 := below_cell hbl c0
      have d1 := below_cell hbl c1
      clear c0 c1
      cases pb with
      | true =>
        by_cases hx : x = a
        · have e2 := Lib.hid (show os ++ VM.wl true a c (xs.drop (k + 1)) = R by rw [← he.out, hd.out, wl_cons, if_pos hx]; rfl)
          have hx' : (x != a) = false := by simpa using hx
          clear he hd hx
          go_wp2
          go_roundw
          case rel => exact ⟨k + 1, os, true, by omega, by go_num, rfl, ho, by omega, hbl, e2⟩
          case measure => simp [intOf]; omega
        · have e2 := Lib.hid (show (os ++ [(x, n)]) ++ VM.wl true a c (xs.drop (k + 1)) = R by rw [← he.out, hd.out, wl_cons, if_neg hx, List.append_assoc]; rfl)
          have hx' : (x != a) = true := by simpa using hx
          clear he hd hx
          go_wp2_with (at_builtin; refine wp_appV1 rfl _ _ rfl rfl ho rfl (by omega) hsz ?_)
          intro v5 w5 ho6 hb7 _
          have hb8 := hbl.trans hb7
          clear ho hb7 d0 d1
          go_wp2
          go_roundw
          case rel => exact ⟨k + 1, _, true, by omega, by go_num, rfl, ho6, (by rw [List.length_append, List.length_singleton]; omega), hb8, e2⟩
          case measure => simp [intOf]; omega
      | false =>
        by_cases hle : a ≤ x
        · have hge : x ≥ a := hle
          by_cases hx : x = a
          · have e2 := Lib.hid (show (os ++ [(a, c)]) ++ VM.wl true a c (xs.drop (k + 1)) = R by rw [← he.out, hd.out, wl_cons, if_pos hx, List.append_assoc]; simp [hle])
            have hx' : (x != a) = false := by simpa using hx
            clear he hd hx
            go_wp2_with (at_builtin; refine wp_appV1 rfl _ _ rfl rfl ho rfl (by omega) hsz ?_)
            intro v5 w5 ho6 hb7 _
            have hb8 := hbl.trans hb7
            clear ho hb7 d0 d1
            have d0 := below_cell hb8 C0.out
            go_wp2
            go_roundw
            case rel => exact ⟨k + 1, _, true, by omega, by go_num, rfl, ho6, (by rw [List.length_append, List.length_singleton]; omega), hb8, e2⟩
            case measure => simp [intOf]; omega
          · have e2 := Lib.hid (show (os ++ [(a, c), (x, n)]) ++ VM.wl true a c (xs.drop (k + 1)) = R by rw [← he.out, hd.out, wl_cons, if_neg hx, List.append_assoc]; simp [hle])
            have hx' : (x != a) = true := by simpa using hx
            clear he hd hx
            go_wp2_with (at_builtin; refine wp_appV1 rfl _ _ rfl rfl ho rfl (by omega) hsz ?_)
            intro v5 w5 ho6 hb7 _
            have hb8 := hbl.trans hb7
            clear ho hb7 d0 d1
            have d0 := below_cell hb8 C0.out
            have d1 := below_cell hb8 C1.out
            have hs8 := hb8.size
            have hol2 : (os ++ [(a, c)]).length ≤ 2 * k + 1 := by rw [List.length_append, List.length_singleton]; omega
            go_wp2_with (at_builtin; refine wp_appV1 rfl _ _ rfl rfl ho6 rfl (by omega) hs8 ?_)
            intro v6 w6 ho7 hb9 _
            have hb10 := hb8.trans hb9
            clear ho6 hb9 d0 d1
            go_wp2
            go_roundw
            case rel => exact ⟨k + 1, _, true, by omega, by go_num, rfl, ho7, (by simp; omega), hb10, e2⟩
            case measure => simp [intOf]; omega
        · have hge : ¬ x ≥ a := hle
          have hx : ¬ x = a := by omega
          have e2 := Lib.hid (show (os ++ [(x, n)]) ++ VM.wl false a c (xs.drop (k + 1)) = R by rw [← he.out, hd.out, wl_cons, if_neg hx, List.append_assoc]; simp [hle])
          have hx' : (x != a) = true := by simpa using hx
          clear he hd hx
          go_wp2_with (at_builtin; refine wp_appV1 rfl _ _ rfl rfl ho rfl (by omega) hsz ?_)
          intro v5 w5 ho6 hb7 _
          have hb8 := hbl.trans hb7
          clear ho hb7 d0 d1
          go_wp2
          go_roundw
          case rel => exact ⟨k + 1, _, false, by omega, by go_num, rfl, ho6, (by rw [List.length_append, List.length_singleton]; omega), hb8, e2⟩
          case measure => simp [intOf]; omega
    · have hq : ¬ ((k : Int) < (xs.length : Int)) := by omega
      have e2 := he.out
      rw [List.drop_of_length_le (by omega)] at e2
      cases pb with
      | true =>
        have e3 := Lib.hid (show os = R by rw [← e2]; simp [VM.wl])
        clear he HR e2
        go_wp2
        go_ret
        rw [← e3.out]
        exact ⟨_, rfl, ho, hbl⟩
      | false =>
        have e3 := Lib.hid (show os ++ [(a, c)] = R by rw [← e2]; simp [VM.wl])
        clear he HR e2
        go_wp2_with (at_builtin; refine wp_appV1 rfl _ _ rfl rfl ho rfl (by omega) hsz ?_)
        intro v5 w5 ho6 hb7 _
        have hb8 := hbl.trans hb7
        clear ho hb7
        go_wp2
        go_ret
        rw [← e3.out]
        exact ⟨_, rfl, ho6, hb8⟩

theorem rWith (v : Value) (xs : List Ent) (a c : Int) (w : World) (h : RdV w v xs) (ha : 1 ≤ a) (hc0 : 0 ≤ c) (hc1 : c ≤ 1000000) (hlx : xs.length ≤ 100000) :
    Calls Try.prog 28 #[v, .int .i64 a, .int .i64 c] w fun e w' => ∃ v', e = .returned v' ∧ OwnV w.heap.size w' v' (VM.wi xs a c) ∧ Below w.heap.size w w' :=
  rWithIn v xs a c _ w h ha hc0 hc1 rfl hlx

theorem rj_cons (o : List Ent) (e : Ent) (b : List Ent) : VM.rj o (e :: b) = VM.rj (if VM.cnt o e.1 < e.2 then VM.wi o e.1 e.2 else o) b := rfl

set_option maxRecDepth 100000 in
set_option maxHeartbeats 2000000 in
theorem rJoin (va vb : Value) (xs ys : List Ent) (w : World) (ha : RdV w va xs) (hb : RdV w vb ys) (hv : VM.Val 0 ys) (hlx : xs.length ≤ 50000) (hly : ys.length ≤ 50000) :
    Calls Try.prog 21 #[va, vb] w fun e w' => ∃ v', e = .returned v' ∧ OwnV w.heap.size w' v' (VM.rj xs ys) ∧ Below w.heap.size w w' := by
  obtain ⟨bd, cap, rfl, hc, hl⟩ := hb.shape
  have HB := Lib.hid hb
  have HV := Lib.hid hv
  have ho0 := ownV_empty w
  have hb0 := below_fresh w (.cells #[] 49)
  have HA := ha.below hb0
  have hs0 := hb0.size
  clear ha hb hv
  obtain ⟨R, hR⟩ : ∃ R, R = VM.rj xs ys := ⟨_, rfl⟩
  rw [← hR]
  have HR := Lib.hid hR
  clear hR
  go_enter Try.func21, Try.ntmps21
  go_wp2_with (at_builtin; refine wp_appVS rfl _ _ rfl rfl ho0 rfl HA (by simp) (by omega) hs0 ?_)
  intro v1 w1 ho1 hb1
  have hb2 := hb0.trans hb1
  clear ho0 hb0 HA hs0 hb1
  go_wp2
  go_loopw [5, 6] (fun z i wr => ∃ (k : Nat) (os : List Ent), k ≤ ys.length ∧ i = .int .i64 k ∧ OwnV w.heap.size wr z os ∧ os.length ≤ xs.length + k ∧ Below w.heap.size w wr ∧ Hid (VM.rj os (ys.drop k) = R)) (fun _ i _ => ys.length - (intOf i).toNat)
  case atStart => exact ⟨0, xs, Nat.zero_le _, rfl, ho1, Nat.le_refl _, hb2, (by show _ = _; rw [HR.out]; rfl)⟩
  case round =>
    obtain ⟨k, os, hk, rfl, ho, hol, hbl, he⟩ := hrel
    have hsz := hbl.size
    by_cases hlt : k < ys.length
    · obtain ⟨b, o, hi, hb, c0, c1⟩ := HB.out.at k ys[k] (List.getElem?_eq_getElem hlt)
      have hq : (k : Int) < (ys.length : Int) := by omega
      have hd := Lib.hid (drop_get hlt)
      have hg := VM.val_get HV.out (List.getElem?_eq_getElem hlt)
      clear HR
      generalize ys[k] = en at c0 c1 hd hg
      obtain ⟨x, n⟩ := en
      simp only at c0 c1 hg
      obtain ⟨g1, g2, g3⟩ := hg
      have C0 := Lib.hid c0
      have C1 := Lib.hid c1
      have d0 := below_cell hbl c0
      have d1 := below_cell hbl c1
      have HO := Lib.hid ho
      have Hrd := Lib.hid ho.rd
      obtain ⟨az, cz, rfl, hcz, _⟩ := ho.rd.shape
      clear c0 c1 ho
      by_cases hx : VM.cnt os x < n
      · have e2 := Lib.hid (show VM.rj (VM.wi os x n) (ys.drop (k + 1)) = R by rw [← he.out, hd.out, rj_cons, if_pos hx])
        clear he hd
        go_wp2
        go_quiet ((go_at_call 25; exact rCountQ x Hrd.out _))
        have hbq := hbl.trans (below_drewN _ _ nq)
        have hoq := HO.out.below (below_drewN _ wr nq)
        clear d0 d1 hbl HO Hrd hsz
        go_wp2
        generalize wr.drewN nq = wq at hbq hoq
        have d0 := below_cell hbq C0.out
        have d1 := below_cell hbq C1.out
        have HOQ := Lib.hid hoq
        clear hoq
        go_still_tail 11, (by kernel_rfl)
        change wpList _ _ _ _ _ wq.drew
        have hb3 : Below w.heap.size w wq.drew := hbq.drew
        have ho3 : OwnV w.heap.size wq.drew (.slice az os.length cz) os := HOQ.out
        generalize wq.drew = w3 at hb3 ho3
        clear d0 d1 HOQ hbq
        go_wp2_with fail
        refine (rWith _ os x n _ ho3.rd (by omega) (by omega) g3 (by omega)).mono ?_
        rintro e w4 ⟨v4, rfl, ho4, hb4⟩
        have hb5 := hb3.trans (hb4.mono hb3.size)
        have ho5 := ho4.mono hb3.size
        have hwl := VM.wi_length os x n
        clear hb3 ho3 hb4 ho4
        go_wp2
        go_roundw
        case rel => exact ⟨k + 1, _, by omega, by go_num, ho5, by omega, hb5, e2⟩
        case measure => simp [intOf]; omega
      · have e2 := Lib.hid (show VM.rj os (ys.drop (k + 1)) = R by rw [← he.out, hd.out, rj_cons, if_neg hx])
        clear he hd
        go_wp2
        go_quiet ((go_at_call 25; exact rCountQ x Hrd.out _))
        go_wp2
        go_roundw
        case rel => exact ⟨k + 1, os, by omega, by go_num, HO.out.below (below_drewN _ _ _), by omega, hbl.trans (below_drewN _ _ _), e2⟩
        case measure => simp [intOf]; omega
    · have hq : ¬ ((k : Int) < (ys.length : Int)) := by omega
      have e2 := Lib.hid (show os = R by rw [← he.out, List.drop_of_length_le (by omega)]; rfl)
      clear he HR
      go_wp2
      go_ret
      rw [← e2.out]
      exact ⟨_, rfl, ho, hbl⟩

theorem rm_cons (b : List Ent) (e : Ent) (v : List Ent) : VM.rm b (e :: v) = (if 0 < min e.2 (VM.cnt b e.1) then [(e.1, min e.2 (VM.cnt b e.1))] else []) ++ VM.rm b v := rfl

end Go.Proofs.Ytejedodicihecaa.VX
