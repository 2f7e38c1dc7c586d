/-
  Plain mathematics of proposals (P5.1 to P5.4): errors, the order of identifiers, the encoding and what reads it. Lists and integers alone. No conditions beyond those that each lemma names.
  Changes, proposals and integers in memory; the comparisons of whole structs; the small functions on servers, administrators, rules. No conditions beyond those that each lemma names.
  The call of the program's ValidateChange: it returns the error that the plain mathematics says. No conditions.
  The call of the reference's ValidateChange: it returns the error that the plain mathematics says. No conditions.
  The call of proposal.repeats: whether an earlier change is of the same kind and for the same server. Conditions: the earlier changes read.
  The call of proposal.Validate: it returns the error that the plain mathematics says. Conditions: the changes read.
  The call of the reference's ValidateProposal: it returns the error that the plain mathematics says. Conditions: the changes read.
-/
import Derived.Test.YtkaafbdhgekeeaaGreatKA
import Derived.Test.YtkaafbdhgekeeaaGreatProg
import Derived.Deep.QuietTactic
import Derived.BigQuiet
import Derived.Laws.StructEq
import Derived.Shelf.Abstract
namespace Go.Proofs.YtkaafbdhgekeeaaGreat.JM
open WM (enc dec Bytes)

/-- A change: kind, server, weight, version, and its rule's kind, columns, faulty. -/
abbrev Chg := Int × Int × Int × Int × Int × Int × Int

def isSrv (x : Int) : Bool := decide (1 ≤ x ∧ x ≤ 12)
theorem isSrv_iff {x : Int} : isSrv x = true ↔ 1 ≤ x ∧ x ≤ 12 := decide_eq_true_iff
def isAdm (x : Int) : Bool := decide (201 ≤ x ∧ x ≤ 203)
theorem isAdm_iff {x : Int} : isAdm x = true ↔ 201 ≤ x ∧ x ≤ 203 := decide_eq_true_iff

def errR (k c f : Int) : Int :=
  if k < 1 ∨ 4 < k then 10
  else if (k = 3 ∧ (c < 1 ∨ 12 < c)) ∨ (k ≠ 3 ∧ c ≠ 0) then 9
  else if (k = 4 ∧ (f < 0 ∨ 12 < f)) ∨ (k ≠ 4 ∧ f ≠ 0) then 9 else 0

/-- What a kind's field may hold: 1 to most, or 0. -/
def fit (n most : Int) : Bool := decide ((if most < 1 then most else 1) ≤ n ∧ n ≤ most)
def srvOf (k : Int) : Int := if k = 4 then 0 else 12
def wtOf (k : Int) : Int := if k = 1 ∨ k = 3 then 9 else 0
def verOf (k : Int) : Int := if k = 3 ∨ k = 4 then 1000 else 0
def errC (k s t v a b c : Int) : Int :=
  if k < 1 ∨ 4 < k then 10
  else if fit s (srvOf k) = false then 9
  else if fit t (wtOf k) = false then 9
  else if fit v (verOf k) = false then 9
  else if k = 4 then errR a b c
  else if a = 0 ∧ b = 0 ∧ c = 0 then 0 else 2
def errCh : Chg → Int
  | (k, s, t, v, a, b, c) => errC k s t v a b c
/-- The same kind and the same server. -/
def sim (x y : Chg) : Bool := x.1 == y.1 && x.2.1 == y.2.1
/-- What the changes r behind the changes d give. -/
def errS (d : List Chg) : List Chg → Int
  | [] => 0
  | x :: r => if errCh x ≠ 0 then errCh x else if d.any (fun y => sim y x) = true then 5 else errS (d ++ [x]) r
def errP (a n : Int) (cs : List Chg) : Int :=
  if isAdm a = false ∨ n < 1 ∨ 3 < n then 9
  else if cs = [] then 2
  else if 6 < cs.length then 3
  else errS [] cs

def cmpP (a m b n : Int) : Int := if a < b ∨ (a = b ∧ m < n) then -1 else if a = b ∧ m = n then 0 else 1
theorem cmpP_neg (a m b n : Int) : cmpP b n a m = -cmpP a m b n := by unfold cmpP; (repeat' split) <;> omega
theorem cmpP_range (a m b n : Int) : cmpP a m b n = -1 ∨ cmpP a m b n = 0 ∨ cmpP a m b n = 1 := by unfold cmpP; (repeat' split) <;> omega
theorem cmpP_zero {a m b n : Int} : cmpP a m b n = 0 ↔ a = b ∧ m = n := by unfold cmpP; (repeat' split) <;> omega
theorem cmpP_le {a m b n c k : Int} (h1 : cmpP a m b n ≤ 0) (h2 : cmpP b n c k ≤ 0) : cmpP a m c k ≤ 0 := by
  unfold cmpP at *
  by_cases h3 : a < b ∨ (a = b ∧ m < n) <;> by_cases h4 : a = b ∧ m = n <;> by_cases h5 : b < c ∨ (b = c ∧ n < k) <;> by_cases h6 : b = c ∧ n = k <;> by_cases h7 : a < c ∨ (a = c ∧ m < k) <;> by_cases h8 : a = c ∧ m = k <;> simp [*] at * <;> omega
theorem cmpP_ge {a m b n c k : Int} (h1 : 0 ≤ cmpP a m b n) (h2 : 0 ≤ cmpP b n c k) : 0 ≤ cmpP a m c k := by
  have e1 := cmpP_neg a m b n
  have e2 := cmpP_neg b n c k
  have e3 := cmpP_neg a m c k
  have := cmpP_le (a := c) (m := k) (b := b) (n := n) (c := a) (k := m) (by omega) (by omega)
  omega

/-! Numbers read one after the other. -/
/-- A number of at most 2^31 - 1: (value, length, error). -/
def num (xs : List Int) : Int × Int × Int :=
  if (dec 0 0 xs).2.2 ≠ 0 then (0, 0, (dec 0 0 xs).2.2) else if 2147483647 < (dec 0 0 xs).1 then (0, 0, 9) else dec 0 0 xs
theorem num_two (xs : List Int) (hb : Bytes xs) : (∃ e : Int, (e = 1 ∨ e = 2 ∨ e = 9) ∧ num xs = (0, 0, e)) ∨
    ∃ m : Nat, m < 2147483648 ∧ num xs = ((m : Int), ((enc m).length : Int), 0) ∧ (enc m).length ≤ xs.length := by
  unfold num
  rcases WM.dec_two xs hb with ⟨e, he, h⟩ | ⟨m, hm, h, hl, _⟩
  · refine .inl ⟨e, he, ?_⟩
    rw [h, if_pos (by simp; omega)]
  · rw [h]
    by_cases hx : 2147483647 < (m : Int)
    · exact .inl ⟨9, by omega, by simp [hx]⟩
    · exact .inr ⟨m, by omega, by simp [hx], hl⟩
theorem num_enc (m : Nat) (tail : List Int) (h : m < 2147483648) : num (enc m ++ tail) = ((m : Int), ((enc m).length : Int), 0) := by
  unfold num
  rw [WM.dec_enc0 m tail (by omega)]
  simp; omega

theorem dec_cut (n : Nat) : ∀ (i : Nat) (v : Int) (j : Nat), i ≤ 9 → n * 128 ^ i < 18446744073709551616 → j < (enc n).length → dec i v ((enc n).take j) = (0, 0, 1) := by
  induction n using Nat.strongRecOn with
  | _ n ih =>
    intro i v j hi hb hj
    cases j with
    | zero => simp [dec]
    | succ j =>
      by_cases h : n < 128
      · rw [WM.enc_small h] at hj; simp at hj
      · rw [WM.enc_big h] at hj ⊢
        have hi' : i ≠ 9 := fun e => by
          subst e
          have e : (128 : Nat) ^ 9 = 9223372036854775808 := by simp
          rw [e] at hb; omega
        simp only [List.take_succ_cons, dec]
        rw [if_neg (by rintro ⟨h1, _⟩; exact hi' h1), if_neg (by omega)]
        have hle : n / 128 * 128 ^ (i + 1) ≤ n * 128 ^ i := by
          rw [Nat.pow_succ, Nat.mul_comm (128 ^ i) 128, ← Nat.mul_assoc]
          exact Nat.mul_le_mul_right _ (Nat.div_mul_le_self n 128)
        exact ih (n / 128) (by omega) (i + 1) _ j (by omega) (by omega) (by simpa using hj)
theorem num_cut (m j : Nat) (h : m < 2147483648) (hj : j < (enc m).length) : num ((enc m).take j) = (0, 0, 1) := by
  unfold num
  rw [dec_cut m 0 0 j (by omega) (by omega) hj]
  simp

/-- A reader's state: how many bytes are used, and the first error. -/
abbrev St := Nat × Int
def step (xs : List Int) (s : St) : Int × St :=
  if s.2 ≠ 0 then (0, s) else if (num (xs.drop s.1)).2.2 ≠ 0 then (0, (s.1, (num (xs.drop s.1)).2.2)) else ((num (xs.drop s.1)).1, (s.1 + (num (xs.drop s.1)).2.1.toNat, 0))
def many (xs : List Int) (s : St) : Nat → List Int × St
  | 0 => ([], s)
  | k + 1 => ((many xs s k).1 ++ [(step xs (many xs s k).2).1], (step xs (many xs s k).2).2)
def toChg : List Int → Chg
  | [k, s, t, v, a, b, c] => (k, s, t, v, a, b, c)
  | _ => (0, 0, 0, 0, 0, 0, 0)
def chs (xs : List Int) (s : St) : Nat → List Chg × St
  | 0 => ([], s)
  | k + 1 => ((chs xs s k).1 ++ [toChg (many xs (chs xs s k).2 7).1], (many xs (chs xs s k).2 7).2)

theorem many_length (xs : List Int) (s : St) (k : Nat) : (many xs s k).1.length = k := by
  induction k with
  | zero => rfl
  | succ k ih => simp [many, ih]
theorem chs_length (xs : List Int) (s : St) (k : Nat) : (chs xs s k).1.length = k := by
  induction k with
  | zero => rfl
  | succ k ih => simp [chs, ih]
theorem step_stop {xs : List Int} {s : St} (h : s.2 ≠ 0) : step xs s = (0, s) := by unfold step; rw [if_pos h]
theorem many_stop {xs : List Int} {s : St} (h : s.2 ≠ 0) (k : Nat) : (many xs s k).2 = s := by
  induction k with
  | zero => rfl
  | succ k ih => show (step xs (many xs s k).2).2 = s; rw [ih, step_stop h]
theorem chs_stop {xs : List Int} {s : St} (h : s.2 ≠ 0) (k : Nat) : (chs xs s k).2 = s := by
  induction k with
  | zero => rfl
  | succ k ih => show (many xs (chs xs s k).2 7).2 = s; rw [ih, many_stop h]
theorem many_add (xs : List Int) (s : St) (j k : Nat) : many xs s (j + k) = ((many xs s j).1 ++ (many xs (many xs s j).2 k).1, (many xs (many xs s j).2 k).2) := by
  induction k with
  | zero => simp [many]
  | succ k ih => rw [← Nat.add_assoc]; show (_, _) = (_, _); rw [ih]; simp [many]
theorem chs_add (xs : List Int) (s : St) (j k : Nat) : chs xs s (j + k) = ((chs xs s j).1 ++ (chs xs (chs xs s j).2 k).1, (chs xs (chs xs s j).2 k).2) := by
  induction k with
  | zero => simp [chs]
  | succ k ih => rw [← Nat.add_assoc]; show (_, _) = (_, _); rw [ih]; simp [chs]
theorem many_err_le {xs : List Int} {s : St} {j k : Nat} (hjk : j ≤ k) (h : (many xs s j).2.2 ≠ 0) : (many xs s k).2 = (many xs s j).2 := by
  obtain ⟨d, rfl⟩ := Nat.exists_eq_add_of_le hjk
  rw [many_add]
  exact many_stop h d
theorem chs_err_le {xs : List Int} {s : St} {j k : Nat} (hjk : j ≤ k) (h : (chs xs s j).2.2 ≠ 0) : (chs xs s k).2 = (chs xs s j).2 := by
  obtain ⟨d, rfl⟩ := Nat.exists_eq_add_of_le hjk
  rw [chs_add]
  exact chs_stop h d

/-- What a number is. -/
def small (x : Int) : Prop := 0 ≤ x ∧ x < 2147483648
theorem step_small (xs : List Int) (s : St) (hb : Bytes xs) (hu : s.1 ≤ xs.length) : small (step xs s).1 ∧ (step xs s).2.1 ≤ xs.length := by
  unfold step
  split
  · exact ⟨⟨by simp, by simp⟩, hu⟩
  · rcases num_two (xs.drop s.1) (fun c hc => hb c (List.mem_of_mem_drop hc)) with ⟨e, he, h⟩ | ⟨m, hm, h, hl⟩
    · rw [h, if_pos (by simp; omega)]; exact ⟨⟨by simp, by simp⟩, hu⟩
    · rw [h]
      rw [List.length_drop] at hl
      simp [small]; omega
theorem many_small (xs : List Int) (s : St) (hb : Bytes xs) (hu : s.1 ≤ xs.length) (k : Nat) : (∀ x ∈ (many xs s k).1, small x) ∧ (many xs s k).2.1 ≤ xs.length := by
  induction k with
  | zero => exact ⟨(fun x hx => by cases hx), hu⟩
  | succ k ih =>
    have := step_small xs (many xs s k).2 hb ih.2
    refine ⟨fun x hx => ?_, this.2⟩
    simp only [many, List.mem_append, List.mem_singleton] at hx
    rcases hx with hx | rfl
    · exact ih.1 x hx
    · exact this.1
theorem chs_used (xs : List Int) (s : St) (hb : Bytes xs) (hu : s.1 ≤ xs.length) (k : Nat) : (chs xs s k).2.1 ≤ xs.length := by
  induction k with
  | zero => exact hu
  | succ k ih => exact (many_small xs _ hb ih 7).2

/-- The answer of Decode: error, used, administrator, number, changes. -/
def bad (e : Int) : Int × Nat × Int × Int × List Chg := (e, 0, 0, 0, [])
def cnt (xs : List Int) : Int := (many xs (0, 0) 3).1.getD 2 0
def decP (xs : List Int) : Int × Nat × Int × Int × List Chg :=
  if (many xs (0, 0) 3).2.2 ≠ 0 then bad (many xs (0, 0) 3).2.2
  else if 6 < cnt xs then bad 3
  else if (chs xs (many xs (0, 0) 3).2 (cnt xs).toNat).2.2 ≠ 0 then bad (chs xs (many xs (0, 0) 3).2 (cnt xs).toNat).2.2
  else if errP ((many xs (0, 0) 3).1.getD 0 0) ((many xs (0, 0) 3).1.getD 1 0) (chs xs (many xs (0, 0) 3).2 (cnt xs).toNat).1 ≠ 0 then
    bad (errP ((many xs (0, 0) 3).1.getD 0 0) ((many xs (0, 0) 3).1.getD 1 0) (chs xs (many xs (0, 0) 3).2 (cnt xs).toNat).1)
  else (0, (chs xs (many xs (0, 0) 3).2 (cnt xs).toNat).2.1, (many xs (0, 0) 3).1.getD 0 0, (many xs (0, 0) 3).1.getD 1 0, (chs xs (many xs (0, 0) 3).2 (cnt xs).toNat).1)

/-! The encoding. -/
def encN (l : List Int) : List Int := l.flatMap fun x => enc x.toNat
def ofChg : Chg → List Int
  | (k, s, t, v, a, b, c) => [k, s, t, v, a, b, c]
def encCs (cs : List Chg) : List Int := cs.flatMap fun x => encN (ofChg x)
def encP (a n : Int) (cs : List Chg) : List Int := encN [a, n, (cs.length : Int)] ++ encCs cs
theorem encN_append (l m : List Int) : encN (l ++ m) = encN l ++ encN m := List.flatMap_append
theorem encN_cons (x : Int) (l : List Int) : encN (x :: l) = enc x.toNat ++ encN l := List.flatMap_cons
theorem encCs_append (l m : List Chg) : encCs (l ++ m) = encCs l ++ encCs m := List.flatMap_append
theorem encCs_cons (x : Chg) (l : List Chg) : encCs (x :: l) = encN (ofChg x) ++ encCs l := List.flatMap_cons
theorem toChg_ofChg (x : Chg) : toChg (ofChg x) = x := rfl
theorem ofChg_length (x : Chg) : (ofChg x).length = 7 := rfl
def smallC (x : Chg) : Prop := ∀ y ∈ ofChg x, small y

theorem encN_len (l : List Int) (h : ∀ x ∈ l, small x) : (encN l).length ≤ l.length * 10 := by
  induction l with
  | nil => simp [encN]
  | cons x l ih =>
    rw [encN_cons, List.length_append, List.length_cons]
    have h1 := h x (by simp)
    unfold small at h1
    have := WM.enc_len10 x.toNat (by omega)
    have := ih (fun y hy => h y (by simp [hy]))
    omega
theorem encCs_len (cs : List Chg) (h : ∀ x ∈ cs, smallC x) : (encCs cs).length ≤ cs.length * 70 := by
  induction cs with
  | nil => simp [encCs]
  | cons x l ih =>
    rw [encCs_cons, List.length_append, List.length_cons]
    have := encN_len (ofChg x) (h x (by simp))
    rw [ofChg_length] at this
    have := ih (fun y hy => h y (by simp [hy]))
    omega
theorem encP_pos (a n : Int) (cs : List Chg) : 0 < (encP a n cs).length := by
  unfold encP
  rw [encN_cons, List.length_append, List.length_append]
  have := WM.enc_pos a.toNat
  omega

theorem step_enc (pre tail : List Int) (x : Int) (h : small x) : step (pre ++ (enc x.toNat ++ tail)) (pre.length, 0) = (x, ((pre ++ enc x.toNat).length, 0)) := by
  unfold step small at *
  rw [if_neg (by simp)]
  have e : (pre ++ (enc x.toNat ++ tail)).drop ((pre.length, (0 : Int)) : St).1 = enc x.toNat ++ tail := List.drop_left
  rw [e, num_enc x.toNat tail (by omega)]
  have : ((x.toNat : Nat) : Int) = x := by omega
  simp [this]
theorem many_enc (l : List Int) : ∀ (pre tail : List Int), (∀ x ∈ l, small x) → many (pre ++ (encN l ++ tail)) (pre.length, 0) l.length = (l, ((pre ++ encN l).length, 0)) := by
  induction l with
  | nil => intro pre tail _; simp [many, encN]
  | cons x l ih =>
    intro pre tail h
    rw [encN_cons, List.length_cons, Nat.add_comm l.length 1, many_add]
    have h1 := step_enc pre (encN l ++ tail) x (h x (by simp))
    have h2 : many (pre ++ (enc x.toNat ++ encN l ++ tail)) (pre.length, 0) 1 = ([x], ((pre ++ enc x.toNat).length, 0)) := by
      show ([] ++ [(step _ (pre.length, 0)).1], (step _ (pre.length, 0)).2) = _
      rw [List.append_assoc (enc x.toNat), h1]; rfl
    rw [h2]
    have h3 := ih (pre ++ enc x.toNat) tail (fun y hy => h y (by simp [hy]))
    rw [show pre ++ (enc x.toNat ++ encN l ++ tail) = pre ++ enc x.toNat ++ (encN l ++ tail) by simp [List.append_assoc]]
    rw [h3]
    simp [List.append_assoc]
theorem chs_enc (cs : List Chg) : ∀ (pre tail : List Int), (∀ x ∈ cs, smallC x) → chs (pre ++ (encCs cs ++ tail)) (pre.length, 0) cs.length = (cs, ((pre ++ encCs cs).length, 0)) := by
  induction cs with
  | nil => intro pre tail _; simp [chs, encCs]
  | cons x l ih =>
    intro pre tail h
    rw [encCs_cons, List.length_cons, Nat.add_comm l.length 1, chs_add]
    have h1 := many_enc (ofChg x) pre (encCs l ++ tail) (h x (by simp))
    rw [ofChg_length] at h1
    have h2 : chs (pre ++ (encN (ofChg x) ++ encCs l ++ tail)) (pre.length, 0) 1 = ([x], ((pre ++ encN (ofChg x)).length, 0)) := by
      show ([] ++ [toChg (many _ (pre.length, 0) 7).1], (many _ (pre.length, 0) 7).2) = _
      rw [List.append_assoc (encN (ofChg x)), h1]; rfl
    rw [h2]
    have h3 := ih (pre ++ encN (ofChg x)) tail (fun y hy => h y (by simp [hy]))
    rw [show pre ++ (encN (ofChg x) ++ encCs l ++ tail) = pre ++ encN (ofChg x) ++ (encCs l ++ tail) by simp [List.append_assoc]]
    rw [h3]
    simp [List.append_assoc]

theorem many_cut (l : List Int) : ∀ (pre : List Int) (j : Nat), (∀ x ∈ l, small x) → j < (encN l).length → (many (pre ++ (encN l).take j) (pre.length, 0) l.length).2.2 = 1 := by
  induction l with
  | nil => intro pre j _ hj; simp [encN] at hj
  | cons x l ih =>
    intro pre j h hj
    have hx := h x (by simp)
    rw [encN_cons] at hj ⊢
    rw [List.length_cons, Nat.add_comm l.length 1, many_add]
    show (many _ (many _ (pre.length, 0) 1).2 l.length).2.2 = 1
    by_cases hc : j < (enc x.toNat).length
    · have e : (enc x.toNat ++ encN l).take j = (enc x.toNat).take j := by rw [List.take_append_of_le_length (by omega)]
      rw [e]
      have h1 : (many (pre ++ (enc x.toNat).take j) (pre.length, 0) 1).2 = (pre.length, 1) := by
        show (step _ (pre.length, 0)).2 = _
        unfold step
        rw [if_neg (by simp)]
        have e2 : (pre ++ (enc x.toNat).take j).drop ((pre.length, (0 : Int)) : St).1 = (enc x.toNat).take j := List.drop_left
        unfold small at hx
        rw [e2, num_cut x.toNat j (by omega) hc]
        simp
      rw [h1, many_stop (by simp)]
    · obtain ⟨i, rfl⟩ : ∃ i, j = (enc x.toNat).length + i := ⟨j - (enc x.toNat).length, by omega⟩
      have e : (enc x.toNat ++ encN l).take ((enc x.toNat).length + i) = enc x.toNat ++ (encN l).take i := List.take_length_add_append ..
      rw [e]
      have h1 := step_enc pre ((encN l).take i) x hx
      have h2 : (many (pre ++ (enc x.toNat ++ (encN l).take i)) (pre.length, 0) 1).2 = ((pre ++ enc x.toNat).length, 0) := by
        show (step _ (pre.length, 0)).2 = _
        rw [h1]
      rw [h2, ← List.append_assoc]
      exact ih _ i (fun y hy => h y (by simp [hy])) (by rw [List.length_append] at hj; omega)
theorem chs_cut (cs : List Chg) : ∀ (pre : List Int) (j : Nat), (∀ x ∈ cs, smallC x) → j < (encCs cs).length → (chs (pre ++ (encCs cs).take j) (pre.length, 0) cs.length).2.2 = 1 := by
  induction cs with
  | nil => intro pre j _ hj; simp [encCs] at hj
  | cons x l ih =>
    intro pre j h hj
    have hx := h x (by simp)
    rw [encCs_cons] at hj ⊢
    rw [List.length_cons, Nat.add_comm l.length 1, chs_add]
    show (chs _ (chs _ (pre.length, 0) 1).2 l.length).2.2 = 1
    by_cases hc : j < (encN (ofChg x)).length
    · have e : (encN (ofChg x) ++ encCs l).take j = (encN (ofChg x)).take j := by rw [List.take_append_of_le_length (by omega)]
      rw [e]
      have h1 : (chs (pre ++ (encN (ofChg x)).take j) (pre.length, 0) 1).2.2 = 1 := many_cut (ofChg x) pre j hx hc
      rw [chs_stop (by rw [h1]; decide), h1]
    · obtain ⟨i, rfl⟩ : ∃ i, j = (encN (ofChg x)).length + i := ⟨j - (encN (ofChg x)).length, by omega⟩
      have e : (encN (ofChg x) ++ encCs l).take ((encN (ofChg x)).length + i) = encN (ofChg x) ++ (encCs l).take i := List.take_length_add_append ..
      rw [e]
      have h1 := many_enc (ofChg x) pre ((encCs l).take i) hx
      rw [ofChg_length] at h1
      have h2 : (chs (pre ++ (encN (ofChg x) ++ (encCs l).take i)) (pre.length, 0) 1).2 = ((pre ++ encN (ofChg x)).length, 0) := by
        show (many _ (pre.length, 0) 7).2 = _
        rw [h1]
      rw [h2, ← List.append_assoc]
      exact ih _ i (fun y hy => h y (by simp [hy])) (by rw [List.length_append] at hj; omega)

/-- What a valid proposal's numbers are. -/
theorem fit_small {n most : Int} (h : fit n most = true) (hm : most = 0 ∨ most = 12 ∨ most = 9 ∨ most = 1000) : small n := by
  have := decide_eq_true_iff.1 h
  unfold small
  rcases hm with rfl | rfl | rfl | rfl <;> simp at this <;> omega
theorem errR_small {k c f : Int} (h : errR k c f = 0) : small k ∧ small c ∧ small f := by
  unfold errR at h
  unfold small
  split at h
  · cases h
  split at h
  · cases h
  split at h
  · cases h
  omega
theorem errCh_small {x : Chg} (h : errCh x = 0) : smallC x := by
  obtain ⟨k, s, t, v, a, b, c⟩ := x
  have h : errC k s t v a b c = 0 := h
  unfold errC at h
  split at h
  · cases h
  rename_i hk
  split at h
  · cases h
  rename_i h1
  split at h
  · cases h
  rename_i h2
  split at h
  · cases h
  rename_i h3
  have s1 : small k := by unfold small; omega
  have s2 : small s := fit_small (by simpa using h1) (by unfold srvOf; split <;> simp)
  have s3 : small t := fit_small (by simpa using h2) (by unfold wtOf; split <;> simp)
  have s4 : small v := fit_small (by simpa using h3) (by unfold verOf; split <;> simp)
  have s5 : small a ∧ small b ∧ small c := by
    split at h
    · exact errR_small h
    split at h
    · rename_i h5
      obtain ⟨rfl, rfl, rfl⟩ := h5
      unfold small
      omega
    · cases h
  intro y hy
  simp only [ofChg, List.mem_cons, List.mem_nil_iff, or_false] at hy
  rcases hy with rfl | rfl | rfl | rfl | rfl | rfl | rfl
  · exact s1
  · exact s2
  · exact s3
  · exact s4
  · exact s5.1
  · exact s5.2.1
  · exact s5.2.2
theorem errS_small {cs : List Chg} : ∀ {d : List Chg}, errS d cs = 0 → ∀ x ∈ cs, smallC x := by
  induction cs with
  | nil => intro d _ x hx; cases hx
  | cons y l ih =>
    intro d h x hx
    unfold errS at h
    split at h
    · rename_i h1; exact absurd h h1
    rename_i h1
    split at h
    · cases h
    rcases List.mem_cons.1 hx with rfl | hx
    · exact errCh_small (by simpa using h1)
    · exact ih h x hx
theorem errP_small {a n : Int} {cs : List Chg} (h : errP a n cs = 0) : small a ∧ small n ∧ cs.length ≤ 6 ∧ 0 < cs.length ∧ ∀ x ∈ cs, smallC x := by
  unfold errP at h
  split at h
  · cases h
  rename_i h1
  split at h
  · cases h
  rename_i h2
  split at h
  · cases h
  rename_i h3
  have ha : isAdm a = true := by
    cases hx : isAdm a
    · exact absurd (.inl hx) h1
    · rfl
  have := isAdm_iff.1 ha
  refine ⟨by unfold small; omega, by unfold small; omega, by omega, List.length_pos_iff.2 h2, errS_small h⟩

theorem head_small {a n : Int} {cs : List Chg} (h : errP a n cs = 0) : ∀ x ∈ [a, n, (cs.length : Int)], small x := by
  obtain ⟨h1, h2, h3, _⟩ := errP_small h
  intro x hx
  simp only [List.mem_cons, List.mem_nil_iff, or_false] at hx
  rcases hx with rfl | rfl | rfl
  · exact h1
  · exact h2
  · unfold small; omega
/-- What is encoded is decoded, whatever follows. -/
theorem decP_enc {a n : Int} {cs : List Chg} (h : errP a n cs = 0) (tail : List Int) : decP (encP a n cs ++ tail) = (0, (encP a n cs).length, a, n, cs) := by
  obtain ⟨h1, h2, h3, h4, h5⟩ := errP_small h
  have e : encP a n cs ++ tail = [] ++ (encN [a, n, (cs.length : Int)] ++ (encCs cs ++ tail)) := by unfold encP; rw [List.append_assoc]; rfl
  have m1 := many_enc [a, n, (cs.length : Int)] [] (encCs cs ++ tail) (head_small h)
  rw [← e] at m1
  have m1' : many (encP a n cs ++ tail) (0, 0) 3 = ([a, n, (cs.length : Int)], ((encN [a, n, (cs.length : Int)]).length, 0)) := m1
  have m2 := chs_enc cs (encN [a, n, (cs.length : Int)]) tail h5
  have e2 : encN [a, n, (cs.length : Int)] ++ (encCs cs ++ tail) = encP a n cs ++ tail := by unfold encP; rw [List.append_assoc]
  rw [e2] at m2
  have hc : cnt (encP a n cs ++ tail) = (cs.length : Int) := by unfold cnt; rw [m1']; rfl
  unfold decP
  rw [hc, m1', Int.toNat_natCast, m2]
  rw [if_neg (by simp), if_neg (by omega), if_neg (by simp)]
  show (if errP a n cs ≠ 0 then _ else _) = _
  rw [if_neg (by simp [h])]
  rfl
/-- A cut within an encoding gives ErrTruncated. -/
theorem decP_cut {a n : Int} {cs : List Chg} (h : errP a n cs = 0) (j : Nat) (hj : j < (encP a n cs).length) : decP ((encP a n cs).take j) = bad 1 := by
  obtain ⟨h1, h2, h3, h4, h5⟩ := errP_small h
  by_cases hc : j < (encN [a, n, (cs.length : Int)]).length
  · have e : (encP a n cs).take j = [] ++ (encN [a, n, (cs.length : Int)]).take j := by unfold encP; rw [List.take_append_of_le_length (by omega)]; rfl
    have m1 : (many ((encP a n cs).take j) (0, 0) 3).2.2 = 1 := by rw [e]; exact many_cut [a, n, (cs.length : Int)] [] j (head_small h) hc
    unfold decP
    rw [if_pos (by rw [m1]; decide), m1]
  · obtain ⟨i, rfl⟩ : ∃ i, j = (encN [a, n, (cs.length : Int)]).length + i := ⟨j - (encN [a, n, (cs.length : Int)]).length, by omega⟩
    have e : (encP a n cs).take ((encN [a, n, (cs.length : Int)]).length + i) = encN [a, n, (cs.length : Int)] ++ (encCs cs).take i := by unfold encP; exact List.take_length_add_append ..
    have m1 := many_enc [a, n, (cs.length : Int)] [] ((encCs cs).take i) (head_small h)
    have m1' : many (encN [a, n, (cs.length : Int)] ++ (encCs cs).take i) (0, 0) 3 = ([a, n, (cs.length : Int)], ((encN [a, n, (cs.length : Int)]).length, 0)) := m1
    have m2 := chs_cut cs (encN [a, n, (cs.length : Int)]) i h5 (by unfold encP at hj; rw [List.length_append] at hj; omega)
    rw [e]
    have hcn : cnt (encN [a, n, (cs.length : Int)] ++ (encCs cs).take i) = (cs.length : Int) := by unfold cnt; rw [m1']; rfl
    unfold decP
    rw [hcn, m1', Int.toNat_natCast, if_neg (by simp), if_neg (by omega), if_pos (by show (chs _ ((encN [a, n, (cs.length : Int)]).length, 0) _).2.2 ≠ 0; rw [m2]; decide)]
    show bad (chs _ ((encN [a, n, (cs.length : Int)]).length, 0) _).2.2 = _
    rw [m2]
theorem encP_bytes (a n : Int) (cs : List Chg) : Bytes (encP a n cs) := by
  intro c hc
  unfold encP encCs encN at hc
  rcases List.mem_append.1 hc with h | h
  · obtain ⟨x, _, hx⟩ := List.mem_flatMap.1 h
    exact WM.enc_bytes _ c hx
  · obtain ⟨y, _, hy⟩ := List.mem_flatMap.1 h
    obtain ⟨x, _, hx⟩ := List.mem_flatMap.1 hy
    exact WM.enc_bytes _ c hx
/-- What decP takes lies in the bytes. -/
theorem decP_used (xs : List Int) (hb : Bytes xs) : (decP xs).2.1 ≤ xs.length := by
  unfold decP
  split
  · exact Nat.zero_le _
  split
  · exact Nat.zero_le _
  split
  · exact Nat.zero_le _
  split
  · exact Nat.zero_le _
  · exact chs_used xs _ hb (many_small xs (0, 0) hb (Nat.zero_le _) 3).2 _

end Go.Proofs.YtkaafbdhgekeeaaGreat.JM

namespace Go.Proofs.YtkaafbdhgekeeaaGreat
open Go.RowKit
open JM (Chg)

def encC : Chg → List Value
  | (k, s, t, v, a, b, c) => [.int .i64 k, .int .i64 s, .int .i64 t, .int .i64 v, .int .i64 a, .int .i64 b, .int .i64 c]
def encI (x : Int) : List Value := [.int .i64 x]
/-- A proposal as its administrator, its number and where its changes lie. -/
abbrev Pro := Int × Int × Option Addr × Nat × Nat
def encQ : Pro → List Value
  | (a, n, ad, l, c) => [.int .i64 a, .int .i64 n, .slice ad l c]
/-- The values. -/
abbrev cv (k s t v a b c : Int) : Value := .agg #[.int .i64 k, .int .i64 s, .int .i64 t, .int .i64 v, .int .i64 a, .int .i64 b, .int .i64 c]
abbrev rl (k c f : Int) : Value := .agg #[.int .i64 k, .int .i64 c, .int .i64 f]
abbrev pv (a n : Int) (sv : Value) : Value := .agg #[.int .i64 a, .int .i64 n, sv]
def cvT : Chg → Value
  | (k, s, t, v, a, b, c) => cv k s t v a b c

theorem chgE : IsElem Tryz.prog 43 50 7 56 encC where
  ht := Tryz.underlying43
  info := by
    obtain ⟨i0, hi, hz0, hz1, hz2⟩ := info_parts (show (Tryz.prog.info? 50).map (fun i => (i.zero, i.size, i.bytes)) = some (some (.agg #[.int .i64 0, .int .i64 0, .int .i64 0, .int .i64 0, .int .i64 0, .int .i64 0, .int .i64 0]), 7, 56) by kernel_rfl)
    exact ⟨i0, _, hi, hz0, hz1, hz2, rfl⟩
  len := fun _ => rfl
  one := by
    rintro ⟨k, s, t, v, a, b, c⟩ u hu
    simp only [encC, List.mem_cons, List.mem_nil_iff, or_false] at hu
    rcases hu with rfl | rfl | rfl | rfl | rfl | rfl | rfl <;> rfl
  pos := by decide
  fits := by decide
theorem intE : IsElem Tryz.prog 34 3 1 8 encI where
  ht := Tryz.underlying34
  info := by
    obtain ⟨i0, hi, hz0, hz1, hz2⟩ := info_parts (show (Tryz.prog.info? 3).map (fun i => (i.zero, i.size, i.bytes)) = some (some (.int .i64 0), 1, 8) by kernel_rfl)
    exact ⟨i0, _, hi, hz0, hz1, hz2, rfl⟩
  len := fun _ => rfl
  one := by intro x u hu; simp [encI] at hu; subst hu; rfl
  pos := by decide
  fits := by decide
abbrev RdC := RdG encC 7
abbrev OwnC := OwnG encC 50 7
abbrev RdI := RdG encI 1
abbrev OwnI := OwnG encI 3 1
theorem hlC : 0 < 7 ∧ ∀ x, (encC x).length = 7 := ⟨by decide, fun _ => rfl⟩
theorem hlI : 0 < 1 ∧ ∀ x, (encI x).length = 1 := ⟨by decide, fun _ => rfl⟩
theorem drop_get {α : Type} {xs : List α} {k : Nat} (h : k < xs.length) : xs.drop k = xs[k] :: xs.drop (k + 1) := List.drop_eq_getElem_cons h

/-- 'v[k]' of changes, of integers. -/
theorem atC {w : World} {a : Option Addr} {n c : Nat} {xs : List Chg} (h : RdC w (.slice a n c) xs) (i : Nat) (k s t v x y z : Int) (hk : xs[i]? = some (k, s, t, v, x, y, z)) :
    ∃ b o, (∀ w0, (Instr.indexAt 43 (.slice a n c) (.int .i64 (i : Int))).run Tryz.prog w0 = .ok (.pointer (some ⟨b, o, none⟩)) w0) ∧ b < w.heap.size ∧
      w.cell? ⟨b, o, none⟩ = some (.int .i64 k) ∧ w.cell? ⟨b, o + 1, none⟩ = some (.int .i64 s) ∧ w.cell? ⟨b, o + 2, none⟩ = some (.int .i64 t) ∧ w.cell? ⟨b, o + 3, none⟩ = some (.int .i64 v) ∧
      w.cell? ⟨b, o + 4, none⟩ = some (.int .i64 x) ∧ w.cell? ⟨b, o + 5, none⟩ = some (.int .i64 y) ∧ w.cell? ⟨b, o + 6, none⟩ = some (.int .i64 z) := by
  obtain ⟨b, o, h1, h2, h3⟩ := h.at_ chgE i _ hk
  exact ⟨b, o, h1, h2, h3 0 _ rfl, h3 1 _ rfl, h3 2 _ rfl, h3 3 _ rfl, h3 4 _ rfl, h3 5 _ rfl, h3 6 _ rfl⟩
theorem atI {w : World} {a : Option Addr} {n c : Nat} {xs : List Int} (h : RdI w (.slice a n c) xs) (k : Nat) (x : Int) (hk : xs[k]? = some x) :
    ∃ b o, (∀ w0, (Instr.indexAt 34 (.slice a n c) (.int .i64 (k : Int))).run Tryz.prog w0 = .ok (.pointer (some ⟨b, o, none⟩)) w0) ∧ b < w.heap.size ∧ w.cell? ⟨b, o, none⟩ = some (.int .i64 x) := by
  obtain ⟨b, o, h1, h2, h3⟩ := h.at_ intE k x hk
  exact ⟨b, o, h1, h2, h3 0 _ rfl⟩

theorem beq_t {a b : Int} (h : a = b) : (a == b) = true := by simpa using h
theorem beq_f {a b : Int} (h : a ≠ b) : (a == b) = false := by simpa using h
theorem bne_t {a b : Int} (h : a ≠ b) : (a != b) = true := by simpa using h
theorem bne_f {a b : Int} (h : a = b) : (a != b) = false := by simpa using h

/-- '==', '!=' of rules and of changes. -/
theorem eq_rule (a b c x y z : Int) (w : World) : (Op.equalIn 10000 24 (rl a b c) (rl x y z)).run Tryz.prog w = .ok (decide (a = x ∧ b = y ∧ c = z)) w := by
  have u3 := Tryz.underlying3
  have a3 := Tryz.isAgg3
  have z3 := Tryz.sizeOf3
  have hS : Tryz.prog.underlying 24 = some (.struct (Tryz.prog.fieldsOf 24)) := by kernel_rfl
  have hp : Tryz.prog.stoodInHeld 24 = false := by kernel_rfl
  rw [show (10000 : Nat) = 9999 + 1 from rfl, run_equalIn_agg w 9999 24 _ _ hS hp]
  simp only [Program.fieldsOf, Tryz.underlying24]
  go_simp
  by_cases h1 : a = x <;> by_cases h2 : b = y <;> by_cases h3 : c = z <;> simp [h1, h2, h3]
theorem eql_rule (a b c x y z : Int) (w : World) : (binOp .eql 24 (rl a b c) (rl x y z)).run Tryz.prog w = .ok (.bool (decide (a = x ∧ b = y ∧ c = z))) w := by
  rw [run_eql_struct, eq_rule]; rfl
theorem neq_rule (a b c x y z : Int) (w : World) : (binOp .neq 24 (rl a b c) (rl x y z)).run Tryz.prog w = .ok (.bool (!decide (a = x ∧ b = y ∧ c = z))) w := by
  rw [run_neq_struct, eq_rule]; rfl

theorem eq_rule' (d : Nat) (a b c x y z : Int) (w : World) : (Op.equalIn (d + 2) 24 (rl a b c) (rl x y z)).run Tryz.prog w = .ok (decide (a = x ∧ b = y ∧ c = z)) w := by
  have u3 := Tryz.underlying3
  have a3 := Tryz.isAgg3
  have z3 := Tryz.sizeOf3
  have hS : Tryz.prog.underlying 24 = some (.struct (Tryz.prog.fieldsOf 24)) := by kernel_rfl
  have hp : Tryz.prog.stoodInHeld 24 = false := by kernel_rfl
  rw [run_equalIn_agg w (d + 1) 24 _ _ hS hp]
  simp only [Program.fieldsOf, Tryz.underlying24]
  go_simp
  by_cases h1 : a = x <;> by_cases h2 : b = y <;> by_cases h3 : c = z <;> simp [h1, h2, h3]
theorem eq_chg (x y : Chg) (w : World) : (Op.equalIn 10000 50 (cvT x) (cvT y)).run Tryz.prog w = .ok (decide (x = y)) w := by
  obtain ⟨k, s, t, v, a, b, c⟩ := x
  obtain ⟨k', s', t', v', a', b', c'⟩ := y
  have u3 := Tryz.underlying3
  have a3 := Tryz.isAgg3
  have z3 := Tryz.sizeOf3
  have a23 := Tryz.isAgg24
  have z23 := Tryz.sizeOf24
  have hr := fun w => eq_rule' 9997 a b c a' b' c' w
  have hS : Tryz.prog.underlying 50 = some (.struct (Tryz.prog.fieldsOf 50)) := by kernel_rfl
  have hp : Tryz.prog.stoodInHeld 50 = false := by kernel_rfl
  show (Op.equalIn 10000 50 (cv k s t v a b c) (cv k' s' t' v' a' b' c')).run Tryz.prog w = _
  rw [show (10000 : Nat) = 9999 + 1 from rfl, run_equalIn_agg w 9999 50 _ _ hS hp]
  simp only [Program.fieldsOf, Tryz.underlying50]
  go_simp
  by_cases h1 : k = k' <;> by_cases h2 : s = s' <;> by_cases h3 : t = t' <;> by_cases h4 : v = v' <;> by_cases h5 : a = a' <;> by_cases h6 : b = b' <;> by_cases h7 : c = c' <;> simp [h1, h2, h3, h4, h5, h6, h7]
theorem neq_chg (x y : Chg) (w : World) : (binOp .neq 50 (cvT x) (cvT y)).run Tryz.prog w = .ok (.bool (!decide (x = y))) w := by
  obtain ⟨k, s, t, v, a, b, c⟩ := x
  obtain ⟨k', s', t', v', a', b', c'⟩ := y
  show (binOp .neq 50 (cv k s t v a b c) (cv k' s' t' v' a' b' c')).run Tryz.prog w = _
  rw [run_neq_struct]
  have := eq_chg (k, s, t, v, a, b, c) (k', s', t', v', a', b', c') w
  rw [show cvT (k, s, t, v, a, b, c) = cv k s t v a b c from rfl, show cvT (k', s', t', v', a', b', c') = cv k' s' t' v' a' b' c' from rfl] at this
  rw [this]; rfl

theorem rServer (x : Int) (w : World) : Calls Tryz.prog 28 #[.int .i64 x] w fun e w' => e = .returned (.bool (JM.isSrv x)) ∧ w = w' := by
  obtain ⟨R, hR⟩ : ∃ R, R = JM.isSrv x := ⟨_, rfl⟩
  rw [← hR]
  by_cases h1 : 1 ≤ x
  · by_cases h2 : x ≤ 12
    · have e := Lib.hid (show R = true by rw [hR]; exact decide_eq_true ⟨h1, h2⟩)
      clear hR
      go_enter Tryz.func28, Tryz.ntmps28
      go_wp2
      go_ret
      rw [e.out]; exact ⟨rfl, rfl⟩
    · have e := Lib.hid (show R = false by rw [hR]; exact decide_eq_false (by omega))
      have hd : decide (x ≤ 12) = false := decide_eq_false h2
      clear hR
      go_enter Tryz.func28, Tryz.ntmps28
      go_wp2
      go_ret
      rw [e.out]; exact ⟨rfl, rfl⟩
  · have e := Lib.hid (show R = false by rw [hR]; exact decide_eq_false (by omega))
    have h2' : x < 1 := by omega
    clear hR h1
    go_enter Tryz.func28, Tryz.ntmps28
    go_wp2
    go_ret
    rw [e.out]; exact ⟨rfl, rfl⟩
theorem rAdmin (x : Int) (w : World) : Calls Tryz.prog 29 #[.int .i64 x] w fun e w' => e = .returned (.bool (JM.isAdm x)) ∧ w = w' := by
  obtain ⟨R, hR⟩ : ∃ R, R = JM.isAdm x := ⟨_, rfl⟩
  rw [← hR]
  by_cases h1 : 201 ≤ x
  · by_cases h2 : x < 204
    · have e := Lib.hid (show R = true by rw [hR]; exact decide_eq_true ⟨h1, by omega⟩)
      clear hR
      go_enter Tryz.func29, Tryz.ntmps29
      go_wp2
      go_ret
      rw [e.out]; exact ⟨rfl, rfl⟩
    · have e := Lib.hid (show R = false by rw [hR]; exact decide_eq_false (by omega))
      have hd : decide (x < 204) = false := decide_eq_false h2
      clear hR
      go_enter Tryz.func29, Tryz.ntmps29
      go_wp2
      go_ret
      rw [e.out]; exact ⟨rfl, rfl⟩
  · have e := Lib.hid (show R = false by rw [hR]; exact decide_eq_false (by omega))
    have h2' : x < 201 := by omega
    clear hR h1
    go_enter Tryz.func29, Tryz.ntmps29
    go_wp2
    go_ret
    rw [e.out]; exact ⟨rfl, rfl⟩
/-- Package process: which numbers identify whom. -/
theorem cOneOf (x f n : Int) (hf : 0 ≤ f) (hf' : f ≤ 1000) (hn : 0 ≤ n) (hn' : n ≤ 1000) (w : World) : Calls Tryz.prog 80 #[.int .i64 x, .int .i64 f, .int .i64 n] w fun e w' => e = .returned (.bool (decide (f ≤ x ∧ x < f + n))) ∧ w = w' := by
  obtain ⟨R, hR⟩ : ∃ R, R = decide (f ≤ x ∧ x < f + n) := ⟨_, rfl⟩
  rw [← hR]
  by_cases h1 : f ≤ x
  · by_cases h2 : x < f + n
    · have e := Lib.hid (show R = true by rw [hR]; exact decide_eq_true ⟨h1, h2⟩)
      clear hR
      go_enter Tryz.func80, Tryz.ntmps80
      go_wp2
      go_ret
      rw [e.out]; exact ⟨rfl, rfl⟩
    · have e := Lib.hid (show R = false by rw [hR]; exact decide_eq_false (by omega))
      have hd : decide (x < f + n) = false := decide_eq_false h2
      clear hR
      go_enter Tryz.func80, Tryz.ntmps80
      go_wp2
      go_ret
      rw [e.out]; exact ⟨rfl, rfl⟩
  · have e := Lib.hid (show R = false by rw [hR]; exact decide_eq_false (by omega))
    have h2' : x < f := by omega
    clear hR h1
    go_enter Tryz.func80, Tryz.ntmps80
    go_wp2
    go_ret
    rw [e.out]; exact ⟨rfl, rfl⟩
theorem cIsSrvP (x : Int) (w : World) : Calls Tryz.prog 72 #[.int .i64 x] w fun e w' => e = .returned (.bool (decide (1 ≤ x ∧ x ≤ 12))) ∧ w = w' := by
  obtain ⟨R, hR⟩ : ∃ R, R = decide (1 ≤ x ∧ x ≤ 12) := ⟨_, rfl⟩
  rw [← hR]
  have e := Lib.hid (show decide ((1 : Int) ≤ x ∧ x < 1 + 12) = R by rw [hR]; exact decide_eq_decide.2 ⟨fun h => ⟨h.1, by omega⟩, fun h => ⟨h.1, by omega⟩⟩)
  have H : Hid (∀ w, Calls Tryz.prog 80 #[.int .i64 x, .int .i64 1, .int .i64 12] w fun e w' => e = .returned (.bool R) ∧ w = w') := fun w => (cOneOf x 1 12 (by decide) (by decide) (by decide) (by decide) w).mono (fun z w' h => ⟨by rw [h.1, e.out], h.2⟩)
  clear e
  clear hR
  go_enter Tryz.func72, Tryz.ntmps72
  go_wp2_with (go_at_call 80; refine (H.out _).mono ?_; rintro e w1 ⟨rfl, rfl⟩)
  go_ret
  exact ⟨rfl, rfl⟩
/-- What 'min' of integers gives. -/
def lo (m : Int) : Int := if m < 1 then m else 1
set_option maxHeartbeats 1000000 in
theorem cValRule (k c f : Int) (w : World) : Calls Tryz.prog 68 #[rl k c f] w fun e w' => e = .returned (.int .i64 (JM.errR k c f)) ∧ Below w.heap.size w w' := by
  obtain ⟨R, hR⟩ : ∃ R, R = JM.errR k c f := ⟨_, rfl⟩
  rw [← hR]
  have HR := Lib.hid hR
  clear hR
  go_enter Tryz.func68, Tryz.ntmps68
  go_wp2
  go_quiet (fail)
  go_wp2
  all_goals
    go_ret
    refine ⟨ret_int ?_, (below_fresh _ _).trans (below_drewN _ _ _)⟩
    rw [HR.out]
    clear HR
    unfold JM.errR
    simp only [beq_iff_eq, beq_eq_false_iff_ne, decide_eq_true_eq, decide_eq_false_iff_not, Bool.not_eq_true', Bool.not_eq_false', ne_eq] at *
    (repeat' split) <;> omega

set_option maxRecDepth 100000 in
set_option maxHeartbeats 1000000 in
theorem rValRule (k c f : Int) (w : World) : Calls Tryz.prog 27 #[rl k c f] w fun e w' => e = .returned (.int .i64 (JM.errR k c f)) ∧ Below w.heap.size w w' := by
  obtain ⟨R, hR⟩ : ∃ R, R = JM.errR k c f := ⟨_, rfl⟩
  rw [← hR]
  have HR := Lib.hid hR
  clear hR
  have hs := fun w => rServer c w
  obtain ⟨S, hS⟩ : ∃ S, S = JM.isSrv c := ⟨_, rfl⟩
  rw [← hS] at hs
  have HS := Lib.hid (show S = true ↔ 1 ≤ c ∧ c ≤ 12 by rw [hS]; exact JM.isSrv_iff)
  clear hS
  have HC := Lib.hid hs
  clear hs
  cases S
  all_goals
    go_enter Tryz.func27, Tryz.ntmps27
    go_wp2_with (go_at_call 28; refine (HC.out _).mono ?_; rintro e w1 ⟨rfl, rfl⟩)
    all_goals
      go_ret
      refine ⟨ret_int ?_, below_fresh _ _⟩
      rw [HR.out]
      have hx := HS.out
      simp only [true_iff, false_iff, reduceCtorEq] at hx
      clear HR HC HS
      unfold JM.errR
      simp only [bne_iff_ne, bne_eq_false_iff_eq, ne_eq] at *
      (repeat' split) <;> omega

end Go.Proofs.YtkaafbdhgekeeaaGreat

namespace Go.Proofs.YtkaafbdhgekeeaaGreat
open Go.RowKit
open JM (Chg)

theorem errC_kind {k s t v a b c : Int} (h : k < 1 ∨ 4 < k) : JM.errC k s t v a b c = 10 := by unfold JM.errC; rw [if_pos h]
theorem errC_of {k s t v a b c : Int} (h : ¬ (k < 1 ∨ 4 < k)) : JM.errC k s t v a b c = if JM.fit s (JM.srvOf k) = false then 9 else if JM.fit t (JM.wtOf k) = false then 9 else if JM.fit v (JM.verOf k) = false then 9 else if k = 4 then JM.errR a b c else if a = 0 ∧ b = 0 ∧ c = 0 then 0 else 2 := by
  unfold JM.errC; rw [if_neg h]

end Go.Proofs.YtkaafbdhgekeeaaGreat

namespace Go.Proofs.YtkaafbdhgekeeaaGreat
open Go.RowKit
open JM (Chg)

theorem fit_pos {n m : Int} (h : 1 ≤ m) : (JM.fit n m = false) = (n < 1 ∨ m < n) := by
  unfold JM.fit; rw [if_neg (by omega), decide_eq_false_iff_not]; exact propext (by omega)
theorem fit_zero {n : Int} : (JM.fit n 0 = false) = (n ≠ 0) := by
  unfold JM.fit; rw [if_pos (by omega), decide_eq_false_iff_not]; exact propext (by omega)

set_option maxRecDepth 100000 in
set_option maxHeartbeats 4000000 in
theorem rValChange (k s t v a b c : Int) (w : World) : Calls Tryz.prog 30 #[cv k s t v a b c] w fun e w' => e = .returned (.int .i64 (JM.errC k s t v a b c)) ∧ Below w.heap.size w w' := by
  obtain ⟨R, hR⟩ : ∃ R, R = JM.errC k s t v a b c := ⟨_, rfl⟩
  rw [← hR]
  have hneq := fun w => neq_rule a b c 0 0 0 w
  obtain ⟨Z, hZ⟩ : ∃ Z : Bool, Z = decide (a = 0 ∧ b = 0 ∧ c = 0) := ⟨_, rfl⟩
  rw [← hZ] at hneq
  have HZ := Lib.hid (show Z = true ↔ a = 0 ∧ b = 0 ∧ c = 0 by rw [hZ]; exact decide_eq_true_iff)
  clear hZ
  have hv := fun w => rValRule a b c w
  have hs := fun w => rServer s w
  obtain ⟨S, hS⟩ : ∃ S, S = JM.isSrv s := ⟨_, rfl⟩
  rw [← hS] at hs
  have HS := Lib.hid (show S = true ↔ 1 ≤ s ∧ s ≤ 12 by rw [hS]; exact JM.isSrv_iff)
  have HC := Lib.hid hs
  clear hS hs
  have hm : Tryz.prog.eqGuardType Tryz.prog.depth 24 = false := by kernel_rfl
  have hcase : (k < 1 ∨ 4 < k) ∨ k = 1 ∨ k = 2 ∨ k = 3 ∨ k = 4 := by omega
  rcases hcase with hk | rfl | rfl | rfl | rfl
  · have HR := Lib.hid (hR.trans (errC_kind hk))
    clear hR
    have m1 : (k == 1) = false := beq_f (by omega)
    have m2 : (k == 2) = false := beq_f (by omega)
    have m3 : (k == 3) = false := beq_f (by omega)
    have m4 : (k == 4) = false := beq_f (by omega)
    clear hk
    go_enter Tryz.func30, Tryz.ntmps30
    go_wp2
    go_quiet (fail)
    go_wp2
    go_ret
    rw [HR.out]
    exact ⟨rfl, (below_fresh _ _).trans (below_drewN _ _ _)⟩
  · have hR2 : R = if s < 1 ∨ 12 < s then 9 else if t < 1 ∨ 9 < t then 9 else if v ≠ 0 then 9 else if a = 0 ∧ b = 0 ∧ c = 0 then 0 else 2 := by
      refine hR.trans ((errC_of (by omega)).trans ?_)
      show (if JM.fit s 12 = false then _ else if JM.fit t 9 = false then _ else if JM.fit v 0 = false then _ else _) = _
      (try simp only [fit_pos, Int.reduceLE])
      (try simp only [fit_zero])
      rfl
    have HR := Lib.hid hR2
    clear hR hR2
    cases S <;> cases Z
    all_goals
      go_enter Tryz.func30, Tryz.ntmps30
      go_wp2
      go_quiet (fail)
      go_wp2_with (go_at_call 28; refine (HC.out _).mono ?_; rintro e w1 ⟨rfl, rfl⟩)
      all_goals
        go_ret
        refine ⟨ret_int ?_, by first | exact (below_fresh _ _).trans (below_drewN _ _ _) | exact bnext ((below_fresh _ _).trans (below_drewN _ _ _)) hb2⟩
        rw [HR.out]
        have hz := HZ.out
        have hx := HS.out
        (try simp only [true_iff, false_iff, reduceCtorEq] at hz hx)
        clear HR HC HS HZ
        (try simp only [bne_iff_ne, bne_eq_false_iff_eq, ne_eq] at *)
        (repeat' split) <;> omega
  · have hR2 : R = if s < 1 ∨ 12 < s then 9 else if t ≠ 0 then 9 else if v ≠ 0 then 9 else if a = 0 ∧ b = 0 ∧ c = 0 then 0 else 2 := by
      refine hR.trans ((errC_of (by omega)).trans ?_)
      show (if JM.fit s 12 = false then _ else if JM.fit t 0 = false then _ else if JM.fit v 0 = false then _ else _) = _
      (try simp only [fit_pos, Int.reduceLE])
      (try simp only [fit_zero])
      rfl
    have HR := Lib.hid hR2
    clear hR hR2
    cases S <;> cases Z
    all_goals
      go_enter Tryz.func30, Tryz.ntmps30
      go_wp2
      go_quiet (fail)
      go_wp2_with (go_at_call 28; refine (HC.out _).mono ?_; rintro e w1 ⟨rfl, rfl⟩)
      all_goals
        go_ret
        refine ⟨ret_int ?_, by first | exact (below_fresh _ _).trans (below_drewN _ _ _) | exact bnext ((below_fresh _ _).trans (below_drewN _ _ _)) hb2⟩
        rw [HR.out]
        have hz := HZ.out
        have hx := HS.out
        (try simp only [true_iff, false_iff, reduceCtorEq] at hz hx)
        clear HR HC HS HZ
        (try simp only [bne_iff_ne, bne_eq_false_iff_eq, ne_eq] at *)
        (repeat' split) <;> omega
  · have hR2 : R = if s < 1 ∨ 12 < s then 9 else if t < 1 ∨ 9 < t then 9 else if v < 1 ∨ 1000 < v then 9 else if a = 0 ∧ b = 0 ∧ c = 0 then 0 else 2 := by
      refine hR.trans ((errC_of (by omega)).trans ?_)
      show (if JM.fit s 12 = false then _ else if JM.fit t 9 = false then _ else if JM.fit v 1000 = false then _ else _) = _
      (try simp only [fit_pos, Int.reduceLE])
      (try simp only [fit_zero])
      rfl
    have HR := Lib.hid hR2
    clear hR hR2
    cases S <;> cases Z
    all_goals
      go_enter Tryz.func30, Tryz.ntmps30
      go_wp2
      go_quiet (fail)
      go_wp2_with (go_at_call 28; refine (HC.out _).mono ?_; rintro e w1 ⟨rfl, rfl⟩)
      all_goals
        go_ret
        refine ⟨ret_int ?_, by first | exact (below_fresh _ _).trans (below_drewN _ _ _) | exact bnext ((below_fresh _ _).trans (below_drewN _ _ _)) hb2⟩
        rw [HR.out]
        have hz := HZ.out
        have hx := HS.out
        (try simp only [true_iff, false_iff, reduceCtorEq] at hz hx)
        clear HR HC HS HZ
        (try simp only [bne_iff_ne, bne_eq_false_iff_eq, ne_eq] at *)
        (repeat' split) <;> omega
  · have hR2 : R = if s ≠ 0 then 9 else if t ≠ 0 then 9 else if v < 1 ∨ 1000 < v then 9 else JM.errR a b c := by
      refine hR.trans ((errC_of (by omega)).trans ?_)
      show (if JM.fit s 0 = false then _ else if JM.fit t 0 = false then _ else if JM.fit v 1000 = false then _ else _) = _
      (try simp only [fit_pos, Int.reduceLE])
      (try simp only [fit_zero])
      rfl
    have HR := Lib.hid hR2
    clear hR hR2
    generalize JM.errR a b c = ER at HR hv
    have HV := Lib.hid hv
    clear hv hneq
    go_enter Tryz.func30, Tryz.ntmps30
    go_wp2
    go_quiet (fail)
    go_wp2_with (go_at_call 27; refine (HV.out _).mono ?_; rintro e w2 ⟨rfl, hb2⟩)
    all_goals
      go_ret
      refine ⟨ret_int ?_, by first | exact (below_fresh _ _).trans (below_drewN _ _ _) | exact bnext ((below_fresh _ _).trans (below_drewN _ _ _)) hb2⟩
      rw [HR.out]
      have hz := HZ.out
      have hx := HS.out
      (try simp only [true_iff, false_iff, reduceCtorEq] at hz hx)
      clear HR HC HS HZ
      (try simp only [bne_iff_ne, bne_eq_false_iff_eq, ne_eq] at *)
      (repeat' split) <;> omega

end Go.Proofs.YtkaafbdhgekeeaaGreat

namespace Go.Proofs.YtkaafbdhgekeeaaGreat
open Go.RowKit Go.Shelf
open JM (Chg)

end Go.Proofs.YtkaafbdhgekeeaaGreat

namespace Go.Proofs.YtkaafbdhgekeeaaGreat
open Go.RowKit
open JM (Chg)

/-- Block g holds a proposal by value. -/
def PBox (w : World) (g : Nat) (a n : Int) (sv : Value) : Prop :=
  w.cell? ⟨g, 0, none⟩ = some (.int .i64 a) ∧ w.cell? ⟨g, 1, none⟩ = some (.int .i64 n) ∧ w.cell? ⟨g, 2, none⟩ = some sv
theorem PBox.fresh (w : World) (a n : Int) (sv : Value) : PBox (w.alloc (.cells #[.int .i64 a, .int .i64 n, sv] 45)) w.heap.size a n sv := by
  refine ⟨?_, ?_, ?_⟩ <;> simp [World.cell?_alloc_new]
theorem PBox.below {w w' : World} {g : Nat} {a n : Int} {sv : Value} (h : PBox w g a n sv) (hb : Below w.heap.size w w') : PBox w' g a n sv :=
  ⟨below_cell hb h.1, below_cell hb h.2.1, below_cell hb h.2.2⟩
/-- Block g holds a change by value. -/
def CBox (w : World) (g : Nat) (k s t v a b c : Int) : Prop :=
  w.cell? ⟨g, 0, none⟩ = some (.int .i64 k) ∧ w.cell? ⟨g, 1, none⟩ = some (.int .i64 s) ∧ w.cell? ⟨g, 2, none⟩ = some (.int .i64 t) ∧ w.cell? ⟨g, 3, none⟩ = some (.int .i64 v) ∧
  w.cell? ⟨g, 4, none⟩ = some (.int .i64 a) ∧ w.cell? ⟨g, 5, none⟩ = some (.int .i64 b) ∧ w.cell? ⟨g, 6, none⟩ = some (.int .i64 c)
theorem CBox.fresh (w : World) (k s t v a b c : Int) : CBox (w.alloc (.cells #[.int .i64 k, .int .i64 s, .int .i64 t, .int .i64 v, .int .i64 a, .int .i64 b, .int .i64 c] 50)) w.heap.size k s t v a b c := by
  refine ⟨?_, ?_, ?_, ?_, ?_, ?_, ?_⟩ <;> simp [World.cell?_alloc_new]
theorem CBox.below {w w' : World} {g : Nat} {k s t v a b c : Int} (h : CBox w g k s t v a b c) (hb : Below w.heap.size w w') : CBox w' g k s t v a b c :=
  ⟨below_cell hb h.1, below_cell hb h.2.1, below_cell hb h.2.2.1, below_cell hb h.2.2.2.1, below_cell hb h.2.2.2.2.1, below_cell hb h.2.2.2.2.2.1, below_cell hb h.2.2.2.2.2.2⟩

theorem errP_range {a n : Int} {cs : List Chg} (h : JM.isAdm a = false ∨ JM.fit n 3 = false) : JM.errP a n cs = 9 := by
  unfold JM.errP
  rcases h with h | h
  · rw [if_pos (.inl h)]
  · rw [if_pos]
    unfold JM.fit at h
    rw [decide_eq_false_iff_not] at h
    simp only [Int.reduceLT, if_false] at h
    omega
theorem errP_of {a n : Int} {cs : List Chg} (h : JM.isAdm a = true) (h2 : JM.fit n 3 = true) : JM.errP a n cs = if cs = [] then 2 else if 6 < cs.length then 3 else JM.errS [] cs := by
  unfold JM.errP
  rw [if_neg]
  unfold JM.fit at h2
  rw [decide_eq_true_eq] at h2
  simp only [Int.reduceLT, if_false] at h2
  rw [h]
  simp
  omega
theorem errS_cons (d : List Chg) (x : Chg) (r : List Chg) : JM.errS d (x :: r) = if JM.errCh x ≠ 0 then JM.errCh x else if d.any (fun y => JM.sim y x) = true then 5 else JM.errS (d ++ [x]) r := rfl

end Go.Proofs.YtkaafbdhgekeeaaGreat

namespace Go.Proofs.YtkaafbdhgekeeaaGreat
open Go.RowKit
open JM (Chg)

set_option maxRecDepth 100000 in
set_option maxHeartbeats 4000000 in
theorem rValidate (a n : Int) (v : Value) (cs : List Chg) (w : World) (h : RdC w v cs) :
    Calls Tryz.prog 11 #[pv a n v] w fun e w' => e = .returned (.int .i64 (JM.errP a n cs)) ∧ Below w.heap.size w w' := by
  obtain ⟨ad, cp, rfl, hc, hl⟩ := h.shape
  obtain ⟨R, hR⟩ : ∃ R, R = JM.errP a n cs := ⟨_, rfl⟩
  rw [← hR]
  have ha := fun w => rAdmin a w
  obtain ⟨A, hA⟩ : ∃ A, A = JM.isAdm a := ⟨_, rfl⟩
  rw [← hA] at ha
  have HA := Lib.hid ha
  clear ha
  have hb0 := below_fresh w (.cells #[.int .i64 a, .int .i64 n, .slice ad cs.length cp] 45)
  cases A
  · have HR := Lib.hid (hR.trans (errP_range (.inl hA.symm)))
    clear hR hA h
    go_enter Tryz.func11, Tryz.ntmps11
    go_wp2_with (go_at_call 29; refine (HA.out _).mono ?_; rintro e w1 ⟨rfl, rfl⟩)
    go_ret
    rw [HR.out]
    exact ⟨rfl, hb0⟩
  by_cases hn1 : n < 1
  · have HR := Lib.hid (hR.trans (show JM.errP a n cs = 9 by unfold JM.errP; rw [if_pos (.inr (.inl hn1))]))
    clear hR hA h
    go_enter Tryz.func11, Tryz.ntmps11
    go_wp2_with (go_at_call 29; refine (HA.out _).mono ?_; rintro e w1 ⟨rfl, rfl⟩)
    go_ret
    rw [HR.out]
    exact ⟨rfl, hb0⟩
  by_cases hn3 : 3 < n
  · have HR := Lib.hid (hR.trans (show JM.errP a n cs = 9 by unfold JM.errP; rw [if_pos (.inr (.inr hn3))]))
    clear hR hA h
    go_enter Tryz.func11, Tryz.ntmps11
    go_wp2_with (go_at_call 29; refine (HA.out _).mono ?_; rintro e w1 ⟨rfl, rfl⟩)
    go_ret
    rw [HR.out]
    exact ⟨rfl, hb0⟩
  have hR2 : R = if cs = [] then 2 else if 6 < cs.length then 3 else JM.errS [] cs := by
    rw [hR]; unfold JM.errP; rw [if_neg (by rw [← hA]; simp; omega)]
  clear hR hA
  have HX := Lib.hid h
  clear h
  by_cases h0 : cs = []
  · have HR := Lib.hid (hR2.trans (if_pos h0))
    have hz : ((cs.length : Int) == 0) = true := by rw [h0]; rfl
    clear hR2 h0
    go_enter Tryz.func11, Tryz.ntmps11
    go_wp2_with (go_at_call 29; refine (HA.out _).mono ?_; rintro e w1 ⟨rfl, rfl⟩)
    go_ret
    rw [HR.out]
    exact ⟨rfl, hb0⟩
  rw [if_neg h0] at hR2
  have hz : ((cs.length : Int) == 0) = false := beq_f (by have := List.length_pos_iff.2 h0; omega)
  clear h0
  by_cases h6 : 6 < cs.length
  · have HR := Lib.hid (hR2.trans (if_pos h6))
    have hz : (6 : Int) < (cs.length : Int) := by omega
    clear hR2 h6
    go_enter Tryz.func11, Tryz.ntmps11
    go_wp2_with (go_at_call 29; refine (HA.out _).mono ?_; rintro e w1 ⟨rfl, rfl⟩)
    go_ret
    rw [HR.out]
    exact ⟨rfl, hb0⟩
  rw [if_neg h6] at hR2
  have h6' : ¬ (6 : Int) < (cs.length : Int) := by omega
  have HR := Lib.hid hR2
  have HX0 := Lib.hid (HX.out.below hb0)
  have HP0 := Lib.hid (PBox.fresh w a n (.slice ad cs.length cp))
  have HB0 := Lib.hid hb0
  clear hR2 h6 hb0 HX
  go_enter Tryz.func11, Tryz.ntmps11
  go_wp2_with (go_at_call 29; refine (HA.out _).mono ?_; rintro e w1 ⟨rfl, rfl⟩)
  clear HA
  generalize w.alloc (.cells #[.int .i64 a, .int .i64 n, .slice ad cs.length cp] 45) = w0 at HX0 HP0 HB0 ⊢
  go_loopw [3] (fun i wr => ∃ k : Nat, k ≤ cs.length ∧ i = .int .i64 k ∧ Below w0.heap.size w0 wr ∧ Hid (R = JM.errS (cs.take k) (cs.drop k))) (fun i _ => cs.length - (intOf i).toNat)
  case atStart => exact ⟨0, Nat.zero_le _, rfl, Below.refl _ _, HR.out⟩
  case round =>
    obtain ⟨k, hk, rfl, hbl, he⟩ := hrel
    obtain ⟨wo, rfl⟩ : ∃ wo, wo = wr := ⟨wr, rfl⟩
    have hp2 := (HP0.out.below hbl).2.2
    by_cases hlt : k < cs.length
    · have hq : (k : Int) < (cs.length : Int) := by omega
      have hdx := Lib.hid (drop_get hlt)
      have htk := Lib.hid (List.take_append_getElem hlt)
      have hat := List.getElem?_eq_getElem hlt
      generalize cs[k] = y at hdx hat htk
      obtain ⟨k', s', t', v', a', b', c'⟩ := y
      obtain ⟨b, o, hi, hb, d0, d1, d2, d3, d4, d5, d6⟩ := atC (HX0.out.below hbl) k _ _ _ _ _ _ _ hat
      have e2 := Lib.hid (show R = if JM.errCh (k', s', t', v', a', b', c') ≠ 0 then JM.errCh (k', s', t', v', a', b', c') else if (cs.take k).any (fun y => JM.sim y (k', s', t', v', a', b', c')) = true then 5 else JM.errS (cs.take (k + 1)) (cs.drop (k + 1)) by rw [he.out, hdx.out, errS_cons, htk.out])
      clear he hdx htk
      have HAT := Lib.hid hat
      clear hat
      have HV := Lib.hid (fun w => rValChange k' s' t' v' a' b' c' w)
      have hec : JM.errCh (k', s', t', v', a', b', c') = JM.errC k' s' t' v' a' b' c' := rfl
      rw [hec] at e2
      generalize JM.errC k' s' t' v' a' b' c' = ec at HV e2
      by_cases hec0 : ec = 0
      · subst hec0
        have e2 := Lib.hid (e2.out.trans (if_neg (fun h => h rfl)))
        go_wp2_with (go_at_call 30; refine (HV.out _).mono ?_; rintro e w1 ⟨rfl, hb1⟩)
        have HB1 := Lib.hid (bnext hbl hb1)
        clear hb1 HV d0 d1 d2 d3 d4 d5 d6 hi hb hp2 hbl
        go_loopw [5] (fun i wr => ∃ j : Nat, j ≤ k ∧ i = .int .i64 j ∧ Below w0.heap.size w0 wr ∧ Hid ((cs.take k).any (fun y => JM.sim y (k', s', t', v', a', b', c')) = ((cs.take k).drop j).any (fun y => JM.sim y (k', s', t', v', a', b', c')))) (fun i _ => k - (intOf i).toNat)
        case atStart => exact ⟨0, Nat.zero_le _, rfl, HB1.out, rfl⟩
        case round =>
          obtain ⟨j, hj, rfl, hbl, he⟩ := hrel
          have hp2 := (HP0.out.below hbl).2.2
          by_cases hjk : j < k
          · have hqj : (j : Int) < (k : Int) := by omega
            have hjc : (j : Int) < (cs.length : Int) := by omega
            have hj2 : j < cs.length := by omega
            have hj3 : j < (cs.take k).length := by rw [List.length_take]; omega
            have hdy := Lib.hid (show (cs.take k).drop j = cs[j] :: (cs.take k).drop (j + 1) by rw [drop_get hj3, List.getElem_take])
            have hat2 := List.getElem?_eq_getElem hj2
            obtain ⟨b, o, hi, hb, d0, d1, d2, d3, d4, d5, d6⟩ := atC (HX0.out.below hbl) k _ _ _ _ _ _ _ HAT.out
            generalize cs[j] = z at hdy hat2
            obtain ⟨k2, s2, t2, v2, a2, b2, c2⟩ := z
            obtain ⟨bb, oo, hi2, hb2, f0, f1, f2, f3, f4, f5, f6⟩ := atC (HX0.out.below hbl) j _ _ _ _ _ _ _ hat2
            have e3 := Lib.hid (show (cs.take k).any (fun y => JM.sim y (k', s', t', v', a', b', c')) = ((k2 == k' && s2 == s') || ((cs.take k).drop (j + 1)).any (fun y => JM.sim y (k', s', t', v', a', b', c'))) by rw [he.out, hdy.out]; rfl)
            clear he hdy hat2 d2 d3 d4 d5 d6 f2 f3 f4 f5 f6
            cases hk2 : (k2 == k')
            · have e4 := Lib.hid (show (cs.take k).any (fun y => JM.sim y (k', s', t', v', a', b', c')) = ((cs.take k).drop (j + 1)).any (fun y => JM.sim y (k', s', t', v', a', b', c')) by rw [e3.out, hk2, Bool.false_and, Bool.false_or])
              clear e3
              go_wp2
              go_quiet (fail)
              go_wp2
              go_roundw
              case rel => exact ⟨j + 1, by omega, by go_num, hbl.trans (below_drewN _ _ _), e4⟩
              case measure => simp [intOf]; omega
            · cases hs2 : (s2 == s')
              · have e4 := Lib.hid (show (cs.take k).any (fun y => JM.sim y (k', s', t', v', a', b', c')) = ((cs.take k).drop (j + 1)).any (fun y => JM.sim y (k', s', t', v', a', b', c')) by rw [e3.out, hs2, Bool.and_false, Bool.false_or])
                clear e3
                go_wp2
                go_quiet (fail)
                go_wp2
                go_roundw
                case rel => exact ⟨j + 1, by omega, by go_num, hbl.trans (below_drewN _ _ _), e4⟩
                case measure => simp [intOf]; omega
              · have e4 := Lib.hid (show R = 5 from e2.out.trans (if_pos (by rw [e3.out, hk2, hs2]; rfl)))
                clear e3 e2
                go_wp2
                go_quiet (fail)
                go_wp2
                go_ret
                rw [e4.out]
                exact ⟨rfl, bnext HB0.out (hbl.trans (below_drewN _ _ _))⟩
          · have hqj : ¬ (j : Int) < (k : Int) := by omega
            have e4 := Lib.hid (show R = JM.errS (cs.take (k + 1)) (cs.drop (k + 1)) from e2.out.trans (if_neg (by rw [he.out, List.drop_of_length_le (by rw [List.length_take]; omega)]; simp)))
            clear he e2
            go_wp2
            go_roundw
            case rel => exact ⟨k + 1, by omega, by go_num, hbl, e4⟩
            case measure => simp [intOf]; omega
      · have e2 := Lib.hid (e2.out.trans (if_pos hec0))
        have hne : (ec != 0) = true := bne_t hec0
        clear hec0
        go_wp2_with (go_at_call 30; refine (HV.out _).mono ?_; rintro e w1 ⟨rfl, hb1⟩)
        go_ret
        rw [e2.out]
        exact ⟨rfl, bnext HB0.out (bnext hbl hb1)⟩
    · have hq : ¬ ((k : Int) < (cs.length : Int)) := by omega
      have e2 := Lib.hid (show R = 0 by rw [he.out, List.drop_of_length_le (by omega)]; rfl)
      clear he HR
      go_wp2
      go_ret
      rw [e2.out]
      exact ⟨rfl, bnext HB0.out hbl⟩

end Go.Proofs.YtkaafbdhgekeeaaGreat
