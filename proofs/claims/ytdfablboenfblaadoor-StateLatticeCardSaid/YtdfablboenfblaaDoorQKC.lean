/-
  Plain mathematics of proposals (P5.1 to P5.4): errors, the order of identifiers, the encoding and what reads it. Lists and integers alone. No conditions beyond those that each lemma names.
  Changes, proposals and integers in memory; the comparisons of whole structs; the small functions on servers, administrators, rules. No conditions beyond those that each lemma names.
  The call of the program's ValidateChange: it returns the error that the plain mathematics says. No conditions.
  The call of the reference's ValidateChange: it returns the error that the plain mathematics says. No conditions.
  The call of proposal.repeats: whether an earlier change is of the same kind and for the same server. Conditions: the earlier changes read.
  The call of proposal.Validate: it returns the error that the plain mathematics says. Conditions: the changes read.
  The call of the reference's ValidateProposal: it returns the error that the plain mathematics says. Conditions: the changes read.
-/
import Derived.Test.YtdfablboenfblaaDoorQKA
import Derived.Test.YtdfablboenfblaaDoorProg
import Derived.Deep.QuietTactic
import Derived.BigQuiet
import Derived.Laws.StructEq
import Derived.Shelf.Abstract
namespace Go.Proofs.YtdfablboenfblaaDoor.JM
open WM (enc dec Bytes)

/-- A change: kind, server, weight, version, and its rule's kind, columns, faulty. -/
abbrev Chg := Int × Int × Int × Int × Int × Int × Int

def isSrv (x : Int) : Bool := decide (1 ≤ x ∧ x ≤ 12)
def isAdm (x : Int) : Bool := decide (201 ≤ x ∧ x ≤ 203)
theorem isAdm_iff {x : Int} : isAdm x = true ↔ 201 ≤ x ∧ x ≤ 203 := decide_eq_true_iff

def errR (k c f : Int) : Int :=
  if k < 1 ∨ 4 < k then 10
  else if (k = 3 ∧ (c < 1 ∨ 12 < c)) ∨ (k ≠ 3 ∧ c ≠ 0) then 9
  else if (k = 4 ∧ (f < 0 ∨ 12 < f)) ∨ (k ≠ 4 ∧ f ≠ 0) then 9 else 0

/-- What a kind's field may hold: 1 to most, or 0. -/
def fit (n most : Int) : Bool := decide ((if most < 1 then most else 1) ≤ n ∧ n ≤ most)
def srvOf (k : Int) : Int := if k = 4 then 0 else 12
def wtOf (k : Int) : Int := if k = 1 ∨ k = 3 then 9 else 0
def verOf (k : Int) : Int := if k = 3 ∨ k = 4 then 1000 else 0
def errC (k s t v a b c : Int) : Int :=
  if k < 1 ∨ 4 < k then 10
  else if fit s (srvOf k) = false then 9
  else if fit t (wtOf k) = false then 9
  else if fit v (verOf k) = false then 9
  else if k = 4 then errR a b c
  else if a = 0 ∧ b = 0 ∧ c = 0 then 0 else 2
def errCh : Chg → Int
  | (k, s, t, v, a, b, c) => errC k s t v a b c
/-- The same kind and the same server. -/
def sim (x y : Chg) : Bool := x.1 == y.1 && x.2.1 == y.2.1
/-- What the changes r behind the changes d give. -/
def errS (d : List Chg) : List Chg → Int
  | [] => 0
  | x :: r => if errCh x ≠ 0 then errCh x else if d.any (fun y => sim y x) = true then 5 else errS (d ++ [x]) r
def errP (a n : Int) (cs : List Chg) : Int :=
  if isAdm a = false ∨ n < 1 ∨ 3 < n then 9
  else if cs = [] then 2
  else if 6 < cs.length then 3
  else errS [] cs

def cmpP (a m b n : Int) : Int := if a < b ∨ (a = b ∧ m < n) then -1 else if a = b ∧ m = n then 0 else 1
theorem cmpP_neg (a m b n : Int) : cmpP b n a m = -cmpP a m b n := by unfold cmpP; (repeat' split) <;> omega
/-! Numbers read one after the other. -/
/-- A number of at most 2^31 - 1: (value, length, error). -/
def num (xs : List Int) : Int × Int × Int :=
  if (dec 0 0 xs).2.2 ≠ 0 then (0, 0, (dec 0 0 xs).2.2) else if 2147483647 < (dec 0 0 xs).1 then (0, 0, 9) else dec 0 0 xs
theorem num_two (xs : List Int) (hb : Bytes xs) : (∃ e : Int, (e = 1 ∨ e = 2 ∨ e = 9) ∧ num xs = (0, 0, e)) ∨
    ∃ m : Nat, m < 2147483648 ∧ num xs = ((m : Int), ((enc m).length : Int), 0) ∧ (enc m).length ≤ xs.length := by
  unfold num
  rcases WM.dec_two xs hb with ⟨e, he, h⟩ | ⟨m, hm, h, hl, _⟩
  · refine .inl ⟨e, he, ?_⟩
    rw [h, if_pos (by simp; omega)]
  · rw [h]
    by_cases hx : 2147483647 < (m : Int)
    · exact .inl ⟨9, by omega, by simp [hx]⟩
    · exact .inr ⟨m, by omega, by simp [hx], hl⟩
theorem num_enc (m : Nat) (tail : List Int) (h : m < 2147483648) : num (enc m ++ tail) = ((m : Int), ((enc m).length : Int), 0) := by
  unfold num
  rw [WM.dec_enc0 m tail (by omega)]
  simp; omega

/-- A reader's state: how many bytes are used, and the first error. -/
abbrev St := Nat × Int
def step (xs : List Int) (s : St) : Int × St :=
  if s.2 ≠ 0 then (0, s) else if (num (xs.drop s.1)).2.2 ≠ 0 then (0, (s.1, (num (xs.drop s.1)).2.2)) else ((num (xs.drop s.1)).1, (s.1 + (num (xs.drop s.1)).2.1.toNat, 0))
def many (xs : List Int) (s : St) : Nat → List Int × St
  | 0 => ([], s)
  | k + 1 => ((many xs s k).1 ++ [(step xs (many xs s k).2).1], (step xs (many xs s k).2).2)
def toChg : List Int → Chg
  | [k, s, t, v, a, b, c] => (k, s, t, v, a, b, c)
  | _ => (0, 0, 0, 0, 0, 0, 0)
def chs (xs : List Int) (s : St) : Nat → List Chg × St
  | 0 => ([], s)
  | k + 1 => ((chs xs s k).1 ++ [toChg (many xs (chs xs s k).2 7).1], (many xs (chs xs s k).2 7).2)

theorem many_length (xs : List Int) (s : St) (k : Nat) : (many xs s k).1.length = k := by
  induction k with
  | zero => rfl
  | succ k ih => simp [many, ih]
theorem step_stop {xs : List Int} {s : St} (h : s.2 ≠ 0) : step xs s = (0, s) := by unfold step; rw [if_pos h]
theorem many_stop {xs : List Int} {s : St} (h : s.2 ≠ 0) (k : Nat) : (many xs s k).2 = s := by
  induction k with
  | zero => rfl
  | succ k ih => show (step xs (many xs s k).2).2 = s; rw [ih, step_stop h]
theorem many_add (xs : List Int) (s : St) (j k : Nat) : many xs s (j + k) = ((many xs s j).1 ++ (many xs (many xs s j).2 k).1, (many xs (many xs s j).2 k).2) := by
  induction k with
  | zero => simp [many]
  | succ k ih => rw [← Nat.add_assoc]; show (_, _) = (_, _); rw [ih]; simp [many]
theorem many_err_le {xs : List Int} {s : St} {j k : Nat} (hjk : j ≤ k) (h : (many xs s j).2.2 ≠ 0) : (many xs s k).2 = (many xs s j).2 := by
  obtain ⟨d, rfl⟩ := Nat.exists_eq_add_of_le hjk
  rw [many_add]
  exact many_stop h d
/-- What a number is. -/
def small (x : Int) : Prop := 0 ≤ x ∧ x < 2147483648
theorem step_small (xs : List Int) (s : St) (hb : Bytes xs) (hu : s.1 ≤ xs.length) : small (step xs s).1 ∧ (step xs s).2.1 ≤ xs.length := by
  unfold step
  split
  · exact ⟨⟨by simp, by simp⟩, hu⟩
  · rcases num_two (xs.drop s.1) (fun c hc => hb c (List.mem_of_mem_drop hc)) with ⟨e, he, h⟩ | ⟨m, hm, h, hl⟩
    · rw [h, if_pos (by simp; omega)]; exact ⟨⟨by simp, by simp⟩, hu⟩
    · rw [h]
      rw [List.length_drop] at hl
      simp [small]; omega
theorem many_small (xs : List Int) (s : St) (hb : Bytes xs) (hu : s.1 ≤ xs.length) (k : Nat) : (∀ x ∈ (many xs s k).1, small x) ∧ (many xs s k).2.1 ≤ xs.length := by
  induction k with
  | zero => exact ⟨(fun x hx => by cases hx), hu⟩
  | succ k ih =>
    have := step_small xs (many xs s k).2 hb ih.2
    refine ⟨fun x hx => ?_, this.2⟩
    simp only [many, List.mem_append, List.mem_singleton] at hx
    rcases hx with hx | rfl
    · exact ih.1 x hx
    · exact this.1
/-- The answer of Decode: error, used, administrator, number, changes. -/
def bad (e : Int) : Int × Nat × Int × Int × List Chg := (e, 0, 0, 0, [])
def cnt (xs : List Int) : Int := (many xs (0, 0) 3).1.getD 2 0
def decP (xs : List Int) : Int × Nat × Int × Int × List Chg :=
  if (many xs (0, 0) 3).2.2 ≠ 0 then bad (many xs (0, 0) 3).2.2
  else if 6 < cnt xs then bad 3
  else if (chs xs (many xs (0, 0) 3).2 (cnt xs).toNat).2.2 ≠ 0 then bad (chs xs (many xs (0, 0) 3).2 (cnt xs).toNat).2.2
  else if errP ((many xs (0, 0) 3).1.getD 0 0) ((many xs (0, 0) 3).1.getD 1 0) (chs xs (many xs (0, 0) 3).2 (cnt xs).toNat).1 ≠ 0 then
    bad (errP ((many xs (0, 0) 3).1.getD 0 0) ((many xs (0, 0) 3).1.getD 1 0) (chs xs (many xs (0, 0) 3).2 (cnt xs).toNat).1)
  else (0, (chs xs (many xs (0, 0) 3).2 (cnt xs).toNat).2.1, (many xs (0, 0) 3).1.getD 0 0, (many xs (0, 0) 3).1.getD 1 0, (chs xs (many xs (0, 0) 3).2 (cnt xs).toNat).1)

/-! The encoding. -/
def encN (l : List Int) : List Int := l.flatMap fun x => enc x.toNat
def ofChg : Chg → List Int
  | (k, s, t, v, a, b, c) => [k, s, t, v, a, b, c]
def encCs (cs : List Chg) : List Int := cs.flatMap fun x => encN (ofChg x)
def encP (a n : Int) (cs : List Chg) : List Int := encN [a, n, (cs.length : Int)] ++ encCs cs
theorem encN_append (l m : List Int) : encN (l ++ m) = encN l ++ encN m := List.flatMap_append
theorem encN_cons (x : Int) (l : List Int) : encN (x :: l) = enc x.toNat ++ encN l := List.flatMap_cons
def smallC (x : Chg) : Prop := ∀ y ∈ ofChg x, small y

theorem encN_len (l : List Int) (h : ∀ x ∈ l, small x) : (encN l).length ≤ l.length * 10 := by
  induction l with
  | nil => simp [encN]
  | cons x l ih =>
    rw [encN_cons, List.length_append, List.length_cons]
    have h1 := h x (by simp)
    unfold small at h1
    have := WM.enc_len10 x.toNat (by omega)
    have := ih (fun y hy => h y (by simp [hy]))
    omega
theorem step_enc (pre tail : List Int) (x : Int) (h : small x) : step (pre ++ (enc x.toNat ++ tail)) (pre.length, 0) = (x, ((pre ++ enc x.toNat).length, 0)) := by
  unfold step small at *
  rw [if_neg (by simp)]
  have e : (pre ++ (enc x.toNat ++ tail)).drop ((pre.length, (0 : Int)) : St).1 = enc x.toNat ++ tail := List.drop_left
  rw [e, num_enc x.toNat tail (by omega)]
  have : ((x.toNat : Nat) : Int) = x := by omega
  simp [this]
theorem many_enc (l : List Int) : ∀ (pre tail : List Int), (∀ x ∈ l, small x) → many (pre ++ (encN l ++ tail)) (pre.length, 0) l.length = (l, ((pre ++ encN l).length, 0)) := by
  induction l with
  | nil => intro pre tail _; simp [many, encN]
  | cons x l ih =>
    intro pre tail h
    rw [encN_cons, List.length_cons, Nat.add_comm l.length 1, many_add]
    have h1 := step_enc pre (encN l ++ tail) x (h x (by simp))
    have h2 : many (pre ++ (enc x.toNat ++ encN l ++ tail)) (pre.length, 0) 1 = ([x], ((pre ++ enc x.toNat).length, 0)) := by
      show ([] ++ [(step _ (pre.length, 0)).1], (step _ (pre.length, 0)).2) = _
      rw [List.append_assoc (enc x.toNat), h1]; rfl
    rw [h2]
    have h3 := ih (pre ++ enc x.toNat) tail (fun y hy => h y (by simp [hy]))
    rw [show pre ++ (enc x.toNat ++ encN l ++ tail) = pre ++ enc x.toNat ++ (encN l ++ tail) by simp [List.append_assoc]]
    rw [h3]
    simp [List.append_assoc]
/-- What a valid proposal's numbers are. -/
theorem fit_small {n most : Int} (h : fit n most = true) (hm : most = 0 ∨ most = 12 ∨ most = 9 ∨ most = 1000) : small n := by
  have := decide_eq_true_iff.1 h
  unfold small
  rcases hm with rfl | rfl | rfl | rfl <;> simp at this <;> omega
theorem errR_small {k c f : Int} (h : errR k c f = 0) : small k ∧ small c ∧ small f := by
  unfold errR at h
  unfold small
  split at h
  · cases h
  split at h
  · cases h
  split at h
  · cases h
  omega
theorem errCh_small {x : Chg} (h : errCh x = 0) : smallC x := by
  obtain ⟨k, s, t, v, a, b, c⟩ := x
  have h : errC k s t v a b c = 0 := h
  unfold errC at h
  split at h
  · cases h
  rename_i hk
  split at h
  · cases h
  rename_i h1
  split at h
  · cases h
  rename_i h2
  split at h
  · cases h
  rename_i h3
  have s1 : small k := by unfold small; omega
  have s2 : small s := fit_small (by simpa using h1) (by unfold srvOf; split <;> simp)
  have s3 : small t := fit_small (by simpa using h2) (by unfold wtOf; split <;> simp)
  have s4 : small v := fit_small (by simpa using h3) (by unfold verOf; split <;> simp)
  have s5 : small a ∧ small b ∧ small c := by
    split at h
    · exact errR_small h
    split at h
    · rename_i h5
      obtain ⟨rfl, rfl, rfl⟩ := h5
      unfold small
      omega
    · cases h
  intro y hy
  simp only [ofChg, List.mem_cons, List.mem_nil_iff, or_false] at hy
  rcases hy with rfl | rfl | rfl | rfl | rfl | rfl | rfl
  · exact s1
  · exact s2
  · exact s3
  · exact s4
  · exact s5.1
  · exact s5.2.1
  · exact s5.2.2
theorem errS_small {cs : List Chg} : ∀ {d : List Chg}, errS d cs = 0 → ∀ x ∈ cs, smallC x := by
  induction cs with
  | nil => intro d _ x hx; cases hx
  | cons y l ih =>
    intro d h x hx
    unfold errS at h
    split at h
    · rename_i h1; exact absurd h h1
    rename_i h1
    split at h
    · cases h
    rcases List.mem_cons.1 hx with rfl | hx
    · exact errCh_small (by simpa using h1)
    · exact ih h x hx
theorem errP_small {a n : Int} {cs : List Chg} (h : errP a n cs = 0) : small a ∧ small n ∧ cs.length ≤ 6 ∧ 0 < cs.length ∧ ∀ x ∈ cs, smallC x := by
  unfold errP at h
  split at h
  · cases h
  rename_i h1
  split at h
  · cases h
  rename_i h2
  split at h
  · cases h
  rename_i h3
  have ha : isAdm a = true := by
    cases hx : isAdm a
    · exact absurd (.inl hx) h1
    · rfl
  have := isAdm_iff.1 ha
  refine ⟨by unfold small; omega, by unfold small; omega, by omega, List.length_pos_iff.2 h2, errS_small h⟩

end Go.Proofs.YtdfablboenfblaaDoor.JM

namespace Go.Proofs.YtdfablboenfblaaDoor
open Go.RowKit
open JM (Chg)

def encC : Chg → List Value
  | (k, s, t, v, a, b, c) => [.int .i64 k, .int .i64 s, .int .i64 t, .int .i64 v, .int .i64 a, .int .i64 b, .int .i64 c]
def encI (x : Int) : List Value := [.int .i64 x]
/-- A proposal as its administrator, its number and where its changes lie. -/
abbrev Pro := Int × Int × Option Addr × Nat × Nat
def encQ : Pro → List Value
  | (a, n, ad, l, c) => [.int .i64 a, .int .i64 n, .slice ad l c]
/-- The values. -/
abbrev cv (k s t v a b c : Int) : Value := .agg #[.int .i64 k, .int .i64 s, .int .i64 t, .int .i64 v, .int .i64 a, .int .i64 b, .int .i64 c]
abbrev rl (k c f : Int) : Value := .agg #[.int .i64 k, .int .i64 c, .int .i64 f]
abbrev pv (a n : Int) (sv : Value) : Value := .agg #[.int .i64 a, .int .i64 n, sv]
def cvT : Chg → Value
  | (k, s, t, v, a, b, c) => cv k s t v a b c

theorem intE : IsElem Tryd.prog 36 3 1 8 encI where
  ht := Tryd.underlying36
  info := by
    obtain ⟨i0, hi, hz0, hz1, hz2⟩ := info_parts (show (Tryd.prog.info? 3).map (fun i => (i.zero, i.size, i.bytes)) = some (some (.int .i64 0), 1, 8) by kernel_rfl)
    exact ⟨i0, _, hi, hz0, hz1, hz2, rfl⟩
  len := fun _ => rfl
  one := by intro x u hu; simp [encI] at hu; subst hu; rfl
  pos := by decide
  fits := by decide
abbrev RdC := RdG encC 7
abbrev RdI := RdG encI 1
abbrev OwnI := OwnG encI 3 1
theorem hlI : 0 < 1 ∧ ∀ x, (encI x).length = 1 := ⟨by decide, fun _ => rfl⟩
theorem drop_get {α : Type} {xs : List α} {k : Nat} (h : k < xs.length) : xs.drop k = xs[k] :: xs.drop (k + 1) := List.drop_eq_getElem_cons h

theorem atI {w : World} {a : Option Addr} {n c : Nat} {xs : List Int} (h : RdI w (.slice a n c) xs) (k : Nat) (x : Int) (hk : xs[k]? = some x) :
    ∃ b o, (∀ w0, (Instr.indexAt 36 (.slice a n c) (.int .i64 (k : Int))).run Tryd.prog w0 = .ok (.pointer (some ⟨b, o, none⟩)) w0) ∧ b < w.heap.size ∧ w.cell? ⟨b, o, none⟩ = some (.int .i64 x) := by
  obtain ⟨b, o, h1, h2, h3⟩ := h.at_ intE k x hk
  exact ⟨b, o, h1, h2, h3 0 _ rfl⟩

theorem beq_t {a b : Int} (h : a = b) : (a == b) = true := by simpa using h
theorem beq_f {a b : Int} (h : a ≠ b) : (a == b) = false := by simpa using h
theorem bne_t {a b : Int} (h : a ≠ b) : (a != b) = true := by simpa using h
theorem bne_f {a b : Int} (h : a = b) : (a != b) = false := by simpa using h

/-- Package process: which numbers identify whom. -/
theorem cOneOf (x f n : Int) (hf : 0 ≤ f) (hf' : f ≤ 1000) (hn : 0 ≤ n) (hn' : n ≤ 1000) (w : World) : Calls Tryd.prog 110 #[.int .i64 x, .int .i64 f, .int .i64 n] w fun e w' => e = .returned (.bool (decide (f ≤ x ∧ x < f + n))) ∧ w = w' := by
  obtain ⟨R, hR⟩ : ∃ R, R = decide (f ≤ x ∧ x < f + n) := ⟨_, rfl⟩
  rw [← hR]
  by_cases h1 : f ≤ x
  · by_cases h2 : x < f + n
    · have e := Lib.hid (show R = true by rw [hR]; exact decide_eq_true ⟨h1, h2⟩)
      clear hR
      go_enter Tryd.func110, Tryd.ntmps110
      go_wp2
      go_ret
      rw [e.out]; exact ⟨rfl, rfl⟩
    · have e := Lib.hid (show R = false by rw [hR]; exact decide_eq_false (by omega))
      have hd : decide (x < f + n) = false := decide_eq_false h2
      clear hR
      go_enter Tryd.func110, Tryd.ntmps110
      go_wp2
      go_ret
      rw [e.out]; exact ⟨rfl, rfl⟩
  · have e := Lib.hid (show R = false by rw [hR]; exact decide_eq_false (by omega))
    have h2' : x < f := by omega
    clear hR h1
    go_enter Tryd.func110, Tryd.ntmps110
    go_wp2
    go_ret
    rw [e.out]; exact ⟨rfl, rfl⟩
theorem cIsCliP (x : Int) (w : World) : Calls Tryd.prog 85 #[.int .i64 x] w fun e w' => e = .returned (.bool (decide (101 ≤ x ∧ x ≤ 106))) ∧ w = w' := by
  obtain ⟨R, hR⟩ : ∃ R, R = decide (101 ≤ x ∧ x ≤ 106) := ⟨_, rfl⟩
  rw [← hR]
  have e := Lib.hid (show decide ((101 : Int) ≤ x ∧ x < 101 + 6) = R by rw [hR]; exact decide_eq_decide.2 ⟨fun h => ⟨h.1, by omega⟩, fun h => ⟨h.1, by omega⟩⟩)
  have H : Hid (∀ w, Calls Tryd.prog 110 #[.int .i64 x, .int .i64 101, .int .i64 6] w fun e w' => e = .returned (.bool R) ∧ w = w') := fun w => (cOneOf x 101 6 (by decide) (by decide) (by decide) (by decide) w).mono (fun z w' h => ⟨by rw [h.1, e.out], h.2⟩)
  clear e
  clear hR
  go_enter Tryd.func85, Tryd.ntmps85
  go_wp2_with (go_at_call 110; refine (H.out _).mono ?_; rintro e w1 ⟨rfl, rfl⟩)
  go_ret
  exact ⟨rfl, rfl⟩
/-- What 'min' of integers gives. -/
def lo (m : Int) : Int := if m < 1 then m else 1
end Go.Proofs.YtdfablboenfblaaDoor

namespace Go.Proofs.YtdfablboenfblaaDoor
open Go.RowKit
open JM (Chg)

end Go.Proofs.YtdfablboenfblaaDoor

namespace Go.Proofs.YtdfablboenfblaaDoor
open Go.RowKit
open JM (Chg)

end Go.Proofs.YtdfablboenfblaaDoor

namespace Go.Proofs.YtdfablboenfblaaDoor
open Go.RowKit Go.Shelf
open JM (Chg)

end Go.Proofs.YtdfablboenfblaaDoor

namespace Go.Proofs.YtdfablboenfblaaDoor
open Go.RowKit
open JM (Chg)

/-- Block g holds a proposal by value. -/
def PBox (w : World) (g : Nat) (a n : Int) (sv : Value) : Prop :=
  w.cell? ⟨g, 0, none⟩ = some (.int .i64 a) ∧ w.cell? ⟨g, 1, none⟩ = some (.int .i64 n) ∧ w.cell? ⟨g, 2, none⟩ = some sv
theorem PBox.below {w w' : World} {g : Nat} {a n : Int} {sv : Value} (h : PBox w g a n sv) (hb : Below w.heap.size w w') : PBox w' g a n sv :=
  ⟨below_cell hb h.1, below_cell hb h.2.1, below_cell hb h.2.2⟩
/-- Block g holds a change by value. -/
def CBox (w : World) (g : Nat) (k s t v a b c : Int) : Prop :=
  w.cell? ⟨g, 0, none⟩ = some (.int .i64 k) ∧ w.cell? ⟨g, 1, none⟩ = some (.int .i64 s) ∧ w.cell? ⟨g, 2, none⟩ = some (.int .i64 t) ∧ w.cell? ⟨g, 3, none⟩ = some (.int .i64 v) ∧
  w.cell? ⟨g, 4, none⟩ = some (.int .i64 a) ∧ w.cell? ⟨g, 5, none⟩ = some (.int .i64 b) ∧ w.cell? ⟨g, 6, none⟩ = some (.int .i64 c)
theorem CBox.below {w w' : World} {g : Nat} {k s t v a b c : Int} (h : CBox w g k s t v a b c) (hb : Below w.heap.size w w') : CBox w' g k s t v a b c :=
  ⟨below_cell hb h.1, below_cell hb h.2.1, below_cell hb h.2.2.1, below_cell hb h.2.2.2.1, below_cell hb h.2.2.2.2.1, below_cell hb h.2.2.2.2.2.1, below_cell hb h.2.2.2.2.2.2⟩

end Go.Proofs.YtdfablboenfblaaDoor

namespace Go.Proofs.YtdfablboenfblaaDoor
open Go.RowKit
open JM (Chg)

end Go.Proofs.YtdfablboenfblaaDoor
