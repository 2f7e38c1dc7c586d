/-
  Plain mathematics of proposals (P5.1 to P5.4): errors, the order of identifiers, the encoding and what reads it. Lists and integers alone. No conditions beyond those that each lemma names.
  Changes, proposals and integers in memory; the comparisons of whole structs; the small functions on servers, administrators, rules. No conditions beyond those that each lemma names.
  The call of the program's ValidateChange: it returns the error that the plain mathematics says. No conditions.
  The call of the reference's ValidateChange: it returns the error that the plain mathematics says. No conditions.
  The call of proposal.repeats: whether an earlier change is of the same kind and for the same server. Conditions: the earlier changes read.
  The call of proposal.Validate: it returns the error that the plain mathematics says. Conditions: the changes read.
  The call of the reference's ValidateProposal: it returns the error that the plain mathematics says. Conditions: the changes read.
-/
import Derived.Test.YthfpafnljnnndaaGreatSKA
import Derived.Test.YthfpafnljnnndaaGreatProg
import Derived.Deep.QuietTactic
import Derived.BigQuiet
import Derived.Laws.StructEq
import Derived.Shelf.Abstract
namespace Go.Proofs.YthfpafnljnnndaaGreat.JM
open WM (enc dec Bytes)

/-- A change: kind, server, weight, version, and its rule's kind, columns, faulty. -/
abbrev Chg := Int × Int × Int × Int × Int × Int × Int

def isSrv (x : Int) : Bool := decide (1 ≤ x ∧ x ≤ 12)
theorem isSrv_iff {x : Int} : isSrv x = true ↔ 1 ≤ x ∧ x ≤ 12 := decide_eq_true_iff
def isAdm (x : Int) : Bool := decide (201 ≤ x ∧ x ≤ 203)
theorem isAdm_iff {x : Int} : isAdm x = true ↔ 201 ≤ x ∧ x ≤ 203 := decide_eq_true_iff

def errR (k c f : Int) : Int :=
  if k < 1 ∨ 4 < k then 10
  else if (k = 3 ∧ (c < 1 ∨ 12 < c)) ∨ (k ≠ 3 ∧ c ≠ 0) then 9
  else if (k = 4 ∧ (f < 0 ∨ 12 < f)) ∨ (k ≠ 4 ∧ f ≠ 0) then 9 else 0

/-- What a kind's field may hold: 1 to most, or 0. -/
def fit (n most : Int) : Bool := decide ((if most < 1 then most else 1) ≤ n ∧ n ≤ most)
def srvOf (k : Int) : Int := if k = 4 then 0 else 12
def wtOf (k : Int) : Int := if k = 1 ∨ k = 3 then 9 else 0
def verOf (k : Int) : Int := if k = 3 ∨ k = 4 then 1000 else 0
def errC (k s t v a b c : Int) : Int :=
  if k < 1 ∨ 4 < k then 10
  else if fit s (srvOf k) = false then 9
  else if fit t (wtOf k) = false then 9
  else if fit v (verOf k) = false then 9
  else if k = 4 then errR a b c
  else if a = 0 ∧ b = 0 ∧ c = 0 then 0 else 2
def errCh : Chg → Int
  | (k, s, t, v, a, b, c) => errC k s t v a b c
/-- The same kind and the same server. -/
def sim (x y : Chg) : Bool := x.1 == y.1 && x.2.1 == y.2.1
/-- What the changes r behind the changes d give. -/
def errS (d : List Chg) : List Chg → Int
  | [] => 0
  | x :: r => if errCh x ≠ 0 then errCh x else if d.any (fun y => sim y x) = true then 5 else errS (d ++ [x]) r
def errP (a n : Int) (cs : List Chg) : Int :=
  if isAdm a = false ∨ n < 1 ∨ 3 < n then 9
  else if cs = [] then 2
  else if 6 < cs.length then 3
  else errS [] cs

def cmpP (a m b n : Int) : Int := if a < b ∨ (a = b ∧ m < n) then -1 else if a = b ∧ m = n then 0 else 1
theorem cmpP_neg (a m b n : Int) : cmpP b n a m = -cmpP a m b n := by unfold cmpP; (repeat' split) <;> omega
theorem cmpP_zero {a m b n : Int} : cmpP a m b n = 0 ↔ a = b ∧ m = n := by unfold cmpP; (repeat' split) <;> omega
/-! Numbers read one after the other. -/
/-- A number of at most 2^31 - 1: (value, length, error). -/
def num (xs : List Int) : Int × Int × Int :=
  if (dec 0 0 xs).2.2 ≠ 0 then (0, 0, (dec 0 0 xs).2.2) else if 2147483647 < (dec 0 0 xs).1 then (0, 0, 9) else dec 0 0 xs
/-- A reader's state: how many bytes are used, and the first error. -/
abbrev St := Nat × Int
def step (xs : List Int) (s : St) : Int × St :=
  if s.2 ≠ 0 then (0, s) else if (num (xs.drop s.1)).2.2 ≠ 0 then (0, (s.1, (num (xs.drop s.1)).2.2)) else ((num (xs.drop s.1)).1, (s.1 + (num (xs.drop s.1)).2.1.toNat, 0))
def many (xs : List Int) (s : St) : Nat → List Int × St
  | 0 => ([], s)
  | k + 1 => ((many xs s k).1 ++ [(step xs (many xs s k).2).1], (step xs (many xs s k).2).2)
def toChg : List Int → Chg
  | [k, s, t, v, a, b, c] => (k, s, t, v, a, b, c)
  | _ => (0, 0, 0, 0, 0, 0, 0)
def chs (xs : List Int) (s : St) : Nat → List Chg × St
  | 0 => ([], s)
  | k + 1 => ((chs xs s k).1 ++ [toChg (many xs (chs xs s k).2 7).1], (many xs (chs xs s k).2 7).2)

/-- What a number is. -/
def small (x : Int) : Prop := 0 ≤ x ∧ x < 2147483648
/-- The answer of Decode: error, used, administrator, number, changes. -/
def bad (e : Int) : Int × Nat × Int × Int × List Chg := (e, 0, 0, 0, [])
def cnt (xs : List Int) : Int := (many xs (0, 0) 3).1.getD 2 0
def decP (xs : List Int) : Int × Nat × Int × Int × List Chg :=
  if (many xs (0, 0) 3).2.2 ≠ 0 then bad (many xs (0, 0) 3).2.2
  else if 6 < cnt xs then bad 3
  else if (chs xs (many xs (0, 0) 3).2 (cnt xs).toNat).2.2 ≠ 0 then bad (chs xs (many xs (0, 0) 3).2 (cnt xs).toNat).2.2
  else if errP ((many xs (0, 0) 3).1.getD 0 0) ((many xs (0, 0) 3).1.getD 1 0) (chs xs (many xs (0, 0) 3).2 (cnt xs).toNat).1 ≠ 0 then
    bad (errP ((many xs (0, 0) 3).1.getD 0 0) ((many xs (0, 0) 3).1.getD 1 0) (chs xs (many xs (0, 0) 3).2 (cnt xs).toNat).1)
  else (0, (chs xs (many xs (0, 0) 3).2 (cnt xs).toNat).2.1, (many xs (0, 0) 3).1.getD 0 0, (many xs (0, 0) 3).1.getD 1 0, (chs xs (many xs (0, 0) 3).2 (cnt xs).toNat).1)

/-! The encoding. -/
def encN (l : List Int) : List Int := l.flatMap fun x => enc x.toNat
def ofChg : Chg → List Int
  | (k, s, t, v, a, b, c) => [k, s, t, v, a, b, c]
def encCs (cs : List Chg) : List Int := cs.flatMap fun x => encN (ofChg x)
def encP (a n : Int) (cs : List Chg) : List Int := encN [a, n, (cs.length : Int)] ++ encCs cs
def smallC (x : Chg) : Prop := ∀ y ∈ ofChg x, small y

/-- What a valid proposal's numbers are. -/
theorem fit_small {n most : Int} (h : fit n most = true) (hm : most = 0 ∨ most = 12 ∨ most = 9 ∨ most = 1000) : small n := by
  have := decide_eq_true_iff.1 h
  unfold small
  rcases hm with rfl | rfl | rfl | rfl <;> simp at this <;> omega
theorem errR_small {k c f : Int} (h : errR k c f = 0) : small k ∧ small c ∧ small f := by
  unfold errR at h
  unfold small
  split at h
  · cases h
  split at h
  · cases h
  split at h
  · cases h
  omega
theorem errCh_small {x : Chg} (h : errCh x = 0) : smallC x := by
  obtain ⟨k, s, t, v, a, b, c⟩ := x
  have h : errC k s t v a b c = 0 := h
  unfold errC at h
  split at h
  · cases h
  rename_i hk
  split at h
  · cases h
  rename_i h1
  split at h
  · cases h
  rename_i h2
  split at h
  · cases h
  rename_i h3
  have s1 : small k := by unfold small; omega
  have s2 : small s := fit_small (by simpa using h1) (by unfold srvOf; split <;> simp)
  have s3 : small t := fit_small (by simpa using h2) (by unfold wtOf; split <;> simp)
  have s4 : small v := fit_small (by simpa using h3) (by unfold verOf; split <;> simp)
  have s5 : small a ∧ small b ∧ small c := by
    split at h
    · exact errR_small h
    split at h
    · rename_i h5
      obtain ⟨rfl, rfl, rfl⟩ := h5
      unfold small
      omega
    · cases h
  intro y hy
  simp only [ofChg, List.mem_cons, List.mem_nil_iff, or_false] at hy
  rcases hy with rfl | rfl | rfl | rfl | rfl | rfl | rfl
  · exact s1
  · exact s2
  · exact s3
  · exact s4
  · exact s5.1
  · exact s5.2.1
  · exact s5.2.2
theorem errS_small {cs : List Chg} : ∀ {d : List Chg}, errS d cs = 0 → ∀ x ∈ cs, smallC x := by
  induction cs with
  | nil => intro d _ x hx; cases hx
  | cons y l ih =>
    intro d h x hx
    unfold errS at h
    split at h
    · rename_i h1; exact absurd h h1
    rename_i h1
    split at h
    · cases h
    rcases List.mem_cons.1 hx with rfl | hx
    · exact errCh_small (by simpa using h1)
    · exact ih h x hx
theorem errP_small {a n : Int} {cs : List Chg} (h : errP a n cs = 0) : small a ∧ small n ∧ cs.length ≤ 6 ∧ 0 < cs.length ∧ ∀ x ∈ cs, smallC x := by
  unfold errP at h
  split at h
  · cases h
  rename_i h1
  split at h
  · cases h
  rename_i h2
  split at h
  · cases h
  rename_i h3
  have ha : isAdm a = true := by
    cases hx : isAdm a
    · exact absurd (.inl hx) h1
    · rfl
  have := isAdm_iff.1 ha
  refine ⟨by unfold small; omega, by unfold small; omega, by omega, List.length_pos_iff.2 h2, errS_small h⟩

end Go.Proofs.YthfpafnljnnndaaGreat.JM

namespace Go.Proofs.YthfpafnljnnndaaGreat
open Go.RowKit
open JM (Chg)

def encC : Chg → List Value
  | (k, s, t, v, a, b, c) => [.int .i64 k, .int .i64 s, .int .i64 t, .int .i64 v, .int .i64 a, .int .i64 b, .int .i64 c]
def encI (x : Int) : List Value := [.int .i64 x]
/-- A proposal as its administrator, its number and where its changes lie. -/
abbrev Pro := Int × Int × Option Addr × Nat × Nat
def encQ : Pro → List Value
  | (a, n, ad, l, c) => [.int .i64 a, .int .i64 n, .slice ad l c]
/-- The values. -/
abbrev cv (k s t v a b c : Int) : Value := .agg #[.int .i64 k, .int .i64 s, .int .i64 t, .int .i64 v, .int .i64 a, .int .i64 b, .int .i64 c]
abbrev rl (k c f : Int) : Value := .agg #[.int .i64 k, .int .i64 c, .int .i64 f]
abbrev pv (a n : Int) (sv : Value) : Value := .agg #[.int .i64 a, .int .i64 n, sv]
def cvT : Chg → Value
  | (k, s, t, v, a, b, c) => cv k s t v a b c

theorem chgE : IsElem Tryz.prog 68 67 7 56 encC where
  ht := Tryz.underlying68
  info := by
    obtain ⟨i0, hi, hz0, hz1, hz2⟩ := info_parts (show (Tryz.prog.info? 67).map (fun i => (i.zero, i.size, i.bytes)) = some (some (.agg #[.int .i64 0, .int .i64 0, .int .i64 0, .int .i64 0, .int .i64 0, .int .i64 0, .int .i64 0]), 7, 56) by kernel_rfl)
    exact ⟨i0, _, hi, hz0, hz1, hz2, rfl⟩
  len := fun _ => rfl
  one := by
    rintro ⟨k, s, t, v, a, b, c⟩ u hu
    simp only [encC, List.mem_cons, List.mem_nil_iff, or_false] at hu
    rcases hu with rfl | rfl | rfl | rfl | rfl | rfl | rfl <;> rfl
  pos := by decide
  fits := by decide
theorem intE : IsElem Tryz.prog 44 3 1 8 encI where
  ht := Tryz.underlying44
  info := by
    obtain ⟨i0, hi, hz0, hz1, hz2⟩ := info_parts (show (Tryz.prog.info? 3).map (fun i => (i.zero, i.size, i.bytes)) = some (some (.int .i64 0), 1, 8) by kernel_rfl)
    exact ⟨i0, _, hi, hz0, hz1, hz2, rfl⟩
  len := fun _ => rfl
  one := by intro x u hu; simp [encI] at hu; subst hu; rfl
  pos := by decide
  fits := by decide
abbrev RdC := RdG encC 7
abbrev OwnC := OwnG encC 67 7
abbrev RdI := RdG encI 1
abbrev OwnI := OwnG encI 3 1
theorem hlC : 0 < 7 ∧ ∀ x, (encC x).length = 7 := ⟨by decide, fun _ => rfl⟩
theorem hlI : 0 < 1 ∧ ∀ x, (encI x).length = 1 := ⟨by decide, fun _ => rfl⟩
theorem drop_get {α : Type} {xs : List α} {k : Nat} (h : k < xs.length) : xs.drop k = xs[k] :: xs.drop (k + 1) := List.drop_eq_getElem_cons h

/-- 'v[k]' of changes, of integers. -/
theorem atC {w : World} {a : Option Addr} {n c : Nat} {xs : List Chg} (h : RdC w (.slice a n c) xs) (i : Nat) (k s t v x y z : Int) (hk : xs[i]? = some (k, s, t, v, x, y, z)) :
    ∃ b o, (∀ w0, (Instr.indexAt 68 (.slice a n c) (.int .i64 (i : Int))).run Tryz.prog w0 = .ok (.pointer (some ⟨b, o, none⟩)) w0) ∧ b < w.heap.size ∧
      w.cell? ⟨b, o, none⟩ = some (.int .i64 k) ∧ w.cell? ⟨b, o + 1, none⟩ = some (.int .i64 s) ∧ w.cell? ⟨b, o + 2, none⟩ = some (.int .i64 t) ∧ w.cell? ⟨b, o + 3, none⟩ = some (.int .i64 v) ∧
      w.cell? ⟨b, o + 4, none⟩ = some (.int .i64 x) ∧ w.cell? ⟨b, o + 5, none⟩ = some (.int .i64 y) ∧ w.cell? ⟨b, o + 6, none⟩ = some (.int .i64 z) := by
  obtain ⟨b, o, h1, h2, h3⟩ := h.at_ chgE i _ hk
  exact ⟨b, o, h1, h2, h3 0 _ rfl, h3 1 _ rfl, h3 2 _ rfl, h3 3 _ rfl, h3 4 _ rfl, h3 5 _ rfl, h3 6 _ rfl⟩
theorem atI {w : World} {a : Option Addr} {n c : Nat} {xs : List Int} (h : RdI w (.slice a n c) xs) (k : Nat) (x : Int) (hk : xs[k]? = some x) :
    ∃ b o, (∀ w0, (Instr.indexAt 44 (.slice a n c) (.int .i64 (k : Int))).run Tryz.prog w0 = .ok (.pointer (some ⟨b, o, none⟩)) w0) ∧ b < w.heap.size ∧ w.cell? ⟨b, o, none⟩ = some (.int .i64 x) := by
  obtain ⟨b, o, h1, h2, h3⟩ := h.at_ intE k x hk
  exact ⟨b, o, h1, h2, h3 0 _ rfl⟩

theorem beq_t {a b : Int} (h : a = b) : (a == b) = true := by simpa using h
theorem beq_f {a b : Int} (h : a ≠ b) : (a == b) = false := by simpa using h
theorem bne_t {a b : Int} (h : a ≠ b) : (a != b) = true := by simpa using h
theorem bne_f {a b : Int} (h : a = b) : (a != b) = false := by simpa using h

/-- '==', '!=' of rules and of changes. -/
theorem eq_rule (a b c x y z : Int) (w : World) : (Op.equalIn 10000 33 (rl a b c) (rl x y z)).run Tryz.prog w = .ok (decide (a = x ∧ b = y ∧ c = z)) w := by
  have u3 := Tryz.underlying3
  have a3 := Tryz.isAgg3
  have z3 := Tryz.sizeOf3
  have hS : Tryz.prog.underlying 33 = some (.struct (Tryz.prog.fieldsOf 33)) := by kernel_rfl
  have hp : Tryz.prog.stoodInHeld 33 = false := by kernel_rfl
  rw [show (10000 : Nat) = 9999 + 1 from rfl, run_equalIn_agg w 9999 33 _ _ hS hp]
  simp only [Program.fieldsOf, Tryz.underlying33]
  go_simp
  by_cases h1 : a = x <;> by_cases h2 : b = y <;> by_cases h3 : c = z <;> simp [h1, h2, h3]
theorem eql_rule (a b c x y z : Int) (w : World) : (binOp .eql 33 (rl a b c) (rl x y z)).run Tryz.prog w = .ok (.bool (decide (a = x ∧ b = y ∧ c = z))) w := by
  rw [run_eql_struct, eq_rule]; rfl
theorem neq_rule (a b c x y z : Int) (w : World) : (binOp .neq 33 (rl a b c) (rl x y z)).run Tryz.prog w = .ok (.bool (!decide (a = x ∧ b = y ∧ c = z))) w := by
  rw [run_neq_struct, eq_rule]; rfl

theorem eq_rule' (d : Nat) (a b c x y z : Int) (w : World) : (Op.equalIn (d + 2) 33 (rl a b c) (rl x y z)).run Tryz.prog w = .ok (decide (a = x ∧ b = y ∧ c = z)) w := by
  have u3 := Tryz.underlying3
  have a3 := Tryz.isAgg3
  have z3 := Tryz.sizeOf3
  have hS : Tryz.prog.underlying 33 = some (.struct (Tryz.prog.fieldsOf 33)) := by kernel_rfl
  have hp : Tryz.prog.stoodInHeld 33 = false := by kernel_rfl
  rw [run_equalIn_agg w (d + 1) 33 _ _ hS hp]
  simp only [Program.fieldsOf, Tryz.underlying33]
  go_simp
  by_cases h1 : a = x <;> by_cases h2 : b = y <;> by_cases h3 : c = z <;> simp [h1, h2, h3]
theorem eq_chg (x y : Chg) (w : World) : (Op.equalIn 10000 67 (cvT x) (cvT y)).run Tryz.prog w = .ok (decide (x = y)) w := by
  obtain ⟨k, s, t, v, a, b, c⟩ := x
  obtain ⟨k', s', t', v', a', b', c'⟩ := y
  have u3 := Tryz.underlying3
  have a3 := Tryz.isAgg3
  have z3 := Tryz.sizeOf3
  have a23 := Tryz.isAgg33
  have z23 := Tryz.sizeOf33
  have hr := fun w => eq_rule' 9997 a b c a' b' c' w
  have hS : Tryz.prog.underlying 67 = some (.struct (Tryz.prog.fieldsOf 67)) := by kernel_rfl
  have hp : Tryz.prog.stoodInHeld 67 = false := by kernel_rfl
  show (Op.equalIn 10000 67 (cv k s t v a b c) (cv k' s' t' v' a' b' c')).run Tryz.prog w = _
  rw [show (10000 : Nat) = 9999 + 1 from rfl, run_equalIn_agg w 9999 67 _ _ hS hp]
  simp only [Program.fieldsOf, Tryz.underlying67]
  go_simp
  by_cases h1 : k = k' <;> by_cases h2 : s = s' <;> by_cases h3 : t = t' <;> by_cases h4 : v = v' <;> by_cases h5 : a = a' <;> by_cases h6 : b = b' <;> by_cases h7 : c = c' <;> simp [h1, h2, h3, h4, h5, h6, h7]
theorem neq_chg (x y : Chg) (w : World) : (binOp .neq 67 (cvT x) (cvT y)).run Tryz.prog w = .ok (.bool (!decide (x = y))) w := by
  obtain ⟨k, s, t, v, a, b, c⟩ := x
  obtain ⟨k', s', t', v', a', b', c'⟩ := y
  show (binOp .neq 67 (cv k s t v a b c) (cv k' s' t' v' a' b' c')).run Tryz.prog w = _
  rw [run_neq_struct]
  have := eq_chg (k, s, t, v, a, b, c) (k', s', t', v', a', b', c') w
  rw [show cvT (k, s, t, v, a, b, c) = cv k s t v a b c from rfl, show cvT (k', s', t', v', a', b', c') = cv k' s' t' v' a' b' c' from rfl] at this
  rw [this]; rfl

theorem rServer (x : Int) (w : World) : Calls Tryz.prog 70 #[.int .i64 x] w fun e w' => e = .returned (.bool (JM.isSrv x)) ∧ w = w' := by
  obtain ⟨R, hR⟩ : ∃ R, R = JM.isSrv x := ⟨_, rfl⟩
  rw [← hR]
  by_cases h1 : 1 ≤ x
  · by_cases h2 : x ≤ 12
    · have e := Lib.hid (show R = true by rw [hR]; exact decide_eq_true ⟨h1, h2⟩)
      clear hR
      go_enter Tryz.func70, Tryz.ntmps70
      go_wp2
      go_ret
      rw [e.out]; exact ⟨rfl, rfl⟩
    · have e := Lib.hid (show R = false by rw [hR]; exact decide_eq_false (by omega))
      have hd : decide (x ≤ 12) = false := decide_eq_false h2
      clear hR
      go_enter Tryz.func70, Tryz.ntmps70
      go_wp2
      go_ret
      rw [e.out]; exact ⟨rfl, rfl⟩
  · have e := Lib.hid (show R = false by rw [hR]; exact decide_eq_false (by omega))
    have h2' : x < 1 := by omega
    clear hR h1
    go_enter Tryz.func70, Tryz.ntmps70
    go_wp2
    go_ret
    rw [e.out]; exact ⟨rfl, rfl⟩
theorem rAdmin (x : Int) (w : World) : Calls Tryz.prog 83 #[.int .i64 x] w fun e w' => e = .returned (.bool (JM.isAdm x)) ∧ w = w' := by
  obtain ⟨R, hR⟩ : ∃ R, R = JM.isAdm x := ⟨_, rfl⟩
  rw [← hR]
  by_cases h1 : 201 ≤ x
  · by_cases h2 : x < 204
    · have e := Lib.hid (show R = true by rw [hR]; exact decide_eq_true ⟨h1, by omega⟩)
      clear hR
      go_enter Tryz.func83, Tryz.ntmps83
      go_wp2
      go_ret
      rw [e.out]; exact ⟨rfl, rfl⟩
    · have e := Lib.hid (show R = false by rw [hR]; exact decide_eq_false (by omega))
      have hd : decide (x < 204) = false := decide_eq_false h2
      clear hR
      go_enter Tryz.func83, Tryz.ntmps83
      go_wp2
      go_ret
      rw [e.out]; exact ⟨rfl, rfl⟩
  · have e := Lib.hid (show R = false by rw [hR]; exact decide_eq_false (by omega))
    have h2' : x < 201 := by omega
    clear hR h1
    go_enter Tryz.func83, Tryz.ntmps83
    go_wp2
    go_ret
    rw [e.out]; exact ⟨rfl, rfl⟩
/-- Package process: which numbers identify whom. -/
theorem cOneOf (x f n : Int) (hf : 0 ≤ f) (hf' : f ≤ 1000) (hn : 0 ≤ n) (hn' : n ≤ 1000) (w : World) : Calls Tryz.prog 146 #[.int .i64 x, .int .i64 f, .int .i64 n] w fun e w' => e = .returned (.bool (decide (f ≤ x ∧ x < f + n))) ∧ w = w' := by
  obtain ⟨R, hR⟩ : ∃ R, R = decide (f ≤ x ∧ x < f + n) := ⟨_, rfl⟩
  rw [← hR]
  by_cases h1 : f ≤ x
  · by_cases h2 : x < f + n
    · have e := Lib.hid (show R = true by rw [hR]; exact decide_eq_true ⟨h1, h2⟩)
      clear hR
      go_enter Tryz.func146, Tryz.ntmps146
      go_wp2
      go_ret
      rw [e.out]; exact ⟨rfl, rfl⟩
    · have e := Lib.hid (show R = false by rw [hR]; exact decide_eq_false (by omega))
      have hd : decide (x < f + n) = false := decide_eq_false h2
      clear hR
      go_enter Tryz.func146, Tryz.ntmps146
      go_wp2
      go_ret
      rw [e.out]; exact ⟨rfl, rfl⟩
  · have e := Lib.hid (show R = false by rw [hR]; exact decide_eq_false (by omega))
    have h2' : x < f := by omega
    clear hR h1
    go_enter Tryz.func146, Tryz.ntmps146
    go_wp2
    go_ret
    rw [e.out]; exact ⟨rfl, rfl⟩
theorem cAdmin (x : Int) (w : World) : Calls Tryz.prog 122 #[.int .i64 x] w fun e w' => e = .returned (.bool (JM.isAdm x)) ∧ w = w' := by
  obtain ⟨R, hR⟩ : ∃ R, R = JM.isAdm x := ⟨_, rfl⟩
  rw [← hR]
  have e := Lib.hid (show decide ((201 : Int) ≤ x ∧ x < 201 + 3) = R by rw [hR]; unfold JM.isAdm; exact decide_eq_decide.2 ⟨fun h => ⟨h.1, by omega⟩, fun h => ⟨h.1, by omega⟩⟩)
  have H : Hid (∀ w, Calls Tryz.prog 146 #[.int .i64 x, .int .i64 201, .int .i64 3] w fun e w' => e = .returned (.bool R) ∧ w = w') := fun w => (cOneOf x 201 3 (by decide) (by decide) (by decide) (by decide) w).mono (fun z w' h => ⟨by rw [h.1, e.out], h.2⟩)
  clear e
  clear hR
  go_enter Tryz.func122, Tryz.ntmps122
  go_wp2_with (go_at_call 146; refine (H.out _).mono ?_; rintro e w1 ⟨rfl, rfl⟩)
  go_ret
  exact ⟨rfl, rfl⟩

/-- What 'min' of integers gives. -/
def lo (m : Int) : Int := if m < 1 then m else 1
theorem cFits (n m : Int) (w : World) : Calls Tryz.prog 123 #[.int .i64 n, .int .i64 m] w fun e w' => e = .returned (.bool (JM.fit n m)) ∧ w = w' := by
  obtain ⟨R, hR⟩ : ∃ R, R = JM.fit n m := ⟨_, rfl⟩
  rw [← hR]
  by_cases h0 : m < 1
  · by_cases h1 : m ≤ n
    · by_cases h2 : n ≤ m
      · have e := Lib.hid (show R = true by rw [hR]; exact decide_eq_true ⟨by rw [if_pos h0]; exact h1, h2⟩)
        clear hR
        go_enter Tryz.func123, Tryz.ntmps123
        go_wp2
        go_ret
        rw [e.out]; exact ⟨rfl, rfl⟩
      · have e := Lib.hid (show R = false by rw [hR]; exact decide_eq_false (fun h => h2 h.2))
        have hd : decide (n ≤ m) = false := decide_eq_false h2
        clear hR
        go_enter Tryz.func123, Tryz.ntmps123
        go_wp2
        go_ret
        rw [e.out]; exact ⟨rfl, rfl⟩
    · have e := Lib.hid (show R = false by rw [hR]; exact decide_eq_false (fun h => h1 (by have := h.1; rw [if_pos h0] at this; exact this)))
      clear hR
      go_enter Tryz.func123, Tryz.ntmps123
      go_wp2
      go_ret
      rw [e.out]; exact ⟨rfl, rfl⟩
  · by_cases h1 : 1 ≤ n
    · by_cases h2 : n ≤ m
      · have e := Lib.hid (show R = true by rw [hR]; exact decide_eq_true ⟨by rw [if_neg h0]; exact h1, h2⟩)
        clear hR
        go_enter Tryz.func123, Tryz.ntmps123
        go_wp2
        go_ret
        rw [e.out]; exact ⟨rfl, rfl⟩
      · have e := Lib.hid (show R = false by rw [hR]; exact decide_eq_false (fun h => h2 h.2))
        have hd : decide (n ≤ m) = false := decide_eq_false h2
        clear hR
        go_enter Tryz.func123, Tryz.ntmps123
        go_wp2
        go_ret
        rw [e.out]; exact ⟨rfl, rfl⟩
    · have e := Lib.hid (show R = false by rw [hR]; exact decide_eq_false (fun h => h1 (by have := h.1; rw [if_neg h0] at this; exact this)))
      clear hR
      go_enter Tryz.func123, Tryz.ntmps123
      go_wp2
      go_ret
      rw [e.out]; exact ⟨rfl, rfl⟩

set_option maxHeartbeats 1000000 in
theorem cValRule (k c f : Int) (w : World) : Calls Tryz.prog 147 #[rl k c f] w fun e w' => e = .returned (.int .i64 (JM.errR k c f)) ∧ Below w.heap.size w w' := by
  obtain ⟨R, hR⟩ : ∃ R, R = JM.errR k c f := ⟨_, rfl⟩
  rw [← hR]
  have HR := Lib.hid hR
  clear hR
  go_enter Tryz.func147, Tryz.ntmps147
  go_wp2
  go_quiet (fail)
  go_wp2
  all_goals
    go_ret
    refine ⟨ret_int ?_, (below_fresh _ _).trans (below_drewN _ _ _)⟩
    rw [HR.out]
    clear HR
    unfold JM.errR
    simp only [beq_iff_eq, beq_eq_false_iff_ne, decide_eq_true_eq, decide_eq_false_iff_not, Bool.not_eq_true', Bool.not_eq_false', ne_eq] at *
    (repeat' split) <;> omega

set_option maxRecDepth 100000 in
set_option maxHeartbeats 1000000 in
theorem rValRule (k c f : Int) (w : World) : Calls Tryz.prog 69 #[rl k c f] w fun e w' => e = .returned (.int .i64 (JM.errR k c f)) ∧ Below w.heap.size w w' := by
  obtain ⟨R, hR⟩ : ∃ R, R = JM.errR k c f := ⟨_, rfl⟩
  rw [← hR]
  have HR := Lib.hid hR
  clear hR
  have hs := fun w => rServer c w
  obtain ⟨S, hS⟩ : ∃ S, S = JM.isSrv c := ⟨_, rfl⟩
  rw [← hS] at hs
  have HS := Lib.hid (show S = true ↔ 1 ≤ c ∧ c ≤ 12 by rw [hS]; exact JM.isSrv_iff)
  clear hS
  have HC := Lib.hid hs
  clear hs
  cases S
  all_goals
    go_enter Tryz.func69, Tryz.ntmps69
    go_wp2_with (go_at_call 70; refine (HC.out _).mono ?_; rintro e w1 ⟨rfl, rfl⟩)
    all_goals
      go_ret
      refine ⟨ret_int ?_, below_fresh _ _⟩
      rw [HR.out]
      have hx := HS.out
      simp only [true_iff, false_iff, reduceCtorEq] at hx
      clear HR HC HS
      unfold JM.errR
      simp only [bne_iff_ne, bne_eq_false_iff_eq, ne_eq] at *
      (repeat' split) <;> omega

end Go.Proofs.YthfpafnljnnndaaGreat

namespace Go.Proofs.YthfpafnljnnndaaGreat
open Go.RowKit
open JM (Chg)

theorem errC_kind {k s t v a b c : Int} (h : k < 1 ∨ 4 < k) : JM.errC k s t v a b c = 10 := by unfold JM.errC; rw [if_pos h]
theorem errC_of {k s t v a b c : Int} (h : ¬ (k < 1 ∨ 4 < k)) : JM.errC k s t v a b c = if JM.fit s (JM.srvOf k) = false then 9 else if JM.fit t (JM.wtOf k) = false then 9 else if JM.fit v (JM.verOf k) = false then 9 else if k = 4 then JM.errR a b c else if a = 0 ∧ b = 0 ∧ c = 0 then 0 else 2 := by
  unfold JM.errC; rw [if_neg h]

set_option maxRecDepth 100000 in
set_option maxHeartbeats 2000000 in
theorem cValChange (k s t v a b c : Int) (w : World) : Calls Tryz.prog 124 #[cv k s t v a b c] w fun e w' => e = .returned (.int .i64 (JM.errC k s t v a b c)) ∧ Below w.heap.size w w' := by
  obtain ⟨R, hR⟩ : ∃ R, R = JM.errC k s t v a b c := ⟨_, rfl⟩
  rw [← hR]
  have heq := eql_rule
  have hm : Tryz.prog.eqGuardType Tryz.prog.depth 33 = false := by kernel_rfl
  have hcase : (k < 1 ∨ 4 < k) ∨ k = 1 ∨ k = 2 ∨ k = 3 ∨ k = 4 := by omega
  rcases hcase with hk | rfl | rfl | rfl | rfl
  · have HR := Lib.hid (hR.trans (errC_kind hk))
    clear hR
    have m1 : (k == 1) = false := beq_f (by omega)
    have m2 : (k == 2) = false := beq_f (by omega)
    have m3 : (k == 3) = false := beq_f (by omega)
    have m4 : (k == 4) = false := beq_f (by omega)
    clear hk
    go_enter Tryz.func124, Tryz.ntmps124
    go_wp2
    go_ret
    rw [HR.out]
    exact ⟨rfl, below_fresh _ _⟩
  · have hR : R = if JM.fit s 12 = false then 9 else if JM.fit t 9 = false then 9 else if JM.fit v 0 = false then 9 else (if a = 0 ∧ b = 0 ∧ c = 0 then 0 else 2) := hR.trans (errC_of (by omega))
    have f1 := fun w => cFits s 12 w
    have f2 := fun w => cFits t 9 w
    have f3 := fun w => cFits v 0 w
    obtain ⟨Z, hZ, hd⟩ : ∃ Z : Int, Z = (if a = 0 ∧ b = 0 ∧ c = 0 then 0 else 2) ∧ ((decide (a = 0 ∧ b = 0 ∧ c = 0) = true ∧ Z = 0) ∨ (decide (a = 0 ∧ b = 0 ∧ c = 0) = false ∧ Z = 2)) := by
      by_cases hz : a = 0 ∧ b = 0 ∧ c = 0
      · exact ⟨0, (if_pos hz).symm, .inl ⟨decide_eq_true hz, rfl⟩⟩
      · exact ⟨2, (if_neg hz).symm, .inr ⟨decide_eq_false hz, rfl⟩⟩
    rw [← hZ] at hR
    clear hZ
    have hq := fun w => heq a b c 0 0 0 w
    clear heq
    rcases hd with ⟨hd, rfl⟩ | ⟨hd, rfl⟩
    all_goals
     rw [hd] at hq
     clear hd
     generalize JM.fit s 12 = B1 at hR f1
     generalize JM.fit t 9 = B2 at hR f2
     generalize JM.fit v 0 = B3 at hR f3
     have HR := Lib.hid hR
     have F1 := Lib.hid f1
     have F2 := Lib.hid f2
     have F3 := Lib.hid f3
     clear hR f1 f2 f3
     cases B1 <;> cases B2 <;> cases B3
     all_goals
       go_enter Tryz.func124, Tryz.ntmps124
       go_wp2_with (first | (go_at_call 123; refine (by first | with_reducible exact F1.out _ | with_reducible exact F2.out _ | with_reducible exact F3.out _ : Calls _ _ _ _ _).mono ?_; rintro e w1 ⟨rfl, rfl⟩))
       all_goals
         go_ret
         rw [HR.out]
         exact ⟨rfl, below_fresh _ _⟩
  · have hR : R = if JM.fit s 12 = false then 9 else if JM.fit t 0 = false then 9 else if JM.fit v 0 = false then 9 else (if a = 0 ∧ b = 0 ∧ c = 0 then 0 else 2) := hR.trans (errC_of (by omega))
    have f1 := fun w => cFits s 12 w
    have f2 := fun w => cFits t 0 w
    have f3 := fun w => cFits v 0 w
    obtain ⟨Z, hZ, hd⟩ : ∃ Z : Int, Z = (if a = 0 ∧ b = 0 ∧ c = 0 then 0 else 2) ∧ ((decide (a = 0 ∧ b = 0 ∧ c = 0) = true ∧ Z = 0) ∨ (decide (a = 0 ∧ b = 0 ∧ c = 0) = false ∧ Z = 2)) := by
      by_cases hz : a = 0 ∧ b = 0 ∧ c = 0
      · exact ⟨0, (if_pos hz).symm, .inl ⟨decide_eq_true hz, rfl⟩⟩
      · exact ⟨2, (if_neg hz).symm, .inr ⟨decide_eq_false hz, rfl⟩⟩
    rw [← hZ] at hR
    clear hZ
    have hq := fun w => heq a b c 0 0 0 w
    clear heq
    rcases hd with ⟨hd, rfl⟩ | ⟨hd, rfl⟩
    all_goals
     rw [hd] at hq
     clear hd
     generalize JM.fit s 12 = B1 at hR f1
     generalize JM.fit t 0 = B2 at hR f2
     generalize JM.fit v 0 = B3 at hR f3
     have HR := Lib.hid hR
     have F1 := Lib.hid f1
     have F2 := Lib.hid f2
     have F3 := Lib.hid f3
     clear hR f1 f2 f3
     cases B1 <;> cases B2 <;> cases B3
     all_goals
       go_enter Tryz.func124, Tryz.ntmps124
       go_wp2_with (first | (go_at_call 123; refine (by first | with_reducible exact F1.out _ | with_reducible exact F2.out _ | with_reducible exact F3.out _ : Calls _ _ _ _ _).mono ?_; rintro e w1 ⟨rfl, rfl⟩))
       all_goals
         go_ret
         rw [HR.out]
         exact ⟨rfl, below_fresh _ _⟩
  · have hR : R = if JM.fit s 12 = false then 9 else if JM.fit t 9 = false then 9 else if JM.fit v 1000 = false then 9 else (if a = 0 ∧ b = 0 ∧ c = 0 then 0 else 2) := hR.trans (errC_of (by omega))
    have f1 := fun w => cFits s 12 w
    have f2 := fun w => cFits t 9 w
    have f3 := fun w => cFits v 1000 w
    obtain ⟨Z, hZ, hd⟩ : ∃ Z : Int, Z = (if a = 0 ∧ b = 0 ∧ c = 0 then 0 else 2) ∧ ((decide (a = 0 ∧ b = 0 ∧ c = 0) = true ∧ Z = 0) ∨ (decide (a = 0 ∧ b = 0 ∧ c = 0) = false ∧ Z = 2)) := by
      by_cases hz : a = 0 ∧ b = 0 ∧ c = 0
      · exact ⟨0, (if_pos hz).symm, .inl ⟨decide_eq_true hz, rfl⟩⟩
      · exact ⟨2, (if_neg hz).symm, .inr ⟨decide_eq_false hz, rfl⟩⟩
    rw [← hZ] at hR
    clear hZ
    have hq := fun w => heq a b c 0 0 0 w
    clear heq
    rcases hd with ⟨hd, rfl⟩ | ⟨hd, rfl⟩
    all_goals
     rw [hd] at hq
     clear hd
     generalize JM.fit s 12 = B1 at hR f1
     generalize JM.fit t 9 = B2 at hR f2
     generalize JM.fit v 1000 = B3 at hR f3
     have HR := Lib.hid hR
     have F1 := Lib.hid f1
     have F2 := Lib.hid f2
     have F3 := Lib.hid f3
     clear hR f1 f2 f3
     cases B1 <;> cases B2 <;> cases B3
     all_goals
       go_enter Tryz.func124, Tryz.ntmps124
       go_wp2_with (first | (go_at_call 123; refine (by first | with_reducible exact F1.out _ | with_reducible exact F2.out _ | with_reducible exact F3.out _ : Calls _ _ _ _ _).mono ?_; rintro e w1 ⟨rfl, rfl⟩))
       all_goals
         go_ret
         rw [HR.out]
         exact ⟨rfl, below_fresh _ _⟩
  · have hR : R = if JM.fit s 0 = false then 9 else if JM.fit t 0 = false then 9 else if JM.fit v 1000 = false then 9 else JM.errR a b c := hR.trans (errC_of (by omega))
    have f1 := fun w => cFits s 0 w
    have f2 := fun w => cFits t 0 w
    have f3 := fun w => cFits v 1000 w
    have hv := fun w => cValRule a b c w
    generalize JM.errR a b c = ER at hR hv
    have HV := Lib.hid hv
    clear hv heq
    generalize JM.fit s 0 = B1 at hR f1
    generalize JM.fit t 0 = B2 at hR f2
    generalize JM.fit v 1000 = B3 at hR f3
    have HR := Lib.hid hR
    have F1 := Lib.hid f1
    have F2 := Lib.hid f2
    have F3 := Lib.hid f3
    clear hR f1 f2 f3
    cases B1 <;> cases B2 <;> cases B3
    all_goals
      go_enter Tryz.func124, Tryz.ntmps124
      go_wp2_with (first | (go_at_call 123; refine (by first | with_reducible exact F1.out _ | with_reducible exact F2.out _ | with_reducible exact F3.out _ : Calls _ _ _ _ _).mono ?_; rintro e w1 ⟨rfl, rfl⟩) | (go_at_call 147; refine (HV.out _).mono ?_; rintro e w2 ⟨rfl, hb2⟩))
      all_goals
        go_ret
        rw [HR.out]
        exact ⟨rfl, (by first | exact below_fresh _ _ | exact bnext (below_fresh _ _) hb2)⟩

end Go.Proofs.YthfpafnljnnndaaGreat

namespace Go.Proofs.YthfpafnljnnndaaGreat
open Go.RowKit
open JM (Chg)

theorem fit_pos {n m : Int} (h : 1 ≤ m) : (JM.fit n m = false) = (n < 1 ∨ m < n) := by
  unfold JM.fit; rw [if_neg (by omega), decide_eq_false_iff_not]; exact propext (by omega)
theorem fit_zero {n : Int} : (JM.fit n 0 = false) = (n ≠ 0) := by
  unfold JM.fit; rw [if_pos (by omega), decide_eq_false_iff_not]; exact propext (by omega)

set_option maxRecDepth 100000 in
set_option maxHeartbeats 4000000 in
theorem rValChange (k s t v a b c : Int) (w : World) : Calls Tryz.prog 84 #[cv k s t v a b c] w fun e w' => e = .returned (.int .i64 (JM.errC k s t v a b c)) ∧ Below w.heap.size w w' := by
  obtain ⟨R, hR⟩ : ∃ R, R = JM.errC k s t v a b c := ⟨_, rfl⟩
  rw [← hR]
  have hneq := fun w => neq_rule a b c 0 0 0 w
  obtain ⟨Z, hZ⟩ : ∃ Z : Bool, Z = decide (a = 0 ∧ b = 0 ∧ c = 0) := ⟨_, rfl⟩
  rw [← hZ] at hneq
  have HZ := Lib.hid (show Z = true ↔ a = 0 ∧ b = 0 ∧ c = 0 by rw [hZ]; exact decide_eq_true_iff)
  clear hZ
  have hv := fun w => rValRule a b c w
  have hs := fun w => rServer s w
  obtain ⟨S, hS⟩ : ∃ S, S = JM.isSrv s := ⟨_, rfl⟩
  rw [← hS] at hs
  have HS := Lib.hid (show S = true ↔ 1 ≤ s ∧ s ≤ 12 by rw [hS]; exact JM.isSrv_iff)
  have HC := Lib.hid hs
  clear hS hs
  have hm : Tryz.prog.eqGuardType Tryz.prog.depth 33 = false := by kernel_rfl
  have hcase : (k < 1 ∨ 4 < k) ∨ k = 1 ∨ k = 2 ∨ k = 3 ∨ k = 4 := by omega
  rcases hcase with hk | rfl | rfl | rfl | rfl
  · have HR := Lib.hid (hR.trans (errC_kind hk))
    clear hR
    have m1 : (k == 1) = false := beq_f (by omega)
    have m2 : (k == 2) = false := beq_f (by omega)
    have m3 : (k == 3) = false := beq_f (by omega)
    have m4 : (k == 4) = false := beq_f (by omega)
    clear hk
    go_enter Tryz.func84, Tryz.ntmps84
    go_wp2
    go_quiet (fail)
    go_wp2
    go_ret
    rw [HR.out]
    exact ⟨rfl, (below_fresh _ _).trans (below_drewN _ _ _)⟩
  · have hR2 : R = if s < 1 ∨ 12 < s then 9 else if t < 1 ∨ 9 < t then 9 else if v ≠ 0 then 9 else if a = 0 ∧ b = 0 ∧ c = 0 then 0 else 2 := by
      refine hR.trans ((errC_of (by omega)).trans ?_)
      show (if JM.fit s 12 = false then _ else if JM.fit t 9 = false then _ else if JM.fit v 0 = false then _ else _) = _
      (try simp only [fit_pos, Int.reduceLE])
      (try simp only [fit_zero])
      rfl
    have HR := Lib.hid hR2
    clear hR hR2
    cases S <;> cases Z
    all_goals
      go_enter Tryz.func84, Tryz.ntmps84
      go_wp2
      go_quiet (fail)
      go_wp2_with (go_at_call 70; refine (HC.out _).mono ?_; rintro e w1 ⟨rfl, rfl⟩)
      all_goals
        go_ret
        refine ⟨ret_int ?_, by first | exact (below_fresh _ _).trans (below_drewN _ _ _) | exact bnext ((below_fresh _ _).trans (below_drewN _ _ _)) hb2⟩
        rw [HR.out]
        have hz := HZ.out
        have hx := HS.out
        (try simp only [true_iff, false_iff, reduceCtorEq] at hz hx)
        clear HR HC HS HZ
        (try simp only [bne_iff_ne, bne_eq_false_iff_eq, ne_eq] at *)
        (repeat' split) <;> omega
  · have hR2 : R = if s < 1 ∨ 12 < s then 9 else if t ≠ 0 then 9 else if v ≠ 0 then 9 else if a = 0 ∧ b = 0 ∧ c = 0 then 0 else 2 := by
      refine hR.trans ((errC_of (by omega)).trans ?_)
      show (if JM.fit s 12 = false then _ else if JM.fit t 0 = false then _ else if JM.fit v 0 = false then _ else _) = _
      (try simp only [fit_pos, Int.reduceLE])
      (try simp only [fit_zero])
      rfl
    have HR := Lib.hid hR2
    clear hR hR2
    cases S <;> cases Z
    all_goals
      go_enter Tryz.func84, Tryz.ntmps84
      go_wp2
      go_quiet (fail)
      go_wp2_with (go_at_call 70; refine (HC.out _).mono ?_; rintro e w1 ⟨rfl, rfl⟩)
      all_goals
        go_ret
        refine ⟨ret_int ?_, by first | exact (below_fresh _ _).trans (below_drewN _ _ _) | exact bnext ((below_fresh _ _).trans (below_drewN _ _ _)) hb2⟩
        rw [HR.out]
        have hz := HZ.out
        have hx := HS.out
        (try simp only [true_iff, false_iff, reduceCtorEq] at hz hx)
        clear HR HC HS HZ
        (try simp only [bne_iff_ne, bne_eq_false_iff_eq, ne_eq] at *)
        (repeat' split) <;> omega
  · have hR2 : R = if s < 1 ∨ 12 < s then 9 else if t < 1 ∨ 9 < t then 9 else if v < 1 ∨ 1000 < v then 9 else if a = 0 ∧ b = 0 ∧ c = 0 then 0 else 2 := by
      refine hR.trans ((errC_of (by omega)).trans ?_)
      show (if JM.fit s 12 = false then _ else if JM.fit t 9 = false then _ else if JM.fit v 1000 = false then _ else _) = _
      (try simp only [fit_pos, Int.reduceLE])
      (try simp only [fit_zero])
      rfl
    have HR := Lib.hid hR2
    clear hR hR2
    cases S <;> cases Z
    all_goals
      go_enter Tryz.func84, Tryz.ntmps84
      go_wp2
      go_quiet (fail)
      go_wp2_with (go_at_call 70; refine (HC.out _).mono ?_; rintro e w1 ⟨rfl, rfl⟩)
      all_goals
        go_ret
        refine ⟨ret_int ?_, by first | exact (below_fresh _ _).trans (below_drewN _ _ _) | exact bnext ((below_fresh _ _).trans (below_drewN _ _ _)) hb2⟩
        rw [HR.out]
        have hz := HZ.out
        have hx := HS.out
        (try simp only [true_iff, false_iff, reduceCtorEq] at hz hx)
        clear HR HC HS HZ
        (try simp only [bne_iff_ne, bne_eq_false_iff_eq, ne_eq] at *)
        (repeat' split) <;> omega
  · have hR2 : R = if s ≠ 0 then 9 else if t ≠ 0 then 9 else if v < 1 ∨ 1000 < v then 9 else JM.errR a b c := by
      refine hR.trans ((errC_of (by omega)).trans ?_)
      show (if JM.fit s 0 = false then _ else if JM.fit t 0 = false then _ else if JM.fit v 1000 = false then _ else _) = _
      (try simp only [fit_pos, Int.reduceLE])
      (try simp only [fit_zero])
      rfl
    have HR := Lib.hid hR2
    clear hR hR2
    generalize JM.errR a b c = ER at HR hv
    have HV := Lib.hid hv
    clear hv hneq
    go_enter Tryz.func84, Tryz.ntmps84
    go_wp2
    go_quiet (fail)
    go_wp2_with (go_at_call 69; refine (HV.out _).mono ?_; rintro e w2 ⟨rfl, hb2⟩)
    all_goals
      go_ret
      refine ⟨ret_int ?_, by first | exact (below_fresh _ _).trans (below_drewN _ _ _) | exact bnext ((below_fresh _ _).trans (below_drewN _ _ _)) hb2⟩
      rw [HR.out]
      have hz := HZ.out
      have hx := HS.out
      (try simp only [true_iff, false_iff, reduceCtorEq] at hz hx)
      clear HR HC HS HZ
      (try simp only [bne_iff_ne, bne_eq_false_iff_eq, ne_eq] at *)
      (repeat' split) <;> omega

end Go.Proofs.YthfpafnljnnndaaGreat

namespace Go.Proofs.YthfpafnljnnndaaGreat
open Go.RowKit Go.Shelf
open JM (Chg)

set_option maxRecDepth 100000 in
set_option maxHeartbeats 1000000 in
theorem cSim (g : Nat) (k s : Int) (k' s' t' v' a' b' c' : Int) (w : World) (h0 : w.cell? ⟨g, 0, none⟩ = some (.int .i64 k)) (h1 : w.cell? ⟨g, 1, none⟩ = some (.int .i64 s)) :
    Calls Tryz.prog 149 #[cv k' s' t' v' a' b' c', .pointer (some ⟨g, 0, none⟩)] w fun e w' => e = .returned (.bool (k' == k && s' == s)) ∧ Below w.heap.size w w' := by
  have hb := below_fresh w (.cells #[.int .i64 k', .int .i64 s', .int .i64 t', .int .i64 v', .int .i64 a', .int .i64 b', .int .i64 c'] 67)
  have d0 := below_cell hb h0
  have d1 := below_cell hb h1
  clear h0 h1
  cases hk : (k' == k)
  · go_enter Tryz.func149, Tryz.ntmps149
    go_wp2
    go_ret
    exact ⟨rfl, hb⟩
  · cases hs : (s' == s)
    all_goals
      go_enter Tryz.func149, Tryz.ntmps149
      go_wp2
      go_ret
      exact ⟨rfl, hb⟩

set_option maxRecDepth 100000 in
set_option maxHeartbeats 1000000 in
theorem cIndexFunc (v : Value) (xs : List Chg) (x : Chg) (g : Nat) (w : World) (h : RdC w v xs) (h0 : w.cell? ⟨g, 0, none⟩ = some (.int .i64 x.1)) (h1 : w.cell? ⟨g, 1, none⟩ = some (.int .i64 x.2.1)) :
    Calls Tryz.prog 165 #[v, .func (.func 149) #[] #[.pointer (some ⟨g, 0, none⟩)]] w fun e w' => ∃ r : Int, e = .returned (.int .i64 r) ∧ decide (0 ≤ r) = xs.any (fun y => JM.sim y x) ∧ Below w.heap.size w w' := by
  have eF := enters_of Tryz.func149 (by kernel_rfl) rfl
  obtain ⟨ad, c, rfl, hc, hl⟩ := h.shape
  obtain ⟨R, hR⟩ : ∃ R, R = xs.any (fun y => JM.sim y x) := ⟨_, rfl⟩
  rw [← hR]
  have HR := Lib.hid hR
  have HX := Lib.hid h
  have H0 := Lib.hid h0
  have H1 := Lib.hid h1
  clear hR h h0 h1
  go_enter Tryz.func165, Tryz.ntmps165
  go_wp2
  go_loopw [8] (fun i wr => ∃ k : Nat, k ≤ xs.length ∧ i = .int .i64 k ∧ Below w.heap.size w wr ∧ Hid (R = (xs.drop k).any (fun y => JM.sim y x))) (fun i _ => xs.length - (intOf i).toNat)
  case atStart => exact ⟨0, Nat.zero_le _, rfl, Below.refl _ _, HR.out⟩
  case round =>
    obtain ⟨k, hk, rfl, hbl, he⟩ := hrel
    by_cases hlt : k < xs.length
    · have hq : (k : Int) < (xs.length : Int) := by omega
      have hdx := Lib.hid (drop_get hlt)
      have hat := List.getElem?_eq_getElem hlt
      generalize xs[k] = y at hdx hat
      obtain ⟨k', s', t', v', a', b', c'⟩ := y
      obtain ⟨b, o, hi, hb, d0, d1, d2, d3, d4, d5, d6⟩ := atC (HX.out.below hbl) k _ _ _ _ _ _ _ hat
      have hS := Lib.hid (cSim g x.1 x.2.1 k' s' t' v' a' b' c' wr (below_cell hbl H0.out) (below_cell hbl H1.out))
      have e2 := Lib.hid (show R = ((k' == x.1 && s' == x.2.1) || (xs.drop (k + 1)).any (fun y => JM.sim y x)) by rw [he.out, hdx.out]; rfl)
      clear he hdx hat
      generalize (k' == x.1 && s' == x.2.1) = B at hS e2
      cases B
      · have e3 := Lib.hid (show R = (xs.drop (k + 1)).any (fun y => JM.sim y x) by rw [e2.out, Bool.false_or])
        clear e2
        go_wp2_with (go_at_call 149; refine hS.out.mono ?_; rintro e w4 ⟨rfl, h4⟩)
        go_roundw
        case rel => exact ⟨k + 1, by omega, by go_num, bnext hbl h4, e3⟩
        case measure => simp [intOf]; omega
      · have e3 := Lib.hid (show R = true by rw [e2.out, Bool.true_or])
        clear e2
        go_wp2_with (go_at_call 149; refine hS.out.mono ?_; rintro e w4 ⟨rfl, h4⟩)
        go_ret
        exact ⟨_, rfl, by rw [e3.out]; exact decide_eq_true (by omega), bnext hbl h4⟩
    · have hq : ¬ ((k : Int) < (xs.length : Int)) := by omega
      have e2 := Lib.hid (show R = false by rw [he.out, List.drop_of_length_le (by omega)]; rfl)
      clear he HR
      go_wp2
      go_ret
      exact ⟨_, rfl, by rw [e2.out]; rfl, hbl⟩

set_option maxRecDepth 100000 in
set_option maxHeartbeats 1000000 in
theorem cContainsFunc (v : Value) (xs : List Chg) (x : Chg) (g : Nat) (w : World) (h : RdC w v xs) (h0 : w.cell? ⟨g, 0, none⟩ = some (.int .i64 x.1)) (h1 : w.cell? ⟨g, 1, none⟩ = some (.int .i64 x.2.1)) :
    Calls Tryz.prog 148 #[v, .func (.func 149) #[] #[.pointer (some ⟨g, 0, none⟩)]] w fun e w' => e = .returned (.bool (xs.any (fun y => JM.sim y x))) ∧ Below w.heap.size w w' := by
  have HI := Lib.hid (cIndexFunc v xs x g w h h0 h1)
  generalize xs.any (fun y => JM.sim y x) = R at HI
  clear h h0 h1
  go_enter Tryz.func148, Tryz.ntmps148
  go_wp2_with fail
  refine HI.out.mono ?_
  rintro e w1 ⟨r, rfl, hr, hb⟩
  clear HI
  go_wp2
  go_ret
  exact ⟨rfl, hb⟩

set_option maxRecDepth 100000 in
set_option maxHeartbeats 1000000 in
theorem cRepeats (x : Chg) (v : Value) (xs : List Chg) (w : World) (h : RdC w v xs) :
    Calls Tryz.prog 125 #[cvT x, v] w fun e w' => e = .returned (.bool (xs.any (fun y => JM.sim y x))) ∧ Below w.heap.size w w' := by
  have hmf : ∀ (fn : Fn) (first cap : Array Value) (w : World), (Instr.makeFunc fn first cap).run Tryz.prog w = .ok (.func fn first cap) w := fun _ _ _ _ => rfl
  obtain ⟨k, s, t, y, a, b, c⟩ := x
  have hb := below_fresh w (.cells #[.int .i64 k, .int .i64 s, .int .i64 t, .int .i64 y, .int .i64 a, .int .i64 b, .int .i64 c] 67)
  have HC := Lib.hid (cContainsFunc v xs (k, s, t, y, a, b, c) w.heap.size (w.alloc (.cells #[.int .i64 k, .int .i64 s, .int .i64 t, .int .i64 y, .int .i64 a, .int .i64 b, .int .i64 c] 67)) (h.below hb) (by simp [World.cell?_alloc_new]) (by simp [World.cell?_alloc_new]))
  obtain ⟨ad, cp, rfl, hc, hl⟩ := h.shape
  have HB := Lib.hid hb
  clear h hb
  generalize xs.any (fun y_1 => JM.sim y_1 (k, s, t, y, a, b, c)) = R at HC
  show Calls Tryz.prog 125 #[cv k s t y a b c, _] w _
  go_enter Tryz.func125, Tryz.ntmps125
  go_wp2_with fail
  refine HC.out.mono ?_
  rintro e w1 ⟨rfl, hb1⟩
  go_wp2
  go_ret
  exact ⟨rfl, bnext HB.out hb1⟩

end Go.Proofs.YthfpafnljnnndaaGreat

namespace Go.Proofs.YthfpafnljnnndaaGreat
open Go.RowKit
open JM (Chg)

/-- Block g holds a proposal by value. -/
def PBox (w : World) (g : Nat) (a n : Int) (sv : Value) : Prop :=
  w.cell? ⟨g, 0, none⟩ = some (.int .i64 a) ∧ w.cell? ⟨g, 1, none⟩ = some (.int .i64 n) ∧ w.cell? ⟨g, 2, none⟩ = some sv
theorem PBox.fresh (w : World) (a n : Int) (sv : Value) : PBox (w.alloc (.cells #[.int .i64 a, .int .i64 n, sv] 70)) w.heap.size a n sv := by
  refine ⟨?_, ?_, ?_⟩ <;> simp [World.cell?_alloc_new]
theorem PBox.below {w w' : World} {g : Nat} {a n : Int} {sv : Value} (h : PBox w g a n sv) (hb : Below w.heap.size w w') : PBox w' g a n sv :=
  ⟨below_cell hb h.1, below_cell hb h.2.1, below_cell hb h.2.2⟩
/-- Block g holds a change by value. -/
def CBox (w : World) (g : Nat) (k s t v a b c : Int) : Prop :=
  w.cell? ⟨g, 0, none⟩ = some (.int .i64 k) ∧ w.cell? ⟨g, 1, none⟩ = some (.int .i64 s) ∧ w.cell? ⟨g, 2, none⟩ = some (.int .i64 t) ∧ w.cell? ⟨g, 3, none⟩ = some (.int .i64 v) ∧
  w.cell? ⟨g, 4, none⟩ = some (.int .i64 a) ∧ w.cell? ⟨g, 5, none⟩ = some (.int .i64 b) ∧ w.cell? ⟨g, 6, none⟩ = some (.int .i64 c)
theorem CBox.fresh (w : World) (k s t v a b c : Int) : CBox (w.alloc (.cells #[.int .i64 k, .int .i64 s, .int .i64 t, .int .i64 v, .int .i64 a, .int .i64 b, .int .i64 c] 67)) w.heap.size k s t v a b c := by
  refine ⟨?_, ?_, ?_, ?_, ?_, ?_, ?_⟩ <;> simp [World.cell?_alloc_new]
theorem CBox.below {w w' : World} {g : Nat} {k s t v a b c : Int} (h : CBox w g k s t v a b c) (hb : Below w.heap.size w w') : CBox w' g k s t v a b c :=
  ⟨below_cell hb h.1, below_cell hb h.2.1, below_cell hb h.2.2.1, below_cell hb h.2.2.2.1, below_cell hb h.2.2.2.2.1, below_cell hb h.2.2.2.2.2.1, below_cell hb h.2.2.2.2.2.2⟩

theorem errP_range {a n : Int} {cs : List Chg} (h : JM.isAdm a = false ∨ JM.fit n 3 = false) : JM.errP a n cs = 9 := by
  unfold JM.errP
  rcases h with h | h
  · rw [if_pos (.inl h)]
  · rw [if_pos]
    unfold JM.fit at h
    rw [decide_eq_false_iff_not] at h
    simp only [Int.reduceLT, if_false] at h
    omega
theorem errP_of {a n : Int} {cs : List Chg} (h : JM.isAdm a = true) (h2 : JM.fit n 3 = true) : JM.errP a n cs = if cs = [] then 2 else if 6 < cs.length then 3 else JM.errS [] cs := by
  unfold JM.errP
  rw [if_neg]
  unfold JM.fit at h2
  rw [decide_eq_true_eq] at h2
  simp only [Int.reduceLT, if_false] at h2
  rw [h]
  simp
  omega
theorem errS_cons (d : List Chg) (x : Chg) (r : List Chg) : JM.errS d (x :: r) = if JM.errCh x ≠ 0 then JM.errCh x else if d.any (fun y => JM.sim y x) = true then 5 else JM.errS (d ++ [x]) r := rfl

set_option maxRecDepth 100000 in
set_option maxHeartbeats 2000000 in
theorem cValidate (a n : Int) (v : Value) (cs : List Chg) (w : World) (h : RdC w v cs) :
    Calls Tryz.prog 93 #[pv a n v] w fun e w' => e = .returned (.int .i64 (JM.errP a n cs)) ∧ Below w.heap.size w w' := by
  obtain ⟨ad, cp, rfl, hc, hl⟩ := h.shape
  obtain ⟨R, hR⟩ : ∃ R, R = JM.errP a n cs := ⟨_, rfl⟩
  rw [← hR]
  have ha := fun w => cAdmin a w
  have hn := fun w => cFits n 3 w
  obtain ⟨A, hA⟩ : ∃ A, A = JM.isAdm a := ⟨_, rfl⟩
  obtain ⟨F, hF⟩ : ∃ F, F = JM.fit n 3 := ⟨_, rfl⟩
  rw [← hA] at ha
  rw [← hF] at hn
  have HA := Lib.hid ha
  have HN := Lib.hid hn
  clear ha hn
  have hb0 := below_fresh w (.cells #[.int .i64 a, .int .i64 n, .slice ad cs.length cp] 70)
  cases A
  · have HR := Lib.hid (hR.trans (errP_range (.inl hA.symm)))
    clear hR hA hF h
    go_enter Tryz.func93, Tryz.ntmps93
    go_wp2_with (go_at_call 122; refine (HA.out _).mono ?_; rintro e w1 ⟨rfl, rfl⟩)
    go_ret
    rw [HR.out]
    exact ⟨rfl, hb0⟩
  cases F
  · have HR := Lib.hid (hR.trans (errP_range (.inr hF.symm)))
    clear hR hA hF h
    go_enter Tryz.func93, Tryz.ntmps93
    go_wp2_with (first | (go_at_call 122; refine (HA.out _).mono ?_; rintro e w1 ⟨rfl, rfl⟩) | (go_at_call 123; refine (HN.out _).mono ?_; rintro e w1 ⟨rfl, rfl⟩))
    go_ret
    rw [HR.out]
    exact ⟨rfl, hb0⟩
  have hR2 := hR.trans (errP_of hA.symm hF.symm)
  clear hR hA hF
  have HX := Lib.hid h
  clear h
  by_cases h0 : cs = []
  · have HR := Lib.hid (hR2.trans (if_pos h0))
    have hz : ((cs.length : Int) == 0) = true := by rw [h0]; rfl
    clear hR2 h0
    go_enter Tryz.func93, Tryz.ntmps93
    go_wp2_with (first | (go_at_call 122; refine (HA.out _).mono ?_; rintro e w1 ⟨rfl, rfl⟩) | (go_at_call 123; refine (HN.out _).mono ?_; rintro e w1 ⟨rfl, rfl⟩))
    go_ret
    rw [HR.out]
    exact ⟨rfl, hb0⟩
  rw [if_neg h0] at hR2
  have hz : ((cs.length : Int) == 0) = false := beq_f (by have := List.length_pos_iff.2 h0; omega)
  clear h0
  by_cases h6 : 6 < cs.length
  · have HR := Lib.hid (hR2.trans (if_pos h6))
    have hz : (6 : Int) < (cs.length : Int) := by omega
    clear hR2 h6
    go_enter Tryz.func93, Tryz.ntmps93
    go_wp2_with (first | (go_at_call 122; refine (HA.out _).mono ?_; rintro e w1 ⟨rfl, rfl⟩) | (go_at_call 123; refine (HN.out _).mono ?_; rintro e w1 ⟨rfl, rfl⟩))
    go_ret
    rw [HR.out]
    exact ⟨rfl, hb0⟩
  rw [if_neg h6] at hR2
  have h6' : ¬ (6 : Int) < (cs.length : Int) := by omega
  have HR := Lib.hid hR2
  have HX0 := Lib.hid (HX.out.below hb0)
  have HP0 := Lib.hid (PBox.fresh w a n (.slice ad cs.length cp))
  have HB0 := Lib.hid hb0
  clear hR2 h6 hb0 HX
  go_enter Tryz.func93, Tryz.ntmps93
  go_wp2_with (first | (go_at_call 122; refine (HA.out _).mono ?_; rintro e w1 ⟨rfl, rfl⟩) | (go_at_call 123; refine (HN.out _).mono ?_; rintro e w1 ⟨rfl, rfl⟩))
  clear HA HN
  generalize w.alloc (.cells #[.int .i64 a, .int .i64 n, .slice ad cs.length cp] 70) = w0 at HX0 HP0 HB0 ⊢
  go_loopw [30] (fun i wr => ∃ k : Nat, k ≤ cs.length ∧ i = .int .i64 k ∧ Below w0.heap.size w0 wr ∧ Hid (R = JM.errS (cs.take k) (cs.drop k))) (fun i _ => cs.length - (intOf i).toNat)
  case atStart => exact ⟨0, Nat.zero_le _, rfl, Below.refl _ _, HR.out⟩
  case round =>
    obtain ⟨k, hk, rfl, hbl, he⟩ := hrel
    by_cases hlt : k < cs.length
    · have hq : (k : Int) < (cs.length : Int) := by omega
      have hdx := Lib.hid (drop_get hlt)
      have htk := Lib.hid (List.take_append_getElem hlt)
      have hat := List.getElem?_eq_getElem hlt
      generalize cs[k] = y at hdx hat htk
      obtain ⟨k', s', t', v', a', b', c'⟩ := y
      obtain ⟨b, o, hi, hb, d0, d1, d2, d3, d4, d5, d6⟩ := atC (HX0.out.below hbl) k _ _ _ _ _ _ _ hat
      have e2 := Lib.hid (show R = if JM.errCh (k', s', t', v', a', b', c') ≠ 0 then JM.errCh (k', s', t', v', a', b', c') else if (cs.take k).any (fun y => JM.sim y (k', s', t', v', a', b', c')) = true then 5 else JM.errS (cs.take (k + 1)) (cs.drop (k + 1)) by rw [he.out, hdx.out, errS_cons, htk.out])
      clear he hdx hat htk
      have hbn := below_fresh wr (.cells #[.int .i64 k', .int .i64 s', .int .i64 t', .int .i64 v', .int .i64 a', .int .i64 b', .int .i64 c'] 67)
      have HV := Lib.hid (fun w => cValChange k' s' t' v' a' b' c' w)
      have hec : JM.errCh (k', s', t', v', a', b', c') = JM.errC k' s' t' v' a' b' c' := rfl
      rw [hec] at e2
      generalize JM.errC k' s' t' v' a' b' c' = ec at HV e2
      have HCB := Lib.hid (CBox.fresh wr k' s' t' v' a' b' c')
      have HBN := Lib.hid (bnext hbl hbn)
      clear hbn
      by_cases hec0 : ec = 0
      · subst hec0
        have e2 := Lib.hid (e2.out.trans (if_neg (fun h => h rfl)))
        go_wp2_with (go_at_call 124; refine (HV.out _).mono ?_; rintro e w1 ⟨rfl, hb1⟩)
        have HC1 := Lib.hid (HCB.out.below hb1)
        have HB1 := Lib.hid (bnext HBN.out hb1)
        clear hb1 HCB HBN HV
        have HP1 := Lib.hid (HP0.out.below HB1.out)
        obtain ⟨v2, hcut, hrd⟩ := (HX0.out.below HB1.out).cut0 chgE k (by omega)
        have c0 : ∀ p : Later w1, p.val.cell? ⟨wr.heap.size, 0, none⟩ = some (.int .i64 k') := fun p => (HC1.out.below p.h).1
        have c1 : ∀ p : Later w1, p.val.cell? ⟨wr.heap.size, 1, none⟩ = some (.int .i64 s') := fun p => (HC1.out.below p.h).2.1
        have c2 : ∀ p : Later w1, p.val.cell? ⟨wr.heap.size, 2, none⟩ = some (.int .i64 t') := fun p => (HC1.out.below p.h).2.2.1
        have c3 : ∀ p : Later w1, p.val.cell? ⟨wr.heap.size, 3, none⟩ = some (.int .i64 v') := fun p => (HC1.out.below p.h).2.2.2.1
        have c4 : ∀ p : Later w1, p.val.cell? ⟨wr.heap.size, 4, none⟩ = some (.int .i64 a') := fun p => (HC1.out.below p.h).2.2.2.2.1
        have c5 : ∀ p : Later w1, p.val.cell? ⟨wr.heap.size, 5, none⟩ = some (.int .i64 b') := fun p => (HC1.out.below p.h).2.2.2.2.2.1
        have c6 : ∀ p : Later w1, p.val.cell? ⟨wr.heap.size, 6, none⟩ = some (.int .i64 c') := fun p => (HC1.out.below p.h).2.2.2.2.2.2
        have p2 : ∀ p : Later w1, p.val.cell? ⟨w.heap.size, 2, none⟩ = some (.slice ad cs.length cp) := fun p => (HP1.out.below p.h).2.2
        have HT : ∃ B, Hid (R = if B = true then 5 else JM.errS (cs.take (k + 1)) (cs.drop (k + 1))) ∧ Hid (∀ p : Later w1, Calls Tryz.prog 125 #[cv k' s' t' v' a' b' c', v2] p.val fun e w'' => e = .returned (.bool B) ∧ ∃ q : Later w1, w'' = q.val) :=
          ⟨_, e2, fun p => Calls.later (cRepeats (k', s', t', v', a', b', c') v2 (cs.take k) p.val (hrd.below p.h))⟩
        obtain ⟨B, e3, HC⟩ := HT
        clear hrd e2 HC1 HP1 d0 d1 d2 d3 d4 d5 d6
        cases B
        · have e4 := Lib.hid (e3.out.trans (if_neg (by decide)))
          clear e3
          refine wp_region_later (by kernel_rfl) (by kernel_rfl) ?_
          repeat (go_big_quiet_step (first | (go_at_call 125; with_reducible exact HC.out _)))
          refine wpQuiet_nil ?_
          rintro _ ⟨p, rfl⟩
          go_wp2
          go_roundw
          case rel => exact ⟨k + 1, by omega, by go_num, bnext HB1.out p.h, e4⟩
          case measure => simp [intOf]; omega
        · have e4 := Lib.hid (e3.out.trans (if_pos rfl))
          clear e3
          refine wp_region_later (by kernel_rfl) (by kernel_rfl) ?_
          repeat (go_big_quiet_step (first | (go_at_call 125; with_reducible exact HC.out _)))
          refine wpQuiet_nil ?_
          rintro _ ⟨p, rfl⟩
          go_wp2
          go_ret
          rw [e4.out]
          exact ⟨rfl, bnext HB0.out (bnext HB1.out p.h)⟩
      · have e2 := Lib.hid (e2.out.trans (if_pos hec0))
        have hne : (ec != 0) = true := bne_t hec0
        clear hec0
        go_wp2_with (go_at_call 124; refine (HV.out _).mono ?_; rintro e w1 ⟨rfl, hb1⟩)
        go_ret
        rw [e2.out]
        exact ⟨rfl, bnext HB0.out (bnext HBN.out hb1)⟩
    · have hq : ¬ ((k : Int) < (cs.length : Int)) := by omega
      have e2 := Lib.hid (show R = 0 by rw [he.out, List.drop_of_length_le (by omega)]; rfl)
      clear he HR
      go_wp2
      go_ret
      rw [e2.out]
      exact ⟨rfl, bnext HB0.out hbl⟩

end Go.Proofs.YthfpafnljnnndaaGreat

namespace Go.Proofs.YthfpafnljnnndaaGreat
open Go.RowKit
open JM (Chg)

set_option maxRecDepth 100000 in
set_option maxHeartbeats 4000000 in
theorem rValidate (a n : Int) (v : Value) (cs : List Chg) (w : World) (h : RdC w v cs) :
    Calls Tryz.prog 56 #[pv a n v] w fun e w' => e = .returned (.int .i64 (JM.errP a n cs)) ∧ Below w.heap.size w w' := by
  obtain ⟨ad, cp, rfl, hc, hl⟩ := h.shape
  obtain ⟨R, hR⟩ : ∃ R, R = JM.errP a n cs := ⟨_, rfl⟩
  rw [← hR]
  have ha := fun w => rAdmin a w
  obtain ⟨A, hA⟩ : ∃ A, A = JM.isAdm a := ⟨_, rfl⟩
  rw [← hA] at ha
  have HA := Lib.hid ha
  clear ha
  have hb0 := below_fresh w (.cells #[.int .i64 a, .int .i64 n, .slice ad cs.length cp] 70)
  cases A
  · have HR := Lib.hid (hR.trans (errP_range (.inl hA.symm)))
    clear hR hA h
    go_enter Tryz.func56, Tryz.ntmps56
    go_wp2_with (go_at_call 83; refine (HA.out _).mono ?_; rintro e w1 ⟨rfl, rfl⟩)
    go_ret
    rw [HR.out]
    exact ⟨rfl, hb0⟩
  by_cases hn1 : n < 1
  · have HR := Lib.hid (hR.trans (show JM.errP a n cs = 9 by unfold JM.errP; rw [if_pos (.inr (.inl hn1))]))
    clear hR hA h
    go_enter Tryz.func56, Tryz.ntmps56
    go_wp2_with (go_at_call 83; refine (HA.out _).mono ?_; rintro e w1 ⟨rfl, rfl⟩)
    go_ret
    rw [HR.out]
    exact ⟨rfl, hb0⟩
  by_cases hn3 : 3 < n
  · have HR := Lib.hid (hR.trans (show JM.errP a n cs = 9 by unfold JM.errP; rw [if_pos (.inr (.inr hn3))]))
    clear hR hA h
    go_enter Tryz.func56, Tryz.ntmps56
    go_wp2_with (go_at_call 83; refine (HA.out _).mono ?_; rintro e w1 ⟨rfl, rfl⟩)
    go_ret
    rw [HR.out]
    exact ⟨rfl, hb0⟩
  have hR2 : R = if cs = [] then 2 else if 6 < cs.length then 3 else JM.errS [] cs := by
    rw [hR]; unfold JM.errP; rw [if_neg (by rw [← hA]; simp; omega)]
  clear hR hA
  have HX := Lib.hid h
  clear h
  by_cases h0 : cs = []
  · have HR := Lib.hid (hR2.trans (if_pos h0))
    have hz : ((cs.length : Int) == 0) = true := by rw [h0]; rfl
    clear hR2 h0
    go_enter Tryz.func56, Tryz.ntmps56
    go_wp2_with (go_at_call 83; refine (HA.out _).mono ?_; rintro e w1 ⟨rfl, rfl⟩)
    go_ret
    rw [HR.out]
    exact ⟨rfl, hb0⟩
  rw [if_neg h0] at hR2
  have hz : ((cs.length : Int) == 0) = false := beq_f (by have := List.length_pos_iff.2 h0; omega)
  clear h0
  by_cases h6 : 6 < cs.length
  · have HR := Lib.hid (hR2.trans (if_pos h6))
    have hz : (6 : Int) < (cs.length : Int) := by omega
    clear hR2 h6
    go_enter Tryz.func56, Tryz.ntmps56
    go_wp2_with (go_at_call 83; refine (HA.out _).mono ?_; rintro e w1 ⟨rfl, rfl⟩)
    go_ret
    rw [HR.out]
    exact ⟨rfl, hb0⟩
  rw [if_neg h6] at hR2
  have h6' : ¬ (6 : Int) < (cs.length : Int) := by omega
  have HR := Lib.hid hR2
  have HX0 := Lib.hid (HX.out.below hb0)
  have HP0 := Lib.hid (PBox.fresh w a n (.slice ad cs.length cp))
  have HB0 := Lib.hid hb0
  clear hR2 h6 hb0 HX
  go_enter Tryz.func56, Tryz.ntmps56
  go_wp2_with (go_at_call 83; refine (HA.out _).mono ?_; rintro e w1 ⟨rfl, rfl⟩)
  clear HA
  generalize w.alloc (.cells #[.int .i64 a, .int .i64 n, .slice ad cs.length cp] 70) = w0 at HX0 HP0 HB0 ⊢
  go_loopw [3] (fun i wr => ∃ k : Nat, k ≤ cs.length ∧ i = .int .i64 k ∧ Below w0.heap.size w0 wr ∧ Hid (R = JM.errS (cs.take k) (cs.drop k))) (fun i _ => cs.length - (intOf i).toNat)
  case atStart => exact ⟨0, Nat.zero_le _, rfl, Below.refl _ _, HR.out⟩
  case round =>
    obtain ⟨k, hk, rfl, hbl, he⟩ := hrel
    obtain ⟨wo, rfl⟩ : ∃ wo, wo = wr := ⟨wr, rfl⟩
    have hp2 := (HP0.out.below hbl).2.2
    by_cases hlt : k < cs.length
    · have hq : (k : Int) < (cs.length : Int) := by omega
      have hdx := Lib.hid (drop_get hlt)
      have htk := Lib.hid (List.take_append_getElem hlt)
      have hat := List.getElem?_eq_getElem hlt
      generalize cs[k] = y at hdx hat htk
      obtain ⟨k', s', t', v', a', b', c'⟩ := y
      obtain ⟨b, o, hi, hb, d0, d1, d2, d3, d4, d5, d6⟩ := atC (HX0.out.below hbl) k _ _ _ _ _ _ _ hat
      have e2 := Lib.hid (show R = if JM.errCh (k', s', t', v', a', b', c') ≠ 0 then JM.errCh (k', s', t', v', a', b', c') else if (cs.take k).any (fun y => JM.sim y (k', s', t', v', a', b', c')) = true then 5 else JM.errS (cs.take (k + 1)) (cs.drop (k + 1)) by rw [he.out, hdx.out, errS_cons, htk.out])
      clear he hdx htk
      have HAT := Lib.hid hat
      clear hat
      have HV := Lib.hid (fun w => rValChange k' s' t' v' a' b' c' w)
      have hec : JM.errCh (k', s', t', v', a', b', c') = JM.errC k' s' t' v' a' b' c' := rfl
      rw [hec] at e2
      generalize JM.errC k' s' t' v' a' b' c' = ec at HV e2
      by_cases hec0 : ec = 0
      · subst hec0
        have e2 := Lib.hid (e2.out.trans (if_neg (fun h => h rfl)))
        go_wp2_with (go_at_call 84; refine (HV.out _).mono ?_; rintro e w1 ⟨rfl, hb1⟩)
        have HB1 := Lib.hid (bnext hbl hb1)
        clear hb1 HV d0 d1 d2 d3 d4 d5 d6 hi hb hp2 hbl
        go_loopw [5] (fun i wr => ∃ j : Nat, j ≤ k ∧ i = .int .i64 j ∧ Below w0.heap.size w0 wr ∧ Hid ((cs.take k).any (fun y => JM.sim y (k', s', t', v', a', b', c')) = ((cs.take k).drop j).any (fun y => JM.sim y (k', s', t', v', a', b', c')))) (fun i _ => k - (intOf i).toNat)
        case atStart => exact ⟨0, Nat.zero_le _, rfl, HB1.out, rfl⟩
        case round =>
          obtain ⟨j, hj, rfl, hbl, he⟩ := hrel
          have hp2 := (HP0.out.below hbl).2.2
          by_cases hjk : j < k
          · have hqj : (j : Int) < (k : Int) := by omega
            have hjc : (j : Int) < (cs.length : Int) := by omega
            have hj2 : j < cs.length := by omega
            have hj3 : j < (cs.take k).length := by rw [List.length_take]; omega
            have hdy := Lib.hid (show (cs.take k).drop j = cs[j] :: (cs.take k).drop (j + 1) by rw [drop_get hj3, List.getElem_take])
            have hat2 := List.getElem?_eq_getElem hj2
            obtain ⟨b, o, hi, hb, d0, d1, d2, d3, d4, d5, d6⟩ := atC (HX0.out.below hbl) k _ _ _ _ _ _ _ HAT.out
            generalize cs[j] = z at hdy hat2
            obtain ⟨k2, s2, t2, v2, a2, b2, c2⟩ := z
            obtain ⟨bb, oo, hi2, hb2, f0, f1, f2, f3, f4, f5, f6⟩ := atC (HX0.out.below hbl) j _ _ _ _ _ _ _ hat2
            have e3 := Lib.hid (show (cs.take k).any (fun y => JM.sim y (k', s', t', v', a', b', c')) = ((k2 == k' && s2 == s') || ((cs.take k).drop (j + 1)).any (fun y => JM.sim y (k', s', t', v', a', b', c'))) by rw [he.out, hdy.out]; rfl)
            clear he hdy hat2 d2 d3 d4 d5 d6 f2 f3 f4 f5 f6
            cases hk2 : (k2 == k')
            · have e4 := Lib.hid (show (cs.take k).any (fun y => JM.sim y (k', s', t', v', a', b', c')) = ((cs.take k).drop (j + 1)).any (fun y => JM.sim y (k', s', t', v', a', b', c')) by rw [e3.out, hk2, Bool.false_and, Bool.false_or])
              clear e3
              go_wp2
              go_quiet (fail)
              go_wp2
              go_roundw
              case rel => exact ⟨j + 1, by omega, by go_num, hbl.trans (below_drewN _ _ _), e4⟩
              case measure => simp [intOf]; omega
            · cases hs2 : (s2 == s')
              · have e4 := Lib.hid (show (cs.take k).any (fun y => JM.sim y (k', s', t', v', a', b', c')) = ((cs.take k).drop (j + 1)).any (fun y => JM.sim y (k', s', t', v', a', b', c')) by rw [e3.out, hs2, Bool.and_false, Bool.false_or])
                clear e3
                go_wp2
                go_quiet (fail)
                go_wp2
                go_roundw
                case rel => exact ⟨j + 1, by omega, by go_num, hbl.trans (below_drewN _ _ _), e4⟩
                case measure => simp [intOf]; omega
              · have e4 := Lib.hid (show R = 5 from e2.out.trans (if_pos (by rw [e3.out, hk2, hs2]; rfl)))
                clear e3 e2
                go_wp2
                go_quiet (fail)
                go_wp2
                go_ret
                rw [e4.out]
                exact ⟨rfl, bnext HB0.out (hbl.trans (below_drewN _ _ _))⟩
          · have hqj : ¬ (j : Int) < (k : Int) := by omega
            have e4 := Lib.hid (show R = JM.errS (cs.take (k + 1)) (cs.drop (k + 1)) from e2.out.trans (if_neg (by rw [he.out, List.drop_of_length_le (by rw [List.length_take]; omega)]; simp)))
            clear he e2
            go_wp2
            go_roundw
            case rel => exact ⟨k + 1, by omega, by go_num, hbl, e4⟩
            case measure => simp [intOf]; omega
      · have e2 := Lib.hid (e2.out.trans (if_pos hec0))
        have hne : (ec != 0) = true := bne_t hec0
        clear hec0
        go_wp2_with (go_at_call 84; refine (HV.out _).mono ?_; rintro e w1 ⟨rfl, hb1⟩)
        go_ret
        rw [e2.out]
        exact ⟨rfl, bnext HB0.out (bnext hbl hb1)⟩
    · have hq : ¬ ((k : Int) < (cs.length : Int)) := by omega
      have e2 := Lib.hid (show R = 0 by rw [he.out, List.drop_of_length_le (by omega)]; rfl)
      clear he HR
      go_wp2
      go_ret
      rw [e2.out]
      exact ⟨rfl, bnext HB0.out hbl⟩

end Go.Proofs.YthfpafnljnnndaaGreat
