/-
  The mathematics of commands: a line cut at a byte, numbers of at most four digits, the forms of a command. No program. No conditions beyond those that each lemma names.
-/
import Derived.Lib.Split
import Derived.Lib.Join
import Derived.Lib.ItoaNum
import Derived.Lib.AtoiAll
namespace Go.Proofs.YthgnhaimdkcmeaaGreatDoor.DM

/-! ### A line cut at each byte c -/
def sp (c : UInt8) : List UInt8 → List (List UInt8)
  | [] => [[]]
  | b :: l => if b = c then [] :: sp c l else (b :: (sp c l).headD []) :: (sp c l).tail
def jn (c : UInt8) : List (List UInt8) → List UInt8
  | [] => []
  | [x] => x
  | x :: y :: r => x ++ c :: jn c (y :: r)
variable {c : UInt8}
theorem sp_ne (l : List UInt8) : sp c l ≠ [] := by
  cases l with
  | nil => simp [sp]
  | cons b l => unfold sp; split <;> simp
theorem sp_none {x : List UInt8} (h : c ∉ x) : sp c x = [x] := by
  induction x with
  | nil => rfl
  | cons b x ih =>
    have hb : b ≠ c := fun e => h (by simp [e])
    rw [sp, if_neg hb, ih (fun e => h (by simp [e]))]
    rfl
theorem sp_hit {x : List UInt8} (h : c ∉ x) (l : List UInt8) : sp c (x ++ c :: l) = x :: sp c l := by
  induction x with
  | nil => simp [sp]
  | cons b x ih =>
    have hb : b ≠ c := fun e => h (by simp [e])
    rw [List.cons_append, sp, if_neg hb, ih (fun e => h (by simp [e]))]
    rfl
theorem sp_no : ∀ (l : List UInt8), ∀ x ∈ sp c l, c ∉ x
  | [], x, hx => by simp [sp] at hx; subst hx; simp
  | b :: l, x, hx => by
    unfold sp at hx
    split at hx
    · rcases List.mem_cons.1 hx with rfl | hx
      · simp
      · exact sp_no l x hx
    · rename_i hb
      rcases List.mem_cons.1 hx with rfl | hx
      · have h1 : ∀ x ∈ sp c l, c ∉ x := sp_no l
        have h2 := sp_ne (c := c) l
        cases hs : sp c l with
        | nil => exact absurd hs h2
        | cons y r =>
          have := h1 y (by rw [hs]; simp)
          simp only [List.headD_cons, List.mem_cons, not_or]
          exact ⟨fun e => hb e.symm, this⟩
      · exact sp_no l x (List.mem_of_mem_tail hx)
/-- A line either has no byte c, or one, the first, ahead of a rest. -/
theorem first (c : UInt8) : ∀ (l : List UInt8), c ∉ l ∨ ∃ x r, l = x ++ c :: r ∧ c ∉ x
  | [] => .inl (by simp)
  | b :: l => by
    by_cases hb : b = c
    · exact .inr ⟨[], l, by simp [hb], by simp⟩
    · rcases first c l with h | ⟨x, r, h1, h2⟩
      · exact .inl (by simp [h, Ne.symm hb])
      · exact .inr ⟨b :: x, r, by simp [h1], by simp [h2, Ne.symm hb]⟩
theorem jn_cons {r : List (List UInt8)} (x : List UInt8) (h : r ≠ []) : jn c (x :: r) = x ++ c :: jn c r := by
  cases r with
  | nil => exact absurd rfl h
  | cons y r => rfl
theorem jn_sp : ∀ (n : Nat) (l : List UInt8), l.length ≤ n → jn c (sp c l) = l
  | n, l, hn => by
    rcases first c l with h | ⟨x, r, h1, h2⟩
    · rw [sp_none h]; rfl
    · subst h1
      match n, hn with
      | 0, hn => simp at hn
      | n + 1, hn => rw [sp_hit h2, jn_cons _ (sp_ne r), jn_sp n r (by simp at hn; omega)]
theorem sp_jn_app : ∀ (ws : List (List UInt8)) (x : List UInt8), (∀ w ∈ ws, c ∉ w) → sp c (jn c (ws ++ [x])) = ws ++ sp c x
  | [], x, _ => rfl
  | w :: ws, x, h => by
    rw [List.cons_append, jn_cons _ (by simp), sp_hit (h w (by simp)), sp_jn_app ws x (fun y hy => h y (by simp [hy]))]
    rfl
theorem sp_jn {ws : List (List UInt8)} (h0 : ws ≠ []) (h : ∀ w ∈ ws, c ∉ w) : sp c (jn c ws) = ws := by
  obtain ⟨r, x, rfl⟩ : ∃ r x, ws = r ++ [x] := ⟨ws.dropLast, ws.getLast h0, (List.dropLast_concat_getLast h0).symm⟩
  rw [sp_jn_app r x (fun w hw => h w (by simp [hw])), sp_none (h x (by simp))]
theorem sp_len : ∀ (n : Nat) (l : List UInt8), l.length ≤ n → (sp c l).length ≤ l.length + 1
  | n, l, hn => by
    rcases first c l with h | ⟨x, r, h1, h2⟩
    · rw [sp_none h]; simp
    · subst h1
      match n, hn with
      | 0, hn => simp at hn
      | n + 1, hn =>
        have := sp_len n r (by simp at hn; omega)
        rw [sp_hit h2]; simp; omega
theorem lib_join (xs : List (List UInt8)) : Lib.join xs [c] = jn c xs := by
  induction xs with
  | nil => rfl
  | cons x r ih =>
    cases r with
    | nil => simp [Lib.join_one, jn]
    | cons y r =>
      rw [jn_cons _ (by simp), ← ih, Lib.join_cons, Lib.join_cons]
      simp [Lib.joinTail]

/-! ### The library's words -/
theorem occ_one (s : List UInt8) (i : Nat) : Lib.occAt s [c] i = (s[i]? == some c) := by
  unfold Lib.occAt
  cases h : s.drop i with
  | nil =>
    have : s[i]? = none := by rw [List.getElem?_eq_none]; simpa using h
    rw [this]; rfl
  | cons b r =>
    have : s[i]? = some b := by have := congrArg (·[0]?) h; simpa using this
    rw [this]
    simp [List.isPrefixOf, BEq.comm]
theorem index_none {l : List UInt8} (h : c ∉ l) : Lib.index l [c] = -1 := by
  refine Lib.index_none fun j hj => ?_
  rw [occ_one]
  cases hx : l[j]? with
  | none => rfl
  | some b =>
    have : b ≠ c := fun e => h (e ▸ List.mem_of_getElem? hx)
    simpa using this
theorem index_hit {x : List UInt8} (h : c ∉ x) (r : List UInt8) : Lib.index (x ++ c :: r) [c] = x.length := by
  refine Lib.index_first (by simp) (by rw [occ_one]; simp) fun j hj => ?_
  rw [occ_one, List.getElem?_append_left hj, List.getElem?_eq_getElem hj]
  have : x[j] ≠ c := fun e => h (e ▸ List.getElem_mem hj)
  simpa using this
/-- Cut at the first k bytes c at most. -/
def spn (c : UInt8) (k : Nat) (l : List UInt8) : List (List UInt8) := if (sp c l).length ≤ k then sp c l else (sp c l).take k ++ [jn c ((sp c l).drop k)]
theorem splitK_eq : ∀ (k : Nat) (l : List UInt8), Lib.splitK [c] 0 k l = spn c k l
  | 0, l => by
    have h1 := sp_ne (c := c) l
    unfold spn
    rw [if_neg (by cases h : sp c l with | nil => exact absurd h h1 | cons a b => simp)]
    simp [Lib.splitK, jn_sp l.length l (Nat.le_refl _)]
  | k + 1, l => by
    rcases first c l with h | ⟨x, r, h1, h2⟩
    · unfold Lib.splitK spn
      rw [index_none h, sp_none h]
      simp
    · subst h1
      unfold Lib.splitK
      rw [index_hit h2, if_neg (by simp only [beq_iff_eq]; omega)]
      have e1 : (x ++ c :: r).take (((x.length : Nat) : Int).toNat + 0) = x := by simp
      have e2 : (x ++ c :: r).drop (((x.length : Nat) : Int).toNat + [c].length) = r := by
        rw [show ((x.length : Nat) : Int).toNat + [c].length = x.length + 1 by simp, List.drop_append]
        simp [List.drop_of_length_le]
      rw [e1, e2, splitK_eq k r]
      unfold spn
      rw [sp_hit h2]
      by_cases hk : (sp c r).length ≤ k
      · rw [if_pos hk, if_pos (by simpa using hk)]
      · rw [if_neg hk, if_neg (by simpa using hk)]; rfl
theorem spn_ne (k : Nat) (l : List UInt8) : spn c k l ≠ [] := by
  unfold spn; split
  · exact sp_ne l
  · simp
theorem spn_len (k : Nat) (l : List UInt8) : (spn c k l).length ≤ k + 1 := by
  unfold spn; split
  · omega
  · simp; omega
/-- What SplitN at five gives. -/
theorem spn_five (l : List UInt8) : spn c (min 5 (l.length + 1) - 1) l = spn c 4 l := by
  have := sp_len (c := c) l.length l (Nat.le_refl _)
  by_cases h : l.length < 4
  · rw [show min 5 (l.length + 1) - 1 = l.length by omega]
    unfold spn
    by_cases h2 : (sp c l).length ≤ l.length
    · rw [if_pos h2, if_pos (by omega)]
    · rw [if_neg h2, if_pos (by omega)]
      have h3 : (sp c l).length = l.length + 1 := by omega
      obtain ⟨r, x, hx⟩ : ∃ r x, sp c l = r ++ [x] := ⟨_, _, (List.dropLast_concat_getLast (sp_ne l)).symm⟩
      rw [hx] at h3 ⊢
      simp only [List.length_append, List.length_cons, List.length_nil] at h3
      rw [List.take_append_of_le_length (by omega), List.take_of_length_le (by omega), List.drop_append]
      simp [List.drop_of_length_le (show r.length ≤ l.length by omega), show l.length - r.length = 0 by omega, jn]
  · rw [show min 5 (l.length + 1) - 1 = 4 by omega]

/-! ### Numbers of at most four digits -/
def isD (b : UInt8) : Bool := decide (48 ≤ b.toNat ∧ b.toNat ≤ 57)
def val (l : List UInt8) : Nat := l.foldl (fun n b => 10 * n + (b.toNat - 48)) 0
def isN (l : List UInt8) : Bool := decide (l ≠ [] ∧ l.length ≤ 4 ∧ ¬ (1 < l.length ∧ l.head? = some 48)) && l.all isD
/-- What the reference's number gives. -/
def num (l : List UInt8) : Int := if isN l then (val l : Int) else -1
theorem isD_of {d : Nat} (h : d ≤ 9) : isD (UInt8.ofNat (48 + d)) = true ∧ (UInt8.ofNat (48 + d)).toNat = 48 + d := by
  have : (UInt8.ofNat (48 + d)).toNat = 48 + d := by simp; omega
  exact ⟨by unfold isD; rw [this]; exact decide_eq_true (by omega), this⟩
theorem isD_is {b : UInt8} (h : isD b = true) : ∃ d, d ≤ 9 ∧ b = UInt8.ofNat (48 + d) ∧ b.toNat = 48 + d := by
  have h := of_decide_eq_true h
  refine ⟨b.toNat - 48, by omega, ?_, by omega⟩
  rw [show 48 + (b.toNat - 48) = b.toNat by omega]
  simp
theorem big_digits {u : Nat} (h : ¬ u < 10) : Lib.decDigits u = Lib.decDigits (u / 10) ++ [UInt8.ofNat (48 + u % 10)] := by rw [Lib.decDigits, dif_neg h]
theorem ofNat_inj {a b : Nat} (ha : a ≤ 9) (hb : b ≤ 9) (h : UInt8.ofNat (48 + a) = UInt8.ofNat (48 + b)) : a = b := by
  have h1 := (isD_of ha).2
  have h2 := (isD_of hb).2
  rw [h] at h1
  omega
theorem head_zero {a : Nat} (ha : a ≤ 9) : (UInt8.ofNat (48 + a) = 48) ↔ a = 0 := by
  constructor
  · intro h
    have := (isD_of ha).2
    rw [h] at this
    have e : (48 : UInt8).toNat = 48 := rfl
    omega
  · rintro rfl; rfl
/-- A number's shape: its digits. -/
theorem isN_shape {l : List UInt8} (h : isN l = true) : (∃ a, a ≤ 9 ∧ l = [UInt8.ofNat (48 + a)] ∧ val l = a) ∨
    (∃ a b, 1 ≤ a ∧ a ≤ 9 ∧ b ≤ 9 ∧ l = [UInt8.ofNat (48 + a), UInt8.ofNat (48 + b)] ∧ val l = 10 * a + b) ∨
    (∃ a b c, 1 ≤ a ∧ a ≤ 9 ∧ b ≤ 9 ∧ c ≤ 9 ∧ l = [UInt8.ofNat (48 + a), UInt8.ofNat (48 + b), UInt8.ofNat (48 + c)] ∧ val l = 100 * a + 10 * b + c) ∨
    (∃ a b c d, 1 ≤ a ∧ a ≤ 9 ∧ b ≤ 9 ∧ c ≤ 9 ∧ d ≤ 9 ∧ l = [UInt8.ofNat (48 + a), UInt8.ofNat (48 + b), UInt8.ofNat (48 + c), UInt8.ofNat (48 + d)] ∧ val l = 1000 * a + 100 * b + 10 * c + d) := by
  unfold isN at h
  rw [Bool.and_eq_true, List.all_eq_true] at h
  obtain ⟨h1, h2⟩ := h
  have ⟨h3, h4, h5⟩ := of_decide_eq_true h1
  match l, h3, h4, h5, h2 with
  | [x], _, _, _, h2 =>
    obtain ⟨a, ha, e1, v1⟩ := isD_is (h2 x (by simp))
    exact .inl ⟨a, ha, by rw [e1], by simp [val, v1]⟩
  | [x, y], _, _, h5, h2 =>
    obtain ⟨a, ha, e1, v1⟩ := isD_is (h2 x (by simp))
    obtain ⟨b, hb, e2, v2⟩ := isD_is (h2 y (by simp))
    have : a ≠ 0 := fun e => h5 ⟨by simp, by subst e; simp [e1]⟩
    exact .inr (.inl ⟨a, b, by omega, ha, hb, by rw [e1, e2], by simp [val, v1, v2]⟩)
  | [x, y, z], _, _, h5, h2 =>
    obtain ⟨a, ha, e1, v1⟩ := isD_is (h2 x (by simp))
    obtain ⟨b, hb, e2, v2⟩ := isD_is (h2 y (by simp))
    obtain ⟨c, hc, e3, v3⟩ := isD_is (h2 z (by simp))
    have : a ≠ 0 := fun e => h5 ⟨by simp, by subst e; simp [e1]⟩
    exact .inr (.inr (.inl ⟨a, b, c, by omega, ha, hb, hc, by rw [e1, e2, e3], by simp [val, v1, v2, v3]; omega⟩))
  | [x, y, z, u], _, _, h5, h2 =>
    obtain ⟨a, ha, e1, v1⟩ := isD_is (h2 x (by simp))
    obtain ⟨b, hb, e2, v2⟩ := isD_is (h2 y (by simp))
    obtain ⟨c, hc, e3, v3⟩ := isD_is (h2 z (by simp))
    obtain ⟨d, hd, e4, v4⟩ := isD_is (h2 u (by simp))
    have : a ≠ 0 := fun e => h5 ⟨by simp, by subst e; simp [e1]⟩
    exact .inr (.inr (.inr ⟨a, b, c, d, by omega, ha, hb, hc, hd, by rw [e1, e2, e3, e4], by simp [val, v1, v2, v3, v4]; omega⟩))
  | _ :: _ :: _ :: _ :: _ :: _, _, h4, _, _ => simp at h4
theorem val_lt {l : List UInt8} (h : isN l = true) : val l ≤ 9999 := by
  rcases isN_shape h with ⟨a, h1, _, e⟩ | ⟨a, b, _, h1, h2, _, e⟩ | ⟨a, b, c, _, h1, h2, h3, _, e⟩ | ⟨a, b, c, d, _, h1, h2, h3, h4, _, e⟩ <;> omega
theorem itoa_val {l : List UInt8} (h : isN l = true) : Lib.decDigits (val l) = l := by
  rcases isN_shape h with ⟨a, h1, e, v⟩ | ⟨a, b, _, h1, h2, e, v⟩ | ⟨a, b, c, _, h1, h2, h3, e, v⟩ | ⟨a, b, c, d, _, h1, h2, h3, h4, e, v⟩
  · rw [v, e, Lib.decDigits_one (by omega)]
  · rw [v, e, big_digits (by omega), show (10 * a + b) / 10 = a by omega, show (10 * a + b) % 10 = b by omega, Lib.decDigits_one (by omega)]; rfl
  · rw [v, e, big_digits (by omega), show (100 * a + 10 * b + c) / 10 = 10 * a + b by omega, show (100 * a + 10 * b + c) % 10 = c by omega, big_digits (by omega), show (10 * a + b) / 10 = a by omega, show (10 * a + b) % 10 = b by omega, Lib.decDigits_one (by omega)]; rfl
  · rw [v, e, big_digits (by omega), show (1000 * a + 100 * b + 10 * c + d) / 10 = 100 * a + 10 * b + c by omega, show (1000 * a + 100 * b + 10 * c + d) % 10 = d by omega,
      big_digits (by omega), show (100 * a + 10 * b + c) / 10 = 10 * a + b by omega, show (100 * a + 10 * b + c) % 10 = c by omega, big_digits (by omega), show (10 * a + b) / 10 = a by omega, show (10 * a + b) % 10 = b by omega, Lib.decDigits_one (by omega)]; rfl
theorem isN_mk {l : List UInt8} (h1 : l ≠ []) (h2 : l.length ≤ 4) (h3 : ¬ (1 < l.length ∧ l.head? = some 48)) (h4 : l.all isD = true) : isN l = true := by
  unfold isN; rw [h4, Bool.and_true]; exact decide_eq_true ⟨h1, h2, h3⟩
theorem isN_itoa {n : Nat} (h : n ≤ 9999) : isN (Lib.decDigits n) = true ∧ val (Lib.decDigits n) = n := by
  have dig : ∀ {m : Nat}, m ≤ 9 → isD (UInt8.ofNat (48 + m)) = true ∧ (UInt8.ofNat (48 + m)).toNat - 48 = m := fun hm => ⟨(isD_of hm).1, by rw [(isD_of hm).2]; omega⟩
  by_cases h1 : n < 10
  · rw [Lib.decDigits_one h1]
    obtain ⟨d1, d2⟩ := dig (show n ≤ 9 by omega)
    exact ⟨isN_mk (by simp) (by simp) (fun hh => absurd hh.1 (by simp)) (by simp only [List.all_cons, List.all_nil, d1]; rfl), by simp only [val, List.foldl, d2]; omega⟩
  by_cases h2 : n < 100
  · rw [big_digits h1, Lib.decDigits_one (by omega)]
    obtain ⟨d1, d2⟩ := dig (show n / 10 ≤ 9 by omega)
    obtain ⟨e1, e2⟩ := dig (show n % 10 ≤ 9 by omega)
    have hz : ¬ UInt8.ofNat (48 + n / 10) = 48 := fun e => by have := (head_zero (by omega)).1 e; omega
    exact ⟨isN_mk (by simp) (by simp) (fun hh => hz (Option.some.inj hh.2)) (by simp only [List.cons_append, List.nil_append, List.all_cons, List.all_nil, d1, e1]; rfl), by simp only [val, List.cons_append, List.nil_append, List.foldl, d2, e2]; omega⟩
  by_cases h3 : n < 1000
  · rw [big_digits h1, big_digits (by omega), Lib.decDigits_one (by omega)]
    obtain ⟨d1, d2⟩ := dig (show n / 10 / 10 ≤ 9 by omega)
    obtain ⟨e1, e2⟩ := dig (show n / 10 % 10 ≤ 9 by omega)
    obtain ⟨f1, f2⟩ := dig (show n % 10 ≤ 9 by omega)
    have hz : ¬ UInt8.ofNat (48 + n / 10 / 10) = 48 := fun e => by have := (head_zero (by omega)).1 e; omega
    exact ⟨isN_mk (by simp) (by simp) (fun hh => hz (Option.some.inj hh.2)) (by simp only [List.cons_append, List.nil_append, List.all_cons, List.all_nil, d1, e1, f1]; rfl), by simp only [val, List.cons_append, List.nil_append, List.foldl, d2, e2, f2]; omega⟩
  · rw [big_digits h1, big_digits (by omega), big_digits (by omega), Lib.decDigits_one (by omega)]
    obtain ⟨d1, d2⟩ := dig (show n / 10 / 10 / 10 ≤ 9 by omega)
    obtain ⟨e1, e2⟩ := dig (show n / 10 / 10 % 10 ≤ 9 by omega)
    obtain ⟨f1, f2⟩ := dig (show n / 10 % 10 ≤ 9 by omega)
    obtain ⟨g1, g2⟩ := dig (show n % 10 ≤ 9 by omega)
    have hz : ¬ UInt8.ofNat (48 + n / 10 / 10 / 10) = 48 := fun e => by have := (head_zero (by omega)).1 e; omega
    exact ⟨isN_mk (by simp) (by simp) (fun hh => hz (Option.some.inj hh.2)) (by simp only [List.cons_append, List.nil_append, List.all_cons, List.all_nil, d1, e1, f1, g1]; rfl), by simp only [val, List.cons_append, List.nil_append, List.foldl, d2, e2, f2, g2]; omega⟩
/-- Atoi at a number. -/
theorem uint_val : ∀ (l : List UInt8) (acc : Nat), l.all isD = true → l.length ≤ 4 → acc ≤ 9999 * 10 ^ (4 - l.length) → Lib.parseUint10 acc l = .ok (l.foldl (fun n b => 10 * n + (b.toNat - 48)) acc)
  | [], acc, _, _, _ => rfl
  | b :: l, acc, h, hl, ha => by
    rw [List.all_cons, Bool.and_eq_true] at h
    have hb := of_decide_eq_true h.1
    have hp : acc ≤ 99990000 := by
      have : (10 : Nat) ^ (4 - (b :: l).length) ≤ 10 ^ 4 := Nat.pow_le_pow_right (by decide) (by omega)
      have e : (10 : Nat) ^ 4 = 10000 := by decide
      rw [e] at this
      have := Nat.mul_le_mul_left 9999 this
      omega
    have hp2 : acc * 10 + (b.toNat - 48) ≤ 9999 * 10 ^ (4 - l.length) + 9 ∨ True := .inr trivial
    unfold Lib.parseUint10
    rw [if_pos hb, if_neg (by omega), if_neg (by omega)]
    have e : acc * 10 + (b.toNat - 48) = 10 * acc + (b.toNat - 48) := by omega
    rw [e]
    clear hp2
    exact uint_val2 l _ h.2 (by simp at hl; omega) (by omega)
where
  uint_val2 : ∀ (l : List UInt8) (acc : Nat), l.all isD = true → l.length ≤ 3 → acc ≤ 999900009 → Lib.parseUint10 acc l = .ok (l.foldl (fun n b => 10 * n + (b.toNat - 48)) acc)
  | l, acc, h, hl, ha => go l acc h (by
      have : (10 : Nat) ^ l.length ≤ 10 ^ 3 := Nat.pow_le_pow_right (by decide) hl
      have e : (10 : Nat) ^ 3 = 1000 := by decide
      rw [e] at this
      have := Nat.mul_le_mul (show acc + 1 ≤ 999900010 by omega) this
      omega)
  go : ∀ (l : List UInt8) (acc : Nat), l.all isD = true → (acc + 1) * 10 ^ l.length ≤ 999900010000 → Lib.parseUint10 acc l = .ok (l.foldl (fun n b => 10 * n + (b.toNat - 48)) acc)
  | [], _, _, _ => rfl
  | b :: l, acc, h, ha => by
    rw [List.all_cons, Bool.and_eq_true] at h
    have hb := of_decide_eq_true h.1
    have h1 : 1 ≤ 10 ^ l.length := Nat.one_le_pow _ _ (by decide)
    rw [List.length_cons, Nat.pow_succ] at ha
    have h2 : (acc + 1) * 10 ≤ 999900010000 := by
      have : (acc + 1) * (1 * 10) ≤ (acc + 1) * (10 ^ l.length * 10) := Nat.mul_le_mul_left _ (Nat.mul_le_mul_right _ h1)
      omega
    unfold Lib.parseUint10
    rw [if_pos hb, if_neg (by omega), if_neg (by omega), show acc * 10 + (b.toNat - 48) = 10 * acc + (b.toNat - 48) by omega]
    refine go l _ h.2 ?_
    have : (10 * acc + (b.toNat - 48) + 1) * 10 ^ l.length ≤ ((acc + 1) * 10) * 10 ^ l.length := Nat.mul_le_mul_right _ (by omega)
    have e : ((acc + 1) * 10) * 10 ^ l.length = (acc + 1) * (10 ^ l.length * 10) := by rw [Nat.mul_assoc, Nat.mul_comm 10]
    omega
theorem atoi_val {l : List UInt8} (h : isN l = true) : Lib.atoiAll l = .ok (val l : Int) := by
  have hlt := val_lt h
  unfold isN at h
  rw [Bool.and_eq_true] at h
  obtain ⟨h1, h2⟩ := h
  have ⟨h3, h4, h5⟩ := of_decide_eq_true h1
  have hu := uint_val l 0 h2 h4 (by omega)
  cases l with
  | nil => exact absurd rfl h3
  | cons b r =>
    have hb : 48 ≤ b.toNat := by rw [List.all_cons, Bool.and_eq_true] at h2; exact (of_decide_eq_true h2.1).1
    unfold Lib.atoiAll
    simp only
    rw [if_neg (by omega)]
    unfold Lib.parseMag
    rw [if_neg (by simp), hu]
    simp only
    have hv : (b :: r).foldl (fun n b => 10 * n + (b.toNat - 48)) 0 = val (b :: r) := rfl
    rw [hv, if_neg (by omega), if_neg (by omega), if_neg (by omega)]
/-- What the code asks of a word. -/
theorem isN_iff (l : List UInt8) : isN l = true ↔ ∃ n : Int, Lib.atoiAll l = .ok n ∧ 0 ≤ n ∧ n ≤ 9999 ∧ Lib.itoa n = l := by
  constructor
  · intro h
    refine ⟨_, atoi_val h, by omega, by have := val_lt h; omega, ?_⟩
    unfold Lib.itoa
    rw [if_neg (by omega)]
    exact itoa_val h
  · rintro ⟨n, _, h0, h1, h2⟩
    obtain ⟨m, rfl⟩ : ∃ m : Nat, n = m := ⟨n.toNat, by omega⟩
    unfold Lib.itoa at h2
    rw [if_neg (by omega), show ((m : Int)).toNat = m from rfl] at h2
    rw [← h2]
    exact (isN_itoa (by omega)).1

end Go.Proofs.YthgnhaimdkcmeaaGreatDoor.DM
