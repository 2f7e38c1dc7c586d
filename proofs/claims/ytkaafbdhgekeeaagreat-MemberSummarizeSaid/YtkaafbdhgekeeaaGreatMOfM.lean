/-
  The mathematics of Of: the summary of a proposal by sorting its entries and leaving out all but the first of each server is the summary by insertions. No program. Condition: the proposal is valid.
-/
import Derived.Test.YtkaafbdhgekeeaaGreatMMath
namespace Go.Proofs.YtkaafbdhgekeeaaGreat.MM
open JM (Chg)

/-- The changes are each valid, and no two are of one kind and one server. -/
theorem errS_zero {d cs : List Chg} (h : JM.errS d cs = 0) : (∀ x ∈ cs, JM.errCh x = 0 ∧ ∀ y ∈ d, JM.sim y x = false) ∧ cs.Pairwise fun x y => JM.sim x y = false := by
  induction cs generalizing d with
  | nil => exact ⟨(fun _ h => by cases h), List.Pairwise.nil⟩
  | cons x r ih =>
    rw [JM.errS] at h
    by_cases h1 : JM.errCh x = 0
    · rw [if_neg (by simp [h1])] at h
      by_cases h2 : (d.any fun y => JM.sim y x) = true
      · rw [if_pos h2] at h; cases h
      · rw [if_neg h2] at h
        obtain ⟨i1, i2⟩ := ih h
        have h3 : ∀ y ∈ d, JM.sim y x = false := by
          intro y hy
          cases hc : JM.sim y x with
          | false => rfl
          | true => exact absurd (List.any_eq_true.2 ⟨y, hy, hc⟩) h2
        refine ⟨fun z hz => ?_, List.pairwise_cons.2 ⟨fun z hz => (i1 z hz).2 x (by simp), i2⟩⟩
        rcases List.mem_cons.1 hz with rfl | hz
        · exact ⟨h1, h3⟩
        · exact ⟨(i1 z hz).1, fun y hy => (i1 z hz).2 y (by simp [hy])⟩
    · rw [if_pos h1] at h; exact absurd h h1
theorem errP_zero {a n : Int} {cs : List Chg} (h : JM.errP a n cs = 0) : (201 ≤ a ∧ a ≤ 203) ∧ (1 ≤ n ∧ n ≤ 3) ∧ cs.length ≤ 6 ∧ JM.errS [] cs = 0 := by
  unfold JM.errP at h
  split at h
  · cases h
  · rename_i h1
    split at h
    · cases h
    · split at h
      · cases h
      · rename_i h2 h3
        have h4 : JM.isAdm a = true := by cases hc : JM.isAdm a with
          | true => rfl
          | false => exact absurd (Or.inl hc) h1
        exact ⟨JM.isAdm_iff.1 h4, by omega, by omega, h⟩

/-- What a valid change says. -/
theorem chg_zero {k s t v x y z : Int} (h : JM.errCh (k, s, t, v, x, y, z) = 0) :
    (k = 1 ∧ (1 ≤ s ∧ s ≤ 12) ∧ (1 ≤ t ∧ t ≤ 9) ∧ v = 0) ∨ (k = 2 ∧ 1 ≤ s ∧ s ≤ 12) ∨ (k = 3 ∧ (1 ≤ s ∧ s ≤ 12) ∧ (1 ≤ t ∧ t ≤ 9) ∧ 1 ≤ v) ∨ (k = 4 ∧ 1 ≤ v ∧ JM.errR x y z = 0) := by
  have h' : JM.errC k s t v x y z = 0 := h
  unfold JM.errC at h'
  split at h'
  · cases h'
  · rename_i hk
    split at h'
    · cases h'
    · rename_i hs
      split at h'
      · cases h'
      · rename_i ht
        split at h'
        · cases h'
        · rename_i hv
          have hs' := of_decide_eq_true (Bool.of_not_eq_false hs)
          have ht' := of_decide_eq_true (Bool.of_not_eq_false ht)
          have hv' := of_decide_eq_true (Bool.of_not_eq_false hv)
          have hk' : k = 1 ∨ k = 2 ∨ k = 3 ∨ k = 4 := by omega
          rcases hk' with rfl | rfl | rfl | rfl
          · simp [JM.srvOf, JM.wtOf, JM.verOf] at hs' ht' hv'; exact .inl ⟨rfl, by omega, by omega, by omega⟩
          · simp [JM.srvOf, JM.wtOf, JM.verOf] at hs' ht' hv'; exact .inr (.inl ⟨rfl, by omega, by omega⟩)
          · simp [JM.srvOf, JM.wtOf, JM.verOf] at hs' ht' hv'; exact .inr (.inr (.inl ⟨rfl, by omega, by omega, by omega⟩))
          · simp [JM.srvOf, JM.wtOf, JM.verOf] at hs' ht' hv'; rw [if_pos rfl] at h'; exact .inr (.inr (.inr ⟨rfl, by omega, h'⟩))
theorem errR_one {k c f : Int} (h : JM.errR k c f = 0) : k ≠ 0 := by
  intro hk; subst hk
  rw [JM.errR, if_pos (by omega)] at h
  cases h

/-- The program's: what it has gathered ahead of the sorts. -/
def stpC (ad nu : Int) (s : Sm) : Chg → Sm
  | (k, sv, wt, vn, x, y, z) =>
    if k = 1 then { s with J := s.J ++ [sv], W := s.W ++ [(sv, wt, vn, ad, nu)] }
    else if k = 2 then { s with R := s.R ++ [sv] }
    else if k = 3 then { s with W := s.W ++ [(sv, wt, vn, ad, nu)] }
    else if k = 4 then { s with k := x, c := y, f := z, v := vn, a := ad, n := nu }
    else s
def rawP (ad nu : Int) (cs : List Chg) : Sm := cs.foldl (stpC ad nu) emp
theorem rawP_snoc (ad nu : Int) (cs : List Chg) (x : Chg) : rawP ad nu (cs ++ [x]) = stpC ad nu (rawP ad nu cs) x := by
  unfold rawP; rw [List.foldl_append]; rfl
theorem rawP_take (ad nu : Int) (cs : List Chg) (j : Nat) (x : Chg) (h : cs[j]? = some x) : rawP ad nu (cs.take (j + 1)) = stpC ad nu (rawP ad nu (cs.take j)) x := by
  rw [List.take_add_one, h, ← rawP_snoc]; rfl
theorem ofP_snoc (ad nu : Int) (cs : List Chg) (x : Chg) : ofP ad nu (cs ++ [x]) = stp ad nu (ofP ad nu cs) x := by
  unfold ofP; rw [List.foldl_append]; rfl
theorem ofP_take (ad nu : Int) (cs : List Chg) (j : Nat) (x : Chg) (h : cs[j]? = some x) : ofP ad nu (cs.take (j + 1)) = stp ad nu (ofP ad nu (cs.take j)) x := by
  rw [List.take_add_one, h, ← ofP_snoc]; rfl
theorem stpC_len (ad nu : Int) (s : Sm) (x : Chg) : (stpC ad nu s x).J.length ≤ s.J.length + 1 ∧ (stpC ad nu s x).R.length ≤ s.R.length + 1 ∧ (stpC ad nu s x).W.length ≤ s.W.length + 1 := by
  obtain ⟨k, sv, wt, vn, x, y, z⟩ := x
  unfold stpC
  (repeat' split) <;> simp
theorem rawP_len (ad nu : Int) (cs : List Chg) : (rawP ad nu cs).J.length ≤ cs.length ∧ (rawP ad nu cs).R.length ≤ cs.length ∧ (rawP ad nu cs).W.length ≤ cs.length := by
  unfold rawP
  have h : ∀ (cs : List Chg) (s : Sm), (cs.foldl (stpC ad nu) s).J.length ≤ s.J.length + cs.length ∧ (cs.foldl (stpC ad nu) s).R.length ≤ s.R.length + cs.length ∧ (cs.foldl (stpC ad nu) s).W.length ≤ s.W.length + cs.length := by
    intro cs
    induction cs with
    | nil => intro s; simp
    | cons x r ih =>
      intro s
      have h1 := ih (stpC ad nu s x)
      have h2 := stpC_len ad nu s x
      simp only [List.foldl_cons, List.length_cons]
      omega
  simpa [emp] using h cs emp

/-- The greatest version of a server's entries. -/
def Best (l : List Ent) (z : Int) : Option Ent → Prop
  | none => ∀ e ∈ l, e.1 ≠ z
  | some p => p ∈ l ∧ p.1 = z ∧ ∀ e ∈ l, e.1 = z → e.2.2.1 ≤ p.2.2.1
/-- No two entries are of one server and one version. -/
def Dis (l : List Ent) : Prop := l.Pairwise fun a b => ¬ (a.1 = b.1 ∧ a.2.2.1 = b.2.2.1)
theorem Dis.eq {l : List Ent} (h : Dis l) {p q : Ent} (hp : p ∈ l) (hq : q ∈ l) (h1 : p.1 = q.1) (h2 : p.2.2.1 = q.2.2.1) : p = q := by
  induction l with
  | nil => cases hp
  | cons x l ih =>
    have hx := (List.pairwise_cons.1 h).1
    rcases List.mem_cons.1 hp with hp' | hp'
    · rcases List.mem_cons.1 hq with hq' | hq'
      · rw [hp', hq']
      · subst hp'; exact absurd ⟨h1, h2⟩ (hx q hq')
    · rcases List.mem_cons.1 hq with hq' | hq'
      · subst hq'; exact absurd ⟨h1.symm, h2.symm⟩ (hx p hp')
      · exact ih (List.pairwise_cons.1 h).2 hp' hq'
theorem Best.uniq {l : List Ent} (h : Dis l) {z : Int} {o o' : Option Ent} (h1 : Best l z o) (h2 : Best l z o') : o = o' := by
  cases o with
  | none =>
    cases o' with
    | none => rfl
    | some q => exact absurd h2.2.1 (h1 q h2.1)
  | some p =>
    cases o' with
    | none => exact absurd h1.2.1 (h2 p h1.1)
    | some q =>
      have a := h1.2.2 q h2.1 h2.2.1
      have b := h2.2.2 p h1.1 h1.2.1
      rw [h.eq h1.1 h2.1 (by rw [h1.2.1, h2.2.1]) (by omega)]
theorem Best.perm {l l' : List Ent} (h : l.Perm l') {z : Int} {o : Option Ent} (hb : Best l z o) : Best l' z o := by
  cases o with
  | none => exact fun e he => hb e (h.mem_iff.2 he)
  | some p => exact ⟨h.mem_iff.1 hb.1, hb.2.1, fun e he => hb.2.2 e (h.mem_iff.2 he)⟩
theorem Best.ins {l : List Ent} {z ad nu : Int} {o : Option Ent} {w : Ent} (h : Best l z o) (hl : ∀ e ∈ l, e.2.2.2 = (ad, nu)) (hw : w.2.2.2 = (ad, nu)) :
    Best (l ++ [w]) z (comb lat o (if kW w = z then some w else none)) := by
  by_cases hz : w.1 = z
  · rw [if_pos (show kW w = z from hz)]
    cases o with
    | none =>
      refine ⟨by simp, hz, fun e he h1 => ?_⟩
      rcases List.mem_append.1 he with he | he
      · exact absurd h1 (h e he)
      · obtain rfl : e = w := by simpa using he
        exact Int.le_refl _
    | some p =>
      have hp := hl p h.1
      show Best _ z (some (lat p w))
      have ha : aft w.2.2 p.2.2 = decide (p.2.2.1 < w.2.2.1) := by
        unfold aft
        rw [hp, hw]
        rw [decide_eq_decide]
        simp
      unfold lat
      rw [ha]
      by_cases hv : p.2.2.1 < w.2.2.1
      · rw [if_pos (by simpa using hv)]
        refine ⟨by simp, hz, fun e he h1 => ?_⟩
        rcases List.mem_append.1 he with he | he
        · have := h.2.2 e he h1; omega
        · obtain rfl : e = w := by simpa using he
          exact Int.le_refl _
      · rw [if_neg (by simpa using hv)]
        refine ⟨by simp [h.1], h.2.1, fun e he h1 => ?_⟩
        rcases List.mem_append.1 he with he | he
        · exact h.2.2 e he h1
        · obtain rfl : e = w := by simpa using he
          omega
  · rw [if_neg (show ¬ kW w = z from hz), comb_none]
    cases o with
    | none =>
      intro e he
      rcases List.mem_append.1 he with he | he
      · exact h e he
      · obtain rfl : e = w := by simpa using he
        exact hz
    | some p =>
      refine ⟨by simp [h.1], h.2.1, fun e he h1 => ?_⟩
      rcases List.mem_append.1 he with he | he
      · exact h.2.2 e he h1
      · obtain rfl : e = w := by simpa using he
        exact absurd h1 hz

/-! What slices.CompactFunc leaves. -/
def z0 : Ent := (0, 0, 0, 0, 0)
def kp (xs : List Ent) (j : Nat) : Bool := decide (j = 0 ∨ (xs.getD j z0).1 ≠ (xs.getD (j - 1) z0).1)
def cto (xs : List Ent) : Nat → List Ent
  | 0 => []
  | m + 1 => cto xs m ++ if kp xs m = true then [xs.getD m z0] else []
theorem kp_lt_one (xs : List Ent) : ∀ j, j < 1 → kp xs j = true := by
  intro j hj
  obtain rfl : j = 0 := by omega
  simp [kp]
theorem kp_pos {xs : List Ent} {m : Nat} {x y : Ent} (h1 : xs[m]? = some x) (h2 : xs[m - 1]? = some y) (h : x.1 ≠ y.1) : kp xs m = true := by simp [kp, List.getD, h1, h2, h]
theorem kp_neg {xs : List Ent} {m : Nat} {x y : Ent} (hm : 0 < m) (h1 : xs[m]? = some x) (h2 : xs[m - 1]? = some y) (h : x.1 = y.1) : kp xs m = false := by
  have : m ≠ 0 := by omega
  simp [kp, List.getD, h1, h2, h, this]
theorem cto_all {xs : List Ent} : ∀ {m : Nat}, m ≤ xs.length → (∀ j, j < m → kp xs j = true) → cto xs m = xs.take m
  | 0, _, _ => by simp [cto]
  | m + 1, hm, h => by
    rw [cto, cto_all (by omega) (fun j hj => h j (by omega)), if_pos (h m (by omega)), List.take_add_one, List.getElem?_eq_getElem (by omega)]
    simp [List.getD, List.getElem?_eq_getElem (show m < xs.length by omega)]
structure CInv (xs us : List Ent) (m k : Nat) : Prop where
  size : us.length = xs.length
  len : (cto xs m).length = k
  lt : k < m
  low : us.take k = cto xs m
  high : ∀ j, k ≤ j → us[j]? = xs[j]?
theorem CInv.start {xs : List Ent} {k0 : Nat} (hk : k0 < xs.length) (hall : ∀ j, j < k0 → kp xs j = true) (hd : kp xs k0 = false) : CInv xs xs (k0 + 1) k0 := by
  have h1 : cto xs (k0 + 1) = xs.take k0 := by rw [cto, hd, cto_all (by omega) hall]; simp
  exact ⟨rfl, by rw [h1, List.length_take]; omega, by omega, h1.symm, fun _ _ => rfl⟩
theorem CInv.keep {xs us : List Ent} {m k : Nat} {x : Ent} (h : CInv xs us m k) (hx : xs[m]? = some x) (hk : kp xs m = true) : CInv xs (us.set k x) (m + 1) (k + 1) := by
  have hm : m < xs.length := (List.getElem?_eq_some_iff.1 hx).1
  have hl := h.lt
  have hs := h.size
  have h1 : cto xs (m + 1) = cto xs m ++ [x] := by rw [cto, if_pos hk]; simp [List.getD, hx]
  refine ⟨by simp [hs], by rw [h1]; simp [h.len], by omega, ?_, fun j hj => ?_⟩
  · rw [h1, ← h.low, List.take_add_one, List.getElem?_set_self (by omega)]
    simp [List.take_set_of_le]
  · rw [List.getElem?_set_ne (by omega)]
    exact h.high j (by omega)
theorem CInv.skip {xs us : List Ent} {m k : Nat} (h : CInv xs us m k) (hk : kp xs m = false) : CInv xs us (m + 1) k := by
  have h1 : cto xs (m + 1) = cto xs m := by rw [cto, hk]; simp
  exact ⟨h.size, by rw [h1]; exact h.len, by have := h.lt; omega, by rw [h1]; exact h.low, h.high⟩

/-- Sorted by server, the later version first. -/
def Ord (ys : List Ent) : Prop := ∀ (i j : Nat) (a b : Ent), i < j → ys[i]? = some a → ys[j]? = some b → a.1 < b.1 ∨ (a.1 = b.1 ∧ b.2.2.1 ≤ a.2.2.1)
theorem lk_snoc {α : Type} (key : α → Int) (l : List α) (y : α) (z : Int) : lk key (l ++ [y]) z = (lk key l z).or (if key y = z then some y else none) := by
  induction l with
  | nil => rfl
  | cons x l ih =>
    rw [List.cons_append, lk, lk]
    by_cases h : key x = z
    · rw [if_pos h, if_pos h]; rfl
    · rw [if_neg h, if_neg h, ih]
theorem cto_best {ys : List Ent} (h : Ord ys) : ∀ {m : Nat}, m ≤ ys.length → Srt kW (cto ys m) ∧ (∀ e ∈ cto ys m, e ∈ ys.take m) ∧ ∀ z, Best (ys.take m) z (lk kW (cto ys m) z)
  | 0, _ => ⟨List.Pairwise.nil, (fun _ h => by cases h), fun z => by simp [cto, lk, Best]⟩
  | m + 1, hm => by
    obtain ⟨i1, i2, i3⟩ := cto_best h (m := m) (by omega)
    have hy : ys[m]? = some ys[m] := List.getElem?_eq_getElem (by omega)
    generalize hyy : ys[m] = y at hy
    have ht : ys.take (m + 1) = ys.take m ++ [y] := by rw [List.take_add_one, hy]; rfl
    have hmem : ∀ e ∈ ys.take m, ∃ i, i < m ∧ ys[i]? = some e := by
      intro e he
      obtain ⟨i, hi⟩ := List.getElem?_of_mem he
      rw [List.getElem?_take] at hi
      split at hi
      · exact ⟨i, by assumption, hi⟩
      · cases hi
    by_cases hk : kp ys m = true
    · have h1 : cto ys (m + 1) = cto ys m ++ [y] := by rw [cto, if_pos hk]; simp [List.getD, hy]
      have hlt : ∀ e ∈ ys.take m, e.1 < y.1 := by
        intro e he
        obtain ⟨i, hi, hie⟩ := hmem e he
        have hp : ys[m - 1]? = some ys[m - 1] := List.getElem?_eq_getElem (by omega)
        generalize ys[m - 1] = p at hp
        have hne : y.1 ≠ p.1 := by
          intro he2
          rw [kp_neg (by omega) hy hp he2] at hk
          cases hk
        have h2 := h (m - 1) m p y (by omega) hp hy
        by_cases hi2 : i = m - 1
        · subst hi2
          rw [hp] at hie
          obtain rfl := Option.some.inj hie
          omega
        · have h3 := h i (m - 1) e p (by omega) hie hp
          omega
      rw [h1, ht]
      refine ⟨List.pairwise_append.2 ⟨i1, by simp, fun a ha b hb => ?_⟩, fun e he => ?_, fun z => ?_⟩
      · obtain rfl : b = y := by simpa using hb
        exact hlt a (i2 a ha)
      · rcases List.mem_append.1 he with he | he
        · exact List.mem_append_left _ (i2 e he)
        · exact List.mem_append_right _ he
      · rw [lk_snoc]
        have hb := i3 z
        by_cases hz : y.1 = z
        · rw [if_pos (show kW y = z from hz), lk_none kW (l := cto ys m) (fun e he => by have := hlt e (i2 e he); unfold kW; omega)]
          refine ⟨by simp, hz, fun e he h1 => ?_⟩
          rcases List.mem_append.1 he with he | he
          · have := hlt e he; omega
          · obtain rfl : e = y := by simpa using he
            exact Int.le_refl _
        · rw [if_neg (show ¬ kW y = z from hz), Option.or_none]
          cases ho : lk kW (cto ys m) z with
          | none =>
            rw [ho] at hb
            intro e he
            rcases List.mem_append.1 he with he | he
            · exact hb e he
            · obtain rfl : e = y := by simpa using he
              exact hz
          | some p =>
            rw [ho] at hb
            refine ⟨by simp [hb.1], hb.2.1, fun e he h9 => ?_⟩
            rcases List.mem_append.1 he with he | he
            · exact hb.2.2 e he h9
            · obtain rfl : e = y := by simpa using he
              exact absurd h9 hz
    · have h1 : cto ys (m + 1) = cto ys m := by rw [cto, if_neg hk, List.append_nil]
      have hm0 : 0 < m := by
        rcases Nat.eq_zero_or_pos m with rfl | h0
        · exact absurd (kp_lt_one ys 0 (by omega)) hk
        · exact h0
      have hp : ys[m - 1]? = some ys[m - 1] := List.getElem?_eq_getElem (by omega)
      generalize ys[m - 1] = p at hp
      have heq : y.1 = p.1 := by
        by_cases he2 : y.1 = p.1
        · exact he2
        · exact absurd (kp_pos hy hp he2) hk
      have h2 := h (m - 1) m p y (by omega) hp hy
      have hpm : p ∈ ys.take m := List.mem_of_getElem? (i := m - 1) (by rw [List.getElem?_take, if_pos (by omega)]; exact hp)
      rw [h1, ht]
      refine ⟨i1, fun e he => List.mem_append_left _ (i2 e he), fun z => ?_⟩
      have hb := i3 z
      cases ho : lk kW (cto ys m) z with
      | none =>
        rw [ho] at hb
        intro e he
        rcases List.mem_append.1 he with he | he
        · exact hb e he
        · obtain rfl : e = y := by simpa using he
          rw [heq]; exact hb p hpm
      | some q =>
        rw [ho] at hb
        refine ⟨by simp [hb.1], hb.2.1, fun e he h3 => ?_⟩
        rcases List.mem_append.1 he with he | he
        · exact hb.2.2 e he h3
        · obtain rfl : e = y := by simpa using he
          have := hb.2.2 p hpm (by omega)
          omega

/-- What the fold by insertions and the fold by appends have in common. -/
structure Rel (ad nu : Int) (s r : Sm) : Prop where
  j : Srt kI s.J
  jm : ∀ x, x ∈ s.J ↔ x ∈ r.J
  rs : Srt kI s.R
  rm : ∀ x, x ∈ s.R ↔ x ∈ r.R
  w : Srt kW s.W
  wo : ∀ e ∈ r.W, e.2.2.2 = (ad, nu)
  wb : ∀ z, Best r.W z (lk kW s.W z)
  k : s.k = r.k
  c : s.c = r.c
  f : s.f = r.f
  v : s.v = r.v
  a : s.a = r.a
  n : s.n = r.n
theorem mem_insI {x y : Int} {l : List Int} (h : Srt kI l) : y ∈ insI x l ↔ y ∈ l ∨ y = x := by
  have hs := ins_srt kI fstI hkI x h
  have e1 : y ∈ insI x l ↔ lk kI (insI x l) y = some y := ⟨fun hm => lk_mem kI hs hm, fun hm => (lk_some kI hm).1⟩
  have e2 : y ∈ l ↔ lk kI l y = some y := ⟨fun hm => lk_mem kI h hm, fun hm => (lk_some kI hm).1⟩
  rw [e1, insI, lk_ins kI fstI hkI x h, e2]
  by_cases hx : x = y
  · subst hx
    rw [if_pos (show kI x = x from rfl)]
    constructor
    · intro _; exact .inr rfl
    · intro _
      cases hl : lk kI l x with
      | none => rfl
      | some p =>
        have := (lk_some kI hl).2
        show some (fstI p x) = some x
        rw [show p = x from this]; rfl
  · rw [if_neg (show ¬ kI x = y from hx), comb_none]
    constructor
    · intro h; exact .inl h
    · rintro (h | h)
      · exact h
      · exact absurd h.symm hx
theorem Rel.step {ad nu : Int} {s r : Sm} (h : Rel ad nu s r) {x : Chg} (hx : x.1 = 1 → x.2.2.2.1 = 0) : Rel ad nu (stp ad nu s x) (stpC ad nu r x) := by
  obtain ⟨k, sv, wt, vn, a, b, c⟩ := x
  dsimp only at hx
  have hJ : Srt kI (insI sv s.J) := ins_srt kI fstI hkI sv h.j
  have hR : Srt kI (insI sv s.R) := ins_srt kI fstI hkI sv h.rs
  have hJm : ∀ y, y ∈ insI sv s.J ↔ y ∈ r.J ++ [sv] := by intro y; rw [mem_insI h.j, h.jm]; simp
  have hRm : ∀ y, y ∈ insI sv s.R ↔ y ∈ r.R ++ [sv] := by intro y; rw [mem_insI h.rs, h.rm]; simp
  have hW : ∀ v', Srt kW (insW (sv, wt, v', ad, nu) s.W) := fun v' => ins_srt kW lat hkW _ h.w
  have hWo : ∀ v', ∀ e ∈ r.W ++ [((sv, wt, v', ad, nu) : Ent)], e.2.2.2 = (ad, nu) := by
    intro v' e he
    rcases List.mem_append.1 he with he | he
    · exact h.wo e he
    · obtain rfl : e = (sv, wt, v', ad, nu) := by simpa using he
      rfl
  have hWb : ∀ v' z, Best (r.W ++ [((sv, wt, v', ad, nu) : Ent)]) z (lk kW (insW (sv, wt, v', ad, nu) s.W) z) := by
    intro v' z
    rw [insW, lk_ins kW lat hkW _ h.w]
    exact (h.wb z).ins h.wo rfl
  simp only [stp, stpC]
  split
  · rename_i h1
    rw [hx h1]
    exact ⟨hJ, hJm, h.rs, h.rm, hW 0, hWo 0, hWb 0, h.k, h.c, h.f, h.v, h.a, h.n⟩
  · split
    · exact ⟨h.j, h.jm, hR, hRm, h.w, h.wo, h.wb, h.k, h.c, h.f, h.v, h.a, h.n⟩
    · split
      · exact ⟨h.j, h.jm, h.rs, h.rm, hW vn, hWo vn, hWb vn, h.k, h.c, h.f, h.v, h.a, h.n⟩
      · split
        · exact ⟨h.j, h.jm, h.rs, h.rm, h.w, h.wo, h.wb, rfl, rfl, rfl, rfl, rfl, rfl⟩
        · exact h
theorem rel_ofP {ad nu : Int} {cs : List Chg} (h : ∀ x ∈ cs, x.1 = 1 → x.2.2.2.1 = 0) : Rel ad nu (ofP ad nu cs) (rawP ad nu cs) := by
  have hg : ∀ (cs : List Chg) (s r : Sm), (∀ x ∈ cs, x.1 = 1 → x.2.2.2.1 = 0) → Rel ad nu s r → Rel ad nu (cs.foldl (stp ad nu) s) (cs.foldl (stpC ad nu) r) := by
    intro cs
    induction cs with
    | nil => intro s r _ h; exact h
    | cons x cs ih => intro s r hx h; exact ih _ _ (fun y hy => hx y (by simp [hy])) (h.step (hx x (by simp)))
  refine hg cs emp emp h ⟨List.Pairwise.nil, fun _ => Iff.rfl, List.Pairwise.nil, fun _ => Iff.rfl, List.Pairwise.nil, (fun _ h => by cases h), fun z => ?_, rfl, rfl, rfl, rfl, rfl, rfl⟩
  intro e he; cases he

/-- The gathered lists, by the changes. -/
def jOf : Chg → Option Int
  | (k, s, _) => if k = 1 then some s else none
def rOf : Chg → Option Int
  | (k, s, _) => if k = 2 then some s else none
def wOf (ad nu : Int) : Chg → Option Ent
  | (k, s, t, v, _) => if k = 1 ∨ k = 3 then some (s, t, v, ad, nu) else none
theorem raw_lists (ad nu : Int) (cs : List Chg) : (rawP ad nu cs).J = cs.filterMap jOf ∧ (rawP ad nu cs).R = cs.filterMap rOf ∧ (rawP ad nu cs).W = cs.filterMap (wOf ad nu) := by
  have hg : ∀ (cs : List Chg) (s : Sm), (cs.foldl (stpC ad nu) s).J = s.J ++ cs.filterMap jOf ∧ (cs.foldl (stpC ad nu) s).R = s.R ++ cs.filterMap rOf ∧ (cs.foldl (stpC ad nu) s).W = s.W ++ cs.filterMap (wOf ad nu) := by
    intro cs
    induction cs with
    | nil => intro s; simp
    | cons x cs ih =>
      intro s
      obtain ⟨h1, h2, h3⟩ := ih (stpC ad nu s x)
      rw [List.foldl_cons, h1, h2, h3]
      obtain ⟨k, sv, wt, vn, a, b, c⟩ := x
      by_cases k1 : k = 1
      · subst k1; simp [stpC, jOf, rOf, wOf]
      · by_cases k2 : k = 2
        · subst k2; simp [stpC, jOf, rOf, wOf]
        · by_cases k3 : k = 3
          · subst k3; simp [stpC, jOf, rOf, wOf]
          · by_cases k4 : k = 4
            · subst k4; simp [stpC, jOf, rOf, wOf]
            · simp [stpC, jOf, rOf, wOf, k1, k2, k3, k4]
  have := hg cs emp
  simpa [emp, rawP] using this
theorem sim_iff {x y : Chg} : JM.sim x y = false ↔ ¬ (x.1 = y.1 ∧ x.2.1 = y.2.1) := by
  unfold JM.sim
  rw [Bool.and_eq_false_iff]
  simp only [beq_eq_false_iff_ne]
  constructor
  · rintro (h | h) ⟨h1, h2⟩
    · exact h h1
    · exact h h2
  · intro h
    by_cases h1 : x.1 = y.1
    · exact .inr fun h2 => h ⟨h1, h2⟩
    · exact .inl h1
theorem raw_nodup {ad nu : Int} {cs : List Chg} (h : JM.errS [] cs = 0) : (rawP ad nu cs).J.Pairwise (· ≠ ·) ∧ (rawP ad nu cs).R.Pairwise (· ≠ ·) ∧ Dis (rawP ad nu cs).W := by
  obtain ⟨h1, h2⟩ := errS_zero h
  obtain ⟨e1, e2, e3⟩ := raw_lists ad nu cs
  have h4 : cs.Pairwise fun x y => JM.sim x y = false ∧ JM.errCh x = 0 ∧ JM.errCh y = 0 := by
    refine List.Pairwise.imp_of_mem ?_ h2
    intro a b ha hb hab
    exact ⟨hab, (h1 a ha).1, (h1 b hb).1⟩
  rw [e1, e2, e3]
  refine ⟨List.pairwise_filterMap.2 (h4.imp ?_), List.pairwise_filterMap.2 (h4.imp ?_), List.pairwise_filterMap.2 (h4.imp ?_)⟩
  · rintro ⟨k, s, t, v, a, b, c⟩ ⟨k', s', t', v', a', b', c'⟩ ⟨hs, hx, hy⟩ x hxe y hye
    have hs := sim_iff.1 hs
    simp only [jOf] at hxe hye
    split at hxe
    · split at hye
      · cases hxe; cases hye
        rename_i p q
        intro he; exact hs ⟨by rw [p, q], he⟩
      · cases hye
    · cases hxe
  · rintro ⟨k, s, t, v, a, b, c⟩ ⟨k', s', t', v', a', b', c'⟩ ⟨hs, hx, hy⟩ x hxe y hye
    have hs := sim_iff.1 hs
    simp only [rOf] at hxe hye
    split at hxe
    · split at hye
      · cases hxe; cases hye
        rename_i p q
        intro he; exact hs ⟨by rw [p, q], he⟩
      · cases hye
    · cases hxe
  · rintro ⟨k, s, t, v, a, b, c⟩ ⟨k', s', t', v', a', b', c'⟩ ⟨hs, hx, hy⟩ x hxe y hye
    have hs := sim_iff.1 hs
    have hx := chg_zero hx
    have hy := chg_zero hy
    simp only [wOf] at hxe hye
    dsimp only at hs
    split at hxe
    · split at hye
      · cases hxe; cases hye
        dsimp only
        omega
      · cases hye
    · cases hxe

theorem srtI_ext {l l' : List Int} (h : Srt kI l) (h' : Srt kI l') (hm : ∀ x, x ∈ l ↔ x ∈ l') : l = l' := by
  refine ext kI h h' fun x => ?_
  have e1 : ∀ {m : List Int}, Srt kI m → lk kI m x = if x ∈ m then some x else none := by
    intro m hm
    by_cases hx : x ∈ m
    · rw [if_pos hx]; exact lk_mem kI hm hx
    · rw [if_neg hx]
      exact lk_none kI fun y hy he => hx (by rw [show x = y from he.symm]; exact hy)
  rw [e1 h, e1 h']
  by_cases hx : x ∈ l
  · rw [if_pos hx, if_pos ((hm x).1 hx)]
  · rw [if_neg hx, if_neg (fun hx' => hx ((hm x).2 hx'))]
theorem sort_srt {l : List Int} (h : l.Pairwise (· ≠ ·)) : Srt kI (l.mergeSort fun x y => decide (x ≤ y)) := by
  have hp := List.mergeSort_perm l fun x y => decide (x ≤ y)
  have h1 : (l.mergeSort fun x y => decide (x ≤ y)).Pairwise (· ≠ ·) := (hp.pairwise_iff (fun {_ _} h => Ne.symm h)).2 h
  have h2 := List.pairwise_mergeSort (le := fun x y : Int => decide (x ≤ y)) (by intro a b c h1 h2; simp at *; omega) (by intro a b; simp; omega) l
  refine (h1.and h2).imp ?_
  rintro a b ⟨h3, h4⟩
  have := of_decide_eq_true h4
  show a < b
  omega

/-- The two summaries of a valid proposal are one. -/
theorem ofP_sort {ad nu : Int} {cs : List Chg} (h : JM.errS [] cs = 0) {ys : List Ent} (hp : ys.Perm (rawP ad nu cs).W) (ho : Ord ys) :
    ofP ad nu cs = ⟨(rawP ad nu cs).J.mergeSort fun x y => decide (x ≤ y), (rawP ad nu cs).R.mergeSort fun x y => decide (x ≤ y), cto ys ys.length, (rawP ad nu cs).k, (rawP ad nu cs).c, (rawP ad nu cs).f, (rawP ad nu cs).v, (rawP ad nu cs).a, (rawP ad nu cs).n⟩ := by
  have hr : Rel ad nu (ofP ad nu cs) (rawP ad nu cs) := rel_ofP fun x hx h1 => by
    have h2 := ((errS_zero h).1 x hx).1
    obtain ⟨k, s, t, v, a, b, c⟩ := x
    dsimp only at h1 ⊢
    subst h1
    have := chg_zero h2
    omega
  obtain ⟨n1, n2, n3⟩ := raw_nodup (ad := ad) (nu := nu) h
  have eJ : (ofP ad nu cs).J = (rawP ad nu cs).J.mergeSort fun x y => decide (x ≤ y) := srtI_ext hr.j (sort_srt n1) fun x => by rw [hr.jm, (List.mergeSort_perm _ _).mem_iff]
  have eR : (ofP ad nu cs).R = (rawP ad nu cs).R.mergeSort fun x y => decide (x ≤ y) := srtI_ext hr.rs (sort_srt n2) fun x => by rw [hr.rm, (List.mergeSort_perm _ _).mem_iff]
  obtain ⟨c1, c2, c3⟩ := cto_best ho (m := ys.length) (Nat.le_refl _)
  rw [List.take_length] at c3
  have eW : (ofP ad nu cs).W = cto ys ys.length := ext kW hr.w c1 fun z => (hr.wb z).uniq n3 ((c3 z).perm hp)
  rw [← eJ, ← eR, ← eW, ← hr.k, ← hr.c, ← hr.f, ← hr.v, ← hr.a, ← hr.n]

/-- A valid proposal's summary is valid. -/
theorem okS_emp : OkS emp := ⟨List.Pairwise.nil, List.Pairwise.nil, List.Pairwise.nil, (fun _ h => by cases h), (fun _ h => by cases h), (fun _ h => by cases h), .inl rfl, by decide, fun _ => ⟨rfl, rfl, rfl⟩⟩
theorem okS_stp {ad nu : Int} {s : Sm} (h : OkS s) (ha : 0 ≤ ad) (hn : 0 ≤ nu) {x : Chg} (hx : JM.errCh x = 0) : OkS (stp ad nu s x) := by
  obtain ⟨k, sv, wt, vn, a, b, c⟩ := x
  have hc := chg_zero hx
  have hI : ∀ {l : List Int}, Srt kI l → (∀ x ∈ l, 1 ≤ x ∧ x ≤ 12) → 1 ≤ sv ∧ sv ≤ 12 → Srt kI (insI sv l) ∧ ∀ x ∈ insI sv l, 1 ≤ x ∧ x ≤ 12 := by
    intro l h1 h2 h3
    refine ⟨ins_srt kI fstI hkI sv h1, fun x hx => ?_⟩
    rcases (mem_insI h1).1 hx with h4 | rfl
    · exact h2 x h4
    · exact h3
  have hW : ∀ v', OkE (sv, wt, v', ad, nu) → Srt kW (insW (sv, wt, v', ad, nu) s.W) ∧ ∀ e ∈ insW (sv, wt, v', ad, nu) s.W, OkE e := by
    intro v' hv
    have hs : Srt kW (insW (sv, wt, v', ad, nu) s.W) := ins_srt kW lat hkW _ h.w
    refine ⟨hs, fun e he => ?_⟩
    have h1 := lk_mem kW hs he
    rw [insW, lk_ins kW lat hkW _ h.w] at h1
    have hlat : ∀ p : Ent, OkE p → OkE (lat p (sv, wt, v', ad, nu)) := by
      intro p hp
      unfold lat
      split
      · exact hv
      · exact hp
    by_cases hz : kW (sv, wt, v', ad, nu) = kW e
    · rw [if_pos hz] at h1
      cases h2 : lk kW s.W (kW e) with
      | none => rw [h2] at h1; cases h1; exact hv
      | some p =>
        rw [h2] at h1
        have h3 : some (lat p (sv, wt, v', ad, nu)) = some e := h1
        rw [← Option.some.inj h3]
        exact hlat p (h.ws p (lk_some kW h2).1)
    · rw [if_neg hz, comb_none] at h1
      exact h.ws e (lk_some kW h1).1
  rcases hc with ⟨rfl, h1, h2, rfl⟩ | ⟨rfl, h1⟩ | ⟨rfl, h1, h2, h3⟩ | ⟨rfl, h1, h2⟩
  · have i1 := hI h.j h.js h1
    have i2 := hW 0 ⟨h1, h2.1, h2.2, Int.le_refl 0, ha, hn⟩
    exact ⟨i1.1, h.r, i2.1, i1.2, h.rs, i2.2, h.z, h.t, h.t0⟩
  · have i1 := hI h.r h.rs h1
    exact ⟨h.j, i1.1, h.w, h.js, i1.2, h.ws, h.z, h.t, h.t0⟩
  · have i2 := hW vn ⟨h1, h2.1, h2.2, by show 0 ≤ vn; omega, ha, hn⟩
    exact ⟨h.j, h.r, i2.1, h.js, h.rs, i2.2, h.z, h.t, h.t0⟩
  · have hk := errR_one h2
    have e : stp ad nu s (4, sv, wt, vn, a, b, c) = { s with k := a, c := b, f := c, v := vn, a := ad, n := nu } := rfl
    rw [e]
    refine ⟨h.j, h.r, h.w, h.js, h.rs, h.ws, .inr h2, ⟨by show 0 ≤ vn; omega, ha, hn⟩, fun hz => ?_⟩
    have : decide (a = 0 ∧ b = 0 ∧ c = 0) = true := hz
    exact absurd (of_decide_eq_true this).1 hk
theorem okS_ofP {ad nu : Int} {cs : List Chg} (h : JM.errP ad nu cs = 0) : OkS (ofP ad nu cs) := by
  obtain ⟨h1, h2, h3, h4⟩ := errP_zero h
  have h5 := (errS_zero h4).1
  have hg : ∀ (cs : List Chg) (s : Sm), (∀ x ∈ cs, JM.errCh x = 0) → OkS s → OkS (cs.foldl (stp ad nu) s) := by
    intro cs
    induction cs with
    | nil => intro s _ h; exact h
    | cons x cs ih => intro s hx h; exact ih _ (fun y hy => hx y (by simp [hy])) (okS_stp h (by omega) (by omega) (hx x (by simp)))
  exact hg cs emp (fun x hx => (h5 x hx).1) okS_emp

end Go.Proofs.YtkaafbdhgekeeaaGreat.MM
