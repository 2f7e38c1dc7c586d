/-
  Plain mathematics of states (P12.1 to P12.6): lists of updates, their errors, vectors, unions, parts of a pool. Lists and integers alone. No conditions beyond those that each lemma names. (Written by mk_smath.py.)
  Plain mathematics of states: their vectors, parts of one pool, agreement. No conditions beyond those that each lemma names. (Written by mk_smath.py.)
  Plain mathematics of states: their encodings; what Add, Beyond and Merge answer. No conditions beyond those that each lemma names. (Written by mk_smath.py.)
  Plain mathematics of states: fetching what a vector does not cover, chunk by chunk; what Merge leads to. No conditions beyond those that each lemma names.
  Plain mathematics of states: one update more keeps a state valid; what Merge leads to is valid and contains the old state. No conditions beyond those that each lemma names.
  Plain mathematics of states: Merge's own bookkeeping: what has been added lies apart from the old state; the two together are the state so far. No conditions beyond those that each lemma names.
-/
import Derived.Test.YtdfablboenfblaaDoorQUR
import Derived.Test.YtdfablboenfblaaDoorQKF
namespace Go.Proofs.YtdfablboenfblaaDoor.SM
open UM (Ef)

/-- An update: client, number, tag, effects. -/
abbrev Fp := Int × Int × Int × List Ef
instance decEf : DecidableEq Ef := inferInstanceAs (DecidableEq (Int × ByteArray × ByteArray × Int × ByteArray))
instance decEs : DecidableEq (List Ef) := inferInstance
instance decRs : DecidableEq (Int × List Ef) := inferInstance
instance decQr : DecidableEq (Int × Int × List Ef) := inferInstance
instance decFp : DecidableEq Fp := inferInstanceAs (DecidableEq (Int × (Int × Int × List Ef)))
instance memFp (f : Fp) (a : List Fp) : Decidable (f ∈ a) := @List.instDecidableMemOfLawfulBEq Fp instBEqOfDecidableEq inferInstance f a
theorem cmpU_neg (c q d r : Int) : UM.cmpU d r c q = -UM.cmpU c q d r := by unfold UM.cmpU; (repeat' split) <;> omega
def errF (f : Fp) : Int := UM.errU f.1 f.2.1 f.2.2.1 f.2.2.2
/-- The error of a list of updates behind the identifier pr. -/
def errL : Int × Int → List Fp → Int
  | _, [] => 0
  | pr, f :: r =>
    if errF f ≠ 0 then errF f
    else if UM.cmpU f.1 f.2.1 pr.1 pr.2 ≤ 0 then 7
    else if 1 < f.2.1 ∧ ¬ (pr.1 = f.1 ∧ pr.2 = f.2.1 - 1) then 8
    else errL (f.1, f.2.1) r
def Ok (fs : List Fp) : Prop := errL (0, 0) fs = 0

theorem errF_num {f : Fp} (h : errF f = 0) : 101 ≤ f.1 ∧ f.1 ≤ 106 ∧ 1 ≤ f.2.1 ∧ f.2.1 ≤ 8 := by
  obtain ⟨h1, h2, h3, _⟩ := UM.errU_ok h
  have := UM.isCl_ok h1
  omega
theorem errL_cons {pr : Int × Int} {f : Fp} {r : List Fp} (h : errL pr (f :: r) = 0) :
    errF f = 0 ∧ 0 < UM.cmpU f.1 f.2.1 pr.1 pr.2 ∧ (1 < f.2.1 → pr.1 = f.1 ∧ pr.2 = f.2.1 - 1) ∧ errL (f.1, f.2.1) r = 0 := by
  unfold errL at h
  split at h
  · rename_i h1; exact absurd h h1
  · rename_i h1
    split at h
    · cases h
    · rename_i h2
      split at h
      · cases h
      · rename_i h3
        refine ⟨by omega, by omega, fun h4 => ?_, h⟩
        by_cases h5 : pr.1 = f.1 ∧ pr.2 = f.2.1 - 1
        · exact h5
        · exact absurd ⟨h4, h5⟩ h3
theorem errL_mk {pr : Int × Int} {f : Fp} {r : List Fp} (h1 : errF f = 0) (h2 : 0 < UM.cmpU f.1 f.2.1 pr.1 pr.2) (h3 : 1 < f.2.1 → pr.1 = f.1 ∧ pr.2 = f.2.1 - 1) (h4 : errL (f.1, f.2.1) r = 0) : errL pr (f :: r) = 0 := by
  unfold errL
  rw [if_neg (by omega), if_neg (by omega), if_neg (by rintro ⟨h5, h6⟩; exact h6 (h3 h5)), h4]
theorem cmpP_pos {a m b n : Int} : 0 < UM.cmpU a m b n ↔ b < a ∨ (a = b ∧ n < m) := by
  unfold UM.cmpU; (repeat' split) <;> omega
theorem cmpP_lt {a m b n : Int} : UM.cmpU a m b n < 0 ↔ a < b ∨ (a = b ∧ m < n) := by
  unfold UM.cmpU; (repeat' split) <;> omega
/-- The next update of a valid list: the same client and the next number, or a later one and number 1. -/
theorem next_of {pr : Int × Int} {f : Fp} {r : List Fp} (h : errL pr (f :: r) = 0) (h0 : 0 ≤ pr.2) : (f.1 = pr.1 ∧ f.2.1 = pr.2 + 1) ∨ (pr.1 < f.1 ∧ f.2.1 = 1) := by
  obtain ⟨h1, h2, h3, _⟩ := errL_cons h
  have := errF_num h1
  rw [cmpP_pos] at h2
  by_cases h4 : 1 < f.2.1
  · have := h3 h4
    omega
  · omega

/-- The order of identifiers. -/
def lt (x y : Fp) : Prop := x.1 < y.1 ∨ (x.1 = y.1 ∧ x.2.1 < y.2.1)
def Srt (fs : List Fp) : Prop := fs.Pairwise lt
theorem lt_irrefl {x y : Fp} (h : lt x y) : ¬ (x.1 = y.1 ∧ x.2.1 = y.2.1) := by unfold lt at h; omega
theorem errL_srt {fs : List Fp} : ∀ {pr : Int × Int}, errL pr fs = 0 → (∀ x ∈ fs, pr.1 < x.1 ∨ (pr.1 = x.1 ∧ pr.2 < x.2.1)) ∧ Srt fs := by
  induction fs with
  | nil => intro pr _; exact ⟨(fun x hx => by cases hx), List.Pairwise.nil⟩
  | cons f r ih =>
    intro pr h
    obtain ⟨h1, h2, h3, h4⟩ := errL_cons h
    obtain ⟨h5, h6⟩ := ih h4
    rw [cmpP_pos] at h2
    refine ⟨fun x hx => ?_, List.pairwise_cons.2 ⟨fun x hx => h5 x hx, h6⟩⟩
    rcases List.mem_cons.1 hx with rfl | hx
    · omega
    · have := h5 x hx
      simp only at this
      omega
theorem Ok.srt {fs : List Fp} (h : Ok fs) : Srt fs := (errL_srt h).2
theorem errL_all {fs : List Fp} : ∀ {pr : Int × Int}, errL pr fs = 0 → ∀ x ∈ fs, errF x = 0 := by
  induction fs with
  | nil => intro pr _ x hx; cases hx
  | cons f r ih =>
    intro pr h x hx
    obtain ⟨h1, _, _, h4⟩ := errL_cons h
    rcases List.mem_cons.1 hx with rfl | hx
    · exact h1
    · exact ih h4 x hx
theorem Ok.all {fs : List Fp} (h : Ok fs) : ∀ x ∈ fs, errF x = 0 := errL_all h
theorem Srt.get {fs : List Fp} (h : Srt fs) {i j : Nat} {x y : Fp} (hi : fs[i]? = some x) (hj : fs[j]? = some y) (hij : i < j) : lt x y := by
  obtain ⟨hi1, rfl⟩ := List.getElem?_eq_some_iff.1 hi
  obtain ⟨hj1, rfl⟩ := List.getElem?_eq_some_iff.1 hj
  exact List.pairwise_iff_getElem.1 h i j hi1 hj1 hij
/-- In a sorted list the identifier tells the update. -/
theorem Srt.key {fs : List Fp} (h : Srt fs) {x y : Fp} (hx : x ∈ fs) (hy : y ∈ fs) (hk : x.1 = y.1 ∧ x.2.1 = y.2.1) : x = y := by
  obtain ⟨i, hi, rfl⟩ := List.getElem_of_mem hx
  obtain ⟨j, hj, rfl⟩ := List.getElem_of_mem hy
  rcases Nat.lt_trichotomy i j with h1 | h1 | h1
  · exact absurd hk (lt_irrefl (h.get (List.getElem?_eq_getElem hi) (List.getElem?_eq_getElem hj) h1))
  · subst h1; rfl
  · exact absurd ⟨hk.1.symm, hk.2.symm⟩ (lt_irrefl (h.get (List.getElem?_eq_getElem hj) (List.getElem?_eq_getElem hi) h1))
/-- Sorted lists with the same members are equal. -/
theorem srt_ext {a : List Fp} : ∀ {b : List Fp}, Srt a → Srt b → (∀ x, x ∈ a ↔ x ∈ b) → a = b := by
  induction a with
  | nil =>
    intro b _ _ h
    cases b with
    | nil => rfl
    | cons y b => exact absurd ((h y).2 (by simp)) (by simp)
  | cons x a ih =>
    intro b ha hb h
    cases b with
    | nil => exact absurd ((h x).1 (by simp)) (by simp)
    | cons y b =>
      obtain ⟨ha1, ha2⟩ := List.pairwise_cons.1 ha
      obtain ⟨hb1, hb2⟩ := List.pairwise_cons.1 hb
      have hxy : x = y := by
        rcases List.mem_cons.1 ((h x).1 (by simp)) with h1 | h1
        · exact h1
        · rcases List.mem_cons.1 ((h y).2 (by simp)) with h2 | h2
          · exact h2.symm
          · have := hb1 x h1
            have := ha1 y h2
            unfold lt at *
            omega
      subst hxy
      rw [ih ha2 hb2 (fun z => ⟨fun hz => ?_, fun hz => ?_⟩)]
      · rcases List.mem_cons.1 ((h z).1 (List.mem_cons_of_mem _ hz)) with h1 | h1
        · subst h1; exact absurd (ha1 z hz) (by unfold lt; omega)
        · exact h1
      · rcases List.mem_cons.1 ((h z).2 (List.mem_cons_of_mem _ hz)) with h1 | h1
        · subst h1; exact absurd (hb1 z hz) (by unfold lt; omega)
        · exact h1
/-! How many updates of an client; which numbers occur. -/
def ct (fs : List Fp) (a : Int) : Int := ((fs.filter fun f => decide (f.1 = a)).length : Int)
def hasK (fs : List Fp) (a n : Int) : Bool := fs.any fun f => decide (f.1 = a) && decide (f.2.1 = n)
theorem ct_nil (a : Int) : ct [] a = 0 := rfl
theorem ct_cons (f : Fp) (r : List Fp) (a : Int) : ct (f :: r) a = (if f.1 = a then 1 else 0) + ct r a := by
  unfold ct
  by_cases h : f.1 = a
  · rw [List.filter_cons_of_pos (by simpa using h), if_pos h, List.length_cons]; omega
  · rw [List.filter_cons_of_neg (by simpa using h), if_neg h]; omega
theorem ct_snoc (f : Fp) (r : List Fp) (a : Int) : ct (r ++ [f]) a = ct r a + (if f.1 = a then 1 else 0) := by
  unfold ct
  by_cases h : f.1 = a
  · rw [List.filter_append, List.length_append, List.filter_cons_of_pos (by simpa using h), if_pos h]; simp
  · rw [List.filter_append, List.length_append, List.filter_cons_of_neg (by simpa using h), if_neg h]; simp
theorem ct_pos (fs : List Fp) (a : Int) : 0 ≤ ct fs a := by unfold ct; omega
theorem ct_len (fs : List Fp) (a : Int) : ct fs a ≤ (fs.length : Int) := by
  unfold ct
  have := List.length_filter_le (fun f : Fp => decide (f.1 = a)) fs
  omega
theorem hasK_iff {fs : List Fp} {a n : Int} : hasK fs a n = true ↔ ∃ f ∈ fs, f.1 = a ∧ f.2.1 = n := by
  unfold hasK; simp [List.any_eq_true]
theorem ct_low {fs : List Fp} : ∀ {pr : Int × Int} {a : Int}, errL pr fs = 0 → a < pr.1 → ct fs a = 0 := by
  induction fs with
  | nil => intro pr a _ _; rfl
  | cons f r ih =>
    intro pr a h ha
    obtain ⟨h1, h2, h3, h4⟩ := errL_cons h
    rw [cmpP_pos] at h2
    rw [ct_cons, if_neg (by omega), ih h4 (by simp only; omega)]
    rfl
theorem has_ct {fs : List Fp} : ∀ {pr : Int × Int} (a n : Int), errL pr fs = 0 → 0 ≤ pr.2 →
    (hasK fs a n = true ↔ (pr.1 ≤ a ∧ (if a = pr.1 then pr.2 else 0) < n ∧ n ≤ (if a = pr.1 then pr.2 else 0) + ct fs a)) := by
  induction fs with
  | nil =>
    intro pr a n _ _
    rw [ct_nil]
    constructor
    · intro h; cases h
    · rintro ⟨_, h1, h2⟩; omega
  | cons f r ih =>
    intro pr a n h h0
    have hn := next_of h h0
    obtain ⟨h1, h2, h3, h4⟩ := errL_cons h
    have hf := errF_num h1
    have ih := ih (pr := (f.1, f.2.1)) a n h4 (by simp only; omega)
    simp only at ih
    have e : hasK (f :: r) a n = ((decide (f.1 = a) && decide (f.2.1 = n)) || hasK r a n) := rfl
    rw [e, ct_cons, Bool.or_eq_true, ih, Bool.and_eq_true, decide_eq_true_iff, decide_eq_true_iff]
    by_cases hA : f.1 = a
    · subst hA
      simp only [if_true, true_and]
      have hp := ct_pos r f.1
      split <;> omega
    · have hz : a < f.1 → ct r a = 0 := fun hl => ct_low h4 hl
      have hp := ct_pos r a
      rw [if_neg (fun e => hA e.symm), if_neg hA]
      constructor
      · rintro (h5 | h5)
        · exact absurd h5.1 hA
        · rw [if_neg (by omega)]; omega
      · intro h5
        refine .inr ?_
        by_cases hl : a < f.1
        · rw [hz hl] at h5; omega
        · rw [if_neg (by omega)] at h5; omega
theorem Ok.has {fs : List Fp} (h : Ok fs) (a n : Int) (hn : 1 ≤ n) : hasK fs a n = true ↔ n ≤ ct fs a := by
  have := has_ct (pr := (0, 0)) a n h (Int.le_refl _)
  simp only at this
  rw [this]
  constructor
  · rintro ⟨_, _, h2⟩; split at h2 <;> omega
  · intro h2
    by_cases ha : a < 0
    · have := ct_low (pr := (0, 0)) h ha; omega
    · refine ⟨by omega, ?_, ?_⟩ <;> split <;> omega
theorem Ok.ct8 {fs : List Fp} (h : Ok fs) (a : Int) : ct fs a ≤ 8 := by
  by_cases h0 : ct fs a < 1
  · omega
  · obtain ⟨f, hf, h1, h2⟩ := hasK_iff.1 ((h.has a (ct fs a) (by omega)).2 (Int.le_refl _))
    have := errF_num (h.all f hf)
    omega
theorem ct_sum {fs : List Fp} (h : ∀ x ∈ fs, errF x = 0) : (fs.length : Int) = ct fs 101 + ct fs 102 + ct fs 103 + ct fs 104 + ct fs 105 + ct fs 106 := by
  induction fs with
  | nil => rfl
  | cons f r ih =>
    have h1 := errF_num (h f (by simp))
    have h2 := ih (fun x hx => h x (by simp [hx]))
    simp only [ct_cons]
    rw [List.length_cons]
    have : f.1 = 101 ∨ f.1 = 102 ∨ f.1 = 103 ∨ f.1 = 104 ∨ f.1 = 105 ∨ f.1 = 106 := by omega
    rcases this with e | e | e | e | e | e <;> simp [e] <;> omega
theorem Ok.all48 {fs : List Fp} (h : Ok fs) : fs.length ≤ 48 := by
  have := ct_sum h.all
  have h1 := h.ct8 101
  have h2 := h.ct8 102
  have h3 := h.ct8 103
  have h4 := h.ct8 104
  have h5 := h.ct8 105
  have h6 := h.ct8 106
  omega

/-! Parts of a list: the numbers up to a bound for each client. -/
def rs (p : List Fp) (g : Int → Int) : List Fp := p.filter fun f => decide (f.2.1 ≤ g f.1)
theorem rs_mem {p : List Fp} {g : Int → Int} {f : Fp} : f ∈ rs p g ↔ f ∈ p ∧ f.2.1 ≤ g f.1 := by unfold rs; simp [List.mem_filter]
theorem rs_srt {p : List Fp} (h : Srt p) (g : Int → Int) : Srt (rs p g) := List.Pairwise.sublist List.filter_sublist h
theorem rs_errL {p : List Fp} (g : Int → Int) : ∀ {pr pr' : Int × Int}, errL pr p = 0 → UM.cmpU pr'.1 pr'.2 pr.1 pr.2 ≤ 0 → (pr.2 ≤ g pr.1 → pr' = pr) → errL pr' (rs p g) = 0 := by
  induction p with
  | nil => intro pr pr' _ _ _; rfl
  | cons f r ih =>
    intro pr pr' h hc hk
    obtain ⟨h1, h2, h3, h4⟩ := errL_cons h
    by_cases hg : f.2.1 ≤ g f.1
    · have e : rs (f :: r) g = f :: rs r g := List.filter_cons_of_pos (by simpa using hg)
      rw [e]
      refine errL_mk h1 ?_ (fun h5 => ?_) (ih h4 (by unfold UM.cmpU; simp) (fun _ => rfl))
      · rw [cmpP_pos] at h2 ⊢
        have : ¬ 0 < UM.cmpU pr'.1 pr'.2 pr.1 pr.2 := by omega
        rw [cmpP_pos] at this
        omega
      · have h6 := h3 h5
        rw [hk (by rw [h6.1, h6.2]; omega)]
        exact h6
    · have e : rs (f :: r) g = rs r g := List.filter_cons_of_neg (by simpa using hg)
      rw [e]
      refine ih h4 ?_ (fun h5 => absurd h5 hg)
      simp only
      rw [cmpP_pos] at h2
      have : ¬ 0 < UM.cmpU pr'.1 pr'.2 pr.1 pr.2 := by omega
      rw [cmpP_pos] at this
      have : ¬ 0 < UM.cmpU pr'.1 pr'.2 f.1 f.2.1 := by rw [cmpP_pos]; omega
      omega
theorem Ok.rs {p : List Fp} (h : Ok p) (g : Int → Int) : Ok (SM.rs p g) := rs_errL g h (by unfold UM.cmpU; simp) (fun _ => rfl)
theorem rs_ext {p : List Fp} {g h : Int → Int} (e : ∀ f ∈ p, (f.2.1 ≤ g f.1 ↔ f.2.1 ≤ h f.1)) : rs p g = rs p h := by
  unfold rs
  refine List.filter_congr (fun f hf => ?_)
  exact decide_eq_decide.2 (e f hf)
theorem rs_len (p : List Fp) (g : Int → Int) : (rs p g).length ≤ p.length := List.length_filter_le _ _
/-! The union: one walk over both. -/
def un : List Fp → List Fp → List Fp
  | a, [] => a
  | [], y :: b => y :: b
  | x :: a, y :: b => if UM.cmpU x.1 x.2.1 y.1 y.2.1 < 0 then x :: un a (y :: b) else if UM.cmpU x.1 x.2.1 y.1 y.2.1 = 0 then x :: un a b else y :: un (x :: a) b
termination_by a b => a.length + b.length
theorem un_nil (a : List Fp) : un a [] = a := by unfold un; rfl
theorem nil_un (b : List Fp) : un [] b = b := by cases b <;> (unfold un; rfl)
theorem un_cons (x : Fp) (a : List Fp) (y : Fp) (b : List Fp) : un (x :: a) (y :: b) =
    if UM.cmpU x.1 x.2.1 y.1 y.2.1 < 0 then x :: un a (y :: b) else if UM.cmpU x.1 x.2.1 y.1 y.2.1 = 0 then x :: un a b else y :: un (x :: a) b := by
  rw [un]
theorem un_len (a b : List Fp) : (un a b).length ≤ a.length + b.length := by
  induction a, b using un.induct with
  | case1 a => rw [un_nil]; simp
  | case2 y b => rw [nil_un]; simp
  | case3 x a y b h ih => rw [un_cons, if_pos h]; simp only [List.length_cons] at *; omega
  | case4 x a y b h h0 ih => rw [un_cons, if_neg h, if_pos h0]; simp only [List.length_cons] at *; omega
  | case5 x a y b h h0 ih => rw [un_cons, if_neg h, if_neg h0]; simp only [List.length_cons] at *; omega
/-- Two filters of one sorted list. -/
theorem un_filter {p : List Fp} (P Q : Fp → Bool) (h : Srt p) : un (p.filter P) (p.filter Q) = p.filter fun f => P f || Q f := by
  induction p with
  | nil => exact un_nil _
  | cons x p ih =>
    obtain ⟨h1, h2⟩ := List.pairwise_cons.1 h
    have ih := ih h2
    have hlt : ∀ y ∈ p, UM.cmpU x.1 x.2.1 y.1 y.2.1 < 0 := fun y hy => cmpP_lt.2 (h1 y hy)
    have hgt : ∀ y ∈ p, ¬ UM.cmpU y.1 y.2.1 x.1 x.2.1 < 0 ∧ ¬ UM.cmpU y.1 y.2.1 x.1 x.2.1 = 0 := fun y hy => by
      have := hlt y hy
      rw [cmpU_neg x.1 x.2.1 y.1 y.2.1]
      omega
    cases hP : P x <;> cases hQ : Q x
    · rw [List.filter_cons_of_neg (by simp [hP]), List.filter_cons_of_neg (by simp [hQ]), List.filter_cons_of_neg (by simp [hP, hQ]), ih]
    · rw [List.filter_cons_of_neg (by simp [hP]), List.filter_cons_of_pos hQ, List.filter_cons_of_pos (by simp [hP, hQ]), ← ih]
      cases hF : p.filter P with
      | nil => rw [nil_un, nil_un]
      | cons y F =>
        have hy : y ∈ p := (List.mem_filter.1 (show y ∈ p.filter P by rw [hF]; simp)).1
        rw [un_cons, if_neg (hgt y hy).1, if_neg (hgt y hy).2]
    · rw [List.filter_cons_of_pos hP, List.filter_cons_of_neg (by simp [hQ]), List.filter_cons_of_pos (by simp [hP, hQ]), ← ih]
      cases hG : p.filter Q with
      | nil => rw [un_nil, un_nil]
      | cons y G =>
        have hy : y ∈ p := (List.mem_filter.1 (show y ∈ p.filter Q by rw [hG]; simp)).1
        rw [un_cons, if_pos (hlt y hy)]
    · rw [List.filter_cons_of_pos hP, List.filter_cons_of_pos hQ, List.filter_cons_of_pos (by simp [hP, hQ]), ← ih, un_cons, if_neg (by unfold UM.cmpU; simp), if_pos (by unfold UM.cmpU; simp)]
theorem un_rs {p : List Fp} (h : Srt p) (g k : Int → Int) : un (rs p g) (rs p k) = rs p (fun a => max (g a) (k a)) := by
  unfold rs
  rw [un_filter _ _ h]
  refine List.filter_congr (fun f _ => ?_)
  rw [← Bool.decide_or]
  exact decide_eq_decide.2 (by show _ ↔ f.2.1 ≤ max (g f.1) (k f.1); omega)
/-- One update put where it belongs. -/
theorem un_one {f : Fp} : ∀ {c : List Fp} (i : Nat), i ≤ c.length → (∀ k x, c[k]? = some x → k < i → UM.cmpU x.1 x.2.1 f.1 f.2.1 < 0) → (∀ x, c[i]? = some x → 0 < UM.cmpU x.1 x.2.1 f.1 f.2.1) → un c [f] = c.take i ++ ([f] ++ c.drop i) := by
  intro c
  induction c with
  | nil => intro i hi _ _; obtain rfl : i = 0 := by simpa using hi
           rw [nil_un]; rfl
  | cons x c ih =>
    intro i hi h1 h2
    cases i with
    | zero =>
      have := h2 x rfl
      rw [un_cons, if_neg (by omega), if_neg (by omega), un_nil]
      rfl
    | succ i =>
      rw [un_cons, if_pos (h1 0 x rfl (by omega)), ih i (by simpa using hi) (fun k y hk hki => h1 (k + 1) y (by simpa using hk) (by omega)) (fun y hy => h2 y (by simpa using hy))]
      rfl
theorem un_mem {x : Fp} : ∀ {a b : List Fp}, x ∈ un a b → x ∈ a ∨ x ∈ b := by
  intro a b
  induction a, b using un.induct with
  | case1 a => rw [un_nil]; exact .inl
  | case2 y b => rw [nil_un]; exact .inr
  | case3 z a y b h ih => rw [un_cons, if_pos h]; intro hx; rcases List.mem_cons.1 hx with h1 | h1
                          · exact .inl (by simp [h1])
                          · rcases ih h1 with h2 | h2
                            · exact .inl (by simp [h2])
                            · exact .inr h2
  | case4 z a y b h h0 ih => rw [un_cons, if_neg h, if_pos h0]; intro hx; rcases List.mem_cons.1 hx with h1 | h1
                             · exact .inl (by simp [h1])
                             · rcases ih h1 with h2 | h2
                               · exact .inl (by simp [h2])
                               · exact .inr (by simp [h2])
  | case5 z a y b h h0 ih => rw [un_cons, if_neg h, if_neg h0]; intro hx; rcases List.mem_cons.1 hx with h1 | h1
                             · exact .inr (by simp [h1])
                             · rcases ih h1 with h2 | h2
                               · exact .inl h2
                               · exact .inr (by simp [h2])

/-! What the functions answer. -/
def cons (a b : List Fp) : Bool := b.all fun f => decide (f ∈ a)
def conk (a b : List Fp) : Bool := b.all fun f => hasK a f.1 f.2.1
def Agr (a b : List Fp) : Prop := ∀ x ∈ a, ∀ y ∈ b, x.1 = y.1 → x.2.1 = y.2.1 → x = y
def meet (a b : List Fp) : List Fp := rs a (ct b)
def meetK (a b : List Fp) : List Fp := a.filter fun f => hasK b f.1 f.2.1
theorem cons_iff {a b : List Fp} : cons a b = true ↔ ∀ f ∈ b, f ∈ a := by unfold cons; simp
theorem conk_cons {a b : List Fp} (h : Agr a b) : conk a b = cons a b := by
  unfold conk cons
  rw [Bool.eq_iff_iff, List.all_eq_true, List.all_eq_true]
  refine ⟨fun h1 f hf => ?_, fun h1 f hf => ?_⟩
  · obtain ⟨x, hx, h2, h3⟩ := hasK_iff.1 (h1 f hf)
    rw [← h x hx f hf h2 h3]
    simpa using hx
  · exact hasK_iff.2 ⟨f, by simpa using h1 f hf, rfl, rfl⟩
theorem Agr.symm {a b : List Fp} (h : Agr a b) : Agr b a := fun x hx y hy h1 h2 => (h y hy x hx h1.symm h2.symm).symm
theorem same_eq {a b : List Fp} (h : Agr a b) (ha : Srt a) (hb : Srt b) : (conk a b && conk b a) = decide (a = b) := by
  rw [conk_cons h, conk_cons h.symm, Bool.eq_iff_iff, Bool.and_eq_true, cons_iff, cons_iff, decide_eq_true_iff]
  constructor
  · rintro ⟨h1, h2⟩; exact srt_ext ha hb (fun x => ⟨h2 x, h1 x⟩)
  · rintro rfl; exact ⟨fun _ => id, fun _ => id⟩
theorem ct_rs {p : List Fp} (h : Ok p) (g : Int → Int) {f : Fp} (hf : f ∈ p) : f.2.1 ≤ ct (rs p g) f.1 ↔ f.2.1 ≤ g f.1 := by
  have h1 := errF_num (h.all f hf)
  rw [← (h.rs g).has f.1 f.2.1 (by omega), hasK_iff]
  constructor
  · rintro ⟨x, hx, h2, h3⟩
    have hx' := rs_mem.1 hx
    have e := h.srt.key hx'.1 hf ⟨h2, h3⟩
    rw [← e]
    exact hx'.2
  · intro h2; exact ⟨f, rs_mem.2 ⟨hf, h2⟩, rfl, rfl⟩
theorem rs_ct {p : List Fp} (h : Ok p) (g : Int → Int) : rs p (ct (rs p g)) = rs p g := rs_ext (fun _ hf => ct_rs h g hf)
end Go.Proofs.YtdfablboenfblaaDoor.SM

namespace Go.Proofs.YtdfablboenfblaaDoor.SM
open UM (Ef)
open VM (Ent)

/-- The reference's counting. -/
def vr (fs : List Fp) : List Ent := fs.foldl (fun v f => VM.wi v f.1 (VM.cnt v f.1 + 1)) []
theorem vr_snoc (fs : List Fp) (f : Fp) : vr (fs ++ [f]) = VM.wi (vr fs) f.1 (VM.cnt (vr fs) f.1 + 1) := by unfold vr; rw [List.foldl_append]; rfl
theorem vr_spec {fs : List Fp} (h : ∀ x ∈ fs, errF x = 0) (hl : fs.length ≤ 1000) : VM.Val 0 (vr fs) ∧ (∀ a, VM.cnt (vr fs) a = ct fs a) ∧ (vr fs).length ≤ fs.length := by
  obtain ⟨n, hn⟩ : ∃ n, n = fs.length := ⟨_, rfl⟩
  induction n generalizing fs with
  | zero => obtain rfl : fs = [] := List.eq_nil_of_length_eq_zero hn.symm
            exact ⟨trivial, fun a => rfl, Nat.le_refl _⟩
  | succ n ih =>
    rcases List.eq_nil_or_concat fs with rfl | ⟨g, f, rfl⟩
    · simp at hn
    · rw [List.concat_eq_append] at *
      rw [List.length_append, List.length_singleton] at hn hl
      obtain ⟨i1, i2, i3⟩ := ih (fs := g) (fun x hx => h x (by simp [hx])) (by omega) (by omega)
      have hf := errF_num (h f (by simp))
      have hc := ct_pos g f.1
      have hcl := ct_len g f.1
      rw [vr_snoc]
      have hw := VM.wi_spec (a := f.1) (c := VM.cnt (vr g) f.1 + 1) (by omega) (by rw [i2]; omega) (by rw [i2]; omega) i1
      refine ⟨hw.1, fun a => ?_, ?_⟩
      · rw [hw.2 a, i2, i2, ct_snoc]
        split
        · rename_i e; rw [e]
        · omega
      · have := VM.wi_length (vr g) f.1 (VM.cnt (vr g) f.1 + 1)
        rw [List.length_append, List.length_singleton]
        omega
/-- One update more, as config.Vector counts it. -/
def vput (v : List Ent) (f : Fp) : List Ent := if v.length ≠ 0 ∧ (v.getD (v.length - 1) (0, 0)).1 = f.1 then v.set (v.length - 1) (f.1, (v.getD (v.length - 1) (0, 0)).2 + 1) else v ++ [(f.1, 1)]
def vo (fs : List Fp) : List Ent := fs.foldl vput []
theorem vo_snoc (fs : List Fp) (f : Fp) : vo (fs ++ [f]) = vput (vo fs) f := by unfold vo; rw [List.foldl_append]; rfl
theorem val_snoc {v : List Ent} : ∀ {p : Int} {e f : Ent}, VM.Val p (v ++ [e]) → e.1 < f.1 → 1 ≤ f.2 → f.2 ≤ 1000000 → VM.Val p (v ++ [e] ++ [f]) := by
  induction v with
  | nil => intro p e f h h1 h2 h3; exact ⟨h.1, h.2.1, h.2.2.1, h1, h2, h3, trivial⟩
  | cons g v ih => intro p e f h h1 h2 h3; exact ⟨h.1, h.2.1, h.2.2.1, ih h.2.2.2 h1 h2 h3⟩
theorem val_last {v : List Ent} : ∀ {p : Int} {e : Ent} {n : Int}, VM.Val p (v ++ [e]) → 1 ≤ n → n ≤ 1000000 → VM.Val p (v ++ [(e.1, n)]) := by
  induction v with
  | nil => intro p e n h h2 h3; exact ⟨h.1, h2, h3, trivial⟩
  | cons g v ih => intro p e n h h2 h3; exact ⟨h.1, h.2.1, h.2.2.1, ih h.2.2.2 h2 h3⟩
theorem cnt_snoc {v : List Ent} : ∀ {p : Int} {e : Ent} (c : Int), VM.Val p (v ++ [e]) → VM.cnt (v ++ [e]) c = if e.1 = c then e.2 else VM.cnt v c := by
  induction v with
  | nil => intro p e c _; rfl
  | cons g v ih =>
    intro p e c h
    have ih := ih (e := e) c h.2.2.2
    rw [List.cons_append, VM.cnt_cons, VM.cnt_cons, ih]
    by_cases hg : g.1 = c
    · rw [if_pos hg, if_pos hg, if_neg]
      intro he
      have := VM.val_get h.2.2.2 (show (v ++ [e])[v.length]? = some e by simp)
      omega
    · rw [if_neg hg, if_neg hg]
/-- Behind the first updates of a valid list: the vector is valid, its last entry is the identifier before. -/
theorem vo_run {fs : List Fp} : ∀ {pr : Int × Int} {v : List Ent}, errL pr fs = 0 → ((v = [] ∧ pr = (0, 0)) ∨ ∃ v0, v = v0 ++ [pr]) → VM.Val 0 v →
    VM.Val 0 (fs.foldl vput v) ∧ ∀ a, VM.cnt (fs.foldl vput v) a = VM.cnt v a + ct fs a := by
  induction fs with
  | nil => intro pr v _ _ hv; exact ⟨hv, fun a => by rw [ct_nil, Int.add_zero]; rfl⟩
  | cons f r ih =>
    intro pr v h hv hval
    obtain ⟨h1, h2, h3, h4⟩ := errL_cons h
    have hf := errF_num h1
    have key : ∃ v1, vput v f = v1 ++ [(f.1, f.2.1)] ∧ VM.Val 0 (v1 ++ [(f.1, f.2.1)]) ∧ ∀ a, VM.cnt (vput v f) a = VM.cnt v a + (if f.1 = a then 1 else 0) := by
      rcases hv with ⟨rfl, rfl⟩ | ⟨v0, rfl⟩
      · have hn := next_of h (Int.le_refl _)
        simp only at hn
        have e : f.2.1 = 1 := by omega
        have e2 : vput [] f = [] ++ [(f.1, f.2.1)] := by unfold vput; rw [if_neg (by simp), e]
        refine ⟨[], e2, ⟨by show 0 < f.1; omega, by show 1 ≤ f.2.1; omega, by show f.2.1 ≤ 1000000; omega, trivial⟩, fun a => ?_⟩
        rw [e2]
        show (if f.1 = a then f.2.1 else 0) = 0 + _
        rw [e]; simp
      · have hlast : (v0 ++ [pr]).getD ((v0 ++ [pr]).length - 1) (0, 0) = pr := by simp [List.getD]
        have hgp := VM.val_get hval (show (v0 ++ [pr])[v0.length]? = some pr by simp)
        have hn := next_of h (by omega)
        by_cases hA : pr.1 = f.1
        · have e : f.2.1 = pr.2 + 1 := by omega
          have e2 : vput (v0 ++ [pr]) f = v0 ++ [(f.1, f.2.1)] := by
            unfold vput
            rw [hlast, if_pos ⟨by simp, hA⟩, e]
            simp [List.set_append_right]
          have hvv : VM.Val 0 (v0 ++ [(f.1, f.2.1)]) := by have := val_last (n := f.2.1) hval (by omega) (by omega); rw [hA] at this; exact this
          refine ⟨v0, e2, hvv, fun a => ?_⟩
          rw [e2, cnt_snoc a hvv, cnt_snoc a hval, hA, e]
          simp only
          split <;> omega
        · have e : f.2.1 = 1 := by omega
          have e2 : vput (v0 ++ [pr]) f = (v0 ++ [pr]) ++ [(f.1, f.2.1)] := by
            unfold vput
            rw [hlast, if_neg (fun hh => hA hh.2), e]
          have hvv : VM.Val 0 ((v0 ++ [pr]) ++ [(f.1, f.2.1)]) := val_snoc hval (by show pr.1 < f.1; omega) (by show 1 ≤ f.2.1; omega) (by show f.2.1 ≤ 1000000; omega)
          refine ⟨v0 ++ [pr], e2, hvv, fun a => ?_⟩
          rw [e2, cnt_snoc a hvv]
          simp only
          by_cases ha : f.1 = a
          · rw [if_pos ha, if_pos ha, e]
            have : VM.cnt (v0 ++ [pr]) a = 0 := by
              rw [cnt_snoc a hval, if_neg (by omega)]
              have hz : ∀ {u : List Ent} {p : Int}, VM.Val p (u ++ [pr]) → VM.cnt u a = 0 := by
                intro u
                induction u with
                | nil => intro p _; rfl
                | cons g u ihu =>
                  intro p hu
                  have := VM.val_get hu.2.2.2 (show (u ++ [pr])[u.length]? = some pr by simp)
                  rw [VM.cnt_cons, if_neg (by omega), ihu hu.2.2.2]
              exact hz hval
            omega
          · rw [if_neg ha, if_neg ha]; omega
    obtain ⟨v1, k1, k2, k3⟩ := key
    have := ih (pr := (f.1, f.2.1)) (v := vput v f) h4 (.inr ⟨v1, k1⟩) (by rw [k1]; exact k2)
    refine ⟨this.1, fun a => ?_⟩
    show VM.cnt (r.foldl vput (vput v f)) a = _
    rw [this.2 a, k3 a, ct_cons]
    omega
theorem vo_spec {fs : List Fp} (h : Ok fs) : VM.Val 0 (vo fs) ∧ ∀ a, VM.cnt (vo fs) a = ct fs a := by
  have := vo_run (v := []) h (.inl ⟨rfl, rfl⟩) trivial
  exact ⟨this.1, fun a => by rw [show vo fs = fs.foldl vput [] from rfl, this.2 a]; show 0 + _ = _; omega⟩
theorem vput_len (v : List Ent) (f : Fp) : (vput v f).length ≤ v.length + 1 := by unfold vput; split <;> simp
theorem fold_len {fs : List Fp} : ∀ (v : List Ent), (fs.foldl vput v).length ≤ v.length + fs.length := by
  induction fs with
  | nil => intro v; simp
  | cons f r ih => intro v; have := ih (vput v f); have := vput_len v f; simp only [List.foldl_cons, List.length_cons]; omega
theorem vo_len (fs : List Fp) : (vo fs).length ≤ fs.length := by
  have h : (fs.foldl vput []).length ≤ ([] : List Ent).length + fs.length := fold_len []
  rw [List.length_nil, Nat.zero_add] at h
  exact h
theorem vput_small {v : List Ent} {N : Int} (f : Fp) (hN : 0 ≤ N) (h : ∀ e ∈ v, 0 ≤ e.2 ∧ e.2 ≤ N) : ∀ e ∈ vput v f, 0 ≤ e.2 ∧ e.2 ≤ N + 1 := by
  intro e he
  unfold vput at he
  split at he
  · rename_i hc
    have hl : (v.getD (v.length - 1) (0, 0)) ∈ v := by
      have : v.length - 1 < v.length := by omega
      rw [List.getD, List.getElem?_eq_getElem this]; exact List.getElem_mem this
    rcases List.mem_or_eq_of_mem_set he with h1 | rfl
    · have := h e h1; omega
    · have := h _ hl; simp only; omega
  · rcases List.mem_append.1 he with h1 | h1
    · have := h e h1; omega
    · rw [List.mem_singleton] at h1; subst h1; simp only; omega
theorem vo_small (fs : List Fp) : ∀ e ∈ vo fs, 0 ≤ e.2 ∧ e.2 ≤ (fs.length : Int) := by
  obtain ⟨n, hn⟩ : ∃ n, n = fs.length := ⟨_, rfl⟩
  induction n generalizing fs with
  | zero => obtain rfl : fs = [] := List.eq_nil_of_length_eq_zero hn.symm
            intro e he; cases he
  | succ n ih =>
    rcases List.eq_nil_or_concat fs with rfl | ⟨g, f, rfl⟩
    · simp at hn
    · rw [List.concat_eq_append] at *
      rw [List.length_append, List.length_singleton] at hn
      rw [vo_snoc, List.length_append, List.length_singleton]
      have := vput_small f (N := (g.length : Int)) (by omega) (ih g (by omega))
      simpa using this
theorem vo_vr {fs : List Fp} (h : Ok fs) : vo fs = vr fs := by
  have h1 := vo_spec h
  have h2 := vr_spec h.all (by have := h.all48; omega)
  exact VM.ext h1.1 h2.1 (fun a => by rw [h1.2, h2.2.1])
theorem cmpU_zero {c q d r : Int} : UM.cmpU c q d r = 0 ↔ c = d ∧ q = r := by
  unfold UM.cmpU; (repeat' split) <;> omega
def mx (g k : Int → Int) : Int → Int := fun a => max (g a) (k a)
def mn (g k : Int → Int) : Int → Int := fun a => min (g a) (k a)
theorem mx_comm (g k : Int → Int) : mx g k = mx k g := by funext a; unfold mx; omega
theorem mx_assoc (g k l : Int → Int) : mx (mx g k) l = mx g (mx k l) := by funext a; unfold mx; omega
theorem mx_self (g : Int → Int) : mx g g = g := by funext a; unfold mx; omega
theorem le_ct {p : List Fp} (h : Ok p) (g : Int → Int) (c n : Int) (hn : 1 ≤ n) : n ≤ ct (rs p g) c ↔ (∃ f ∈ p, f.1 = c ∧ f.2.1 = n) ∧ n ≤ g c := by
  rw [← (h.rs g).has c n hn, hasK_iff]
  constructor
  · rintro ⟨f, hf, rfl, rfl⟩
    obtain ⟨h1, h2⟩ := rs_mem.1 hf
    exact ⟨⟨f, h1, rfl, rfl⟩, h2⟩
  · rintro ⟨⟨f, hf, rfl, rfl⟩, h2⟩
    exact ⟨f, rs_mem.2 ⟨hf, h2⟩, rfl, rfl⟩
theorem ct_mx {p : List Fp} (h : Ok p) (g k : Int → Int) (c : Int) : ct (rs p (mx g k)) c = max (ct (rs p g) c) (ct (rs p k) c) := by
  have x0 := ct_pos (rs p (mx g k)) c
  have y0 := ct_pos (rs p g) c
  have z0 := ct_pos (rs p k) c
  have hX : ct (rs p (mx g k)) c ≤ max (ct (rs p g) c) (ct (rs p k) c) := by
    by_cases h1 : 1 ≤ ct (rs p (mx g k)) c
    · obtain ⟨e, h2⟩ := (le_ct h (mx g k) c _ h1).1 (Int.le_refl _)
      unfold mx at h2
      by_cases h3 : ct (rs p (mx g k)) c ≤ g c
      · have := (le_ct h g c _ h1).2 ⟨e, h3⟩; unfold mx at *; omega
      · have := (le_ct h k c _ h1).2 ⟨e, by unfold mx at *; omega⟩; unfold mx at *; omega
    · omega
  have hY : ct (rs p g) c ≤ ct (rs p (mx g k)) c := by
    by_cases h1 : 1 ≤ ct (rs p g) c
    · obtain ⟨e, h2⟩ := (le_ct h g c _ h1).1 (Int.le_refl _)
      exact (le_ct h (mx g k) c _ h1).2 ⟨e, by unfold mx; omega⟩
    · omega
  have hZ : ct (rs p k) c ≤ ct (rs p (mx g k)) c := by
    by_cases h1 : 1 ≤ ct (rs p k) c
    · obtain ⟨e, h2⟩ := (le_ct h k c _ h1).1 (Int.le_refl _)
      exact (le_ct h (mx g k) c _ h1).2 ⟨e, by unfold mx; omega⟩
    · omega
  omega
theorem vo_mx {p : List Fp} (h : Ok p) (g k : Int → Int) : vo (rs p (mx g k)) = VM.rj (vo (rs p g)) (vo (rs p k)) := by
  have h1 := vo_spec (h.rs (mx g k))
  have h2 := vo_spec (h.rs g)
  have h3 := vo_spec (h.rs k)
  have h4 := VM.rj_spec (Int.le_refl 0) h2.1 h3.1
  exact VM.ext h1.1 h4.1 (fun c => by rw [h1.2, h4.2, h2.2, h3.2, ct_mx h])
theorem cons_le {p : List Fp} (h : Ok p) (g k : Int → Int) : cons (rs p g) (rs p k) = VM.le (vo (rs p k)) (vo (rs p g)) := by
  have h2 := vo_spec (h.rs g)
  have h3 := vo_spec (h.rs k)
  rw [Bool.eq_iff_iff, VM.le_iff h3.1 h2.1, cons_iff]
  constructor
  · intro h4 c
    rw [h2.2, h3.2]
    have z0 := ct_pos (rs p g) c
    by_cases h1 : 1 ≤ ct (rs p k) c
    · obtain ⟨f, hf, e1, e2⟩ := hasK_iff.1 (((h.rs k).has c _ h1).2 (Int.le_refl _))
      have h5 := h4 f hf
      exact ((h.rs g).has c _ h1).1 (hasK_iff.2 ⟨f, h5, e1, e2⟩)
    · omega
  · intro h4 f hf
    obtain ⟨hp, hk⟩ := rs_mem.1 hf
    have h5 := h4 f.1
    rw [h2.2, h3.2] at h5
    have h6 := (ct_rs h k hp).2 hk
    exact rs_mem.2 ⟨hp, (ct_rs h g hp).1 (by omega)⟩
theorem cons_mx2 (p : List Fp) (g k : Int → Int) : cons (rs p (mx g k)) (rs p k) = true := cons_iff.2 fun f hf => by
  obtain ⟨h1, h2⟩ := rs_mem.1 hf
  exact rs_mem.2 ⟨h1, by unfold mx; omega⟩
theorem cons_both (p : List Fp) (c g k : Int → Int) (h1 : cons (rs p c) (rs p g) = true) (h2 : cons (rs p c) (rs p k) = true) : cons (rs p c) (rs p (mx g k)) = true := cons_iff.2 fun f hf => by
  obtain ⟨hp, h3⟩ := rs_mem.1 hf
  by_cases h4 : f.2.1 ≤ g f.1
  · exact cons_iff.1 h1 f (rs_mem.2 ⟨hp, h4⟩)
  · exact cons_iff.1 h2 f (rs_mem.2 ⟨hp, by unfold mx at h3; omega⟩)
theorem cons_un (p : List Fp) (g k : Int → Int) : decide (rs p (mx g k) = rs p g) = cons (rs p g) (rs p k) := by
  rw [Bool.eq_iff_iff, cons_iff, decide_eq_true_iff]
  constructor
  · intro h f hf
    rw [← h]
    exact cons_iff.1 (cons_mx2 p g k) f hf
  · intro h
    refine rs_ext (fun f hf => ?_)
    constructor
    · intro h1
      by_cases h4 : f.2.1 ≤ g f.1
      · exact h4
      · exact (rs_mem.1 (h f (rs_mem.2 ⟨hf, by unfold mx at h1; omega⟩))).2
    · intro h1; unfold mx; omega
def agr1 (x : Fp) (b : List Fp) : Bool := b.all fun y => !(decide (UM.cmpU x.1 x.2.1 y.1 y.2.1 = 0) && !UM.eqU x.1 x.2.1 x.2.2.1 x.2.2.2 y.1 y.2.1 y.2.2.1 y.2.2.2)
def agr (a b : List Fp) : Bool := a.all fun x => agr1 x b
theorem agr_iff {a b : List Fp} (h : agr a b = true) : Agr a b := by
  intro x hx y hy h1 h2
  unfold agr at h
  have h3 := List.all_eq_true.1 h x hx
  unfold agr1 at h3
  have h4 := List.all_eq_true.1 h3 y hy
  rw [decide_eq_true (cmpU_zero.2 ⟨h1, h2⟩)] at h4
  have h5 : UM.eqU x.1 x.2.1 x.2.2.1 x.2.2.2 y.1 y.2.1 y.2.2.1 y.2.2.2 = true := by simpa using h4
  have h6 := of_decide_eq_true h5
  obtain ⟨x1, x2, x3, x4⟩ := x
  obtain ⟨y1, y2, y3, y4⟩ := y
  obtain ⟨rfl, rfl, rfl, rfl⟩ := h6
  rfl

end Go.Proofs.YtdfablboenfblaaDoor.SM

namespace Go.Proofs.YtdfablboenfblaaDoor.SM
open UM (Ef)
open VM (Ent)
open WM (enc dec Bytes)

/-- The effects' numbers are of 64 bits. -/
def Fit (fs : List Fp) : Prop := ∀ f ∈ fs, ∀ e ∈ f.2.2.2, UM.in64 e
def encF (f : Fp) : List Int := UM.encU f.1 f.2.1 f.2.2.1 f.2.2.2
def flat (fs : List Fp) : List Int := fs.flatMap encF
def encL (fs : List Fp) : List Int := enc fs.length ++ flat fs
theorem flat_cons (f : Fp) (r : List Fp) : flat (f :: r) = encF f ++ flat r := List.flatMap_cons
theorem flat_snoc (fs : List Fp) (f : Fp) : flat (fs ++ [f]) = flat fs ++ encF f := by unfold flat; rw [List.flatMap_append]; simp
theorem encF_len {f : Fp} (h : errF f = 0) (hr : ∀ e ∈ f.2.2.2, UM.in64 e) : (encF f).length ≤ 840 := UM.encU_len h hr
theorem flat_len {fs : List Fp} (h : ∀ f ∈ fs, errF f = 0) (hr : Fit fs) : (flat fs).length ≤ fs.length * 840 := by
  induction fs with
  | nil => simp [flat]
  | cons f fs ih =>
    rw [flat_cons, List.length_append, List.length_cons]
    have := encF_len (h f (by simp)) (hr f (by simp))
    have := ih (fun g hg => h g (by simp [hg])) (fun g hg => hr g (by simp [hg]))
    omega

/-- What is read update by update: error, used, updates. -/
def rest (xs : List Int) : Nat → List Fp → Nat → Int × Nat × List Fp
  | 0, U, u => (0, u, U)
  | n + 1, U, u => if (UM.decU (xs.drop u)).1 ≠ 0 then ((UM.decU (xs.drop u)).1, 0, []) else rest xs n (U ++ [((UM.decU (xs.drop u)).2.2.1.1, (UM.decU (xs.drop u)).2.2.1.2.1, (UM.decU (xs.drop u)).2.2.1.2.2, (UM.decU (xs.drop u)).2.2.2)]) (u + (UM.decU (xs.drop u)).2.1)
def finL (r : Int × Nat × List Fp) : Int × Nat × List Fp := if r.1 ≠ 0 then (r.1, 0, []) else if errL (0, 0) r.2.2 ≠ 0 then (errL (0, 0) r.2.2, 0, []) else r
def decL (xs : List Int) : Int × Nat × List Fp :=
  if (dec 0 0 xs).2.2 ≠ 0 then ((dec 0 0 xs).2.2, 0, []) else if 48 < (dec 0 0 xs).1 then (3, 0, []) else finL (rest xs (dec 0 0 xs).1.toNat [] (dec 0 0 xs).2.1.toNat)
theorem rest_succ (xs : List Int) (n : Nat) (U : List Fp) (u : Nat) : rest xs (n + 1) U u = if (UM.decU (xs.drop u)).1 ≠ 0 then ((UM.decU (xs.drop u)).1, 0, []) else rest xs n (U ++ [((UM.decU (xs.drop u)).2.2.1.1, (UM.decU (xs.drop u)).2.2.1.2.1, (UM.decU (xs.drop u)).2.2.1.2.2, (UM.decU (xs.drop u)).2.2.2)]) (u + (UM.decU (xs.drop u)).2.1) := by
  rw [rest]
theorem rest_enc {fs : List Fp} : ∀ (pre tail : List Int) (U : List Fp), (∀ f ∈ fs, errF f = 0) → Fit fs → rest (pre ++ (flat fs ++ tail)) fs.length U pre.length = (0, (pre ++ flat fs).length, U ++ fs) := by
  induction fs with
  | nil => intro pre tail U _ _; simp [rest, flat]
  | cons f r ih =>
    intro pre tail U h hr
    have hd : (pre ++ (flat (f :: r) ++ tail)).drop pre.length = encF f ++ (flat r ++ tail) := by rw [List.drop_left, flat_cons, List.append_assoc]
    have h1 := UM.decU_enc (h f (by simp)) (hr f (by simp)) (flat r ++ tail)
    have h1' : UM.decU ((pre ++ (flat (f :: r) ++ tail)).drop pre.length) = (0, (encF f).length, (f.1, f.2.1, f.2.2.1), f.2.2.2) := by rw [hd]; exact h1
    rw [List.length_cons, rest_succ, h1', if_neg (by simp)]
    have h2 := ih (pre ++ encF f) tail (U ++ [f]) (fun g hg => h g (by simp [hg])) (fun g hg => hr g (by simp [hg]))
    rw [show pre ++ (flat (f :: r) ++ tail) = (pre ++ encF f) ++ (flat r ++ tail) by rw [flat_cons]; simp [List.append_assoc]]
    rw [List.length_append] at h2
    show rest _ r.length (U ++ [f]) (pre.length + (encF f).length) = _
    rw [h2, flat_cons]
    simp [List.append_assoc]
theorem decL_enc {fs : List Fp} (h : Ok fs) (hr : Fit fs) (tail : List Int) : decL (encL fs ++ tail) = (0, (encL fs).length, fs) := by
  have h9 := h.all48
  have hd : dec 0 0 (encL fs ++ tail) = ((fs.length : Int), ((enc fs.length).length : Int), 0) := by
    unfold encL
    rw [List.append_assoc]
    exact WM.dec_enc0 fs.length _ (by omega)
  unfold decL
  rw [hd]
  rw [if_neg (by simp), if_neg (by simp; omega)]
  have hr := rest_enc (enc fs.length) tail [] h.all hr
  rw [show enc fs.length ++ (flat fs ++ tail) = encL fs ++ tail by unfold encL; rw [List.append_assoc]] at hr
  simp only [Int.toNat_natCast]
  rw [hr]
  unfold finL
  rw [if_neg (by simp)]
  simp only [List.nil_append]
  rw [if_neg (by simp; exact h)]
  rfl
theorem dec_num {xs : List Int} (hb : Bytes xs) : (∃ e : Int, e ≠ 0 ∧ dec 0 0 xs = (0, 0, e)) ∨ ∃ m : Nat, m < 18446744073709551616 ∧ dec 0 0 xs = ((m : Int), ((enc m).length : Int), 0) ∧ (enc m).length ≤ xs.length := by
  rcases WM.dec_two xs hb with ⟨e, he, h⟩ | ⟨m, hm, h, hl, _⟩
  · exact .inl ⟨e, by omega, h⟩
  · exact .inr ⟨m, hm, h, hl⟩

/-- What Add answers: error and state. -/
def addU (c : List Fp) (f : Fp) : Int × List Fp :=
  if errF f ≠ 0 then (errF f, []) else if hasK c f.1 f.2.1 = true then (5, []) else if f.2.1 ≠ ct c f.1 + 1 then (8, []) else (0, un c [f])
/-- The updates of s that a vector does not cover. -/
def beyAll (s : List Fp) (g : Int → Int) : List Fp := s.filter fun f => decide (g f.1 < f.2.1)
/-- What Beyond answers. -/
def bey (s : List Fp) (g : Int → Int) (n : Int) : List Fp × Bool := ((beyAll s g).take n.toNat, decide (n.toNat < (beyAll s g).length))
/-- One update merged: the state, how many were added, how many dropped. -/
def mrg1 (p : List Fp × Int × Int) (f : Fp) : List Fp × Int × Int :=
  if errF f ≠ 0 ∨ ct p.1 f.1 + 1 < f.2.1 then (p.1, p.2.1, p.2.2 + 1) else if hasK p.1 f.1 f.2.1 = true then p else (un p.1 [f], p.2.1 + 1, p.2.2)
def mrg (s : List Fp) (l : List Fp) : List Fp × Int × Int := l.foldl mrg1 (s, 0, 0)
theorem mrg_snoc (s l : List Fp) (f : Fp) : mrg s (l ++ [f]) = mrg1 (mrg s l) f := by unfold mrg; rw [List.foldl_append]; rfl

end Go.Proofs.YtdfablboenfblaaDoor.SM

namespace Go.Proofs.YtdfablboenfblaaDoor.SM
open UM (Ef)

theorem beyAll_mem {s : List Fp} {g : Int → Int} {x : Fp} : x ∈ beyAll s g ↔ x ∈ s ∧ g x.1 < x.2.1 := by unfold beyAll; simp [List.mem_filter]
theorem beyAll_srt {s : List Fp} (h : Srt s) (g : Int → Int) : Srt (beyAll s g) := List.Pairwise.sublist List.filter_sublist h
theorem filter_one {p : List Fp} (h : Srt p) {f : Fp} (hf : f ∈ p) : (p.filter fun x => decide (x = f)) = [f] := by
  refine srt_ext (List.Pairwise.sublist List.filter_sublist h) (List.pairwise_singleton _ _) (fun x => ?_)
  rw [List.mem_filter, List.mem_singleton, decide_eq_true_iff]
  constructor
  · exact fun h => h.2
  · rintro rfl; exact ⟨hf, rfl⟩
theorem mem_ct {p : List Fp} (hp : Ok p) {g : Int → Int} {f : Fp} (hf : f ∈ rs p g) : f.2.1 ≤ ct (rs p g) f.1 := by
  have h1 := errF_num (hp.all f (rs_mem.1 hf).1)
  exact ((hp.rs g).has f.1 f.2.1 h1.2.2.1).1 (hasK_iff.2 ⟨f, hf, rfl, rfl⟩)
/-- The first update that a part lacks is the next of its client. -/
theorem head_next {p : List Fp} (hp : Ok p) (ga g : Int → Int) {f : Fp} {r : List Fp} (hL : beyAll (rs p ga) (ct (rs p g)) = f :: r) :
    f ∈ p ∧ f ∈ rs p ga ∧ f.2.1 = ct (rs p g) f.1 + 1 ∧ hasK (rs p g) f.1 f.2.1 = false ∧ ∃ g', un (rs p g) [f] = rs p g' ∧ beyAll (rs p ga) (ct (rs p g')) = r ∧ ∀ x, x ∈ rs p g' ↔ x ∈ rs p g ∨ x = f := by
  have hfL : f ∈ beyAll (rs p ga) (ct (rs p g)) := by rw [hL]; exact List.mem_cons_self ..
  obtain ⟨hfa, hlt⟩ := beyAll_mem.1 hfL
  obtain ⟨hfp, hfg⟩ := rs_mem.1 hfa
  have hn := errF_num (hp.all f hfp)
  have hs := hp.srt
  have hsL : Srt (f :: r) := by rw [← hL]; exact beyAll_srt (rs_srt hs ga) _
  have hlr : ∀ x ∈ r, lt f x := (List.pairwise_cons.1 hsL).1
  have hk : hasK (rs p g) f.1 f.2.1 = false := by
    cases h : hasK (rs p g) f.1 f.2.1 with
    | false => rfl
    | true => have := ((hp.rs g).has f.1 f.2.1 hn.2.2.1).1 h; omega
  have c0 := ct_pos (rs p g) f.1
  have hq : f.2.1 = ct (rs p g) f.1 + 1 := by
    by_cases h : ct (rs p g) f.1 + 1 < f.2.1
    · exfalso
      have h1 := mem_ct hp hfa
      obtain ⟨x, hx, e1, e2⟩ := hasK_iff.1 (((hp.rs ga).has f.1 (f.2.1 - 1) (by omega)).2 (by omega))
      have hxL : x ∈ f :: r := by rw [← hL]; exact beyAll_mem.2 ⟨hx, by rw [e1, e2]; omega⟩
      rcases List.mem_cons.1 hxL with rfl | hxr
      · omega
      · have := hlr x hxr
        unfold lt at this
        omega
    · omega
  refine ⟨hfp, hfa, hq, hk, fun c => if c = f.1 then f.2.1 else ct (rs p g) c, ?_, ?_, ?_⟩
  · have e1 : rs p g = p.filter fun x => decide (x.2.1 ≤ ct (rs p g) x.1) := (rs_ct hp g).symm
    have h1 := un_filter (p := p) (fun x => decide (x.2.1 ≤ ct (rs p g) x.1)) (fun x => decide (x = f)) hs
    rw [← e1, filter_one hs hfp] at h1
    rw [h1]
    show _ = p.filter fun x => decide (x.2.1 ≤ if x.1 = f.1 then f.2.1 else ct (rs p g) x.1)
    refine List.filter_congr (fun x hx => ?_)
    rw [Bool.eq_iff_iff, Bool.or_eq_true, decide_eq_true_iff, decide_eq_true_iff, decide_eq_true_iff]
    show _ ↔ x.2.1 ≤ if x.1 = f.1 then f.2.1 else ct (rs p g) x.1
    by_cases hc : x.1 = f.1
    · rw [if_pos hc, hc]
      constructor
      · rintro (h2 | rfl) <;> omega
      · intro h2
        by_cases h3 : x.2.1 = f.2.1
        · exact .inr (hs.key hx hfp ⟨hc, h3⟩)
        · exact .inl (by omega)
    · rw [if_neg hc]
      constructor
      · rintro (h2 | rfl)
        · exact h2
        · exact absurd rfl hc
      · exact .inl
  · have key : ∀ x ∈ rs p ga, (ct (rs p fun c => if c = f.1 then f.2.1 else ct (rs p g) c) x.1 < x.2.1 ↔ (if x.1 = f.1 then f.2.1 else ct (rs p g) x.1) < x.2.1) := by
      intro x hx
      have : x.2.1 ≤ ct (rs p fun c => if c = f.1 then f.2.1 else ct (rs p g) c) x.1 ↔ x.2.1 ≤ (if x.1 = f.1 then f.2.1 else ct (rs p g) x.1) := ct_rs hp (fun c => if c = f.1 then f.2.1 else ct (rs p g) c) (rs_mem.1 hx).1
      omega
    have e1 : beyAll (rs p ga) (ct (rs p fun c => if c = f.1 then f.2.1 else ct (rs p g) c)) = (f :: r).filter fun x => decide ((if x.1 = f.1 then f.2.1 else ct (rs p g) x.1) < x.2.1) := by
      rw [← hL]
      unfold beyAll
      rw [List.filter_filter]
      refine List.filter_congr (fun x hx => ?_)
      have h1 := key x hx
      rw [Bool.eq_iff_iff, Bool.and_eq_true, decide_eq_true_iff, decide_eq_true_iff, decide_eq_true_iff, h1]
      constructor
      · intro h2
        refine ⟨h2, ?_⟩
        by_cases hc : x.1 = f.1
        · rw [if_pos hc] at h2; rw [hc]; omega
        · rw [if_neg hc] at h2; exact h2
      · exact fun h2 => h2.1
    rw [e1, List.filter_cons_of_neg (by simp)]
    refine List.filter_eq_self.2 (fun x hx => ?_)
    have h1 := hlr x hx
    have h2 : x ∈ beyAll (rs p ga) (ct (rs p g)) := by rw [hL]; exact List.mem_cons_of_mem _ hx
    have h3 := (beyAll_mem.1 h2).2
    rw [decide_eq_true_iff]
    unfold lt at h1
    by_cases hc : x.1 = f.1
    · rw [if_pos hc]; omega
    · rw [if_neg hc]; exact h3
  · intro x
    rw [rs_mem]
    constructor
    · rintro ⟨hx, h2⟩
      by_cases hc : x.1 = f.1
      · rw [if_pos hc] at h2
        by_cases h3 : x.2.1 = f.2.1
        · exact .inr (hs.key hx hfp ⟨hc, h3⟩)
        · exact .inl (rs_mem.2 ⟨hx, (ct_rs hp g hx).1 (by rw [hc]; omega)⟩)
      · rw [if_neg hc] at h2
        exact .inl (rs_mem.2 ⟨hx, (ct_rs hp g hx).1 h2⟩)
    · rintro (hx | rfl)
      · refine ⟨(rs_mem.1 hx).1, ?_⟩
        have := mem_ct hp hx
        by_cases hc : x.1 = f.1
        · rw [if_pos hc]; rw [hc] at this; omega
        · rw [if_neg hc]; exact this
      · exact ⟨hfp, by rw [if_pos rfl]; omega⟩
/-- Merging the first n of what a part lacks adds them all. -/
theorem mrg_chunk {p : List Fp} (hp : Ok p) (ga : Int → Int) : ∀ (n : Nat) (g : Int → Int) (A D : Int),
    ∃ g', ((beyAll (rs p ga) (ct (rs p g))).take n).foldl mrg1 (rs p g, A, D) = (rs p g', A + (((beyAll (rs p ga) (ct (rs p g))).take n).length : Int), D) ∧
      beyAll (rs p ga) (ct (rs p g')) = (beyAll (rs p ga) (ct (rs p g))).drop n ∧ ∀ x, x ∈ rs p g' ↔ x ∈ rs p g ∨ x ∈ (beyAll (rs p ga) (ct (rs p g))).take n
  | 0, g, A, D => ⟨g, by simp, by simp, by simp⟩
  | n + 1, g, A, D => by
    cases hL : beyAll (rs p ga) (ct (rs p g)) with
    | nil => exact ⟨g, by simp, by simp [hL], by simp⟩
    | cons f r =>
      obtain ⟨h1, h2, h3, h4, g1, h5, h6, h7⟩ := head_next hp ga g hL
      obtain ⟨g', k1, k2, k3⟩ := mrg_chunk hp ga n g1 (A + 1) D
      rw [h6] at k1 k2 k3
      have hm : mrg1 (rs p g, A, D) f = (rs p g1, A + 1, D) := by
        unfold mrg1
        dsimp only
        rw [if_neg (by rw [hp.all f h1]; omega), if_neg (by rw [h4]; simp), h5]
      refine ⟨g', ?_, k2, fun x => ?_⟩
      · rw [List.take_succ_cons, List.foldl_cons, hm, k1, List.length_cons]
        simp only [Prod.mk.injEq, true_and, and_true]
        omega
      · rw [k3, h7, List.take_succ_cons, List.mem_cons]
        constructor
        · rintro ((h | h) | h)
          · exact .inl h
          · exact .inr (.inl h)
          · exact .inr (.inr h)
        · rintro (h | h | h)
          · exact .inl (.inl h)
          · exact .inl (.inr h)
          · exact .inr h
/-- A part that lacks nothing of another, and has nothing besides what both had, is the union. -/
theorem all_got {p : List Fp} (hp : Ok p) {ga gb g : Int → Int} (h : ∀ x, (x ∈ rs p g ∨ x ∈ beyAll (rs p ga) (ct (rs p g))) ↔ (x ∈ rs p ga ∨ x ∈ rs p gb)) (h0 : beyAll (rs p ga) (ct (rs p g)) = []) :
    rs p g = un (rs p ga) (rs p gb) := by
  have hs := hp.srt
  rw [un_rs hs]
  refine srt_ext (rs_srt hs _) (rs_srt hs _) (fun x => ?_)
  have h1 := h x
  rw [h0] at h1
  simp only [List.not_mem_nil, or_false] at h1
  rw [h1, rs_mem, rs_mem, rs_mem]
  constructor
  · rintro (⟨a, b⟩ | ⟨a, b⟩) <;> exact ⟨a, by omega⟩
  · rintro ⟨a, b⟩
    by_cases hc : x.2.1 ≤ ga x.1
    · exact .inl ⟨a, hc⟩
    · exact .inr ⟨a, by omega⟩
theorem first_got {p : List Fp} (hp : Ok p) (ga gb : Int → Int) (x : Fp) : (x ∈ rs p gb ∨ x ∈ beyAll (rs p ga) (ct (rs p gb))) ↔ (x ∈ rs p ga ∨ x ∈ rs p gb) := by
  rw [beyAll_mem]
  constructor
  · rintro (h | h)
    · exact .inr h
    · exact .inl h.1
  · rintro (h | h)
    · by_cases hc : ct (rs p gb) x.1 < x.2.1
      · exact .inr ⟨h, hc⟩
      · have hx := (rs_mem.1 h).1
        exact .inl (rs_mem.2 ⟨hx, (ct_rs hp gb hx).1 (by omega)⟩)
    · exact .inl h
theorem next_got {p : List Fp} {ga gb g g' : Int → Int} {n : Nat} (h : ∀ x, (x ∈ rs p g ∨ x ∈ beyAll (rs p ga) (ct (rs p g))) ↔ (x ∈ rs p ga ∨ x ∈ rs p gb))
    (k2 : beyAll (rs p ga) (ct (rs p g')) = (beyAll (rs p ga) (ct (rs p g))).drop n) (k3 : ∀ x, x ∈ rs p g' ↔ x ∈ rs p g ∨ x ∈ (beyAll (rs p ga) (ct (rs p g))).take n) (x : Fp) :
    (x ∈ rs p g' ∨ x ∈ beyAll (rs p ga) (ct (rs p g'))) ↔ (x ∈ rs p ga ∨ x ∈ rs p gb) := by
  rw [← h x, k2, k3]
  constructor
  · rintro ((h | h) | h)
    · exact .inl h
    · exact .inr (List.mem_of_mem_take h)
    · exact .inr (List.mem_of_mem_drop h)
  · rintro (h | h)
    · exact .inl (.inl h)
    · rw [← List.take_append_drop n (beyAll (rs p ga) (ct (rs p g)))] at h
      rcases List.mem_append.1 h with h | h
      · exact .inl (.inr h)
      · exact .inr h

end Go.Proofs.YtdfablboenfblaaDoor.SM

namespace Go.Proofs.YtdfablboenfblaaDoor.SM
open UM (Ef)

theorem errL_un {f : Fp} (hf : errF f = 0) : ∀ {s : List Fp} {pr : Int × Int}, errL pr s = 0 → 0 ≤ pr.2 → pr.1 ≤ f.1 → f.2.1 = (if pr.1 = f.1 then pr.2 else 0) + ct s f.1 + 1 → errL pr (un s [f]) = 0
  | [], pr, _, h0, h1, h2 => by
    rw [nil_un]
    rw [ct_nil] at h2
    refine errL_mk hf (cmpP_pos.2 ?_) (fun h3 => ?_) rfl
    · split at h2 <;> omega
    · split at h2
      · rename_i e; exact ⟨e, by omega⟩
      · omega
  | x :: r, pr, h, h0, h1, h2 => by
    obtain ⟨k1, k2, k3, k4⟩ := errL_cons h
    have hn := next_of h h0
    have hx := errF_num k1
    have hcr := ct_pos r f.1
    rw [ct_cons] at h2
    rw [un_cons]
    by_cases hlt : UM.cmpU x.1 x.2.1 f.1 f.2.1 < 0
    · rw [if_pos hlt]
      rw [cmpP_lt] at hlt
      refine errL_mk k1 k2 k3 (errL_un hf k4 (by show 0 ≤ x.2.1; omega) (by show x.1 ≤ f.1; omega) ?_)
      show f.2.1 = (if x.1 = f.1 then x.2.1 else 0) + ct r f.1 + 1
      by_cases e : x.1 = f.1
      · rw [if_pos e] at h2 ⊢
        split at h2 <;> omega
      · rw [if_neg e] at h2 ⊢
        rw [if_neg (show ¬ pr.1 = f.1 by omega)] at h2
        omega
    · rw [if_neg hlt]
      rw [cmpP_lt] at hlt
      by_cases heq : UM.cmpU x.1 x.2.1 f.1 f.2.1 = 0
      · exfalso
        obtain ⟨e1, e2⟩ := cmpU_zero.1 heq
        rw [if_pos e1] at h2
        split at h2 <;> omega
      · rw [if_neg heq, un_nil]
        have hne : ¬ (x.1 = f.1 ∧ x.2.1 = f.2.1) := fun h => heq (cmpU_zero.2 h)
        have hgt : f.1 < x.1 := by
          by_cases e : x.1 = f.1
          · exfalso
            rw [if_pos e] at h2
            split at h2 <;> omega
          · omega
        have hc0 : ct r f.1 = 0 := ct_low (pr := (x.1, x.2.1)) k4 hgt
        rw [if_neg (show ¬ x.1 = f.1 by omega), hc0] at h2
        refine errL_mk hf (cmpP_pos.2 ?_) (fun h3 => ?_) (errL_mk k1 (cmpP_pos.2 (.inl hgt)) (fun h3 => ?_) k4)
        · split at h2 <;> omega
        · split at h2
          · rename_i e; exact ⟨e, by omega⟩
          · omega
        · exfalso
          omega
theorem Ok.un_one {s : List Fp} (h : Ok s) {f : Fp} (hf : errF f = 0) (hq : f.2.1 = ct s f.1 + 1) : Ok (un s [f]) := by
  have hn := errF_num hf
  refine errL_un hf h (Int.le_refl _) (by show (0 : Int) ≤ f.1; omega) ?_
  rw [if_neg (by show ¬ (0 : Int) = f.1; omega), hq]
  omega
theorem un_len1 {f : Fp} : ∀ {s : List Fp}, hasK s f.1 f.2.1 = false → (un s [f]).length = s.length + 1
  | [], _ => by rw [nil_un]; rfl
  | x :: r, h => by
    have hx : ¬ (x.1 = f.1 ∧ x.2.1 = f.2.1) := by
      intro hc
      have : hasK (x :: r) f.1 f.2.1 = true := hasK_iff.2 ⟨x, List.mem_cons_self .., hc.1, hc.2⟩
      rw [h] at this; cases this
    have hr : hasK r f.1 f.2.1 = false := by
      cases hk : hasK r f.1 f.2.1 with
      | false => rfl
      | true =>
        obtain ⟨y, hy, e1, e2⟩ := hasK_iff.1 hk
        have : hasK (x :: r) f.1 f.2.1 = true := hasK_iff.2 ⟨y, List.mem_cons_of_mem _ hy, e1, e2⟩
        rw [h] at this; cases this
    rw [un_cons]
    split
    · rw [List.length_cons, un_len1 hr, List.length_cons]
    · rw [if_neg (fun h0 => hx (cmpU_zero.1 h0)), un_nil]; rfl
theorem un_mem1 {f x : Fp} : ∀ {s : List Fp}, x ∈ s → x ∈ un s [f]
  | y :: r, h => by
    rw [un_cons]
    split
    · rcases List.mem_cons.1 h with rfl | h
      · exact List.mem_cons_self ..
      · exact List.mem_cons_of_mem _ (un_mem1 h)
    · split
      · rw [un_nil]; exact h
      · rw [un_nil]; exact List.mem_cons_of_mem _ h
theorem mrg_fold {l : List Fp} : ∀ {s : List Fp} (A D : Int), Ok s → Ok (l.foldl mrg1 (s, A, D)).1 ∧ (∀ x ∈ s, x ∈ (l.foldl mrg1 (s, A, D)).1) ∧ ((l.foldl mrg1 (s, A, D)).1.length : Int) = s.length + ((l.foldl mrg1 (s, A, D)).2.1 - A) ∧
    A ≤ (l.foldl mrg1 (s, A, D)).2.1 ∧ (l.foldl mrg1 (s, A, D)).2.1 ≤ A + l.length ∧ D ≤ (l.foldl mrg1 (s, A, D)).2.2 ∧ (l.foldl mrg1 (s, A, D)).2.2 ≤ D + l.length := by
  induction l with
  | nil => intro s A D h; refine ⟨h, fun x hx => hx, ?_, ?_, ?_, ?_, ?_⟩ <;> (simp only [List.foldl_nil, List.length_nil]; omega)
  | cons f r ih =>
    intro s A D h
    rw [List.foldl_cons, List.length_cons]
    by_cases h1 : errF f ≠ 0 ∨ ct s f.1 + 1 < f.2.1
    · have e : mrg1 (s, A, D) f = (s, A, D + 1) := by unfold mrg1; dsimp only; rw [if_pos h1]
      rw [e]
      obtain ⟨a, b, c, d1, d2, d3, d4⟩ := ih A (D + 1) h
      exact ⟨a, b, c, d1, by omega, by omega, by omega⟩
    · by_cases h2 : hasK s f.1 f.2.1 = true
      · have e : mrg1 (s, A, D) f = (s, A, D) := by unfold mrg1; dsimp only; rw [if_neg h1, if_pos h2]
        rw [e]
        obtain ⟨a, b, c, d1, d2, d3, d4⟩ := ih A D h
        exact ⟨a, b, c, d1, by omega, by omega, by omega⟩
      · have e : mrg1 (s, A, D) f = (un s [f], A + 1, D) := by unfold mrg1; dsimp only; rw [if_neg h1, if_neg h2]
        have hf : errF f = 0 := by
          by_cases h3 : errF f = 0
          · exact h3
          · exact absurd (.inl h3) h1
        have h2' : hasK s f.1 f.2.1 = false := by simpa using h2
        have hn := errF_num hf
        have hq : f.2.1 = ct s f.1 + 1 := by
          have h4 : ¬ f.2.1 ≤ ct s f.1 := fun h5 => h2 ((h.has f.1 f.2.1 hn.2.2.1).2 h5)
          have h6 : ¬ ct s f.1 + 1 < f.2.1 := fun h5 => h1 (.inr h5)
          omega
        rw [e]
        obtain ⟨a, b, c, d1, d2, d3, d4⟩ := ih (A + 1) D (h.un_one hf hq)
        refine ⟨a, fun x hx => b x (un_mem1 hx), ?_, by omega, by omega, d3, by omega⟩
        rw [un_len1 h2'] at c
        rw [c]
        omega
theorem mrg_ok {s : List Fp} (h : Ok s) (l : List Fp) : Ok (mrg s l).1 ∧ cons (mrg s l).1 s = true ∧ ((mrg s l).1.length : Int) = s.length + (mrg s l).2.1 ∧ 0 ≤ (mrg s l).2.1 ∧ (mrg s l).2.1 ≤ l.length ∧ 0 ≤ (mrg s l).2.2 ∧ (mrg s l).2.2 ≤ l.length := by
  obtain ⟨a, b, c, d1, d2, d3, d4⟩ := mrg_fold (l := l) 0 0 h
  unfold mrg
  exact ⟨a, cons_iff.2 b, by rw [c]; omega, d1, by omega, d3, by omega⟩

end Go.Proofs.YtdfablboenfblaaDoor.SM

namespace Go.Proofs.YtdfablboenfblaaDoor.SM
open UM (Ef)

/-- A sorted list within a sorted list is a part of it. -/
theorem sub_filter {p q : List Fp} (hp : Srt p) (hq : Srt q) (h : ∀ x ∈ q, x ∈ p) : (p.filter fun x => decide (x ∈ q)) = q :=
  srt_ext (List.Pairwise.sublist List.filter_sublist hp) hq fun x => by
    rw [List.mem_filter, decide_eq_true_iff]
    exact ⟨fun hx => hx.2, fun hx => ⟨h x hx, hx⟩⟩
/-- The old state s and what has been added to it, A: together the state T. -/
structure Spl (s A T : List Fp) : Prop where
  ok : Ok T
  ss : Srt s
  sa : Srt A
  ms : ∀ x ∈ s, x ∈ T
  ma : ∀ x ∈ A, x ∈ T
  cov : ∀ x ∈ T, x ∈ s ∨ x ∈ A
theorem Spl.nil {s : List Fp} (h : Ok s) : Spl s [] s := ⟨h, h.srt, List.Pairwise.nil, fun _ hx => hx, (fun _ hx => by cases hx), fun _ hx => .inl hx⟩
theorem Spl.un_eq {s A T : List Fp} (h : Spl s A T) : un s A = T := by
  have h1 := un_filter (fun x => decide (x ∈ s)) (fun x => decide (x ∈ A)) h.ok.srt
  rw [sub_filter h.ok.srt h.ss h.ms, sub_filter h.ok.srt h.sa h.ma] at h1
  rw [h1]
  refine List.filter_eq_self.2 fun x hx => ?_
  rcases h.cov x hx with h2 | h2
  · rw [decide_eq_true h2]; rfl
  · rw [decide_eq_true h2, Bool.or_true]
theorem Spl.has {s A T : List Fp} (h : Spl s A T) (c n : Int) : hasK T c n = (hasK s c n || hasK A c n) := by
  cases hT : hasK T c n with
  | true =>
    obtain ⟨x, hx, h1, h2⟩ := hasK_iff.1 hT
    rcases h.cov x hx with h3 | h3
    · rw [hasK_iff.2 ⟨x, h3, h1, h2⟩]; rfl
    · rw [hasK_iff.2 ⟨x, h3, h1, h2⟩, Bool.or_true]
  | false =>
    have f : ∀ B : List Fp, (∀ x ∈ B, x ∈ T) → hasK B c n = false := fun B hB => by
      cases hh : hasK B c n with
      | false => rfl
      | true =>
        obtain ⟨x, hx, h1, h2⟩ := hasK_iff.1 hh
        rw [hasK_iff.2 ⟨x, hB x hx, h1, h2⟩] at hT
        cases hT
    rw [f s h.ms, f A h.ma]; rfl
theorem un_self {f : Fp} : ∀ {s : List Fp}, hasK s f.1 f.2.1 = false → f ∈ un s [f]
  | [], _ => by rw [nil_un]; exact List.mem_singleton.2 rfl
  | x :: r, h => by
    have hx : ¬ (x.1 = f.1 ∧ x.2.1 = f.2.1) := by
      intro hc
      have : hasK (x :: r) f.1 f.2.1 = true := hasK_iff.2 ⟨x, List.mem_cons_self .., hc.1, hc.2⟩
      rw [h] at this; cases this
    have hr : hasK r f.1 f.2.1 = false := by
      cases hk : hasK r f.1 f.2.1 with
      | false => rfl
      | true =>
        obtain ⟨y, hy, e1, e2⟩ := hasK_iff.1 hk
        have : hasK (x :: r) f.1 f.2.1 = true := hasK_iff.2 ⟨y, List.mem_cons_of_mem _ hy, e1, e2⟩
        rw [h] at this; cases this
    rw [un_cons]
    split
    · exact List.mem_cons_of_mem _ (un_self hr)
    · rw [if_neg (fun h0 => hx (cmpU_zero.1 h0))]; exact List.mem_cons_self ..
theorem Spl.step {s A T : List Fp} (h : Spl s A T) {f : Fp} (hf : errF f = 0) (hk : hasK T f.1 f.2.1 = false) (hq : f.2.1 = ct T f.1 + 1) : Spl s (un A [f]) (un T [f]) := by
  have ho := h.ok.un_one hf hq
  have hmem : ∀ x ∈ A, x ∈ un T [f] := fun x hx => un_mem1 (h.ma x hx)
  have hfm := un_self hk
  have e := un_filter (fun x => decide (x ∈ A)) (fun x => decide (x = f)) ho.srt
  rw [sub_filter ho.srt h.sa hmem, filter_one ho.srt hfm] at e
  refine ⟨ho, h.ss, ?_, fun x hx => un_mem1 (h.ms x hx), ?_, fun x hx => ?_⟩
  · rw [e]; exact List.Pairwise.sublist List.filter_sublist ho.srt
  · intro x hx; rw [e] at hx; exact (List.mem_filter.1 hx).1
  · rw [e]
    rcases un_mem hx with h1 | h1
    · rcases h.cov x h1 with h2 | h2
      · exact .inl h2
      · exact .inr (List.mem_filter.2 ⟨hx, by rw [decide_eq_true h2]; rfl⟩)
    · rw [List.mem_singleton] at h1
      exact .inr (List.mem_filter.2 ⟨hx, by rw [decide_eq_true h1, Bool.or_true]⟩)
/-! One update merged, by cases. -/
theorem mrg1_err {T : List Fp} {A D : Int} {f : Fp} (h : errF f ≠ 0) : mrg1 (T, A, D) f = (T, A, D + 1) := by
  unfold mrg1; dsimp only; rw [if_pos (.inl h)]
theorem mrg1_has {T : List Fp} (ho : Ok T) {A D : Int} {f : Fp} (h : errF f = 0) (hk : hasK T f.1 f.2.1 = true) : mrg1 (T, A, D) f = (T, A, D) := by
  have hn := errF_num h
  have h1 := (ho.has f.1 f.2.1 hn.2.2.1).1 hk
  unfold mrg1; dsimp only
  rw [if_neg (by rintro (h2 | h2) <;> omega), if_pos hk]
theorem mrg1_gap {T : List Fp} (ho : Ok T) {A D : Int} {f : Fp} (h1 : ¬ f.2.1 ≤ 1) (h2 : hasK T f.1 (f.2.1 - 1) = false) : mrg1 (T, A, D) f = (T, A, D + 1) := by
  have h3 : ¬ f.2.1 - 1 ≤ ct T f.1 := fun h4 => by rw [(ho.has f.1 (f.2.1 - 1) (by omega)).2 h4] at h2; cases h2
  unfold mrg1; dsimp only
  rw [if_pos (.inr (by omega))]
theorem mrg1_add {T : List Fp} (ho : Ok T) {A D : Int} {f : Fp} (h : errF f = 0) (hk : hasK T f.1 f.2.1 = false) (h1 : f.2.1 ≤ 1 ∨ hasK T f.1 (f.2.1 - 1) = true) : mrg1 (T, A, D) f = (un T [f], A + 1, D) ∧ f.2.1 = ct T f.1 + 1 := by
  have hn := errF_num h
  have hc := ct_pos T f.1
  have h2 : ¬ f.2.1 ≤ ct T f.1 := fun h4 => by rw [(ho.has f.1 f.2.1 hn.2.2.1).2 h4] at hk; cases hk
  have h3 : f.2.1 ≤ ct T f.1 + 1 := by
    rcases h1 with h1 | h1
    · omega
    · by_cases h4 : f.2.1 ≤ 1
      · omega
      · have := (ho.has f.1 (f.2.1 - 1) (by omega)).1 h1
        omega
  refine ⟨?_, by omega⟩
  unfold mrg1; dsimp only
  rw [if_neg (by rintro (h4 | h4) <;> omega), if_neg (by rw [hk]; decide)]

end Go.Proofs.YtdfablboenfblaaDoor.SM
