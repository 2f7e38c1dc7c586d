/-
  Plain mathematics of configurations (P6.1 to P6.5): lists of proposals, their errors, vectors, unions, meets, parts of a pool. Lists and integers alone. No conditions beyond those that each lemma names.
  Configurations in memory: when a slice value reads as a list of proposals, whole with their changes; what the call's own list is; a store into it; vectors as lists of entries. No conditions beyond those that each lemma names.
  The calls of config.continues, config.Validate and the reference's ValidateConfig: the error that the plain mathematics says. Conditions: the configuration reads.
  The call of the reference's ValidateConfig: the error that the plain mathematics says. Conditions: the configuration reads.
  The calls of slices.BinarySearchFunc over a configuration, config.find, config.Contains. Conditions: the configurations read; the first is sorted.
  The calls of config.Equal, the reference's has, Contains, Same, EqualConfig, Agree and the laws' Valid. Conditions: the configurations read.
  The calls of slices.Clone of changes and of a configuration, of config.copied: copies in memory of the call's own. Conditions: what comes in reads.
  What a statement's reading tells of configurations, vectors, changes, proposals, bytes, lists of integers and integers that came in. No conditions beyond those that each lemma names.
-/
import Derived.Test.YtkaafbdhgekeeaaGreatKC
import Derived.Test.YtkaafbdhgekeeaaGreatKF
import Derived.Test.YtkaafbdhgekeeaaGreatKE
import Derived.Test.YtkaafbdhgekeeaaGreatKD
import Derived.Lib.SmallJoins
import Derived.Laws.Rows
import Derived.Lib.LazyBuf
import Derived.SizedLaws
import Derived.Deep.SlicePairs
import Derived.Deep.Strs
import Derived.ChangeSlices
import Derived.ProofKit
import Derived.OpenShut
import Derived.ChangeOld
namespace Go.Proofs.YtkaafbdhgekeeaaGreat.CM
open JM (Chg)
open VM (Ent)

/-- A proposal: administrator, number, changes. -/
abbrev Fp := Int × Int × List Chg
instance decFp : DecidableEq Chg := fun a b => inferInstanceAs (Decidable (a = b))
def errF (f : Fp) : Int := JM.errP f.1 f.2.1 f.2.2
/-- The error of a list of proposals behind the identifier pr. -/
def errL : Int × Int → List Fp → Int
  | _, [] => 0
  | pr, f :: r =>
    if errF f ≠ 0 then errF f
    else if JM.cmpP f.1 f.2.1 pr.1 pr.2 ≤ 0 then 7
    else if 1 < f.2.1 ∧ ¬ (pr.1 = f.1 ∧ pr.2 = f.2.1 - 1) then 8
    else errL (f.1, f.2.1) r
def Ok (fs : List Fp) : Prop := errL (0, 0) fs = 0

theorem errF_num {f : Fp} (h : errF f = 0) : 201 ≤ f.1 ∧ f.1 ≤ 203 ∧ 1 ≤ f.2.1 ∧ f.2.1 ≤ 3 := by
  unfold errF JM.errP at h
  split at h
  · cases h
  · rename_i hn
    have h1 : JM.isAdm f.1 = true := by cases hx : JM.isAdm f.1 with
      | true => rfl
      | false => exact absurd (.inl hx) hn
    have := JM.isAdm_iff.1 h1
    omega
theorem errL_cons {pr : Int × Int} {f : Fp} {r : List Fp} (h : errL pr (f :: r) = 0) :
    errF f = 0 ∧ 0 < JM.cmpP f.1 f.2.1 pr.1 pr.2 ∧ (1 < f.2.1 → pr.1 = f.1 ∧ pr.2 = f.2.1 - 1) ∧ errL (f.1, f.2.1) r = 0 := by
  unfold errL at h
  split at h
  · rename_i h1; exact absurd h h1
  · rename_i h1
    split at h
    · cases h
    · rename_i h2
      split at h
      · cases h
      · rename_i h3
        refine ⟨by omega, by omega, fun h4 => ?_, h⟩
        by_cases h5 : pr.1 = f.1 ∧ pr.2 = f.2.1 - 1
        · exact h5
        · exact absurd ⟨h4, h5⟩ h3
theorem errL_mk {pr : Int × Int} {f : Fp} {r : List Fp} (h1 : errF f = 0) (h2 : 0 < JM.cmpP f.1 f.2.1 pr.1 pr.2) (h3 : 1 < f.2.1 → pr.1 = f.1 ∧ pr.2 = f.2.1 - 1) (h4 : errL (f.1, f.2.1) r = 0) : errL pr (f :: r) = 0 := by
  unfold errL
  rw [if_neg (by omega), if_neg (by omega), if_neg (by rintro ⟨h5, h6⟩; exact h6 (h3 h5)), h4]
theorem cmpP_pos {a m b n : Int} : 0 < JM.cmpP a m b n ↔ b < a ∨ (a = b ∧ n < m) := by
  unfold JM.cmpP; (repeat' split) <;> omega
theorem cmpP_lt {a m b n : Int} : JM.cmpP a m b n < 0 ↔ a < b ∨ (a = b ∧ m < n) := by
  unfold JM.cmpP; (repeat' split) <;> omega
/-- The next proposal of a valid list: the same administrator and the next number, or a later one and number 1. -/
theorem next_of {pr : Int × Int} {f : Fp} {r : List Fp} (h : errL pr (f :: r) = 0) (h0 : 0 ≤ pr.2) : (f.1 = pr.1 ∧ f.2.1 = pr.2 + 1) ∨ (pr.1 < f.1 ∧ f.2.1 = 1) := by
  obtain ⟨h1, h2, h3, _⟩ := errL_cons h
  have := errF_num h1
  rw [cmpP_pos] at h2
  by_cases h4 : 1 < f.2.1
  · have := h3 h4
    omega
  · omega

/-- The order of identifiers. -/
def lt (x y : Fp) : Prop := x.1 < y.1 ∨ (x.1 = y.1 ∧ x.2.1 < y.2.1)
def Srt (fs : List Fp) : Prop := fs.Pairwise lt
theorem lt_trans {x y z : Fp} (h : lt x y) (k : lt y z) : lt x z := by unfold lt at *; omega
theorem lt_irrefl {x y : Fp} (h : lt x y) : ¬ (x.1 = y.1 ∧ x.2.1 = y.2.1) := by unfold lt at h; omega
theorem errL_srt {fs : List Fp} : ∀ {pr : Int × Int}, errL pr fs = 0 → (∀ x ∈ fs, pr.1 < x.1 ∨ (pr.1 = x.1 ∧ pr.2 < x.2.1)) ∧ Srt fs := by
  induction fs with
  | nil => intro pr _; exact ⟨(fun x hx => by cases hx), List.Pairwise.nil⟩
  | cons f r ih =>
    intro pr h
    obtain ⟨h1, h2, h3, h4⟩ := errL_cons h
    obtain ⟨h5, h6⟩ := ih h4
    rw [cmpP_pos] at h2
    refine ⟨fun x hx => ?_, List.pairwise_cons.2 ⟨fun x hx => h5 x hx, h6⟩⟩
    rcases List.mem_cons.1 hx with rfl | hx
    · omega
    · have := h5 x hx
      simp only at this
      omega
theorem Ok.srt {fs : List Fp} (h : Ok fs) : Srt fs := (errL_srt h).2
theorem errL_all {fs : List Fp} : ∀ {pr : Int × Int}, errL pr fs = 0 → ∀ x ∈ fs, errF x = 0 := by
  induction fs with
  | nil => intro pr _ x hx; cases hx
  | cons f r ih =>
    intro pr h x hx
    obtain ⟨h1, _, _, h4⟩ := errL_cons h
    rcases List.mem_cons.1 hx with rfl | hx
    · exact h1
    · exact ih h4 x hx
theorem Ok.all {fs : List Fp} (h : Ok fs) : ∀ x ∈ fs, errF x = 0 := errL_all h
theorem Srt.get {fs : List Fp} (h : Srt fs) {i j : Nat} {x y : Fp} (hi : fs[i]? = some x) (hj : fs[j]? = some y) (hij : i < j) : lt x y := by
  obtain ⟨hi1, rfl⟩ := List.getElem?_eq_some_iff.1 hi
  obtain ⟨hj1, rfl⟩ := List.getElem?_eq_some_iff.1 hj
  exact List.pairwise_iff_getElem.1 h i j hi1 hj1 hij
/-- In a sorted list the identifier tells the proposal. -/
theorem Srt.key {fs : List Fp} (h : Srt fs) {x y : Fp} (hx : x ∈ fs) (hy : y ∈ fs) (hk : x.1 = y.1 ∧ x.2.1 = y.2.1) : x = y := by
  obtain ⟨i, hi, rfl⟩ := List.getElem_of_mem hx
  obtain ⟨j, hj, rfl⟩ := List.getElem_of_mem hy
  rcases Nat.lt_trichotomy i j with h1 | h1 | h1
  · exact absurd hk (lt_irrefl (h.get (List.getElem?_eq_getElem hi) (List.getElem?_eq_getElem hj) h1))
  · subst h1; rfl
  · exact absurd ⟨hk.1.symm, hk.2.symm⟩ (lt_irrefl (h.get (List.getElem?_eq_getElem hj) (List.getElem?_eq_getElem hi) h1))
/-- Sorted lists with the same members are equal. -/
theorem srt_ext {a : List Fp} : ∀ {b : List Fp}, Srt a → Srt b → (∀ x, x ∈ a ↔ x ∈ b) → a = b := by
  induction a with
  | nil =>
    intro b _ _ h
    cases b with
    | nil => rfl
    | cons y b => exact absurd ((h y).2 (by simp)) (by simp)
  | cons x a ih =>
    intro b ha hb h
    cases b with
    | nil => exact absurd ((h x).1 (by simp)) (by simp)
    | cons y b =>
      obtain ⟨ha1, ha2⟩ := List.pairwise_cons.1 ha
      obtain ⟨hb1, hb2⟩ := List.pairwise_cons.1 hb
      have hxy : x = y := by
        rcases List.mem_cons.1 ((h x).1 (by simp)) with h1 | h1
        · exact h1
        · rcases List.mem_cons.1 ((h y).2 (by simp)) with h2 | h2
          · exact h2.symm
          · have := hb1 x h1
            have := ha1 y h2
            unfold lt at *
            omega
      subst hxy
      rw [ih ha2 hb2 (fun z => ⟨fun hz => ?_, fun hz => ?_⟩)]
      · rcases List.mem_cons.1 ((h z).1 (List.mem_cons_of_mem _ hz)) with h1 | h1
        · subst h1; exact absurd (ha1 z hz) (by unfold lt; omega)
        · exact h1
      · rcases List.mem_cons.1 ((h z).2 (List.mem_cons_of_mem _ hz)) with h1 | h1
        · subst h1; exact absurd (hb1 z hz) (by unfold lt; omega)
        · exact h1
/-- A sorted list within another one of the same length is that one. -/
theorem srt_len {a : List Fp} : ∀ {b : List Fp}, Srt a → Srt b → (∀ x ∈ a, x ∈ b) → b.length ≤ a.length → a = b := by
  induction a with
  | nil =>
    intro b _ _ _ h
    exact (List.eq_nil_of_length_eq_zero (by simpa using h)).symm
  | cons x a ih =>
    intro b ha hb h hl
    obtain ⟨ha1, ha2⟩ := List.pairwise_cons.1 ha
    cases b with
    | nil => exact absurd (h x (by simp)) (by simp)
    | cons y b =>
      obtain ⟨hb1, hb2⟩ := List.pairwise_cons.1 hb
      have hsub : ∀ z ∈ a, z ∈ b := by
        intro z hz
        rcases List.mem_cons.1 (h z (List.mem_cons_of_mem _ hz)) with h1 | h1
        · subst h1
          rcases List.mem_cons.1 (h x (by simp)) with h2 | h2
          · subst h2; exact absurd (ha1 _ hz) (by unfold lt; omega)
          · have h3 := ha1 _ hz
            have h4 := hb1 _ h2
            unfold lt at *
            omega
        · exact h1
      have e := ih ha2 hb2 hsub (by simpa using hl)
      subst e
      rcases List.mem_cons.1 (h x (by simp)) with h1 | h1
      · rw [h1]
      · exact absurd (ha1 x h1) (by unfold lt; omega)
theorem srt_sub_len {a : List Fp} : ∀ {b : List Fp}, Srt a → Srt b → (∀ x ∈ a, x ∈ b) → a.length ≤ b.length := by
  induction a with
  | nil => intro b _ _ _; exact Nat.zero_le _
  | cons x a ih =>
    intro b ha hb h
    obtain ⟨ha1, ha2⟩ := List.pairwise_cons.1 ha
    obtain ⟨i, hi, hix⟩ := List.getElem_of_mem (h x (by simp))
    have h1 := ih ha2 (List.Pairwise.sublist (List.drop_sublist (i + 1) b) hb) (fun z hz => by
      obtain ⟨j, hj, hjz⟩ := List.getElem_of_mem (h z (List.mem_cons_of_mem _ hz))
      have hlt := ha1 z hz
      by_cases hij : i < j
      · refine List.mem_of_getElem? (i := j - (i + 1)) ?_
        rw [List.getElem?_drop, show i + 1 + (j - (i + 1)) = j by omega, List.getElem?_eq_getElem hj, hjz]
      · rcases Nat.lt_or_ge j i with h2 | h2
        · have h3 := Srt.get hb (List.getElem?_eq_getElem hj) (List.getElem?_eq_getElem hi) h2
          rw [hjz, hix] at h3
          unfold lt at *
          omega
        · obtain rfl : i = j := by omega
          rw [hix] at hjz
          subst hjz
          unfold lt at hlt
          omega)
    rw [List.length_drop] at h1
    rw [List.length_cons]
    omega

/-! How many proposals of an administrator; which numbers occur. -/
def ct (fs : List Fp) (a : Int) : Int := ((fs.filter fun f => decide (f.1 = a)).length : Int)
def hasK (fs : List Fp) (a n : Int) : Bool := fs.any fun f => decide (f.1 = a) && decide (f.2.1 = n)
theorem ct_nil (a : Int) : ct [] a = 0 := rfl
theorem ct_cons (f : Fp) (r : List Fp) (a : Int) : ct (f :: r) a = (if f.1 = a then 1 else 0) + ct r a := by
  unfold ct
  by_cases h : f.1 = a
  · rw [List.filter_cons_of_pos (by simpa using h), if_pos h, List.length_cons]; omega
  · rw [List.filter_cons_of_neg (by simpa using h), if_neg h]; omega
theorem ct_snoc (f : Fp) (r : List Fp) (a : Int) : ct (r ++ [f]) a = ct r a + (if f.1 = a then 1 else 0) := by
  unfold ct
  by_cases h : f.1 = a
  · rw [List.filter_append, List.length_append, List.filter_cons_of_pos (by simpa using h), if_pos h]; simp
  · rw [List.filter_append, List.length_append, List.filter_cons_of_neg (by simpa using h), if_neg h]; simp
theorem ct_pos (fs : List Fp) (a : Int) : 0 ≤ ct fs a := by unfold ct; omega
theorem ct_len (fs : List Fp) (a : Int) : ct fs a ≤ (fs.length : Int) := by
  unfold ct
  have := List.length_filter_le (fun f : Fp => decide (f.1 = a)) fs
  omega
theorem hasK_iff {fs : List Fp} {a n : Int} : hasK fs a n = true ↔ ∃ f ∈ fs, f.1 = a ∧ f.2.1 = n := by
  unfold hasK; simp [List.any_eq_true]
theorem ct_low {fs : List Fp} : ∀ {pr : Int × Int} {a : Int}, errL pr fs = 0 → a < pr.1 → ct fs a = 0 := by
  induction fs with
  | nil => intro pr a _ _; rfl
  | cons f r ih =>
    intro pr a h ha
    obtain ⟨h1, h2, h3, h4⟩ := errL_cons h
    rw [cmpP_pos] at h2
    rw [ct_cons, if_neg (by omega), ih h4 (by simp only; omega)]
    rfl
theorem has_ct {fs : List Fp} : ∀ {pr : Int × Int} (a n : Int), errL pr fs = 0 → 0 ≤ pr.2 →
    (hasK fs a n = true ↔ (pr.1 ≤ a ∧ (if a = pr.1 then pr.2 else 0) < n ∧ n ≤ (if a = pr.1 then pr.2 else 0) + ct fs a)) := by
  induction fs with
  | nil =>
    intro pr a n _ _
    rw [ct_nil]
    constructor
    · intro h; cases h
    · rintro ⟨_, h1, h2⟩; omega
  | cons f r ih =>
    intro pr a n h h0
    have hn := next_of h h0
    obtain ⟨h1, h2, h3, h4⟩ := errL_cons h
    have hf := errF_num h1
    have ih := ih (pr := (f.1, f.2.1)) a n h4 (by simp only; omega)
    simp only at ih
    have e : hasK (f :: r) a n = ((decide (f.1 = a) && decide (f.2.1 = n)) || hasK r a n) := rfl
    rw [e, ct_cons, Bool.or_eq_true, ih, Bool.and_eq_true, decide_eq_true_iff, decide_eq_true_iff]
    by_cases hA : f.1 = a
    · subst hA
      simp only [if_true, true_and]
      have hp := ct_pos r f.1
      split <;> omega
    · have hz : a < f.1 → ct r a = 0 := fun hl => ct_low h4 hl
      have hp := ct_pos r a
      rw [if_neg (fun e => hA e.symm), if_neg hA]
      constructor
      · rintro (h5 | h5)
        · exact absurd h5.1 hA
        · rw [if_neg (by omega)]; omega
      · intro h5
        refine .inr ?_
        by_cases hl : a < f.1
        · rw [hz hl] at h5; omega
        · rw [if_neg (by omega)] at h5; omega
theorem Ok.has {fs : List Fp} (h : Ok fs) (a n : Int) (hn : 1 ≤ n) : hasK fs a n = true ↔ n ≤ ct fs a := by
  have := has_ct (pr := (0, 0)) a n h (Int.le_refl _)
  simp only at this
  rw [this]
  constructor
  · rintro ⟨_, _, h2⟩; split at h2 <;> omega
  · intro h2
    by_cases ha : a < 0
    · have := ct_low (pr := (0, 0)) h ha; omega
    · refine ⟨by omega, ?_, ?_⟩ <;> split <;> omega
theorem Ok.ct3 {fs : List Fp} (h : Ok fs) (a : Int) : ct fs a ≤ 3 := by
  by_cases h0 : ct fs a < 1
  · omega
  · obtain ⟨f, hf, h1, h2⟩ := hasK_iff.1 ((h.has a (ct fs a) (by omega)).2 (Int.le_refl _))
    have := errF_num (h.all f hf)
    omega
theorem ct_sum {fs : List Fp} (h : ∀ x ∈ fs, errF x = 0) : (fs.length : Int) = ct fs 201 + ct fs 202 + ct fs 203 := by
  induction fs with
  | nil => rfl
  | cons f r ih =>
    have h1 := errF_num (h f (by simp))
    have h2 := ih (fun x hx => h x (by simp [hx]))
    rw [ct_cons, ct_cons, ct_cons, List.length_cons]
    have : f.1 = 201 ∨ f.1 = 202 ∨ f.1 = 203 := by omega
    rcases this with e | e | e <;> simp [e] <;> omega
theorem Ok.nine {fs : List Fp} (h : Ok fs) : fs.length ≤ 9 := by
  have := ct_sum h.all
  have h1 := h.ct3 201
  have h2 := h.ct3 202
  have h3 := h.ct3 203
  omega

/-! Parts of a list: the numbers up to a bound for each administrator. -/
def rs (p : List Fp) (g : Int → Int) : List Fp := p.filter fun f => decide (f.2.1 ≤ g f.1)
theorem rs_mem {p : List Fp} {g : Int → Int} {f : Fp} : f ∈ rs p g ↔ f ∈ p ∧ f.2.1 ≤ g f.1 := by unfold rs; simp [List.mem_filter]
theorem rs_srt {p : List Fp} (h : Srt p) (g : Int → Int) : Srt (rs p g) := List.Pairwise.sublist List.filter_sublist h
theorem rs_errL {p : List Fp} (g : Int → Int) : ∀ {pr pr' : Int × Int}, errL pr p = 0 → JM.cmpP pr'.1 pr'.2 pr.1 pr.2 ≤ 0 → (pr.2 ≤ g pr.1 → pr' = pr) → errL pr' (rs p g) = 0 := by
  induction p with
  | nil => intro pr pr' _ _ _; rfl
  | cons f r ih =>
    intro pr pr' h hc hk
    obtain ⟨h1, h2, h3, h4⟩ := errL_cons h
    by_cases hg : f.2.1 ≤ g f.1
    · have e : rs (f :: r) g = f :: rs r g := List.filter_cons_of_pos (by simpa using hg)
      rw [e]
      refine errL_mk h1 ?_ (fun h5 => ?_) (ih h4 (by unfold JM.cmpP; simp) (fun _ => rfl))
      · rw [cmpP_pos] at h2 ⊢
        have : ¬ 0 < JM.cmpP pr'.1 pr'.2 pr.1 pr.2 := by omega
        rw [cmpP_pos] at this
        omega
      · have h6 := h3 h5
        rw [hk (by rw [h6.1, h6.2]; omega)]
        exact h6
    · have e : rs (f :: r) g = rs r g := List.filter_cons_of_neg (by simpa using hg)
      rw [e]
      refine ih h4 ?_ (fun h5 => absurd h5 hg)
      simp only
      rw [cmpP_pos] at h2
      have : ¬ 0 < JM.cmpP pr'.1 pr'.2 pr.1 pr.2 := by omega
      rw [cmpP_pos] at this
      have : ¬ 0 < JM.cmpP pr'.1 pr'.2 f.1 f.2.1 := by rw [cmpP_pos]; omega
      omega
theorem Ok.rs {p : List Fp} (h : Ok p) (g : Int → Int) : Ok (CM.rs p g) := rs_errL g h (by unfold JM.cmpP; simp) (fun _ => rfl)
theorem rs_ext {p : List Fp} {g h : Int → Int} (e : ∀ f ∈ p, (f.2.1 ≤ g f.1 ↔ f.2.1 ≤ h f.1)) : rs p g = rs p h := by
  unfold rs
  refine List.filter_congr (fun f hf => ?_)
  exact decide_eq_decide.2 (e f hf)
theorem rs_len (p : List Fp) (g : Int → Int) : (rs p g).length ≤ p.length := List.length_filter_le _ _
theorem rs_rs (p : List Fp) (g h : Int → Int) : rs (rs p g) h = rs p (fun a => min (g a) (h a)) := by
  unfold rs
  rw [List.filter_filter]
  refine List.filter_congr (fun f _ => ?_)
  rw [← Bool.decide_and]
  exact decide_eq_decide.2 (by show _ ↔ f.2.1 ≤ min (g f.1) (h f.1); omega)

/-! The union: one walk over both. -/
def un : List Fp → List Fp → List Fp
  | a, [] => a
  | [], y :: b => y :: b
  | x :: a, y :: b => if JM.cmpP x.1 x.2.1 y.1 y.2.1 < 0 then x :: un a (y :: b) else if JM.cmpP x.1 x.2.1 y.1 y.2.1 = 0 then x :: un a b else y :: un (x :: a) b
termination_by a b => a.length + b.length
theorem un_nil (a : List Fp) : un a [] = a := by unfold un; rfl
theorem nil_un (b : List Fp) : un [] b = b := by cases b <;> (unfold un; rfl)
theorem un_cons (x : Fp) (a : List Fp) (y : Fp) (b : List Fp) : un (x :: a) (y :: b) =
    if JM.cmpP x.1 x.2.1 y.1 y.2.1 < 0 then x :: un a (y :: b) else if JM.cmpP x.1 x.2.1 y.1 y.2.1 = 0 then x :: un a b else y :: un (x :: a) b := by
  rw [un]
theorem un_len (a b : List Fp) : (un a b).length ≤ a.length + b.length := by
  induction a, b using un.induct with
  | case1 a => rw [un_nil]; simp
  | case2 y b => rw [nil_un]; simp
  | case3 x a y b h ih => rw [un_cons, if_pos h]; simp only [List.length_cons] at *; omega
  | case4 x a y b h h0 ih => rw [un_cons, if_neg h, if_pos h0]; simp only [List.length_cons] at *; omega
  | case5 x a y b h h0 ih => rw [un_cons, if_neg h, if_neg h0]; simp only [List.length_cons] at *; omega
/-- Two filters of one sorted list. -/
theorem un_filter {p : List Fp} (P Q : Fp → Bool) (h : Srt p) : un (p.filter P) (p.filter Q) = p.filter fun f => P f || Q f := by
  induction p with
  | nil => exact un_nil _
  | cons x p ih =>
    obtain ⟨h1, h2⟩ := List.pairwise_cons.1 h
    have ih := ih h2
    have hlt : ∀ y ∈ p, JM.cmpP x.1 x.2.1 y.1 y.2.1 < 0 := fun y hy => cmpP_lt.2 (h1 y hy)
    have hgt : ∀ y ∈ p, ¬ JM.cmpP y.1 y.2.1 x.1 x.2.1 < 0 ∧ ¬ JM.cmpP y.1 y.2.1 x.1 x.2.1 = 0 := fun y hy => by
      have := hlt y hy
      rw [JM.cmpP_neg x.1 x.2.1 y.1 y.2.1]
      omega
    cases hP : P x <;> cases hQ : Q x
    · rw [List.filter_cons_of_neg (by simp [hP]), List.filter_cons_of_neg (by simp [hQ]), List.filter_cons_of_neg (by simp [hP, hQ]), ih]
    · rw [List.filter_cons_of_neg (by simp [hP]), List.filter_cons_of_pos hQ, List.filter_cons_of_pos (by simp [hP, hQ]), ← ih]
      cases hF : p.filter P with
      | nil => rw [nil_un, nil_un]
      | cons y F =>
        have hy : y ∈ p := (List.mem_filter.1 (show y ∈ p.filter P by rw [hF]; simp)).1
        rw [un_cons, if_neg (hgt y hy).1, if_neg (hgt y hy).2]
    · rw [List.filter_cons_of_pos hP, List.filter_cons_of_neg (by simp [hQ]), List.filter_cons_of_pos (by simp [hP, hQ]), ← ih]
      cases hG : p.filter Q with
      | nil => rw [un_nil, un_nil]
      | cons y G =>
        have hy : y ∈ p := (List.mem_filter.1 (show y ∈ p.filter Q by rw [hG]; simp)).1
        rw [un_cons, if_pos (hlt y hy)]
    · rw [List.filter_cons_of_pos hP, List.filter_cons_of_pos hQ, List.filter_cons_of_pos (by simp [hP, hQ]), ← ih, un_cons, if_neg (by unfold JM.cmpP; simp), if_pos (by unfold JM.cmpP; simp)]
theorem un_rs {p : List Fp} (h : Srt p) (g k : Int → Int) : un (rs p g) (rs p k) = rs p (fun a => max (g a) (k a)) := by
  unfold rs
  rw [un_filter _ _ h]
  refine List.filter_congr (fun f _ => ?_)
  rw [← Bool.decide_or]
  exact decide_eq_decide.2 (by show _ ↔ f.2.1 ≤ max (g f.1) (k f.1); omega)
/-- One proposal put where it belongs. -/
theorem un_one {f : Fp} : ∀ {c : List Fp} (i : Nat), i ≤ c.length → (∀ k x, c[k]? = some x → k < i → JM.cmpP x.1 x.2.1 f.1 f.2.1 < 0) → (∀ x, c[i]? = some x → 0 < JM.cmpP x.1 x.2.1 f.1 f.2.1) → un c [f] = c.take i ++ ([f] ++ c.drop i) := by
  intro c
  induction c with
  | nil => intro i hi _ _; obtain rfl : i = 0 := by simpa using hi
           rw [nil_un]; rfl
  | cons x c ih =>
    intro i hi h1 h2
    cases i with
    | zero =>
      have := h2 x rfl
      rw [un_cons, if_neg (by omega), if_neg (by omega), un_nil]
      rfl
    | succ i =>
      rw [un_cons, if_pos (h1 0 x rfl (by omega)), ih i (by simpa using hi) (fun k y hk hki => h1 (k + 1) y (by simpa using hk) (by omega)) (fun y hy => h2 y (by simpa using hy))]
      rfl
theorem un_mem {x : Fp} : ∀ {a b : List Fp}, x ∈ un a b → x ∈ a ∨ x ∈ b := by
  intro a b
  induction a, b using un.induct with
  | case1 a => rw [un_nil]; exact .inl
  | case2 y b => rw [nil_un]; exact .inr
  | case3 z a y b h ih => rw [un_cons, if_pos h]; intro hx; rcases List.mem_cons.1 hx with h1 | h1
                          · exact .inl (by simp [h1])
                          · rcases ih h1 with h2 | h2
                            · exact .inl (by simp [h2])
                            · exact .inr h2
  | case4 z a y b h h0 ih => rw [un_cons, if_neg h, if_pos h0]; intro hx; rcases List.mem_cons.1 hx with h1 | h1
                             · exact .inl (by simp [h1])
                             · rcases ih h1 with h2 | h2
                               · exact .inl (by simp [h2])
                               · exact .inr (by simp [h2])
  | case5 z a y b h h0 ih => rw [un_cons, if_neg h, if_neg h0]; intro hx; rcases List.mem_cons.1 hx with h1 | h1
                             · exact .inr (by simp [h1])
                             · rcases ih h1 with h2 | h2
                               · exact .inl h2
                               · exact .inr (by simp [h2])

/-! What the functions answer. -/
def cons (a b : List Fp) : Bool := b.all fun f => decide (f ∈ a)
def conk (a b : List Fp) : Bool := b.all fun f => hasK a f.1 f.2.1
def Agr (a b : List Fp) : Prop := ∀ x ∈ a, ∀ y ∈ b, x.1 = y.1 → x.2.1 = y.2.1 → x = y
def meet (a b : List Fp) : List Fp := rs a (ct b)
def meetK (a b : List Fp) : List Fp := a.filter fun f => hasK b f.1 f.2.1
theorem cons_iff {a b : List Fp} : cons a b = true ↔ ∀ f ∈ b, f ∈ a := by unfold cons; simp
theorem conk_cons {a b : List Fp} (h : Agr a b) : conk a b = cons a b := by
  unfold conk cons
  rw [Bool.eq_iff_iff, List.all_eq_true, List.all_eq_true]
  refine ⟨fun h1 f hf => ?_, fun h1 f hf => ?_⟩
  · obtain ⟨x, hx, h2, h3⟩ := hasK_iff.1 (h1 f hf)
    rw [← h x hx f hf h2 h3]
    simpa using hx
  · exact hasK_iff.2 ⟨f, by simpa using h1 f hf, rfl, rfl⟩
theorem Agr.symm {a b : List Fp} (h : Agr a b) : Agr b a := fun x hx y hy h1 h2 => (h y hy x hx h1.symm h2.symm).symm
theorem same_eq {a b : List Fp} (h : Agr a b) (ha : Srt a) (hb : Srt b) : (conk a b && conk b a) = decide (a = b) := by
  rw [conk_cons h, conk_cons h.symm, Bool.eq_iff_iff, Bool.and_eq_true, cons_iff, cons_iff, decide_eq_true_iff]
  constructor
  · rintro ⟨h1, h2⟩; exact srt_ext ha hb (fun x => ⟨h2 x, h1 x⟩)
  · rintro rfl; exact ⟨fun _ => id, fun _ => id⟩
theorem meet_eq {a b : List Fp} (ha : Ok a) (hb : Ok b) : meet a b = meetK a b := by
  unfold meet meetK rs
  refine List.filter_congr (fun f hf => ?_)
  have := errF_num (ha.all f hf)
  rw [Bool.eq_iff_iff, decide_eq_true_iff, hb.has f.1 f.2.1 (by omega)]
theorem ct_rs {p : List Fp} (h : Ok p) (g : Int → Int) {f : Fp} (hf : f ∈ p) : f.2.1 ≤ ct (rs p g) f.1 ↔ f.2.1 ≤ g f.1 := by
  have h1 := errF_num (h.all f hf)
  rw [← (h.rs g).has f.1 f.2.1 (by omega), hasK_iff]
  constructor
  · rintro ⟨x, hx, h2, h3⟩
    have hx' := rs_mem.1 hx
    have e := h.srt.key hx'.1 hf ⟨h2, h3⟩
    rw [← e]
    exact hx'.2
  · intro h2; exact ⟨f, rs_mem.2 ⟨hf, h2⟩, rfl, rfl⟩
theorem meet_rs {p : List Fp} (h : Ok p) (g k : Int → Int) : meet (rs p g) (rs p k) = rs p (fun a => min (g a) (k a)) := by
  unfold meet
  rw [rs_rs]
  refine rs_ext (fun f hf => ?_)
  have := ct_rs h k hf
  omega
theorem rs_ct {p : List Fp} (h : Ok p) (g : Int → Int) : rs p (ct (rs p g)) = rs p g := rs_ext (fun _ hf => ct_rs h g hf)
end Go.Proofs.YtkaafbdhgekeeaaGreat.CM

namespace Go.Proofs.YtkaafbdhgekeeaaGreat
open Go.RowKit Go.Joins
open JM (Chg)
open CM (Fp)
open VM (Ent)

theorem proE : IsElem Tryz.prog 28 45 3 40 encQ where
  ht := Tryz.underlying28
  info := by
    obtain ⟨i0, hi, hz0, hz1, hz2⟩ := info_parts (show (Tryz.prog.info? 45).map (fun i => (i.zero, i.size, i.bytes)) = some (some (.agg #[.int .i64 0, .int .i64 0, .slice none 0 0]), 3, 40) by kernel_rfl)
    exact ⟨i0, _, hi, hz0, hz1, hz2, rfl⟩
  len := fun _ => rfl
  one := by
    rintro ⟨a, n, ad, l, c⟩ u hu
    simp only [encQ, List.mem_cons, List.mem_nil_iff, or_false] at hu
    rcases hu with rfl | rfl | rfl <;> rfl
  pos := by decide
  fits := by decide
theorem hlQ : 0 < 3 ∧ ∀ x, (encQ x).length = 3 := ⟨by decide, fun _ => rfl⟩
abbrev OwnQ := OwnG encQ 45 3
abbrev RdQ := RdG encQ 3
/-- 'out = append(out, x)' where the new block's number is given in another form. -/
theorem wp_appG1' {α : Type} {P : Program} {t e : TypeId} {size bytes : Nat} {enc : α → List Value} {w : World} {ops : Array Oper} {rest : List Oper} {o : Oper} {a : Act} {Q : Exit → Act → World → Prop} {base : Nat} {v : Value} {ys : List α}
    (E : IsElem P t e size bytes enc) (x : α) (B0 : Nat) (hB0 : w.heap.size = B0) (hgd : o.guard = none) (s r : Operand) (ho : o.op = .call { callee := .builtin .append, args := #[s, r], argTypes := #[t, t] })
    (hs : a.eval s = v) (hown : OwnG enc e size base w v ys) (hx : a.eval r = .slice (some ⟨B0, 0, none⟩) 1 1) (hlen : ys.length ≤ 1073741824) (hb : base ≤ w.heap.size)
    (h : ∀ v' w', OwnG enc e size base w' v' (ys ++ [x]) → Below base w w' → KeepsX e w w' → wpList P ops Q rest (a.put o.dst v') w') :
    wpList P ops Q (o :: rest) a (w.alloc (.cells (enc x).toArray e)) :=
  wp_appG1 E x hgd s r ho hs hown (by rw [hx, hB0]) hlen hb (fun v' w' h1 h2 h3 _ => h v' w' h1 h2 h3)
theorem atQ {w : World} {a : Option Addr} {n c : Nat} {xs : List Pro} (h : RdQ w (.slice a n c) xs) (i : Nat) (x n' : Int) (ad : Option Addr) (l cp : Nat) (hk : xs[i]? = some (x, n', ad, l, cp)) :
    ∃ b o, (∀ w0, (Instr.indexAt 28 (.slice a n c) (.int .i64 (i : Int))).run Tryz.prog w0 = .ok (.pointer (some ⟨b, o, none⟩)) w0) ∧ b < w.heap.size ∧
      w.cell? ⟨b, o, none⟩ = some (.int .i64 x) ∧ w.cell? ⟨b, o + 1, none⟩ = some (.int .i64 n') ∧ w.cell? ⟨b, o + 2, none⟩ = some (.slice ad l cp) := by
  obtain ⟨b, o, h1, h2, h3⟩ := h.at_ proE i _ hk
  exact ⟨b, o, h1, h2, h3 0 _ rfl, h3 1 _ rfl, h3 2 _ rfl⟩

/-! A list of proposals, with their changes. -/
def sl (q : Pro) : Value := .slice q.2.2.1 q.2.2.2.1 q.2.2.2.2
def Tell1 (w : World) (q : Pro) (f : Fp) : Prop := q.1 = f.1 ∧ q.2.1 = f.2.1 ∧ RdC w (sl q) f.2.2
theorem Tell1.below {w w' : World} {q : Pro} {f : Fp} (h : Tell1 w q f) (hb : Below w.heap.size w w') : Tell1 w' q f := ⟨h.1, h.2.1, h.2.2.below hb⟩
def Tel (w : World) : List Pro → List Fp → Prop
  | [], [] => True
  | q :: qs, f :: fs => Tell1 w q f ∧ Tel w qs fs
  | _, _ => False
theorem Tel.below {w w' : World} (hb : Below w.heap.size w w') : ∀ {qs : List Pro} {fs : List Fp}, Tel w qs fs → Tel w' qs fs
  | [], [], _ => trivial
  | _ :: _, _ :: _, h => ⟨h.1.below hb, Tel.below hb h.2⟩
  | [], _ :: _, h => h.elim
  | _ :: _, [], h => h.elim
theorem Tel.len {w : World} : ∀ {qs : List Pro} {fs : List Fp}, Tel w qs fs → qs.length = fs.length
  | [], [], _ => rfl
  | _ :: _, _ :: _, h => by rw [List.length_cons, List.length_cons, Tel.len h.2]
  | [], _ :: _, h => h.elim
  | _ :: _, [], h => h.elim
theorem Tel.get {w : World} : ∀ {qs : List Pro} {fs : List Fp} {k : Nat} {f : Fp}, Tel w qs fs → fs[k]? = some f → ∃ q, qs[k]? = some q ∧ Tell1 w q f
  | [], [], _, _, _, hk => by simp at hk
  | q :: _, g :: _, 0, _, h, hk => ⟨q, rfl, by simp at hk; subst hk; exact h.1⟩
  | _ :: qs, _ :: fs, k + 1, f, h, hk => by
    obtain ⟨q, h1, h2⟩ := Tel.get (k := k) h.2 (by simpa using hk)
    exact ⟨q, by simpa using h1, h2⟩
  | [], _ :: _, _, _, h, _ => h.elim
  | _ :: _, [], _, _, h, _ => h.elim
theorem Tel.app {w : World} : ∀ {qs qs2 : List Pro} {fs fs2 : List Fp}, Tel w qs fs → Tel w qs2 fs2 → Tel w (qs ++ qs2) (fs ++ fs2)
  | [], _, [], _, _, k => k
  | _ :: _, _, _ :: _, _, h, k => ⟨h.1, Tel.app h.2 k⟩
  | [], _, _ :: _, _, h, _ => h.elim
  | _ :: _, _, [], _, h, _ => h.elim
theorem Tel.drop {w : World} : ∀ {qs : List Pro} {fs : List Fp} (n : Nat), Tel w qs fs → Tel w (qs.drop n) (fs.drop n)
  | _, _, 0, h => h
  | [], [], _ + 1, _ => trivial
  | _ :: _, _ :: _, n + 1, h => Tel.drop n h.2
  | [], _ :: _, _, h => h.elim
  | _ :: _, [], _, h => h.elim
theorem Tel.take {w : World} : ∀ {qs : List Pro} {fs : List Fp} (n : Nat), Tel w qs fs → Tel w (qs.take n) (fs.take n)
  | _, _, 0, _ => trivial
  | [], [], _ + 1, _ => trivial
  | _ :: _, _ :: _, n + 1, h => ⟨h.1, Tel.take n h.2⟩
  | [], _ :: _, _, h => h.elim
  | _ :: _, [], _, h => h.elim
theorem Tel.one {w : World} {q : Pro} {f : Fp} (h : Tell1 w q f) : Tel w [q] [f] := ⟨h, trivial⟩

/-- The slice value v reads in w as the configuration fs. -/
def RdF (w : World) (v : Value) (fs : List Fp) : Prop := ∃ qs, RdQ w v qs ∧ Tel w qs fs
theorem RdF.below {w w' : World} {v : Value} {fs : List Fp} (h : RdF w v fs) (hb : Below w.heap.size w w') : RdF w' v fs := by
  obtain ⟨qs, h1, h2⟩ := h; exact ⟨qs, h1.below hb, h2.below hb⟩
theorem RdF.nil (w : World) : RdF w (.slice none 0 0) [] := ⟨[], RdG.nil hlQ w, trivial⟩
theorem RdF.shape {w : World} {v : Value} {fs : List Fp} (h : RdF w v fs) : ∃ a c, v = .slice a fs.length c ∧ c ≤ 9223372036854775807 ∧ fs.length ≤ c := by
  obtain ⟨qs, h1, h2⟩ := h
  have := h1.shape
  rw [h2.len] at this
  exact this
/-- 'c[k]': where it lies and what is there. -/
theorem RdF.at_ {w : World} {a : Option Addr} {n c : Nat} {fs : List Fp} (h : RdF w (.slice a n c) fs) (k : Nat) (x m : Int) (cs : List Chg) (hk : fs[k]? = some (x, m, cs)) :
    ∃ b o ad l cp, (∀ w0, (Instr.indexAt 28 (.slice a n c) (.int .i64 (k : Int))).run Tryz.prog w0 = .ok (.pointer (some ⟨b, o, none⟩)) w0) ∧ b < w.heap.size ∧
      w.cell? ⟨b, o, none⟩ = some (.int .i64 x) ∧ w.cell? ⟨b, o + 1, none⟩ = some (.int .i64 m) ∧ w.cell? ⟨b, o + 2, none⟩ = some (.slice ad l cp) ∧ RdC w (.slice ad l cp) cs := by
  obtain ⟨qs, h1, h2⟩ := h
  obtain ⟨⟨x', m', ad, l, cp⟩, h3, h4, h5, h6⟩ := h2.get hk
  simp only at h4 h5
  subst h4 h5
  obtain ⟨b, o, hi, hb, c0, c1, c2⟩ := atQ h1 k _ _ _ _ _ h3
  exact ⟨b, o, ad, l, cp, hi, hb, c0, c1, c2, h6⟩
theorem RdF.cutL {w : World} {a : Option Addr} {n c : Nat} {fs : List Fp} (h : RdF w (.slice a n c) fs) (lo : Nat) (h2 : lo ≤ fs.length) :
    ∃ v', (∀ w0 : World, (Instr.slice 28 (.slice a n c) (some (.int .i64 (lo : Int))) none none).run Tryz.prog w0 = .ok v' w0) ∧ RdF w v' (fs.drop lo) := by
  obtain ⟨qs, h3, h4⟩ := h
  obtain ⟨v', h5, h6⟩ := h3.cutL proE lo (by rw [h4.len]; exact h2)
  exact ⟨v', h5, _, h6, h4.drop lo⟩
theorem RdF.cut0 {w : World} {a : Option Addr} {n c : Nat} {fs : List Fp} (h : RdF w (.slice a n c) fs) (hi : Nat) (h2 : hi ≤ fs.length) :
    ∃ v', (∀ w0 : World, (Instr.slice 28 (.slice a n c) none (some (.int .i64 (hi : Int))) none).run Tryz.prog w0 = .ok v' w0) ∧ RdF w v' (fs.take hi) := by
  obtain ⟨qs, h3, h4⟩ := h
  obtain ⟨v', h5, h6⟩ := h3.cut0 proE hi (by rw [h4.len]; exact h2)
  exact ⟨v', h5, _, h6, h4.take hi⟩
/-- A list of the call's own whose proposals' changes lie as they did in w0. -/
def OwnF (w0 : World) (base : Nat) (w : World) (v : Value) (fs : List Fp) : Prop := ∃ qs, OwnQ base w v qs ∧ Tel w0 qs fs
theorem OwnF.nil (w0 : World) (base : Nat) (w : World) : OwnF w0 base w (.slice none 0 0) [] := ⟨[], OwnG.nil hlQ _ _ _, trivial⟩
theorem OwnF.rd {w0 w : World} {base : Nat} {v : Value} {fs : List Fp} (h : OwnF w0 base w v fs) (hb : Below w0.heap.size w0 w) : RdF w v fs := by
  obtain ⟨qs, h1, h2⟩ := h; exact ⟨qs, h1.rd, h2.below hb⟩
theorem OwnF.below {w0 w w' : World} {base : Nat} {v : Value} {fs : List Fp} (h : OwnF w0 base w v fs) (hb : Below w.heap.size w w') : OwnF w0 base w' v fs := by
  obtain ⟨qs, h1, h2⟩ := h; exact ⟨qs, h1.below hb, h2⟩
theorem OwnF.shape {w0 w : World} {base : Nat} {v : Value} {fs : List Fp} (h : OwnF w0 base w v fs) : ∃ a c, v = .slice a fs.length c ∧ c ≤ 9223372036854775807 ∧ fs.length ≤ c := by
  obtain ⟨qs, h1, h2⟩ := h
  have := h1.rd.shape
  rw [h2.len] at this
  exact this

section
variable {α : Type} {P : Program} {t e : TypeId} {size bytes : Nat} {enc : α → List Value}
theorem cellsOf_set (hl : ∀ x, (enc x).length = size) {xs : List α} {k j : Nat} {x y : α} {u : Value} (hk : xs[k]? = some x) (hj : j < size) (hy : enc y = (enc x).set j u) :
    cellsOf enc (xs.set k y) = (cellsOf enc xs).set (k * size + j) u := by
  obtain ⟨hlt, rfl⟩ := List.getElem?_eq_some_iff.1 hk
  have hd : xs = xs.take k ++ ([xs[k]] ++ xs.drop (k + 1)) := by
    show xs = xs.take k ++ (xs[k] :: xs.drop (k + 1))
    rw [← List.drop_eq_getElem_cons hlt, List.take_append_drop]
  have e1 : xs.set k y = xs.take k ++ ([y] ++ xs.drop (k + 1)) := by rw [List.set_eq_take_append_cons_drop, if_pos hlt]; rfl
  have hlen : (cellsOf enc (xs.take k)).length = k * size := by rw [cellsOf_length hl, List.length_take, Nat.min_eq_left (Nat.le_of_lt hlt)]
  have hone : ∀ z : α, cellsOf enc [z] = enc z := fun z => by simp [cellsOf]
  have e2 := congrArg (fun l => (cellsOf enc l).set (k * size + j) u) hd
  rw [e1]
  refine Eq.trans ?_ e2.symm
  simp only [cellsOf_append, hone]
  rw [List.set_append_right _ _ (by omega), hlen, Nat.add_sub_cancel_left, List.set_append_left _ _ (by rw [hl]; exact hj), hy]
/-- 'v[k].F = u' in the call's own list. -/
theorem OwnG.at_put (E : IsElem P t e size bytes enc) {base : Nat} {w : World} {v : Value} {xs : List α} (h : OwnG enc e size base w v xs) {k : Nat} {x : α} (hk : xs[k]? = some x) :
    ∃ g o a c, v = .slice a xs.length c ∧ (∀ w0, (Instr.indexAt t (.slice a xs.length c) (.int .i64 (k : Int))).run P w0 = .ok (.pointer (some ⟨g, o, none⟩)) w0) ∧ base ≤ g ∧ g < w.heap.size ∧
      (∀ j u, (enc x)[j]? = some u → w.cell? ⟨g, o + j, none⟩ = some u ∧ w.frozen? ⟨g, o + j, none⟩ = false) ∧
      ∀ j y u, j < size → enc y = (enc x).set j u → OwnG enc e size base (w.setCell ⟨g, o + j, none⟩ u) (.slice a xs.length c) (xs.set k y) ∧ Below base w (w.setCell ⟨g, o + j, none⟩ u) ∧ KeepsX e w (w.setCell ⟨g, o + j, none⟩ u) := by
  have hlt : k < xs.length := (List.getElem?_eq_some_iff.1 hk).1
  obtain ⟨g, cap, cur, hv, hg, hh, hn, hm, hs, ht⟩ := h.form (by omega)
  subst hv
  have hl := h.2
  have hrd := h.rd
  have hgs : g < w.heap.size := (Array.getElem?_eq_some_iff.1 hh).1
  refine ⟨g, k * size, some ⟨g, 0, none⟩, cap, rfl, fun w0 => ?_, hg, hgs, fun j u hu => ?_, fun j y u hj hy => ?_⟩
  · have h1 : (0 : Int) ≤ (k : Int) := by omega
    have h3 : ¬ xs.length ≤ k := by omega
    have hs := E.run_size
    simp [Instr.indexAt, asIntOf, run_underlying E.ht, h1, Result.andThen, addr_plain, hs]
    intro h4
    exact absurd h4 h3
  · refine ⟨?_, unfrozen_of_block hh _⟩
    obtain ⟨a', c', hv', _, _, _, _, h4⟩ := hrd
    cases hv'
    have := h4 _ rfl _ _ (cellsOf_get hl.2 xs k j x u hk hu)
    rw [addr_plain, Nat.zero_add] at this
    exact this
  · refine ⟨⟨⟨by rw [cellsOf_length hl.2, List.length_set], .inr ⟨g, cap, _, by rw [List.length_set], hg, block_setCell hh _, by rw [List.length_set]; exact hn, hm, by simpa using hs, ?_⟩⟩, hl⟩, (Below.refl _ w).setCell hg _, ?_⟩
    · rw [Array.toList_setIfInBounds, List.length_set, List.take_set, ht, cellsOf_set hl.2 hk hj hy]
    · intro i hi hne
      have : i ≠ g := by rintro rfl; exact hne _ _ hh
      exact heap_setCell_other w _ i u this
end

/-! Vectors, as lists of entries. -/
def encE : Ent → List Value
  | (a, n) => [.int .i64 a, .int .i64 n]
theorem hlE : 0 < 2 ∧ ∀ x, (encE x).length = 2 := ⟨by decide, fun _ => rfl⟩
theorem ents_cells (xs : List Ent) : VX.ents xs = cellsOf encE xs := by
  unfold cellsOf
  induction xs with
  | nil => rfl
  | cons x xs ih => obtain ⟨a, n⟩ := x; rw [List.flatMap_cons, ← ih]; rfl
end Go.Proofs.YtkaafbdhgekeeaaGreat

namespace Go.Proofs.YtkaafbdhgekeeaaGreat
open Go.RowKit
open JM (Chg)
open CM (Fp)

theorem errL_step (pr : Int × Int) (f : Fp) (r : List Fp) : CM.errL pr (f :: r) =
    if CM.errF f ≠ 0 then CM.errF f else if JM.cmpP f.1 f.2.1 pr.1 pr.2 ≤ 0 then 7 else if 1 < f.2.1 ∧ ¬ (pr.1 = f.1 ∧ pr.2 = f.2.1 - 1) then 8 else CM.errL (f.1, f.2.1) r := by
  rw [CM.errL]

end Go.Proofs.YtkaafbdhgekeeaaGreat

namespace Go.Proofs.YtkaafbdhgekeeaaGreat
open Go.RowKit
open JM (Chg)
open CM (Fp)

/-- The identifier ahead of place k. -/
def pre (fs : List Fp) (k : Nat) : Int × Int := if k = 0 then (0, 0) else ((fs.getD (k - 1) (0, 0, [])).1, (fs.getD (k - 1) (0, 0, [])).2.1)
theorem pre_succ {fs : List Fp} {k : Nat} {f : Fp} (h : fs[k]? = some f) : pre fs (k + 1) = (f.1, f.2.1) := by simp [pre, List.getD, h]
/-- A call that only reads, or makes memory, at any later world. -/
theorem rCompareL {w : World} (a m : Int) (ua : Option Addr) (ul uc : Nat) (b n : Int) (va : Option Addr) (vl vc : Nat) (p : Later w) :
    Calls Tryz.prog 12 #[pv a m (.slice ua ul uc), pv b n (.slice va vl vc)] p.val fun e w'' => e = .returned (.int .i64 (JM.cmpP a m b n)) ∧ ∃ q : Later w, w'' = q.val :=
  Calls.later (rCompare a m ua ul uc b n va vl vc p.val)

set_option maxRecDepth 100000 in
set_option maxHeartbeats 4000000 in
theorem rValidateC (v : Value) (fs : List Fp) (w : World) (h : RdF w v fs) :
    Calls Tryz.prog 5 #[v] w fun e w' => e = .returned (.int .i64 (CM.errL (0, 0) fs)) ∧ Below w.heap.size w w' := by
  obtain ⟨ad, c, rfl, hc, hl⟩ := h.shape
  obtain ⟨R, hR⟩ : ∃ R, R = CM.errL (0, 0) fs := ⟨_, rfl⟩
  rw [← hR]
  have H := Lib.hid h
  have HR := Lib.hid hR
  clear h hR
  go_enter Tryz.func5, Tryz.ntmps5
  go_wp2
  go_loopw [3] (fun i wr => ∃ (k : Nat), k ≤ fs.length ∧ i = .int .i64 k ∧ Below w.heap.size w wr ∧ Hid (R = CM.errL (pre fs k) (fs.drop k))) (fun i _ => fs.length - (intOf i).toNat)
  case atStart => exact ⟨0, Nat.zero_le _, rfl, Below.refl _ _, HR.out⟩
  case round =>
    obtain ⟨k, hk, rfl, hbl, he⟩ := hrel
    clear HR
    by_cases hlt : k < fs.length
    · have hq : (k : Int) < (fs.length : Int) := by omega
      have hd := Lib.hid (drop_get hlt)
      have hk2 := List.getElem?_eq_getElem hlt
      have hp := Lib.hid (pre_succ hk2)
      generalize fs[k] = f at hd hk2 hp
      obtain ⟨x, m, cs⟩ := f
      obtain ⟨b, o, da, dl, dc, hi, hb, c0, c1, c2, hrd⟩ := (H.out.below hbl).at_ k x m cs hk2
      have e1 := Lib.hid (he.out.trans ((congrArg (CM.errL (pre fs k)) hd.out).trans (errL_step _ _ _)))
      have e2 : Hid (R = if JM.errP x m cs ≠ 0 then JM.errP x m cs else if JM.cmpP x m (pre fs k).1 (pre fs k).2 ≤ 0 then 7 else if 1 < m ∧ ¬ ((pre fs k).1 = x ∧ (pre fs k).2 = m - 1) then 8 else CM.errL (x, m) (fs.drop (k + 1))) := e1.out
      have hp' : Hid (pre fs (k + 1) = (x, m)) := hp.out
      have HN := Lib.hid (fun h => CM.errF_num (f := (x, m, cs)) h)
      have HV := Lib.hid (rValidate x m (.slice da dl dc) cs _ hrd)
      clear hk2 he hd e1 hp hrd
      by_cases hE : JM.errP x m cs = 0
      · obtain ⟨n1, n2, n3, n4⟩ := HN.out hE
        simp only at n1 n2 n3 n4
        rw [hE] at HV
        have e3 := Lib.hid (e2.out.trans (if_neg (by rw [hE]; simp)))
        clear e2 hE HN
        go_wp2_with fail
        refine HV.out.mono ?_
        rintro e w1 ⟨rfl, hb1⟩
        have d0 := below_cell hb1 c0
        have d1 := below_cell hb1 c1
        have d2 := below_cell hb1 c2
        have HB1 := Lib.hid (bnext hbl hb1)
        clear c0 c1 c2 HV hb1 hbl
        by_cases h0 : k = 0
        · subst h0
          have hi0 : ∀ w0 : World, (Instr.indexAt 28 (.slice ad fs.length c) (.int .i64 0)).run Tryz.prog w0 = .ok (.pointer (some ⟨b, o, none⟩)) w0 := hi
          have hq0 : (0 : Int) < (fs.length : Int) := hq
          have e4 := Lib.hid (e3.out.trans (if_neg (by show ¬ JM.cmpP x m 0 0 ≤ 0; have := (@CM.cmpP_pos x m 0 0).2 (by omega); omega)))
          clear e3 hi hq
          by_cases hm : 1 < m
          · have e5 := Lib.hid (e4.out.trans (if_pos ⟨hm, by show ¬ ((0 : Int) = x ∧ _); omega⟩))
            clear e4
            go_wp2
            go_quiet (fail)
            go_wp2
            go_quiet (fail)
            go_wp2
            go_ret
            rw [e5.out]
            exact ⟨rfl, (HB1.out.trans (below_drewN _ _ _)).trans (below_drewN _ _ _)⟩
          · have e5 := Lib.hid (e4.out.trans (if_neg (fun h => hm h.1)))
            have hm' : decide (1 < m) = false := decide_eq_false hm
            clear e4
            go_wp2
            go_quiet (fail)
            go_wp2
            go_quiet (fail)
            go_wp2
            go_roundw
            case rel => exact ⟨0 + 1, by omega, by go_num, HB1.out.trans (below_drewN _ _ _), by rw [hp'.out]; exact e5⟩
            case measure => simp [intOf]; omega
        · have hk1 : (0 : Int) < (k : Int) := by omega
          have hk2 : 0 < k := by omega
          have hk0 : ((k : Int) == 0) = false := beq_f (by omega)
          have hkl : k - 1 < fs.length := by omega
          have hg2 := List.getElem?_eq_getElem hkl
          have hpk : pre fs k = (fs[k - 1].1, fs[k - 1].2.1) := by simp [pre, h0, List.getD, List.getElem?_eq_getElem hkl]
          generalize fs[k - 1] = g at hg2 hpk
          obtain ⟨y, n, ds⟩ := g
          simp only at hpk
          rw [hpk] at e3
          obtain ⟨b2, o2, ea, el, ec, hi2, hb2, f0, f1, f2, hrd2⟩ := (H.out.below HB1.out).at_ (k - 1) y n ds hg2
          rw [show ((k - 1 : Nat) : Int) = (k : Int) - 1 by omega] at hi2
          have hC := fun p : Later w1 => rCompareL y n ea el ec x m da dl dc p
          have hcn := JM.cmpP_neg y n x m
          simp only at e3
          clear hg2 hpk hrd2
          have k0 : ∀ p : Later w1, p.val.cell? ⟨b, o, none⟩ = some (.int .i64 x) := fun p => below_cell p.h d0
          have k1 : ∀ p : Later w1, p.val.cell? ⟨b, o + 1, none⟩ = some (.int .i64 m) := fun p => below_cell p.h d1
          have k2 : ∀ p : Later w1, p.val.cell? ⟨b, o + 2, none⟩ = some (.slice da dl dc) := fun p => below_cell p.h d2
          have j0 : ∀ p : Later w1, p.val.cell? ⟨b2, o2, none⟩ = some (.int .i64 y) := fun p => below_cell p.h f0
          have j1 : ∀ p : Later w1, p.val.cell? ⟨b2, o2 + 1, none⟩ = some (.int .i64 n) := fun p => below_cell p.h f1
          have j2 : ∀ p : Later w1, p.val.cell? ⟨b2, o2 + 2, none⟩ = some (.slice ea el ec) := fun p => below_cell p.h f2
          by_cases hcl : JM.cmpP x m y n ≤ 0
          · have e4 := Lib.hid (e3.out.trans (if_pos hcl))
            have hge : 0 ≤ JM.cmpP y n x m := by omega
            generalize JM.cmpP y n x m = C at hC hge
            have HC := Lib.hid hC
            clear e3 hcl hcn hC d0 d1 d2 f0 f1 f2
            go_wp2
            refine wp_region_later (by kernel_rfl) (by kernel_rfl) ?_
            repeat (go_big_quiet_step (first | (go_at_call 12; with_reducible exact HC.out _)))
            refine wpQuiet_nil ?_
            rintro _ ⟨p, rfl⟩
            have HB2 := Lib.hid (bnext HB1.out p.h)
            generalize p.val = w2 at HB2 ⊢
            go_wp2
            go_ret
            rw [e4.out]
            exact ⟨rfl, HB2.out⟩
          · have e4 := Lib.hid (e3.out.trans (if_neg hcl))
            have hge : ¬ 0 ≤ JM.cmpP y n x m := by omega
            generalize JM.cmpP y n x m = C at hC hge
            have HC := Lib.hid hC
            clear e3 hcl hcn hC
            go_wp2
            refine wp_region_later (by kernel_rfl) (by kernel_rfl) ?_
            repeat (go_big_quiet_step (first | (go_at_call 12; with_reducible exact HC.out _)))
            refine wpQuiet_nil ?_
            rintro _ ⟨p, rfl⟩
            have HB2 := Lib.hid (bnext HB1.out p.h)
            have x0 := below_cell p.h d0
            have x1 := below_cell p.h d1
            have y0 := below_cell p.h f0
            have y1 := below_cell p.h f1
            clear k0 k1 k2 j0 j1 j2 d0 d1 d2 f0 f1 f2 HC HB1
            obtain ⟨w2, hw2⟩ : ∃ w2, w2 = p.val := ⟨_, rfl⟩
            rw [← hw2] at HB2 x0 x1 y0 y1 ⊢
            clear hw2
            have hw1 : IntKind.i64.wrap (m - 1) = m - 1 := IntWalk.i64_in _ (by omega)
            by_cases hm : 1 < m
            · by_cases hyx : y = x
              · have q1 : (y != x) = false := bne_f hyx
                by_cases hnm : n = m - 1
                · have q2 : (n != m - 1) = false := bne_f hnm
                  have e5 := Lib.hid (e4.out.trans (if_neg (fun h => h.2 ⟨hyx, hnm⟩)))
                  clear e4 hyx hnm
                  go_wp2
                  go_quiet (fail)
                  go_wp2
                  go_roundw
                  case rel => exact ⟨k + 1, by omega, by go_num, HB2.out.trans (below_drewN _ _ _), by rw [hp'.out]; exact e5⟩
                  case measure => simp [intOf]; omega
                · have q2 : (n != m - 1) = true := bne_t hnm
                  have e5 := Lib.hid (e4.out.trans (if_pos ⟨hm, fun h => hnm h.2⟩))
                  clear e4 hyx hnm
                  go_wp2
                  go_quiet (fail)
                  go_wp2
                  go_ret
                  rw [e5.out]
                  exact ⟨rfl, HB2.out.trans (below_drewN _ _ _)⟩
              · have q1 : (y != x) = true := bne_t hyx
                have e5 := Lib.hid (e4.out.trans (if_pos ⟨hm, fun h => hyx h.1⟩))
                clear e4 hyx
                go_wp2
                go_quiet (fail)
                go_wp2
                go_ret
                rw [e5.out]
                exact ⟨rfl, HB2.out.trans (below_drewN _ _ _)⟩
            · have e5 := Lib.hid (e4.out.trans (if_neg (fun h => hm h.1)))
              have hm' : decide (1 < m) = false := decide_eq_false hm
              clear e4
              go_wp2
              go_quiet (fail)
              go_wp2
              go_roundw
              case rel => exact ⟨k + 1, by omega, by go_num, HB2.out.trans (below_drewN _ _ _), by rw [hp'.out]; exact e5⟩
              case measure => simp [intOf]; omega
      · have e3 := Lib.hid (e2.out.trans (if_pos hE))
        have hne : (JM.errP x m cs != 0) = true := bne_t hE
        generalize JM.errP x m cs = E at HV e3 hne
        clear e2 hE HN
        go_wp2_with fail
        refine HV.out.mono ?_
        rintro e w1 ⟨rfl, hb1⟩
        go_wp2
        go_ret
        rw [e3.out]
        exact ⟨rfl, bnext hbl hb1⟩
    · have hq : ¬ ((k : Int) < (fs.length : Int)) := by omega
      have e2 := Lib.hid (show R = 0 by rw [he.out, List.drop_of_length_le (by omega)]; rfl)
      clear he
      go_wp2
      go_ret
      rw [e2.out]
      exact ⟨rfl, hbl⟩

end Go.Proofs.YtkaafbdhgekeeaaGreat

namespace Go.Proofs.YtkaafbdhgekeeaaGreat
open Go.RowKit
open JM (Chg)
open CM (Fp)

/-- Place i is where an identifier is, or would be. -/
def AtF (fs : List Fp) (x m : Int) (i : Nat) : Prop := i ≤ fs.length ∧ (∀ k f, fs[k]? = some f → k < i → JM.cmpP f.1 f.2.1 x m < 0) ∧ (∀ k f, fs[k]? = some f → i ≤ k → 0 ≤ JM.cmpP f.1 f.2.1 x m)
def fndF (fs : List Fp) (x m : Int) (i : Nat) : Bool := match fs[i]? with | some f => decide (JM.cmpP f.1 f.2.1 x m = 0) | none => false
theorem cmp_lt {a m b n x k : Int} (h : CM.lt (a, m, ([] : List Chg)) (b, n, [])) (h2 : JM.cmpP b n x k < 0) : JM.cmpP a m x k < 0 := by
  unfold CM.lt at h; rw [CM.cmpP_lt] at *; simp only at h; omega
theorem cmp_gt {a m b n x k : Int} (h : CM.lt (a, m, ([] : List Chg)) (b, n, [])) (h2 : 0 ≤ JM.cmpP a m x k) : 0 ≤ JM.cmpP b n x k := by
  unfold CM.lt at h
  have h3 : ¬ JM.cmpP a m x k < 0 := by omega
  rw [CM.cmpP_lt] at h3
  have h4 : ¬ JM.cmpP b n x k < 0 := by rw [CM.cmpP_lt]; simp only at h; omega
  omega

theorem fnd_true {fs : List Fp} {x m : Int} {i : Nat} (h : fndF fs x m i = true) : ∃ f, fs[i]? = some f ∧ f.1 = x ∧ f.2.1 = m := by
  unfold fndF at h
  split at h
  · rename_i f hf
    exact ⟨f, hf, JM.cmpP_zero.1 (of_decide_eq_true h)⟩
  · cases h
theorem fnd_false {fs : List Fp} {x m : Int} {i : Nat} (hs : CM.Srt fs) (ha : AtF fs x m i) (h : fndF fs x m i = false) : ∀ f ∈ fs, ¬ (f.1 = x ∧ f.2.1 = m) := by
  intro f hf hk
  obtain ⟨j, hj, hjf⟩ := List.getElem_of_mem hf
  have h1 : fs[j]? = some f := by rw [List.getElem?_eq_getElem hj, hjf]
  have hz : JM.cmpP f.1 f.2.1 x m = 0 := JM.cmpP_zero.2 hk
  rcases Nat.lt_trichotomy j i with h2 | h2 | h2
  · have := ha.2.1 j f h1 h2; omega
  · subst h2
    unfold fndF at h
    rw [h1] at h
    simp [hz] at h
  · have hi : i < fs.length := by omega
    have h3 := List.getElem?_eq_getElem hi
    have h4 := ha.2.2 i _ h3 (Nat.le_refl _)
    have h5 := hs.get h3 h1 h2
    have h6 : JM.cmpP fs[i].1 fs[i].2.1 x m < 0 := by rw [CM.cmpP_lt]; unfold CM.lt at h5; omega
    omega

end Go.Proofs.YtkaafbdhgekeeaaGreat

namespace Go.Proofs.YtkaafbdhgekeeaaGreat
open Go.RowKit
open JM (Chg)
open CM (Fp)

/-- 'for i .. if !equal(a[i], b[i]) return false': what is left. -/
theorem eq_drop {xs ys : List Fp} {k : Nat} {f g : Fp} (h1 : xs.drop k = f :: xs.drop (k + 1)) (h2 : ys.drop k = g :: ys.drop (k + 1)) :
    decide (xs.drop k = ys.drop k) = (eqP f.1 f.2.1 f.2.2 g.1 g.2.1 g.2.2 && decide (xs.drop (k + 1) = ys.drop (k + 1))) := by
  obtain ⟨x, m, cs⟩ := f
  obtain ⟨y, n, ds⟩ := g
  rw [h1, h2]
  unfold eqP
  rw [← Bool.decide_and]
  refine decide_eq_decide.2 ?_
  rw [List.cons_eq_cons]
  simp

end Go.Proofs.YtkaafbdhgekeeaaGreat

namespace Go.Proofs.YtkaafbdhgekeeaaGreat
open Go.RowKit
open JM (Chg)
open CM (Fp)

theorem ownG_empty {α : Type} {enc : α → List Value} {size : Nat} (hl : 0 < size ∧ ∀ x, (enc x).length = size) (e : TypeId) (w : World) :
    OwnG enc e size w.heap.size (w.alloc (.cells #[] e)) (.slice (some ⟨w.heap.size, 0, none⟩) 0 0) [] := ⟨World.ownsRow_made w #[] 0 (Nat.le_refl _) (Nat.zero_le _) (Nat.zero_mul _).symm, hl⟩

/-- Proposals whose changes are the call's own. -/
def TelO (base : Nat) (w : World) : List Pro → List Fp → Prop
  | [], [] => True
  | q :: qs, f :: fs => (q.1 = f.1 ∧ q.2.1 = f.2.1 ∧ OwnC base w (sl q) f.2.2) ∧ TelO base w qs fs
  | _, _ => False
theorem TelO.below {base : Nat} {w w' : World} (hb : Below w.heap.size w w') : ∀ {qs : List Pro} {fs : List Fp}, TelO base w qs fs → TelO base w' qs fs
  | [], [], _ => trivial
  | _ :: _, _ :: _, h => ⟨⟨h.1.1, h.1.2.1, h.1.2.2.below hb⟩, TelO.below hb h.2⟩
  | [], _ :: _, h => h.elim
  | _ :: _, [], h => h.elim
theorem TelO.keep {base : Nat} {w w' : World} (hk : KeepsX 45 w w') : ∀ {qs : List Pro} {fs : List Fp}, TelO base w qs fs → TelO base w' qs fs
  | [], [], _ => trivial
  | _ :: _, _ :: _, h => ⟨⟨h.1.1, h.1.2.1, ownG_keep h.1.2.2 hk (by decide)⟩, TelO.keep hk h.2⟩
  | [], _ :: _, h => h.elim
  | _ :: _, [], h => h.elim
theorem TelO.rd {base : Nat} {w : World} : ∀ {qs : List Pro} {fs : List Fp}, TelO base w qs fs → Tel w qs fs
  | [], [], _ => trivial
  | _ :: _, _ :: _, h => ⟨⟨h.1.1, h.1.2.1, h.1.2.2.rd⟩, TelO.rd h.2⟩
  | [], _ :: _, h => h.elim
  | _ :: _, [], h => h.elim
theorem TelO.snoc {base : Nat} {w : World} {q : Pro} {f : Fp} (k : q.1 = f.1 ∧ q.2.1 = f.2.1 ∧ OwnC base w (sl q) f.2.2) : ∀ {qs : List Pro} {fs : List Fp}, TelO base w qs fs → TelO base w (qs ++ [q]) (fs ++ [f])
  | [], [], _ => ⟨k, trivial⟩
  | _ :: _, _ :: _, h => ⟨h.1, TelO.snoc k h.2⟩
  | [], _ :: _, h => h.elim
  | _ :: _, [], h => h.elim
theorem TelO.mono {base b2 : Nat} {w : World} (hle : b2 ≤ base) : ∀ {qs : List Pro} {fs : List Fp}, TelO base w qs fs → TelO b2 w qs fs
  | [], [], _ => trivial
  | _ :: _, _ :: _, h => ⟨⟨h.1.1, h.1.2.1, h.1.2.2.mono hle⟩, TelO.mono hle h.2⟩
  | [], _ :: _, h => h.elim
  | _ :: _, [], h => h.elim
theorem take_snocF {fs : List Fp} {k : Nat} {f : Fp} (h : fs[k]? = some f) : fs.take (k + 1) = fs.take k ++ [f] := by
  have hlt : k < fs.length := (List.getElem?_eq_some_iff.1 h).1
  rw [← List.take_append_getElem hlt, (List.getElem?_eq_some_iff.1 h).2]
theorem set_mid {ns r : List Pro} {q y : Pro} {k : Nat} (h : ns.length = k) : (ns ++ (q :: r)).set k y = (ns ++ [y]) ++ r := by
  subst h
  rw [List.set_append_right _ _ (Nat.le_refl _), Nat.sub_self, List.set_cons_zero, List.append_assoc]; rfl

end Go.Proofs.YtkaafbdhgekeeaaGreat

namespace Go.Proofs.YtkaafbdhgekeeaaGreat
open Go.ChangeShapes Go.WideShapes Go.ChangeAt Go.RowKit
open JM (Chg)
open CM (Fp)
open VM (Ent)

section
variable {H : Type} {enc : TypeId × Value → H} {W : World} {n : Nat} {x : DataW H × List MemPlace}

set_option maxRecDepth 100000 in
theorem rd_of_trod {v : Value} (hf : DataW.trod enc Tryz.prog W 0 (fun _ => true) true n 54 [v] = some x) : ∃ xs, Rd W v xs := by
  rcases open_ints Tryz.underlying54 Tryz.underlying5 (by kernel_rfl) hf with ⟨hcs, _⟩ | ⟨y, l, c, zs, hcs, _, hl, hm, hz, _, hcell, hwz⟩
  · simp at hcs
    subst hcs
    exact ⟨[], Rd.nil W⟩
  · simp at hcs
    subst hcs
    exact ⟨zs.take l, rd_row (.inr ⟨_, rfl, hl, hm, by simpa using hz, hcell, hwz⟩)⟩

set_option maxRecDepth 100000 in
theorem rdI_of_trod {v : Value} (hf : DataW.trod enc Tryz.prog W 0 (fun _ => true) true n 34 [v] = some x) : ∃ xs, RdI W v xs := by
  rcases open_ints Tryz.underlying34 Tryz.underlying3 (by kernel_rfl) hf with ⟨hcs, _⟩ | ⟨y, l, c, zs, hcs, _, hl, hm, hz, _, hcell, hwz⟩
  · simp at hcs
    subst hcs
    exact ⟨[], RdG.nil hlI W⟩
  · simp at hcs
    subst hcs
    simp only [if_true] at hz
    have hlen : (zs.take l).length = l := by rw [List.length_take, hz]; omega
    refine ⟨zs.take l, some y, c, by rw [hlen], by omega, hm, (fun h => by cases h), hlI, fun z hz' i u hu => ?_⟩
    cases hz'
    have e : cellsOf encI (zs.take l) = (zs.take l).map (Value.int .i64) := by
      unfold cellsOf encI
      induction (zs.take l) with
      | nil => rfl
      | cons q l ih => rw [List.flatMap_cons, ih]; rfl
    rw [e, List.getElem?_map, List.getElem?_take] at hu
    split at hu
    · rename_i hil
      have hi : i < zs.length := by omega
      rw [List.getElem?_eq_getElem hi] at hu
      cases hu
      rw [hcell i hi]
      simp [List.getD, hi]
    · cases hu

set_option maxRecDepth 100000 in
/-- The seven cells of a change. -/
theorem chg_cells {cs : List Value} (h : DataW.trod enc Tryz.prog W 0 (fun _ => true) true n 50 cs = some x) : ∃ e : Chg, cs = encC e := by
  have k0 : Tryz.prog.cellsOf 3 = 1 := by kernel_rfl
  have k3 : Tryz.prog.cellsOf 24 = 3 := by kernel_rfl
  have k7 : Tryz.prog.cellsOf 50 = 7 := by kernel_rfl
  obtain ⟨xs, m, _, _, hl, hlen, hf⟩ := DataW.trod_struct Tryz.underlying50 h
  rw [k7] at hl
  match xs, hlen, cs, hl with
  | [y0, y1, y2, y3, y4], _, [c0, c1, c2, c3, c4, c5, c6], _ =>
    have g0 := hf 0 _ rfl
    have g1 := hf 1 _ rfl
    have g2 := hf 2 _ rfl
    have g3 := hf 3 _ rfl
    have g4 := hf 4 _ rfl
    simp [k0, k3] at g0 g1 g2 g3 g4
    obtain ⟨a0, e0, _⟩ := DataW.trod_int Tryz.underlying3 g0
    obtain ⟨a1, e1, _⟩ := DataW.trod_int Tryz.underlying3 g1
    obtain ⟨a2, e2, _⟩ := DataW.trod_int Tryz.underlying3 g2
    obtain ⟨a3, e3, _⟩ := DataW.trod_int Tryz.underlying3 g3
    obtain ⟨y0, y1, y2, m, _, _, h0, h1, h2⟩ := Deep.trod_struct3 Tryz.underlying24 g4
    simp only [k0] at h0 h1 h2
    obtain ⟨a4, e4, _⟩ := DataW.trod_int Tryz.underlying3 h0
    obtain ⟨a5, e5, _⟩ := DataW.trod_int Tryz.underlying3 h1
    obtain ⟨a6, e6, _⟩ := DataW.trod_int Tryz.underlying3 h2
    simp at e0 e1 e2 e3 e4 e5 e6
    exact ⟨(a0, a1, a2, a3, a4, a5, a6), by rw [e0, e1, e2, e3, e4, e5, e6]; rfl⟩

set_option maxRecDepth 100000 in
theorem cellsC_snoc {xs : List Chg} {e : Chg} {j : Nat} {u : Value} (h : (cellsOf encC (xs ++ [e]))[j]? = some u) :
    (cellsOf encC xs)[j]? = some u ∨ ∃ d, d < 7 ∧ j = xs.length * 7 + d ∧ (encC e)[d]? = some u := by
  have hL := cellsOf_length (enc := encC) hlC.2 xs
  rw [cellsOf_append] at h
  rcases Nat.lt_or_ge j (cellsOf encC xs).length with hl | hl
  · rw [List.getElem?_append_left hl] at h
    exact .inl h
  · rw [List.getElem?_append_right hl, hL] at h
    rw [hL] at hl
    have e1 : cellsOf encC [e] = encC e := by simp [cellsOf]
    rw [e1] at h
    have hd : j - xs.length * 7 < 7 := by
      have := (List.getElem?_eq_some_iff.1 h).1
      rw [hlC.2 e] at this; exact this
    exact .inr ⟨_, hd, by omega, h⟩

set_option maxRecDepth 100000 in
theorem rdC_of_trod {v : Value} (hf : DataW.trod enc Tryz.prog W 0 (fun _ => true) true n 43 [v] = some x) : ∃ xs, RdC W v xs := by
  have k7 : Tryz.prog.cellsOf 50 = 7 := by kernel_rfl
  rcases Deep.open_slice Tryz.underlying43 hf with ⟨hcs, _⟩ | ⟨y, l, c, m, k, D, P, hcs, _, hl, hm, hmm, _, hall⟩
  · simp at hcs
    subst hcs
    exact ⟨[], RdG.nil hlC W⟩
  · simp at hcs
    subst hcs
    simp only [if_true] at hmm
    have hbuild : ∀ j, j ≤ l → ∃ xs : List Chg, xs.length = j ∧ ∀ i u, (cellsOf encC xs)[i]? = some u → W.cell? (y.add i) = some u := by
      intro j
      induction j with
      | zero => intro _; exact ⟨[], rfl, fun i u h => by simp [cellsOf] at h⟩
      | succ j ih =>
        intro hj
        obtain ⟨xs, hp, hr⟩ := ih (by omega)
        obtain ⟨cs', t0, t1⟩ := hall j (by omega)
        rw [k7] at t0
        obtain ⟨_, hlen, hcell⟩ := World.cells?_some t0
        obtain ⟨e, rfl⟩ := chg_cells t1
        refine ⟨xs ++ [e], by simp [hp], fun i u hu => ?_⟩
        rcases cellsC_snoc hu with h | ⟨d, hd, rfl, h⟩
        · exact hr i u h
        · have := hcell d hd
          rw [Deep.add_add] at this
          rw [hp, this, h]
    obtain ⟨xs, hp, hr⟩ := hbuild l (Nat.le_refl _)
    exact ⟨xs, some y, c, by rw [hp], by omega, hm, (fun h => by cases h), hlC, fun z hz i u hu => by cases hz; exact hr i u hu⟩

set_option maxRecDepth 100000 in
theorem chg_of_trod {r : Reach} {b0 : Nat} {v : Value} {d : DataW H} {p : List MemPlace} (hv : Value.okWide Tryz.prog W r b0 50 v) (h : DataW.Trod enc Tryz.prog W 0 (fun _ => true) true 50 v d p) :
    ∃ k s t u a b c, v = cv k s t u a b c ∧ True := by
  obtain ⟨cs, rfl, hsz⟩ := okWide_struct Tryz.underlying50 hv
  have hC : cs.size = 7 := hsz.trans (by kernel_rfl)
  obtain ⟨l⟩ := cs
  match l, hC with
  | [c0, c1, c2, c3, c4, c5, c6], _ =>
    obtain ⟨fuel, hf⟩ := h
    obtain ⟨⟨k, s, t, u, a, b, c⟩, he⟩ := chg_cells hf
    simp only [Value.cells, encC, List.cons.injEq, and_true] at he
    obtain ⟨rfl, rfl, rfl, rfl, rfl, rfl, rfl⟩ := he
    exact ⟨k, s, t, u, a, b, c, rfl, trivial⟩
set_option maxRecDepth 100000 in
theorem pro_of_trod {r : Reach} {b0 : Nat} {v : Value} {d : DataW H} {p : List MemPlace} (hv : Value.okWide Tryz.prog W r b0 45 v) (h : DataW.Trod enc Tryz.prog W 0 (fun _ => true) true 45 v d p) :
    ∃ a n sv cs, v = pv a n sv ∧ RdC W sv cs := by
  obtain ⟨cs, rfl, hsz⟩ := okWide_struct Tryz.underlying45 hv
  have hC : cs.size = 3 := hsz.trans (by kernel_rfl)
  have k0 : Tryz.prog.cellsOf 3 = 1 := by kernel_rfl
  have k1 : Tryz.prog.cellsOf 43 = 1 := by kernel_rfl
  obtain ⟨l⟩ := cs
  match l, hC with
  | [c0, c1, c2], _ =>
    obtain ⟨fuel, hf⟩ := h
    obtain ⟨y0, y1, y2, m, _, _, h0, h1, h2⟩ := Deep.trod_struct3 Tryz.underlying45 hf
    simp only [k0, k1] at h0 h1 h2
    obtain ⟨a, ha, _⟩ := DataW.trod_int Tryz.underlying3 h0
    obtain ⟨n, hn, _⟩ := DataW.trod_int Tryz.underlying3 h1
    obtain ⟨cs, hcs⟩ := rdC_of_trod h2
    have ha' : [c0] = [Value.int .i64 a] := ha
    have hn' : [c1] = [Value.int .i64 n] := hn
    injection ha' with ha' _
    injection hn' with hn' _
    exact ⟨a, n, c2, cs, by rw [ha', hn'], hcs⟩
set_option maxRecDepth 100000 in
/-- The three cells of a proposal. -/
theorem pro_cells {cs : List Value} (h : DataW.trod enc Tryz.prog W 0 (fun _ => true) true n 45 cs = some x) : ∃ (q : Pro) (f : Fp), cs = encQ q ∧ Tell1 W q f := by
  have k0 : Tryz.prog.cellsOf 3 = 1 := by kernel_rfl
  have k1 : Tryz.prog.cellsOf 43 = 1 := by kernel_rfl
  have k3 : Tryz.prog.cellsOf 45 = 3 := by kernel_rfl
  obtain ⟨y0, y1, y2, m, _, hl, h0, h1, h2⟩ := Deep.trod_struct3 Tryz.underlying45 h
  rw [k3] at hl
  match cs, hl with
  | [c0, c1, c2], _ =>
    simp only [k0, k1] at h0 h1 h2
    obtain ⟨a, ha, _⟩ := DataW.trod_int Tryz.underlying3 h0
    obtain ⟨b, hb, _⟩ := DataW.trod_int Tryz.underlying3 h1
    obtain ⟨cs, hcs⟩ := rdC_of_trod h2
    have ha' : [c0] = [Value.int .i64 a] := ha
    have hb' : [c1] = [Value.int .i64 b] := hb
    injection ha' with ha' _
    injection hb' with hb' _
    have h2' : RdC W c2 cs := hcs
    obtain ⟨sa, sc, hsv, _, _⟩ := h2'.shape
    subst ha' hb'
    rw [hsv] at h2' ⊢
    exact ⟨(a, b, sa, cs.length, sc), (a, b, cs), rfl, rfl, rfl, h2'⟩
set_option maxRecDepth 100000 in
theorem cellsQ_snoc {xs : List Pro} {e : Pro} {j : Nat} {u : Value} (h : (cellsOf encQ (xs ++ [e]))[j]? = some u) :
    (cellsOf encQ xs)[j]? = some u ∨ ∃ d, d < 3 ∧ j = xs.length * 3 + d ∧ (encQ e)[d]? = some u := by
  have hL := cellsOf_length (enc := encQ) hlQ.2 xs
  rw [cellsOf_append] at h
  rcases Nat.lt_or_ge j (cellsOf encQ xs).length with hl | hl
  · rw [List.getElem?_append_left hl] at h
    exact .inl h
  · rw [List.getElem?_append_right hl, hL] at h
    rw [hL] at hl
    have e1 : cellsOf encQ [e] = encQ e := by simp [cellsOf]
    rw [e1] at h
    have hd : j - xs.length * 3 < 3 := by
      have := (List.getElem?_eq_some_iff.1 h).1
      rw [hlQ.2 e] at this; exact this
    exact .inr ⟨_, hd, by omega, h⟩
set_option maxRecDepth 100000 in
theorem rdF_of_trod {v : Value} (hf : DataW.trod enc Tryz.prog W 0 (fun _ => true) true n 28 [v] = some x) : ∃ fs, RdF W v fs := by
  have k3 : Tryz.prog.cellsOf 45 = 3 := by kernel_rfl
  rcases Deep.open_slice Tryz.underlying28 hf with ⟨hcs, _⟩ | ⟨y, l, c, m, k, D, P, hcs, _, hl, hm, hmm, _, hall⟩
  · simp at hcs
    subst hcs
    exact ⟨[], RdF.nil W⟩
  · simp at hcs
    subst hcs
    simp only [if_true] at hmm
    have hbuild : ∀ j, j ≤ l → ∃ (qs : List Pro) (fs : List Fp), qs.length = j ∧ Tel W qs fs ∧ ∀ i u, (cellsOf encQ qs)[i]? = some u → W.cell? (y.add i) = some u := by
      intro j
      induction j with
      | zero => intro _; exact ⟨[], [], rfl, trivial, fun i u h => by simp [cellsOf] at h⟩
      | succ j ih =>
        intro hj
        obtain ⟨qs, fs, hp, ht, hr⟩ := ih (by omega)
        obtain ⟨cs', t0, t1⟩ := hall j (by omega)
        rw [k3] at t0
        obtain ⟨_, hlen, hcell⟩ := World.cells?_some t0
        obtain ⟨q, f, rfl, htell⟩ := pro_cells t1
        refine ⟨qs ++ [q], fs ++ [f], by simp [hp], Tel.app ht (Tel.one htell), fun i u hu => ?_⟩
        rcases cellsQ_snoc hu with h | ⟨d, hd, rfl, h⟩
        · exact hr i u h
        · have := hcell d hd
          rw [Deep.add_add] at this
          rw [hp, this, h]
    obtain ⟨qs, fs, hp, ht, hr⟩ := hbuild l (Nat.le_refl _)
    exact ⟨fs, qs, ⟨some y, c, by rw [hp], by omega, hm, (fun h => by cases h), hlQ, fun z hz i u hu => by cases hz; exact hr i u hu⟩, ht⟩

set_option maxRecDepth 100000 in
theorem ents_snoc_get {xs : List Ent} {e : Ent} {j : Nat} {u : Value} (h : (VX.ents (xs ++ [e]))[j]? = some u) :
    (VX.ents xs)[j]? = some u ∨ (j = xs.length * 2 ∧ u = .int .i64 e.1) ∨ (j = xs.length * 2 + 1 ∧ u = .int .i64 e.2) := by
  rw [VX.ents_append] at h
  rcases Nat.lt_or_ge j (VX.ents xs).length with hl | hl
  · rw [List.getElem?_append_left hl] at h
    exact .inl h
  · rw [List.getElem?_append_right hl, VX.ents_length] at h
    rw [VX.ents_length] at hl
    obtain ⟨d, rfl⟩ : ∃ d, j = xs.length * 2 + d := ⟨j - xs.length * 2, by omega⟩
    rw [Nat.add_sub_cancel_left] at h
    match d, h with
    | 0, h => exact .inr (.inl ⟨by omega, by simpa [VX.ents] using h.symm⟩)
    | 1, h => exact .inr (.inr ⟨by omega, by simpa [VX.ents] using h.symm⟩)
    | d + 2, h => simp [VX.ents] at h
set_option maxRecDepth 100000 in
theorem int_of_trod {r : Reach} {b0 : Nat} {v : Value} {d : DataW H} {p : List MemPlace} (hv : Value.okWide Tryz.prog W r b0 3 v) (_ : DataW.Trod enc Tryz.prog W 0 (fun _ => true) true 3 v d p) : ∃ k, v = .int .i64 k ∧ True := by
  obtain ⟨k, hk⟩ := okWide_int Tryz.underlying3 hv
  exact ⟨k, hk, trivial⟩
set_option maxRecDepth 100000 in
theorem rdI_of_trod_len {v : Value} {d : DataW H} {p : List MemPlace} (hf : DataW.trod enc Tryz.prog W 0 (fun _ => true) true n 34 [v] = some (d, p)) :
    ∃ xs, RdI W v xs ∧ (xs = [] ∨ ∃ el sp, d = .slice el sp ∧ xs.length ≤ el.length + sp.length) := by
  have hf2 := hf
  rcases open_ints Tryz.underlying34 Tryz.underlying3 (by kernel_rfl) hf with ⟨hcs, _⟩ | ⟨y, l, c, zs, hcs, _, hl, hm, hz, hx, hcell, hwz⟩
  · simp at hcs
    subst hcs
    exact ⟨[], RdG.nil hlI W, .inl rfl⟩
  · obtain ⟨xs, hxs⟩ := rdI_of_trod hf2
    refine ⟨xs, hxs, .inr ?_⟩
    simp at hcs
    subst hcs
    obtain ⟨a', c', hv, _⟩ := hxs.shape
    cases hv
    simp only [Prod.mk.injEq] at hx
    obtain ⟨rfl, _⟩ := hx
    refine ⟨_, _, rfl, ?_⟩
    simp only [lits, List.length_map, List.length_take, List.length_drop]
    simp only [if_true] at hz
    omega
end

end Go.Proofs.YtkaafbdhgekeeaaGreat
