/-
  Plain mathematics of certificates (P13.1 to P13.5): their errors, which one is newer, the latest, where a transfer starts, their encodings; lists of configurations that agree. Lists and integers alone. No conditions beyond those that each lemma names.
-/
import Derived.Test.YtfdgoehfkfdgaaaKK
import Derived.Test.YtfdgoehfkfdgaaaKJ
namespace Go.Proofs.Ytfdgoehfkfdgaaa
open JM (Chg)
open CM (Fp)
namespace CM

/-- 'Includes': each proposal of b is in a, with all its fields. -/
def incl (a b : List Fp) : Bool := b.all fun f => a.any fun g => eqP g.1 g.2.1 g.2.2 f.1 f.2.1 f.2.2
theorem eqP_iff {f g : Fp} : eqP g.1 g.2.1 g.2.2 f.1 f.2.1 f.2.2 = true ↔ g = f := by
  obtain ⟨x, m, cs⟩ := f
  obtain ⟨y, n, ds⟩ := g
  unfold eqP
  rw [decide_eq_true_iff]
  simp
theorem incl_cons (a b : List Fp) : incl a b = cons a b := by
  rw [Bool.eq_iff_iff, cons_iff]
  unfold incl
  rw [List.all_eq_true]
  constructor
  · intro h f hf
    obtain ⟨g, hg, he⟩ := List.any_eq_true.1 (h f hf)
    rw [← eqP_iff.1 he]; exact hg
  · intro h f hf
    exact List.any_eq_true.2 ⟨f, h f hf, eqP_iff.2 rfl⟩

/-- The error of a certificate. -/
def errC (f t : List Fp) : Int := if errL (0, 0) f ≠ 0 then errL (0, 0) f else if errL (0, 0) t ≠ 0 then errL (0, 0) t else if cons t f = true then 0 else 2
theorem errC_ok {f t : List Fp} (h : errC f t = 0) : Ok f ∧ Ok t ∧ cons t f = true := by
  unfold errC at h
  split at h
  · rename_i h1; exact absurd h h1
  · rename_i h1
    split at h
    · rename_i h2; exact absurd h h2
    · rename_i h2
      split at h
      · rename_i h3; exact ⟨by unfold Ok; omega, by unfold Ok; omega, h3⟩
      · omega
theorem errC_mk {f t : List Fp} (h1 : Ok f) (h2 : Ok t) (h3 : cons t f = true) : errC f t = 0 := by
  unfold errC
  unfold Ok at h1 h2
  rw [if_neg (by omega), if_neg (by omega), if_pos h3]

/-- 'Newer' of the two To's. -/
def newr (a b : List Fp) : Bool := conk a b && !conk b a
/-- What two certificates share: their configurations agree. -/
structure Gd (f t f' t' : List Fp) : Prop where
  e1 : errC f t = 0
  e2 : errC f' t' = 0
  a1 : Agr f f'
  a2 : Agr f t'
  a3 : Agr t f'
  a4 : Agr t t'
theorem newr_ne {a b : List Fp} (h : Agr a b) (ha : Srt a) (hb : Srt b) : newr a b = (cons a b && !decide (a = b)) := by
  unfold newr
  rw [← same_eq h ha hb, conk_cons h]
  cases cons a b <;> simp
theorem newr_self (a : List Fp) : newr a a = false := by unfold newr; cases conk a a <;> rfl

/-- Over parts of one pool. -/
theorem rs_agr {p : List Fp} (h : Ok p) (g k : Int → Int) : Agr (rs p g) (rs p k) := fun _ hx _ hy h1 h2 => h.srt.key (rs_mem.1 hx).1 (rs_mem.1 hy).1 ⟨h1, h2⟩
theorem newr_rs {p : List Fp} (h : Ok p) (g k : Int → Int) : newr (rs p g) (rs p k) = (cons (rs p g) (rs p k) && !cons (rs p k) (rs p g)) := by
  unfold newr; rw [conk_cons (rs_agr h g k), conk_cons (rs_agr h k g)]
theorem cons_self (a : List Fp) : cons a a = true := cons_iff.2 fun _ h => h
theorem cons_trans {a b c : List Fp} (h : cons a b = true) (k : cons b c = true) : cons a c = true := cons_iff.2 fun f hf => cons_iff.1 h f (cons_iff.1 k f hf)
theorem newr_asym {p : List Fp} (h : Ok p) {g k : Int → Int} (h1 : newr (rs p g) (rs p k) = true) : newr (rs p k) (rs p g) = false := by
  rw [newr_rs h] at h1 ⊢
  revert h1; cases cons (rs p g) (rs p k) <;> cases cons (rs p k) (rs p g) <;> simp
theorem newr_trans {p : List Fp} (h : Ok p) {g k l : Int → Int} (h1 : newr (rs p g) (rs p k) = true) (h2 : newr (rs p k) (rs p l) = true) : newr (rs p g) (rs p l) = true := by
  rw [newr_rs h] at h1 h2 ⊢
  have a1 : cons (rs p g) (rs p k) = true := by cases hx : cons (rs p g) (rs p k) with | true => rfl | false => rw [hx] at h1; cases h1
  have b1 : cons (rs p k) (rs p l) = true := by cases hx : cons (rs p k) (rs p l) with | true => rfl | false => rw [hx] at h2; cases h2
  rw [cons_trans a1 b1]
  cases hy : cons (rs p l) (rs p g) with
  | false => rfl
  | true =>
    have := cons_trans hy a1
    rw [this, b1] at h2
    cases h2
/-- A part of a part. -/
theorem cons_rs_rs (p : List Fp) (g k : Int → Int) : cons (rs p g) (rs (rs p g) k) = true := cons_iff.2 fun _ hf => (rs_mem.1 hf).1

/-- Which of two certificates is the latest. -/
def latF (fa ta fb tb : List Fp) : List Fp := if newr tb ta = true then fb else fa
def latT (ta tb : List Fp) : List Fp := if newr tb ta = true then tb else ta
/-- Where a transfer starts: of c = (fc, tc), established te. -/
def strt (fc tc te : List Fp) : List Fp := if (conk tc te && conk te fc) = true then te else fc
/-- Over a chain the latest To is the larger one. -/
theorem latT_up {a b : List Fp} (ha : Srt a) (hb : Srt b) (h : cons b a = true) : latT a b = b := by
  unfold latT
  have hag : Agr b a := fun x hx y hy h1 h2 => hb.key hx (cons_iff.1 h y hy) ⟨h1, h2⟩
  split
  · rfl
  · rename_i h1
    rw [newr_ne hag hb ha, h] at h1
    simp at h1
    exact h1.symm
theorem latT_down {a b : List Fp} (ha : Srt a) (hb : Srt b) (h : cons b a = true) : latT b a = b := by
  unfold latT
  have hag : Agr b a := fun x hx y hy h1 h2 => hb.key hx (cons_iff.1 h y hy) ⟨h1, h2⟩
  split
  · rename_i h1
    rw [newr_ne hag.symm ha hb] at h1
    have h2 : cons a b = true := by revert h1; cases cons a b <;> simp
    exact srt_ext ha hb (fun x => ⟨cons_iff.1 h x, cons_iff.1 h2 x⟩)
  · rfl

theorem rest_used {xs : List Int} (hb : WM.Bytes xs) : ∀ (n : Nat) (U : List Fp) (u : Nat), u ≤ xs.length → (rest xs n U u).2.1 ≤ xs.length := by
  intro n
  induction n with
  | zero => intro U u h; exact h
  | succ n ih =>
    intro U u h
    rw [rest_succ]
    split
    · exact Nat.zero_le _
    · have := JM.decP_used (xs.drop u) (fun c hc => hb c (List.mem_of_mem_drop hc))
      rw [List.length_drop] at this
      exact ih _ _ (by omega)
theorem decL_used {xs : List Int} (hb : WM.Bytes xs) : (decL xs).2.1 ≤ xs.length := by
  rcases dec_num hb with ⟨e, he, hd⟩ | ⟨N, hN, hd, hl⟩
  · unfold decL; rw [hd, if_pos (by exact he)]; exact Nat.zero_le _
  · unfold decL
    rw [hd, if_neg (by simp)]
    split
    · exact Nat.zero_le _
    · unfold finL
      split
      · exact Nat.zero_le _
      · split
        · exact Nat.zero_le _
        · exact rest_used hb _ _ _ (by simpa using hl)

/-- The encoding of a certificate, and what decoding gives: the error, the bytes used, From, To. -/
def encC2 (f t : List Fp) : List Int := encL f ++ encL t
def decC (xs : List Int) : Int × Nat × List Fp × List Fp :=
  if (decL xs).1 ≠ 0 then ((decL xs).1, 0, [], [])
  else if (decL (xs.drop (decL xs).2.1)).1 ≠ 0 then ((decL (xs.drop (decL xs).2.1)).1, 0, [], [])
  else if errC (decL xs).2.2 (decL (xs.drop (decL xs).2.1)).2.2 ≠ 0 then (errC (decL xs).2.2 (decL (xs.drop (decL xs).2.1)).2.2, 0, [], [])
  else (0, (decL xs).2.1 + (decL (xs.drop (decL xs).2.1)).2.1, (decL xs).2.2, (decL (xs.drop (decL xs).2.1)).2.2)
theorem decC_enc {f t : List Fp} (h : errC f t = 0) (tail : List Int) : decC (encC2 f t ++ tail) = (0, (encC2 f t).length, f, t) := by
  obtain ⟨hf, ht, hc⟩ := errC_ok h
  have e1 : decL (encC2 f t ++ tail) = (0, (encL f).length, f) := by rw [show encC2 f t ++ tail = encL f ++ (encL t ++ tail) by unfold encC2; rw [List.append_assoc]]; exact decL_enc hf _
  have e2 : (encC2 f t ++ tail).drop (encL f).length = encL t ++ tail := by unfold encC2; rw [List.append_assoc, List.drop_left]
  have e3 := decL_enc ht tail
  unfold decC
  simp only [e1, e2, e3]
  rw [if_neg (by simp), if_neg (by simp), if_neg (by simp [h])]
  unfold encC2
  rw [List.length_append]
end CM
end Go.Proofs.Ytfdgoehfkfdgaaa
