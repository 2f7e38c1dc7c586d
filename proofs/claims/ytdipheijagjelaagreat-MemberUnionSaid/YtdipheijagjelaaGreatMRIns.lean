/-
  The calls of the reference's later and Insert: which of two origins is later; an ascending list with a number put in. Conditions: the list reads and is short.
-/
import Derived.Test.YtdipheijagjelaaGreatMIni
namespace Go.Proofs.YtdipheijagjelaaGreat
open Go.RowKit
open MM (Mem Ent Sm Tri)

/-- What Insert builds. -/
def insF (n : Int) : Bool → List Int → List Int
  | put, [] => if put then [] else [n]
  | put, y :: l => (if (!put && decide (n ≤ y)) = true then [n] else []) ++ ((if y = n then [] else [y]) ++ insF n (put || decide (n ≤ y)) l)
theorem insF_true {n : Int} {l : List Int} (h : ∀ y ∈ l, n < y) : insF n true l = l := by
  induction l with
  | nil => rfl
  | cons y l ih =>
    have := h y (by simp)
    rw [insF, Bool.true_or, ih (fun z hz => h z (by simp [hz])), if_neg (by simp), if_neg (by omega)]
    rfl
theorem insF_srt {n : Int} {l : List Int} (h : MM.Srt MM.kI l) : insF n false l = MM.insI n l := by
  induction l with
  | nil => rfl
  | cons y l ih =>
    have a1 := h.hd MM.kI
    unfold MM.insI MM.ins
    rw [insF]
    show _ = if y = n then y :: l else if n < y then n :: y :: l else y :: MM.insI n l
    by_cases h1 : y = n
    · subst h1
      rw [if_pos rfl, if_pos rfl, if_pos (by simp), Bool.false_or, decide_eq_true (Int.le_refl _), show insF y true l = l from insF_true (fun z hz => a1 z hz)]
      rfl
    · rw [if_neg h1, if_neg h1]
      by_cases h2 : n < y
      · rw [if_pos h2, if_pos (by simp; omega), Bool.false_or, decide_eq_true (by omega), insF_true (fun z hz => by have := a1 z hz; unfold MM.kI at this; omega)]
        rfl
      · rw [if_neg h2, if_neg (by simp; omega), Bool.false_or, decide_eq_false (by omega), ih (h.tl MM.kI)]
        rfl

end Go.Proofs.YtdipheijagjelaaGreat
