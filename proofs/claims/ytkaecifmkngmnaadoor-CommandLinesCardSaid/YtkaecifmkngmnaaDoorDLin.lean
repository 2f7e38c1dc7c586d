/-
  Plain mathematics of the lines of a text: what empty lines and comments between commands change.
-/
import Derived.Test.YtkaecifmkngmnaaDoorDForm
namespace Go.Proofs.YtkaecifmkngmnaaDoor.DM
open JM (Chg)
open MM (Sm)

theorem comp_shift (s : Sm) : ∀ (ls : List (List UInt8)) (acc : List Chg) (n d : Int), 0 ≤ n → 0 ≤ d →
    comp s ls acc (n + d) = ((comp s ls acc n).1, (if (comp s ls acc n).2.1 = 0 then 0 else (comp s ls acc n).2.1 + d), (comp s ls acc n).2.2) := by
  intro ls
  induction ls with
  | nil => intro acc n d _ _; rw [comp, comp]; by_cases h : acc = [] <;> simp [h]
  | cons l r ih =>
    intro acc n d hn hd
    cases hs : skip l with
    | true => rw [comp_skip hs, comp_skip hs, show n + d + 1 = (n + 1) + d by omega]; exact ih acc (n + 1) d (by omega) hd
    | false =>
      by_cases h2 : (step s acc l).2 = 0
      · rw [comp_ok hs h2, comp_ok hs h2, show n + d + 1 = (n + 1) + d by omega]; exact ih _ (n + 1) d (by omega) hd
      · rw [comp_bad hs h2, comp_bad hs h2]
        show ([], n + d + 1, _) = ([], (if n + 1 = 0 then (0 : Int) else n + 1 + d), _)
        rw [if_neg (by omega), show n + d + 1 = n + 1 + d by omega]
theorem comp_pos (s : Sm) : ∀ (ls : List (List UInt8)) (acc : List Chg) (n : Int), 0 ≤ n → ((comp s ls acc n).2.1 = 0 ∨ n < (comp s ls acc n).2.1) ∧ (comp s ls acc n).2.1 ≤ n + ls.length := by
  intro ls
  induction ls with
  | nil => intro acc n hn; rw [comp]; by_cases h : acc = [] <;> simp [h] <;> omega
  | cons l r ih =>
    intro acc n hn
    rw [List.length_cons]
    cases hs : skip l with
    | true => rw [comp_skip hs]; have := ih acc (n + 1) (by omega); omega
    | false =>
      by_cases h2 : (step s acc l).2 = 0
      · rw [comp_ok hs h2]; have := ih (acc ++ [(step s acc l).1]) (n + 1) (by omega); omega
      · rw [comp_bad hs h2]
        show ((n + 1 = 0) ∨ n < n + 1) ∧ n + 1 ≤ _
        omega
def want (n : Int) : Int := if 1 < n then n + 3 else if n = 1 then 2 else n
def note : List UInt8 := [35, 32, 120]
theorem lines (s : Sm) (a b : List UInt8) (h : (10 : UInt8) ∉ a) :
    cmpl (10 :: (a ++ 10 :: (note ++ 10 :: 10 :: b))) s = ((cmpl (a ++ 10 :: b) s).1, want (cmpl (a ++ 10 :: b) s).2.1, (cmpl (a ++ 10 :: b) s).2.2) := by
  unfold cmpl
  have e1 : sp 10 (10 :: (a ++ 10 :: (note ++ 10 :: 10 :: b))) = [] :: sp 10 (a ++ 10 :: (note ++ 10 :: 10 :: b)) := sp_hit (x := []) (by simp) _
  have e2 : sp 10 (10 :: b) = [] :: sp 10 b := sp_hit (x := []) (by simp) _
  rw [e1, sp_hit h, sp_hit (x := note) (by decide), e2, sp_hit h]
  have z1 : skip [] = true := rfl
  have z2 : skip note = true := rfl
  rw [comp_skip z1]
  generalize sp 10 b = L
  have key : ∀ acc : List Chg, comp s (note :: [] :: L) acc (0 + 1 + 1) = ((comp s L acc (0 + 1)).1, want (comp s L acc (0 + 1)).2.1, (comp s L acc (0 + 1)).2.2) := fun acc => by
    rw [comp_skip z2, comp_skip z1, show (0 : Int) + 1 + 1 + 1 + 1 = (0 + 1) + 3 by omega, comp_shift s L acc (0 + 1) 3 (by omega) (by omega)]
    have := (comp_pos s L acc (0 + 1) (by omega)).1
    unfold want
    congr 2
    split
    · rename_i h0; rw [h0]; rfl
    · rename_i h0; rw [if_pos (by omega)]
  cases hs : skip a with
  | true => rw [comp_skip hs, comp_skip hs]; exact key []
  | false =>
    by_cases h2 : (step s [] a).2 = 0
    · rw [comp_ok hs h2, comp_ok hs h2]; exact key _
    · rw [comp_bad hs h2, comp_bad hs h2]; rfl

end Go.Proofs.YtkaecifmkngmnaaDoor.DM
