/-
  Acceptors of vectors: the final value (the join of all), the reports, and a chain of joins. Mathematics alone. Conditions: valid vectors where a lemma names them.
-/
import Derived.Test.YtnkeaphfheminaaAB
namespace Go.Proofs.Ytnkeaphfheminaa
open VM (Ent)

/-- The value behind all the proposals. -/
def VM.acF : List Ent → List (List Ent) → List Ent
  | a, [] => a
  | a, v :: vs => VM.acF (VM.jn a v) vs
/-- The report for each. -/
def VM.acL : List Ent → List (List Ent) → List Bool
  | _, [] => []
  | a, v :: vs => VM.le a v :: VM.acL (VM.jn a v) vs
/-- The joins of all beginnings. -/
def VM.chn : List Ent → List (List Ent) → List (List Ent)
  | _, [] => []
  | v, s :: ss => VM.jn v s :: VM.chn (VM.jn v s) ss

namespace VM
theorem acF_snoc (l : List (List Ent)) (x : List Ent) : ∀ a, acF a (l ++ [x]) = jn (acF a l) x := by
  induction l with
  | nil => intro a; rfl
  | cons y l ih => intro a; exact ih (jn a y)
theorem acL_snoc (l : List (List Ent)) (x : List Ent) : ∀ a, acL a (l ++ [x]) = acL a l ++ [le (acF a l) x] := by
  induction l with
  | nil => intro a; rfl
  | cons y l ih => intro a; exact congrArg (List.cons (le a y)) (ih (jn a y))
theorem chn_snoc (l : List (List Ent)) (x : List Ent) : ∀ a, chn a (l ++ [x]) = chn a l ++ [jn (acF a l) x] := by
  induction l with
  | nil => intro a; rfl
  | cons y l ih => intro a; exact congrArg (List.cons (jn a y)) (ih (jn a y))
theorem acL_length (l : List (List Ent)) : ∀ a, (acL a l).length = l.length := by
  induction l with
  | nil => intro a; rfl
  | cons y l ih => intro a; simp [acL, ih]
theorem chn_length (l : List (List Ent)) : ∀ a, (chn a l).length = l.length := by
  induction l with
  | nil => intro a; rfl
  | cons y l ih => intro a; simp [chn, ih]
theorem acF_val {l : List (List Ent)} : ∀ {a}, Val 0 a → (∀ x ∈ l, Val 0 x) → Val 0 (acF a l) := by
  induction l with
  | nil => intro a h _; exact h
  | cons y l ih => intro a h hl; exact ih (jn_spec h (hl y (by simp))).1 fun x hx => hl x (by simp [hx])
theorem acF_len {m : Nat} {l : List (List Ent)} : ∀ {a}, (∀ x ∈ l, x.length ≤ m) → (acF a l).length ≤ a.length + m * l.length := by
  induction l with
  | nil => intro a _; simp [acF]
  | cons y l ih =>
    intro a hl
    have h1 := ih (a := jn a y) fun x hx => hl x (by simp [hx])
    have h2 := jn_length a y
    have h3 := hl y (by simp)
    show (acF (jn a y) l).length ≤ _
    rw [List.length_cons, Nat.mul_add, Nat.mul_one]
    omega
theorem acF_cnt {l : List (List Ent)} (c : Int) : ∀ {a}, Val 0 a → (∀ x ∈ l, Val 0 x) → cnt a c ≤ cnt (acF a l) c ∧ ∀ x ∈ l, cnt x c ≤ cnt (acF a l) c := by
  induction l with
  | nil => intro a _ _; exact ⟨Int.le_refl _, fun _ h => by cases h⟩
  | cons y l ih =>
    intro a ha hl
    have hj := jn_spec ha (hl y (by simp))
    obtain ⟨h1, h2⟩ := ih hj.1 fun x hx => hl x (by simp [hx])
    have h3 := hj.2 c
    refine ⟨by show _ ≤ cnt (acF (jn a y) l) c; omega, fun x hx => ?_⟩
    rcases List.mem_cons.1 hx with rfl | hx
    · show _ ≤ cnt (acF (jn a x) l) c; omega
    · exact h2 x hx
theorem acL_get (l : List (List Ent)) : ∀ (a : List Ent) (k : Nat), (acL a l)[k]? = (l[k]?).map fun x => le (acF a (l.take k)) x := by
  induction l with
  | nil => intro a k; simp [acL]
  | cons y l ih =>
    intro a k
    cases k with
    | zero => rfl
    | succ k => simpa [acL, acF] using ih (jn a y) k
/-- What is accepted later is no less than what was proposed before. -/
theorem acL_order {a : List Ent} {l : List (List Ent)} (ha : Val 0 a) (hl : ∀ x ∈ l, Val 0 x) {i k : Nat} {x y : List Ent} (hk : k < i) (hx : l[i]? = some x) (hy : l[k]? = some y) (ht : (acL a l)[i]? = some true) : le y x = true := by
  rw [acL_get, hx] at ht
  simp only [Option.map_some, Option.some.injEq] at ht
  have hlt : ∀ z ∈ l.take i, Val 0 z := fun z hz => hl z (List.mem_of_mem_take hz)
  have hyt : y ∈ l.take i := by
    apply List.mem_of_getElem? (i := k)
    rw [List.getElem?_take_of_lt hk, hy]
  have hvx := hl x (List.mem_of_getElem? hx)
  have hvy := hl y (List.mem_of_getElem? hy)
  refine (le_iff hvy hvx).2 fun c => ?_
  have h1 := (le_iff (acF_val ha hlt) hvx).1 ht c
  have h2 := (acF_cnt c ha hlt).2 y hyt
  omega
theorem jn_idem {a b : List Ent} (ha : Val 0 a) (hb : Val 0 b) : jn a (jn a b) = jn a b := by
  have h := jn_spec ha hb
  have h2 := jn_spec ha h.1
  exact ext h2.1 h.1 fun c => by rw [h2.2, h.2]; omega
theorem chn_all {l : List (List Ent)} : ∀ {a}, Val 0 a → (∀ x ∈ l, Val 0 x) → ∀ b ∈ acL a (chn a l), b = true := by
  induction l with
  | nil => intro a _ _ b hb; cases hb
  | cons y l ih =>
    intro a ha hl b hb
    have hy := hl y (by simp)
    have hj := jn_spec ha hy
    have hb' : b ∈ le a (jn a y) :: acL (jn a (jn a y)) (chn (jn a y) l) := hb
    rw [jn_idem ha hy] at hb'
    rcases List.mem_cons.1 hb' with rfl | hb'
    · exact le_jn1 ha hy
    · exact ih hj.1 (fun x hx => hl x (by simp [hx])) b hb'
theorem chn_val {l : List (List Ent)} : ∀ {a}, Val 0 a → (∀ x ∈ l, Val 0 x) → ∀ x ∈ chn a l, Val 0 x := by
  induction l with
  | nil => intro a _ _ x hx; cases hx
  | cons y l ih =>
    intro a ha hl x hx
    have hj := jn_spec ha (hl y (by simp))
    rcases List.mem_cons.1 (show x ∈ jn a y :: chn (jn a y) l from hx) with rfl | hx
    · exact hj.1
    · exact ih hj.1 (fun x hx => hl x (by simp [hx])) x hx
theorem chn_len {m : Nat} {l : List (List Ent)} : ∀ {a}, (∀ x ∈ l, x.length ≤ m) → ∀ x ∈ chn a l, x.length ≤ a.length + m * l.length := by
  induction l with
  | nil => intro a _ x hx; cases hx
  | cons y l ih =>
    intro a hl x hx
    have h2 := jn_length a y
    have h3 := hl y (by simp)
    rw [List.length_cons, Nat.mul_add, Nat.mul_one]
    rcases List.mem_cons.1 (show x ∈ jn a y :: chn (jn a y) l from hx) with rfl | hx
    · omega
    · have := ih (a := jn a y) (fun x hx => hl x (by simp [hx])) x hx
      omega
end VM
end Go.Proofs.Ytnkeaphfheminaa
