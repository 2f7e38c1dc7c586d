/-
  Proposers of lattice agreement: the state, what a reply and a proposal make of it. Mathematics alone. Conditions: valid vectors where a lemma names them.
-/
import Derived.Test.YtejedodicihecaaAB
namespace Go.Proofs.Ytejedodicihecaa
open VM (Ent)

/-- A proposer's state. -/
structure PM.Ps where
  acc : Int
  val : List Ent
  round : Int
  acks : List Int
  dec : Bool
namespace PM
/-- A number put into an ascending list. -/
def ins (n : Int) : List Int → List Int
  | [] => [n]
  | y :: l => if y = n then y :: l else if n < y then n :: y :: l else y :: ins n l
theorem ins_mem {n x : Int} {l : List Int} : x ∈ ins n l ↔ x = n ∨ x ∈ l := by
  induction l with
  | nil => simp [ins]
  | cons y l ih =>
    rw [ins]
    by_cases h1 : y = n
    · subst h1; rw [if_pos rfl]; simp
    · rw [if_neg h1]
      by_cases h2 : n < y
      · rw [if_pos h2]; simp
      · rw [if_neg h2, List.mem_cons, ih, List.mem_cons]; constructor <;> (rintro (h | h | h) <;> simp [h])
theorem ins_asc {n : Int} {l : List Int} (h : l.Pairwise (· < ·)) : (ins n l).Pairwise (· < ·) := by
  induction l with
  | nil => simp [ins]
  | cons y l ih =>
    obtain ⟨a1, a2⟩ := List.pairwise_cons.1 h
    rw [ins]
    by_cases h1 : y = n
    · rw [if_pos h1]; exact h
    · rw [if_neg h1]
      by_cases h2 : n < y
      · rw [if_pos h2]
        exact List.pairwise_cons.2 ⟨fun z hz => by rcases List.mem_cons.1 hz with rfl | hz <;> first | exact h2 | (have := a1 z hz; omega), h⟩
      · rw [if_neg h2]
        refine List.pairwise_cons.2 ⟨fun z hz => ?_, ih a2⟩
        rcases ins_mem.1 hz with rfl | hz
        · omega
        · exact a1 z hz
theorem ins_old {n : Int} {l : List Int} (h : l.Pairwise (· < ·)) (hn : n ∈ l) : ins n l = l := by
  induction l with
  | nil => cases hn
  | cons y l ih =>
    obtain ⟨a1, a2⟩ := List.pairwise_cons.1 h
    rw [ins]
    by_cases h1 : y = n
    · rw [if_pos h1]
    · rw [if_neg h1]
      have hn2 : n ∈ l := by rcases List.mem_cons.1 hn with rfl | hn <;> first | exact absurd rfl h1 | exact hn
      have := a1 n hn2
      rw [if_neg (by omega), ih a2 hn2]
theorem ins_new {n : Int} {l : List Int} (hn : n ∉ l) : (ins n l).length = l.length + 1 := by
  induction l with
  | nil => rfl
  | cons y l ih =>
    rw [ins]
    have h1 : ¬ y = n := by rintro rfl; exact hn (by simp)
    rw [if_neg h1]
    by_cases h2 : n < y
    · rw [if_pos h2]; simp
    · rw [if_neg h2, List.length_cons, ih (fun h => hn (by simp [h]))]; simp
theorem ins_len (n : Int) (l : List Int) : (ins n l).length ≤ l.length + 1 := by
  induction l with
  | nil => simp [ins]
  | cons y l ih =>
    rw [ins]
    split
    · simp
    · split <;> simp [ih]
/-- An ascending list within bounds is short. -/
theorem asc_len {l : List Int} : ∀ {a b : Int}, l.Pairwise (· < ·) → (∀ x ∈ l, a ≤ x ∧ x < b) → a ≤ b → (l.length : Int) ≤ b - a := by
  induction l with
  | nil => intro a b _ _ h; simp; omega
  | cons y l ih =>
    intro a b h hm hab
    obtain ⟨a1, a2⟩ := List.pairwise_cons.1 h
    have hy := hm y (by simp)
    have := ih (a := y + 1) (b := b) a2 (fun x hx => ⟨by have := a1 x hx; omega, (hm x (by simp [hx])).2⟩) (by omega)
    rw [List.length_cons]
    omega

/-- What a reply makes of a proposer. -/
def rcv (s : Ps) (a r : Int) (v : List Ent) : Ps × Bool :=
  if s.dec = true ∨ r ≠ s.round ∨ a < 0 ∨ s.acc ≤ a then (s, false)
  else if VM.le v s.val = true then ({ s with acks := ins a s.acks, dec := decide (s.acc < 2 * ((ins a s.acks).length : Int)) }, false)
  else ({ s with val := VM.jn s.val v, round := s.round + 1, acks := [] }, true)
/-- What a proposal makes of a proposer. -/
def prp (s : Ps) (v : List Ent) : Ps :=
  if s.dec = true then { s with val := VM.jn s.val v, round := s.round + 1, acks := [], dec := false } else s
theorem rcv_off {s : Ps} {a r : Int} {v : List Ent} (h : s.dec = true ∨ r ≠ s.round ∨ a < 0 ∨ s.acc ≤ a) : rcv s a r v = (s, false) := by unfold rcv; rw [if_pos h]
theorem rcv_ack {s : Ps} {a r : Int} {v : List Ent} (h : ¬ (s.dec = true ∨ r ≠ s.round ∨ a < 0 ∨ s.acc ≤ a)) (hl : VM.le v s.val = true) :
    rcv s a r v = ({ s with acks := ins a s.acks, dec := decide (s.acc < 2 * ((ins a s.acks).length : Int)) }, false) := by unfold rcv; rw [if_neg h, if_pos hl]
theorem rcv_new {s : Ps} {a r : Int} {v : List Ent} (h : ¬ (s.dec = true ∨ r ≠ s.round ∨ a < 0 ∨ s.acc ≤ a)) (hl : VM.le v s.val = false) :
    rcv s a r v = ({ s with val := VM.jn s.val v, round := s.round + 1, acks := [] }, true) := by unfold rcv; rw [if_neg h, if_neg (by rw [hl]; simp)]

/-- A state that the functions return. -/
structure Ok (s : Ps) : Prop where
  lo : 1 ≤ s.acc
  hi : s.acc ≤ 12
  val : VM.Val 0 s.val
  asc : s.acks.Pairwise (· < ·)
  mem : ∀ a ∈ s.acks, 0 ≤ a ∧ a < s.acc
theorem Ok.len {s : Ps} (h : Ok s) : s.acks.length ≤ 12 := by
  have := asc_len h.asc h.mem (by have := h.lo; omega)
  have := h.hi
  omega
theorem Ok.new {n : Int} {v : List Ent} (h1 : 1 ≤ n) (h2 : n ≤ 12) (hv : VM.Val 0 v) (r : Int) (d : Bool) : Ok ⟨n, v, r, [], d⟩ := ⟨h1, h2, hv, List.Pairwise.nil, fun _ h => by cases h⟩
theorem Ok.rcv {s : Ps} (h : Ok s) {v : List Ent} (hv : VM.Val 0 v) (a r : Int) : Ok (rcv s a r v).1 := by
  by_cases h0 : s.dec = true ∨ r ≠ s.round ∨ a < 0 ∨ s.acc ≤ a
  · rw [rcv_off h0]; exact h
  · cases hl : VM.le v s.val
    · rw [rcv_new h0 hl]
      exact ⟨h.lo, h.hi, (VM.jn_spec h.val hv).1, List.Pairwise.nil, fun _ h => by cases h⟩
    · rw [rcv_ack h0 hl]
      refine ⟨h.lo, h.hi, h.val, ins_asc h.asc, fun x hx => ?_⟩
      rcases ins_mem.1 hx with rfl | hx
      · show 0 ≤ x ∧ x < s.acc
        omega
      · exact h.mem x hx
theorem Ok.prp {s : Ps} (h : Ok s) {v : List Ent} (hv : VM.Val 0 v) : Ok (prp s v) := by
  unfold PM.prp
  split
  · exact ⟨h.lo, h.hi, (VM.jn_spec h.val hv).1, List.Pairwise.nil, fun _ h => by cases h⟩
  · exact h
theorem rcv_acc (s : Ps) (a r : Int) (v : List Ent) : (rcv s a r v).1.acc = s.acc := by unfold rcv; split <;> (try split) <;> rfl
theorem rcv_vlen (s : Ps) (a r : Int) (v : List Ent) : (rcv s a r v).1.val.length ≤ s.val.length + v.length := by
  unfold rcv
  split
  · simp
  · split
    · simp
    · exact VM.jn_length _ _
theorem rcv_round (s : Ps) (a r : Int) (v : List Ent) : s.round ≤ (rcv s a r v).1.round ∧ (rcv s a r v).1.round ≤ s.round + 1 := by
  unfold rcv
  split
  · simp; omega
  · split
    · simp; omega
    · simp; omega
theorem prp_vlen (s : Ps) (v : List Ent) : (prp s v).val.length ≤ s.val.length + v.length := by
  unfold prp
  split
  · exact VM.jn_length _ _
  · simp
theorem prp_round (s : Ps) (v : List Ent) : s.round ≤ (prp s v).round ∧ (prp s v).round ≤ s.round + 1 := by
  unfold prp
  split
  · simp; omega
  · simp; omega
theorem prp_acc (s : Ps) (v : List Ent) : (prp s v).acc = s.acc := by unfold prp; split <;> rfl
end PM
end Go.Proofs.Ytejedodicihecaa
