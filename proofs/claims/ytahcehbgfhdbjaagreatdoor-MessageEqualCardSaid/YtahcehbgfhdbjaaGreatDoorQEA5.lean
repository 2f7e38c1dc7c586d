/-
  Plain mathematics of reading one thing after the other: what is encoded is read as it was, and what is cut is told as cut; of configurations, certificates, lists of updates. Lists and integers alone. No conditions beyond those that each lemma names.
  Plain mathematics of a message's encoding (P14.4, P14.5): what Decode reads, part by part; what is encoded is read as it was, and what is cut is told as cut. Lists, integers and truth values alone. Conditions: at each lemma.
  The calls of the laws' own name, Effect and short: valid effects. Conditions: none on the numbers.
  The call of the laws' own Update: a valid update. Conditions: the identifier is one of a client, the number from 1 to 8. (Written by mk_ukit2.py.)
  A list of updates with their effects; the call of the laws' own Updates. Conditions: the list of numbers reads.
  States in memory: when a slice value reads as a list of updates, whole with their effects; what the call's own list is. No conditions beyond those that each lemma names. (Written by mk_sbase.py.)
  Messages in memory: a message by value, its block, what reads as one. No conditions beyond those that each lemma names.
  DERIVED: THE SHELF's CONTRACTS AT THIS DUMP, IN PLAIN WORDS (tools/lay-plain.mjs out of 'TryShelf11.lean', which tools/lay-shelf.mjs wrote): THE SAME DECLARATIONS UNDER THE SAME NAMES: 'import', 'namespace', 'open', 'def', 'theorem' AND NOTHING ELSE: no command of the shelf's: FOR A HAND-IN. Each laying: the table of numbers ('.._ren') and one theorem, a field a fact of the dump's own or the kernel's comparison; each contract: ONE APPLICATION.
  The call of update.nameSize: it returns the number of the name's bytes, or, above 16, some number above 16. Conditions: the two tables of unicode/utf8 hold what their initialisers lay; the name is no longer than a slice may be.
-/
import Derived.Test.YtahcehbgfhdbjaaGreatDoorQEA4
import Derived.Test.YtahcehbgfhdbjaaGreatDoorQEKS
import Derived.Test.YtahcehbgfhdbjaaGreatDoorQEKI
import Derived.Deep.RegionHeld3
import Derived.Deep.CutRange
import Derived.Test.YtahcehbgfhdbjaaGreatDoorQEA1
import Derived.Shelf.Unicode.DecodeAny
import Derived.Ground.NamesProg
import Derived.Test.YtahcehbgfhdbjaaGreatDoorProg
import Derived.Test.YtahcehbgfhdbjaaGreatDoorQEA3
import Derived.Laws.RangeAny
namespace Go.Proofs.YtahcehbgfhdbjaaGreatDoor
open WM (enc dec Bytes)

namespace CM
theorem rest_cut {fs : List Fp} : ∀ (pre : List Int) (U : List Fp) (j : Nat), (∀ f ∈ fs, errF f = 0) → j < (flat fs).length → (rest (pre ++ (flat fs).take j) fs.length U pre.length).1 = 1 := by
  induction fs with
  | nil => intro pre U j _ hj; simp [flat] at hj
  | cons f r ih =>
    intro pre U j h hj
    rw [List.length_cons, rest_succ, flat_cons]
    rw [flat_cons, List.length_append] at hj
    by_cases h1 : j < (encF f).length
    · have hd : (pre ++ (encF f ++ flat r).take j).drop pre.length = (encF f).take j := by rw [List.drop_left, List.take_append_of_le_length (by omega)]
      have h2 := JM.decP_cut (h f (by simp)) j h1
      rw [hd]
      rw [show JM.decP ((encF f).take j) = JM.bad 1 from h2]
      rw [if_pos (by show (1 : Int) ≠ 0; decide)]
      rfl
    · have ht : (encF f ++ flat r).take j = encF f ++ (flat r).take (j - (encF f).length) := by rw [List.take_append, List.take_of_length_le (by omega)]
      have hd : (pre ++ (encF f ++ flat r).take j).drop pre.length = encF f ++ (flat r).take (j - (encF f).length) := by rw [List.drop_left, ht]
      have h2 : JM.decP (encF f ++ (flat r).take (j - (encF f).length)) = (0, (encF f).length, f.1, f.2.1, f.2.2) := JM.decP_enc (h f (by simp)) _
      rw [hd, h2, if_neg (by simp)]
      have h3 := ih (pre ++ encF f) (U ++ [f]) (j - (encF f).length) (fun g hg => h g (by simp [hg])) (by omega)
      rw [ht]
      rw [List.append_assoc, List.length_append] at h3
      exact h3
theorem decL_cut {fs : List Fp} (h : Ok fs) (j : Nat) (hj : j < (encL fs).length) : (decL ((encL fs).take j)).1 = 1 := by
  have h9 := h.nine
  unfold encL at hj ⊢
  rw [List.length_append] at hj
  by_cases h1 : j < (enc fs.length).length
  · have hd : dec 0 0 ((enc fs.length ++ flat fs).take j) = (0, 0, 1) := by rw [List.take_append_of_le_length (by omega)]; exact JM.dec_cut fs.length 0 0 j (by decide) (by omega) h1
    unfold decL
    rw [hd, if_pos (by decide)]
  · have ht : (enc fs.length ++ flat fs).take j = enc fs.length ++ (flat fs).take (j - (enc fs.length).length) := by rw [List.take_append, List.take_of_length_le (by omega)]
    have hd : dec 0 0 (enc fs.length ++ (flat fs).take (j - (enc fs.length).length)) = ((fs.length : Int), ((enc fs.length).length : Int), 0) := WM.dec_enc0 fs.length _ (by omega)
    have h2 := rest_cut (enc fs.length) [] (j - (enc fs.length).length) h.all (by omega)
    unfold decL
    rw [ht, hd, if_neg (by simp), if_neg (by simp; omega)]
    simp only [Int.toNat_natCast]
    unfold finL
    rw [if_pos (by rw [h2]; decide)]
    exact h2
theorem decC_cut {f t : List Fp} (h : errC f t = 0) (j : Nat) (hj : j < (encC2 f t).length) : (decC ((encC2 f t).take j)).1 = 1 := by
  obtain ⟨hf, ht, _⟩ := errC_ok h
  unfold encC2 at hj ⊢
  rw [List.length_append] at hj
  by_cases h1 : j < (encL f).length
  · have h2 := decL_cut hf j h1
    rw [List.take_append_of_le_length (by omega)]
    unfold decC
    rw [if_pos (by rw [h2]; decide)]
    exact h2
  · have htk : (encL f ++ encL t).take j = encL f ++ (encL t).take (j - (encL f).length) := by rw [List.take_append, List.take_of_length_le (by omega)]
    have h2 := decL_enc hf ((encL t).take (j - (encL f).length))
    have h3 := decL_cut ht (j - (encL f).length) (by omega)
    rw [htk]
    unfold decC
    simp only [h2, List.drop_left]
    rw [if_neg (by simp), if_pos (by rw [h3]; decide)]
    exact h3
end CM

namespace SM
theorem rest_cut {fs : List Fp} : ∀ (pre : List Int) (U : List Fp) (j : Nat), (∀ f ∈ fs, errF f = 0) → Fit fs → j < (flat fs).length → (rest (pre ++ (flat fs).take j) fs.length U pre.length).1 = 1 := by
  induction fs with
  | nil => intro pre U j _ _ hj; simp [flat] at hj
  | cons f r ih =>
    intro pre U j h hr hj
    rw [List.length_cons, rest_succ, flat_cons]
    rw [flat_cons, List.length_append] at hj
    by_cases h1 : j < (encF f).length
    · have hd : (pre ++ (encF f ++ flat r).take j).drop pre.length = (encF f).take j := by rw [List.drop_left, List.take_append_of_le_length (by omega)]
      have h2 := UM.decU_cut (h f (by simp)) (hr f (by simp)) j h1
      rw [hd]
      rw [show UM.decU ((encF f).take j) = UM.badU 1 from h2]
      rw [if_pos (by show (1 : Int) ≠ 0; decide)]
      rfl
    · have ht : (encF f ++ flat r).take j = encF f ++ (flat r).take (j - (encF f).length) := by rw [List.take_append, List.take_of_length_le (by omega)]
      have hd : (pre ++ (encF f ++ flat r).take j).drop pre.length = encF f ++ (flat r).take (j - (encF f).length) := by rw [List.drop_left, ht]
      have h2 : UM.decU (encF f ++ (flat r).take (j - (encF f).length)) = (0, (encF f).length, (f.1, f.2.1, f.2.2.1), f.2.2.2) := UM.decU_enc (h f (by simp)) (hr f (by simp)) _
      rw [hd, h2, if_neg (by simp)]
      have h3 := ih (pre ++ encF f) (U ++ [f]) (j - (encF f).length) (fun g hg => h g (by simp [hg])) (fun g hg => hr g (by simp [hg])) (by omega)
      rw [ht]
      rw [List.append_assoc, List.length_append] at h3
      exact h3
end SM

namespace NM
/-- The updates of a message: the error, the bytes used, the updates (P14.5). -/
def upd (xs : List Int) : Int × Nat × List SM.Fp :=
  if (JM.num xs).2.2 ≠ 0 then ((JM.num xs).2.2, 0, []) else if 48 < (JM.num xs).1 then (3, 0, []) else SM.rest xs (JM.num xs).1.toNat [] (JM.num xs).2.1.toNat
/-- A parser reads what is encoded, and tells what is cut. -/
def Good {α : Type} (P : List Int → Int × Nat × α) (en : List Int) (a : α) : Prop := (∀ tail, P (en ++ tail) = (0, en.length, a)) ∧ ∀ j, j < en.length → (P (en.take j)).1 = 1
/-- One thing after the other. -/
def seq {α β : Type} (d : β) (P : List Int → Int × Nat × α) (Q : α → List Int → Int × Nat × β) (xs : List Int) : Int × Nat × β :=
  if (P xs).1 ≠ 0 then ((P xs).1, 0, d)
  else if (Q (P xs).2.2 (xs.drop (P xs).2.1)).1 ≠ 0 then ((Q (P xs).2.2 (xs.drop (P xs).2.1)).1, 0, d)
  else (0, (P xs).2.1 + (Q (P xs).2.2 (xs.drop (P xs).2.1)).2.1, (Q (P xs).2.2 (xs.drop (P xs).2.1)).2.2)
theorem Good.seq {α β : Type} {d : β} {P : List Int → Int × Nat × α} {Q : α → List Int → Int × Nat × β} {e1 e2 : List Int} {a : α} {b : β} (h : Good P e1 a) (k : Good (Q a) e2 b) : Good (NM.seq d P Q) (e1 ++ e2) b := by
  refine ⟨fun tail => ?_, fun j hj => ?_⟩
  · have h1 := h.1 (e2 ++ tail)
    have k1 := k.1 tail
    unfold NM.seq
    rw [List.append_assoc]
    simp only [h1, List.drop_left, k1]
    rw [if_neg (by simp), if_neg (by simp), List.length_append]
  · rw [List.length_append] at hj
    by_cases h1 : j < e1.length
    · have h2 := h.2 j h1
      unfold NM.seq
      rw [List.take_append_of_le_length (by omega), if_pos (by rw [h2]; decide)]
      exact h2
    · have ht : (e1 ++ e2).take j = e1 ++ e2.take (j - e1.length) := by rw [List.take_append, List.take_of_length_le (by omega)]
      have h2 := h.1 (e2.take (j - e1.length))
      have k2 := k.2 (j - e1.length) (by omega)
      unfold NM.seq
      rw [ht]
      simp only [h2, List.drop_left]
      rw [if_neg (by simp), if_pos (by rw [k2]; decide)]
      exact k2
theorem good_conf {f : List CM.Fp} (h : CM.Ok f) : Good CM.decL (CM.encL f) f := ⟨CM.decL_enc h, CM.decL_cut h⟩
theorem good_cert {f t : List CM.Fp} (h : CM.errC f t = 0) : Good CM.decC (CM.encC2 f t) (f, t) := ⟨CM.decC_enc h, CM.decC_cut h⟩
theorem good_upd {fs : List SM.Fp} (h : ∀ f ∈ fs, SM.errF f = 0) (hr : SM.Fit fs) (hl : fs.length ≤ 48) : Good upd (SM.encL fs) fs := by
  refine ⟨fun tail => ?_, fun j hj => ?_⟩
  · unfold SM.encL upd
    have hn : JM.num (enc fs.length ++ SM.flat fs ++ tail) = ((fs.length : Int), ((enc fs.length).length : Int), 0) := by rw [List.append_assoc]; exact JM.num_enc fs.length _ (by omega)
    rw [hn, if_neg (by simp), if_neg (by simp; omega)]
    simp only [Int.toNat_natCast]
    have := SM.rest_enc (enc fs.length) tail [] h hr
    rw [← List.append_assoc] at this
    rw [this, List.nil_append]
  · unfold SM.encL at hj ⊢
    rw [List.length_append] at hj
    by_cases h1 : j < (enc fs.length).length
    · have hn : JM.num ((enc fs.length ++ SM.flat fs).take j) = (0, 0, 1) := by rw [List.take_append_of_le_length (by omega)]; exact JM.num_cut fs.length j (by omega) h1
      unfold upd
      rw [hn, if_pos (by decide)]
    · have ht : (enc fs.length ++ SM.flat fs).take j = enc fs.length ++ (SM.flat fs).take (j - (enc fs.length).length) := by rw [List.take_append, List.take_of_length_le (by omega)]
      have hn : JM.num (enc fs.length ++ (SM.flat fs).take (j - (enc fs.length).length)) = ((fs.length : Int), ((enc fs.length).length : Int), 0) := JM.num_enc fs.length _ (by omega)
      have h2 := SM.rest_cut (enc fs.length) [] (j - (enc fs.length).length) h hr (by omega)
      unfold upd
      rw [ht, hn, if_neg (by simp), if_neg (by simp; omega)]
      simp only [Int.toNat_natCast]
      exact h2
/-- Several numbers. -/
def nums (n : Nat) (xs : List Int) : Int × Nat × List Int := if (JM.many xs (0, 0) n).2.2 ≠ 0 then ((JM.many xs (0, 0) n).2.2, 0, []) else (0, (JM.many xs (0, 0) n).2.1, (JM.many xs (0, 0) n).1)
theorem good_nums {l : List Int} (h : ∀ x ∈ l, JM.small x) : Good (nums l.length) (JM.encN l) l := by
  refine ⟨fun tail => ?_, fun j hj => ?_⟩
  · have := JM.many_enc l [] tail h
    simp only [List.nil_append, List.length_nil] at this
    unfold nums
    rw [this, if_neg (by simp)]
  · have := JM.many_cut l [] j h hj
    simp only [List.nil_append, List.length_nil] at this
    unfold nums
    rw [if_pos (by rw [this]; decide)]
    exact this
end NM
end Go.Proofs.YtahcehbgfhdbjaaGreatDoor

namespace Go.Proofs.YtahcehbgfhdbjaaGreatDoor.NM
open WM (enc dec Bytes)
open VM (Ent)

abbrev Par (α : Type) := List Int → Int × Nat × α
def pure0 {α : Type} (a : α) : Par α := fun _ => (0, 0, a)
def fail0 {α : Type} (e : Int) (d : α) : Par α := fun _ => (e, 0, d)
def pmap {α β : Type} (g : α → β) (P : Par α) : Par β := fun xs => ((P xs).1, (P xs).2.1, g (P xs).2.2)
theorem Good.pure {α : Type} (a : α) : Good (pure0 a) [] a := ⟨fun _ => rfl, fun j hj => by simp at hj⟩
theorem Good.map {α β : Type} {g : α → β} {P : Par α} {en : List Int} {a : α} (h : Good P en a) : Good (pmap g P) en (g a) :=
  ⟨fun tail => by unfold pmap; rw [h.1 tail], fun j hj => h.2 j hj⟩
/-- A truth value. -/
def bl : Par Bool := fun xs => ((decB xs).2.2, (decB xs).2.1.toNat, (decB xs).1)
theorem good_bl (b : Bool) : Good bl [bit b] b := by
  refine ⟨fun tail => ?_, fun j hj => ?_⟩
  · cases b <;> rfl
  · have : j = 0 := by simp at hj; exact hj
    subst this
    rfl
/-- One number. -/
def num1 : Par Int := fun xs => ((JM.num xs).2.2, (JM.num xs).2.1.toNat, (JM.num xs).1)
theorem good_num1 {x : Int} (h : JM.small x) : Good num1 (enc x.toNat) x := by
  unfold JM.small at h
  obtain ⟨m, rfl⟩ : ∃ m : Nat, x = (m : Int) := ⟨x.toNat, by omega⟩
  rw [Int.toNat_natCast]
  refine ⟨fun tail => ?_, fun j hj => ?_⟩
  · unfold num1
    rw [JM.num_enc m tail (by omega)]
    simp
  · unfold num1
    rw [JM.num_cut m j (by omega) hj]

abbrev Cx := List CM.Fp × List CM.Fp
abbrev Bs := Bool × Cx × Cx
def bs0 : Bs := (false, ([], []), ([], []))
/-- HasBase, Base, Established. -/
def pB : Par Bs := seq bs0 bl fun hb => if hb = true then seq bs0 CM.decC (fun c => pmap (fun e => (true, c, e)) CM.decC) else pmap (fun e => (false, ([], []), e)) CM.decC
def encB (m : Ms) : List Int := [bit m.hb] ++ ((if m.hb = true then CM.encC2 m.bf m.bt else []) ++ CM.encC2 m.ef m.et)
theorem good_B {m : Ms} (h1 : CM.errC m.bf m.bt = 0) (h2 : CM.errC m.ef m.et = 0) (h3 : m.hb = false → m.bf = [] ∧ m.bt = []) : Good pB (encB m) (m.hb, (m.bf, m.bt), (m.ef, m.et)) := by
  unfold pB encB
  cases hb : m.hb with
  | true =>
    refine Good.seq (good_bl true) ?_
    simp only [if_true]
    exact Good.seq (good_cert h1) (good_cert h2).map
  | false =>
    obtain ⟨e1, e2⟩ := h3 hb
    rw [e1, e2]
    refine Good.seq (good_bl false) ?_
    simp only [Bool.false_eq_true, if_false, List.nil_append]
    exact (good_cert h2).map
/-- The zero message; a message of given beginning. -/
def z (k fr tx : Int) : Ms := ⟨k, fr, tx, 0, 0, 0, 0, [], [], [], [], false, [], [], [], [], [], false⟩
def addB (m : Ms) (b : Bs) : Ms := ⟨m.k, m.fr, m.tx, m.p, m.n, m.r, m.d, m.cf, m.ct, b.2.1.1, b.2.1.2, b.1, b.2.2.1, b.2.2.2, m.cg, m.st, m.hv, m.mo⟩
/-- The fields of a request or a response. -/
def pX (k fr tx : Int) : Par Ms :=
  seq (z k fr tx) (nums (if k = 1 then 4 else 3)) fun l => seq (z k fr tx) CM.decL fun cg => seq (z k fr tx) upd fun st =>
    if k = 1 then pure0 ⟨k, fr, tx, l.getD 0 0, l.getD 1 0, l.getD 2 0, l.getD 3 0, [], [], [], [], false, [], [], cg, st, [], false⟩
    else pmap (fun b => addB ⟨k, fr, tx, l.getD 0 0, l.getD 1 0, l.getD 2 0, 0, [], [], [], [], false, [], [], cg, st, [], false⟩ b) pB
def pairs : List Int → List Ent
  | a :: b :: r => (a, b) :: pairs r
  | _ => []
/-- The entries of Have. -/
def pH : Par (List Ent) := seq [] num1 fun c => if 100 < c then fail0 3 [] else pmap pairs (nums (2 * c.toNat))
def flatE (v : List Ent) : List Int := v.flatMap fun e => [e.1, e.2]
theorem pairs_flat (v : List Ent) : pairs (flatE v) = v := by
  induction v with
  | nil => rfl
  | cons e r ih => obtain ⟨a, b⟩ := e; show (a, b) :: pairs (flatE r) = _; rw [ih]
theorem flatE_len (v : List Ent) : (flatE v).length = 2 * v.length := by
  induction v with
  | nil => rfl
  | cons e r ih => show (flatE r).length + 1 + 1 = _; rw [ih, List.length_cons]; omega
def encH (v : List Ent) : List Int := enc v.length ++ JM.encN (flatE v)
theorem good_H {v : List Ent} (h : v.length ≤ 100) (hs : ∀ e ∈ v, JM.small e.1 ∧ JM.small e.2) : Good pH (encH v) v := by
  unfold pH encH
  have h1 : Good num1 (enc v.length) (v.length : Int) := by
    have := good_num1 (x := (v.length : Int)) (by unfold JM.small; omega)
    rwa [Int.toNat_natCast] at this
  refine Good.seq h1 ?_
  rw [if_neg (by omega), Int.toNat_natCast, ← flatE_len]
  have h2 := (good_nums (l := flatE v) (fun x hx => by
    obtain ⟨e, he, hxe⟩ := List.mem_flatMap.1 hx
    simp only [List.mem_cons, List.mem_nil_iff, or_false] at hxe
    rcases hxe with rfl | rfl
    · exact (hs e he).1
    · exact (hs e he).2)).map (g := pairs)
  rwa [pairs_flat] at h2
/-- The fields of the other kinds. -/
def pR (k fr tx : Int) : Par Ms :=
  seq (z k fr tx) CM.decC fun c =>
    if k = 4 then pmap (fun v => ⟨k, fr, tx, 0, 0, 0, 0, c.1, c.2, [], [], false, [], [], [], [], v, false⟩) pH
    else if k = 5 then seq (z k fr tx) upd fun st => seq (z k fr tx) bl fun mo => pmap (fun b => addB ⟨k, fr, tx, 0, 0, 0, 0, c.1, c.2, [], [], false, [], [], [], st, [], mo⟩ b) pB
    else pure0 ⟨k, fr, tx, 0, 0, 0, 0, c.1, c.2, [], [], false, [], [], [], [], [], false⟩
/-- A message, not validated. -/
def pM : Par Ms :=
  seq (z 0 0 0) num1 fun k => if k < 1 ∨ 8 < k then fail0 10 (z 0 0 0)
    else seq (z 0 0 0) (nums 2) fun l => if k = 1 ∨ k = 2 then pX k (l.getD 0 0) (l.getD 1 0) else pR k (l.getD 0 0) (l.getD 1 0)
def decM : Par Ms := fun xs => if (pM xs).1 ≠ 0 then ((pM xs).1, 0, z 0 0 0) else if errM (pM xs).2.2 ≠ 0 then (errM (pM xs).2.2, 0, z 0 0 0) else pM xs
def encM (m : Ms) : List Int :=
  enc m.k.toNat ++ (JM.encN [m.fr, m.tx] ++
    (if m.k = 1 then JM.encN [m.p, m.n, m.r, m.d] ++ (CM.encL m.cg ++ (SM.encL m.st ++ []))
     else if m.k = 2 then JM.encN [m.p, m.n, m.r] ++ (CM.encL m.cg ++ (SM.encL m.st ++ encB m))
     else if m.k = 4 then CM.encC2 m.cf m.ct ++ encH m.hv
     else if m.k = 5 then CM.encC2 m.cf m.ct ++ (SM.encL m.st ++ ([bit m.mo] ++ encB m))
     else CM.encC2 m.cf m.ct ++ []))
end Go.Proofs.YtahcehbgfhdbjaaGreatDoor.NM

namespace Go.Proofs.YtahcehbgfhdbjaaGreatDoor
open Go.RowKit
open UM (Ef)
open WM (enc dec zig zag Bytes)

namespace UM
/-- The laws' own names, effects. -/
def nm (n : Int) : ByteArray := if ix n 4 = 0 then ⟨#[97]⟩ else if ix n 4 = 1 then ⟨#[98]⟩ else if ix n 4 = 2 then ⟨#[99]⟩ else ⟨#[120, 49]⟩
def efK (n : Int) (b : Bool) : Ef :=
  if b = true then (1, nm (dg n 4 1), nm (dg n 4 2), (dg n 16 3 : Int) - 5, nm (dg n 4 5))
  else if dg n 4 0 = 0 then (2, nm (dg n 4 1), nm (dg n 4 2), (dg n 16 3 : Int) - 5, ⟨#[]⟩)
  else if dg n 4 0 = 1 then (3, nm (dg n 4 1), nm (dg n 4 2), (dg n 16 3 : Int) - 5, ⟨#[]⟩)
  else if dg n 4 0 = 2 then (4, nm (dg n 4 1), nm (dg n 4 2), 0, nm (dg n 4 5))
  else (5, nm (dg n 4 1), nm (dg n 4 2), 0, ⟨#[]⟩)
end UM

theorem OE.below {w w' : World} {B : Nat} {a b c d e : Value} (h : OE w B a b c d e) (hb : Below w.heap.size w w') : OE w' B a b c d e := below_block h hb
end Go.Proofs.YtahcehbgfhdbjaaGreatDoor

namespace Go.Proofs.YtahcehbgfhdbjaaGreatDoor
open Go.RowKit
open UM (Ef)

namespace UM
end UM
end Go.Proofs.YtahcehbgfhdbjaaGreatDoor

namespace Go.Proofs.YtahcehbgfhdbjaaGreatDoor
open Go.RowKit
open UM (Ef)

/-- An update as it lies in a list: Client, Seq, Tag, the slice of its effects. -/
abbrev Up := Int × Int × Int × Option Addr × Nat × Nat
def encUp : Up → List Value
  | (c, q, t, a, l, k) => [.int .i64 c, .int .i64 q, .int .i64 t, .slice a l k]
theorem hlUp : 0 < 4 ∧ ∀ x, (encUp x).length = 4 := ⟨by decide, fun x => by obtain ⟨a, b, c, d, e, f⟩ := x; rfl⟩
theorem upE : IsElem Tryz.prog 29 96 4 48 encUp where
  ht := Tryz.underlying29
  info := by
    obtain ⟨i0, hi, hz0, hz1, hz2⟩ := info_parts (show (Tryz.prog.info? 96).map (fun i => (i.zero, i.size, i.bytes)) = some (some (uv 0 0 0 (.slice none 0 0)), 4, 48) by kernel_rfl)
    exact ⟨i0, _, hi, hz0, hz1, hz2, rfl⟩
  len := hlUp.2
  one := by intro x u hu; obtain ⟨a, b, c, d, e, f⟩ := x; simp [encUp] at hu; rcases hu with rfl | rfl | rfl | rfl <;> rfl
  pos := by decide
  fits := by decide
abbrev RdUp := RdG encUp 4
abbrev OwnUp := OwnG encUp 96 4
theorem atUp {w : World} {a : Option Addr} {n c : Nat} {xs : List Up} (h : RdUp w (.slice a n c) xs) (i : Nat) (x q t : Int) (ad : Option Addr) (l k : Nat) (hk : xs[i]? = some (x, q, t, ad, l, k)) :
    ∃ b o, (∀ w0, (Instr.indexAt 29 (.slice a n c) (.int .i64 (i : Int))).run Tryz.prog w0 = .ok (.pointer (some ⟨b, o, none⟩)) w0) ∧ b < w.heap.size ∧
      w.cell? ⟨b, o, none⟩ = some (.int .i64 x) ∧ w.cell? ⟨b, o + 1, none⟩ = some (.int .i64 q) ∧ w.cell? ⟨b, o + 2, none⟩ = some (.int .i64 t) ∧ w.cell? ⟨b, o + 3, none⟩ = some (.slice ad l k) := by
  obtain ⟨b, o, h1, h2, h3⟩ := h.at_ upE i _ hk
  exact ⟨b, o, h1, h2, h3 0 _ rfl, h3 1 _ rfl, h3 2 _ rfl, h3 3 _ rfl⟩
/-- A valid update, its effects the call's own. -/
def GoodU (base : Nat) (w : World) (x : Up) : Prop := ∃ es, OwnEf base w (.slice x.2.2.2.1 x.2.2.2.2.1 x.2.2.2.2.2) es ∧ UM.errU x.1 x.2.1 x.2.2.1 es = 0 ∧ ∀ e ∈ es, UM.in64 e
end Go.Proofs.YtahcehbgfhdbjaaGreatDoor

namespace Go.Proofs.YtahcehbgfhdbjaaGreatDoor.ST
open Go.RowKit
open UM (Ef)
open SM (Fp)

/-! A list of updates, with their effects. -/
def sl (q : Up) : Value := .slice q.2.2.2.1 q.2.2.2.2.1 q.2.2.2.2.2
def Tell1 (w : World) (q : Up) (f : Fp) : Prop := q.1 = f.1 ∧ q.2.1 = f.2.1 ∧ q.2.2.1 = f.2.2.1 ∧ RdEf w (sl q) f.2.2.2
theorem Tell1.below {w w' : World} {q : Up} {f : Fp} (h : Tell1 w q f) (hb : Below w.heap.size w w') : Tell1 w' q f := ⟨h.1, h.2.1, h.2.2.1, h.2.2.2.below hb⟩
def Tel (w : World) : List Up → List Fp → Prop
  | [], [] => True
  | q :: qs, f :: fs => Tell1 w q f ∧ Tel w qs fs
  | _, _ => False
theorem Tel.below {w w' : World} (hb : Below w.heap.size w w') : ∀ {qs : List Up} {fs : List Fp}, Tel w qs fs → Tel w' qs fs
  | [], [], _ => trivial
  | _ :: _, _ :: _, h => ⟨h.1.below hb, Tel.below hb h.2⟩
  | [], _ :: _, h => h.elim
  | _ :: _, [], h => h.elim
theorem Tel.len {w : World} : ∀ {qs : List Up} {fs : List Fp}, Tel w qs fs → qs.length = fs.length
  | [], [], _ => rfl
  | _ :: _, _ :: _, h => by rw [List.length_cons, List.length_cons, Tel.len h.2]
  | [], _ :: _, h => h.elim
  | _ :: _, [], h => h.elim
theorem Tel.get {w : World} : ∀ {qs : List Up} {fs : List Fp} {k : Nat} {f : Fp}, Tel w qs fs → fs[k]? = some f → ∃ q, qs[k]? = some q ∧ Tell1 w q f
  | [], [], _, _, _, hk => by simp at hk
  | q :: _, g :: _, 0, _, h, hk => ⟨q, rfl, by simp at hk; subst hk; exact h.1⟩
  | _ :: qs, _ :: fs, k + 1, f, h, hk => by
    obtain ⟨q, h1, h2⟩ := Tel.get (k := k) h.2 (by simpa using hk)
    exact ⟨q, by simpa using h1, h2⟩
  | [], _ :: _, _, _, h, _ => h.elim
  | _ :: _, [], _, _, h, _ => h.elim
theorem Tel.app {w : World} : ∀ {qs qs2 : List Up} {fs fs2 : List Fp}, Tel w qs fs → Tel w qs2 fs2 → Tel w (qs ++ qs2) (fs ++ fs2)
  | [], _, [], _, _, k => k
  | _ :: _, _, _ :: _, _, h, k => ⟨h.1, Tel.app h.2 k⟩
  | [], _, _ :: _, _, h, _ => h.elim
  | _ :: _, _, [], _, h, _ => h.elim
theorem Tel.take {w : World} : ∀ {qs : List Up} {fs : List Fp} (n : Nat), Tel w qs fs → Tel w (qs.take n) (fs.take n)
  | _, _, 0, _ => trivial
  | [], [], _ + 1, _ => trivial
  | _ :: _, _ :: _, n + 1, h => ⟨h.1, Tel.take n h.2⟩
  | [], _ :: _, _, h => h.elim
  | _ :: _, [], _, h => h.elim
theorem Tel.one {w : World} {q : Up} {f : Fp} (h : Tell1 w q f) : Tel w [q] [f] := ⟨h, trivial⟩

/-- The slice value v reads in w as the state fs. -/
def RdF (w : World) (v : Value) (fs : List Fp) : Prop := ∃ qs, RdUp w v qs ∧ Tel w qs fs
theorem RdF.below {w w' : World} {v : Value} {fs : List Fp} (h : RdF w v fs) (hb : Below w.heap.size w w') : RdF w' v fs := by
  obtain ⟨qs, h1, h2⟩ := h; exact ⟨qs, h1.below hb, h2.below hb⟩
theorem RdF.nil (w : World) : RdF w (.slice none 0 0) [] := ⟨[], RdG.nil hlUp w, trivial⟩
theorem RdF.shape {w : World} {v : Value} {fs : List Fp} (h : RdF w v fs) : ∃ a c, v = .slice a fs.length c ∧ c ≤ 9223372036854775807 ∧ fs.length ≤ c := by
  obtain ⟨qs, h1, h2⟩ := h
  have := h1.shape
  rw [h2.len] at this
  exact this
/-- 'c[k]': where it lies and what is there. -/
theorem RdF.at_ {w : World} {a : Option Addr} {n c : Nat} {fs : List Fp} (h : RdF w (.slice a n c) fs) (k : Nat) (x m t : Int) (es : List Ef) (hk : fs[k]? = some (x, m, t, es)) :
    ∃ b o ad l cp, (∀ w0, (Instr.indexAt 29 (.slice a n c) (.int .i64 (k : Int))).run Tryz.prog w0 = .ok (.pointer (some ⟨b, o, none⟩)) w0) ∧ b < w.heap.size ∧
      w.cell? ⟨b, o, none⟩ = some (.int .i64 x) ∧ w.cell? ⟨b, o + 1, none⟩ = some (.int .i64 m) ∧ w.cell? ⟨b, o + 2, none⟩ = some (.int .i64 t) ∧ w.cell? ⟨b, o + 3, none⟩ = some (.slice ad l cp) ∧ RdEf w (.slice ad l cp) es := by
  obtain ⟨qs, h1, h2⟩ := h
  obtain ⟨⟨x', m', t', ad, l, cp⟩, h3, h4, h5, h6, h7⟩ := h2.get hk
  simp only at h4 h5 h6
  subst h4 h5 h6
  obtain ⟨b, o, hi, hb, c0, c1, c2, c3⟩ := atUp h1 k _ _ _ _ _ _ h3
  exact ⟨b, o, ad, l, cp, hi, hb, c0, c1, c2, c3, h7⟩
/-- A list of the call's own whose updates' effects lie as they did in w0. -/
def OwnF (w0 : World) (base : Nat) (w : World) (v : Value) (fs : List Fp) : Prop := ∃ qs, OwnUp base w v qs ∧ Tel w0 qs fs
end Go.Proofs.YtahcehbgfhdbjaaGreatDoor.ST

namespace Go.Proofs.YtahcehbgfhdbjaaGreatDoor
open Go.RowKit
open NM (Ms)
open VM (Ent)

/-- The slice values of a message. -/
structure Mv where
  cf : Value
  ct : Value
  bf : Value
  bt : Value
  ef : Value
  et : Value
  cg : Value
  st : Value
  hv : Value
abbrev mcell (m : Ms) (x : Mv) : Array Value :=
  #[.int .i64 m.k, .int .i64 m.fr, .int .i64 m.tx, .int .i64 m.p, .int .i64 m.n, .int .i64 m.r, .int .i64 m.d, x.cf, x.ct, x.bf, x.bt, .bool m.hb, x.ef, x.et, x.cg, x.st, x.hv, .bool m.mo]
abbrev mv (m : Ms) (x : Mv) : Value := .agg (mcell m x)
/-- The slices read as the message's lists. -/
structure RdMs (w : World) (x : Mv) (m : Ms) : Prop where
  cf : RdF w x.cf m.cf
  ct : RdF w x.ct m.ct
  bf : RdF w x.bf m.bf
  bt : RdF w x.bt m.bt
  ef : RdF w x.ef m.ef
  et : RdF w x.et m.et
  cg : RdF w x.cg m.cg
  st : ST.RdF w x.st m.st
  hv : VX.RdV w x.hv m.hv
theorem RdMs.below {w w' : World} {x : Mv} {m : Ms} (h : RdMs w x m) (hb : Below w.heap.size w w') : RdMs w' x m :=
  ⟨h.cf.below hb, h.ct.below hb, h.bf.below hb, h.bt.below hb, h.ef.below hb, h.et.below hb, h.cg.below hb, h.st.below hb, h.hv.below hb⟩
/-- All slices of a message are written out. -/
structure Sh (x : Mv) (m : Ms) : Prop where
  cf : ∃ a c, x.cf = .slice a m.cf.length c
  ct : ∃ a c, x.ct = .slice a m.ct.length c
  bf : ∃ a c, x.bf = .slice a m.bf.length c
  bt : ∃ a c, x.bt = .slice a m.bt.length c
  ef : ∃ a c, x.ef = .slice a m.ef.length c
  et : ∃ a c, x.et = .slice a m.et.length c
  cg : ∃ a c, x.cg = .slice a m.cg.length c
  st : ∃ a c, x.st = .slice a m.st.length c
  hv : ∃ a c, x.hv = .slice a m.hv.length c
theorem RdMs.sh {w : World} {x : Mv} {m : Ms} (h : RdMs w x m) : Sh x m := by
  obtain ⟨h1, h2, h3, h4, h5, h6, h7, h8, h9⟩ := h
  obtain ⟨a1, c1, e1, _⟩ := h1.shape
  obtain ⟨a2, c2, e2, _⟩ := h2.shape
  obtain ⟨a3, c3, e3, _⟩ := h3.shape
  obtain ⟨a4, c4, e4, _⟩ := h4.shape
  obtain ⟨a5, c5, e5, _⟩ := h5.shape
  obtain ⟨a6, c6, e6, _⟩ := h6.shape
  obtain ⟨a7, c7, e7, _⟩ := h7.shape
  obtain ⟨a8, c8, e8, _⟩ := h8.shape
  obtain ⟨a9, c9, e9, _⟩ := h9.shape
  exact ⟨⟨_, _, e1⟩, ⟨_, _, e2⟩, ⟨_, _, e3⟩, ⟨_, _, e4⟩, ⟨_, _, e5⟩, ⟨_, _, e6⟩, ⟨_, _, e7⟩, ⟨_, _, e8⟩, ⟨_, _, e9⟩⟩
/-- Block g is a message. -/
def MB (w : World) (g : Nat) (m : Ms) (x : Mv) : Prop := w.heap[g]? = some (.cells (mcell m x) 33 (0, 0))
theorem MB.fresh (w : World) (m : Ms) (x : Mv) : MB (w.alloc (.cells (mcell m x) 33)) w.heap.size m x := heap_alloc_new w _
theorem MB.below {w w' : World} {g : Nat} {m : Ms} {x : Mv} (h : MB w g m x) (hb : Below w.heap.size w w') : MB w' g m x := below_block h hb
theorem MB.only {w w' : World} {k g : Nat} {m : Ms} {x : Mv} (h : MB w g m x) (ho : Only k w w') (hne : g ≠ k) : MB w' g m x := ho.at h hne
/-- What lies in the block's cells. -/
theorem MB.cells {w : World} {g : Nat} {m : Ms} {x : Mv} (h : MB w g m x) :
    w.cell? ⟨g, 0, none⟩ = some (.int .i64 m.k) ∧ w.cell? ⟨g, 1, none⟩ = some (.int .i64 m.fr) ∧ w.cell? ⟨g, 2, none⟩ = some (.int .i64 m.tx) ∧ w.cell? ⟨g, 3, none⟩ = some (.int .i64 m.p) ∧
    w.cell? ⟨g, 4, none⟩ = some (.int .i64 m.n) ∧ w.cell? ⟨g, 5, none⟩ = some (.int .i64 m.r) ∧ w.cell? ⟨g, 6, none⟩ = some (.int .i64 m.d) ∧ w.cell? ⟨g, 7, none⟩ = some x.cf ∧
    w.cell? ⟨g, 8, none⟩ = some x.ct ∧ w.cell? ⟨g, 9, none⟩ = some x.bf ∧ w.cell? ⟨g, 10, none⟩ = some x.bt ∧ w.cell? ⟨g, 11, none⟩ = some (.bool m.hb) ∧ w.cell? ⟨g, 12, none⟩ = some x.ef ∧
    w.cell? ⟨g, 13, none⟩ = some x.et ∧ w.cell? ⟨g, 14, none⟩ = some x.cg ∧ w.cell? ⟨g, 15, none⟩ = some x.st ∧ w.cell? ⟨g, 16, none⟩ = some x.hv ∧ w.cell? ⟨g, 17, none⟩ = some (.bool m.mo) := by
  unfold MB mcell at h
  refine ⟨?_, ?_, ?_, ?_, ?_, ?_, ?_, ?_, ?_, ?_, ?_, ?_, ?_, ?_, ?_, ?_, ?_, ?_⟩ <;> simp [World.cell?, h]
theorem MB.free {w : World} {g : Nat} {m : Ms} {x : Mv} (h : MB w g m x) (j : Nat) : w.frozen? ⟨g, j, none⟩ = false := by
  unfold MB at h
  simp [World.frozen?, h]
end Go.Proofs.YtahcehbgfhdbjaaGreatDoor

namespace Go.Proofs
open Go.Shelf
def Tryz.decR_ren : Go.Shelf.Ren := ⟨fun | 197 => 188 | 260 => 190 | n => n, fun | 9 => 9 | 21 => 21 | 3 => 3 | 4 => 4 | 5 => 5 | 105 => 217 | 119 => 220 | 0 => 0 | 46 => 172 | 139 => 223 | 138 => 222 | n => n, fun | 3 => 0 | 4 => 1 | n => n⟩
theorem Tryz.decR : Go.Proofs.Lays.n197 Tryz.prog Tryz.decR_ren := {
  mixed := by kernel_rfl
  f197 := Tryz.func188.trans (congrArg some (by kernel_rfl))
  f260 := Tryz.func190.trans (congrArg some (by kernel_rfl))
  t0 := Tryz.underlying0
  a0 := Tryz.isAgg0
  z0 := Tryz.sizeOf0
  v0 := Tryz.zeroValue0
  t3 := Tryz.underlying3
  a3 := Tryz.isAgg3
  z3 := Tryz.sizeOf3
  v3 := Tryz.zeroValue3
  t4 := Tryz.underlying4
  a4 := Tryz.isAgg4
  z4 := Tryz.sizeOf4
  v4 := Tryz.zeroValue4
  t5 := Tryz.underlying5
  a5 := Tryz.isAgg5
  z5 := Tryz.sizeOf5
  v5 := Tryz.zeroValue5
  t9 := Tryz.underlying9
  a9 := Tryz.isAgg9
  z9 := Tryz.sizeOf9
  v9 := Tryz.zeroValue9
  t21 := Tryz.underlying21
  a21 := Tryz.isAgg21
  z21 := Tryz.sizeOf21
  v21 := Tryz.zeroValue21
  t46 := Tryz.underlying172
  a46 := Tryz.isAgg172
  z46 := Tryz.sizeOf172
  v46 := Tryz.zeroValue172
  t105 := Tryz.underlying217
  a105 := Tryz.isAgg217
  z105 := Tryz.sizeOf217
  v105 := Tryz.zeroValue217
  t119 := Tryz.underlying220
  a119 := Tryz.isAgg220
  z119 := Tryz.sizeOf220
  t138 := Tryz.underlying222
  a138 := Tryz.isAgg222
  z138 := Tryz.sizeOf222
  v138 := Tryz.zeroValue222
  t139 := Tryz.underlying223
  a139 := Tryz.isAgg223
  z139 := Tryz.sizeOf223
  v139 := Tryz.zeroValue223
  g3 := by kernel_rfl
  g4 := by kernel_rfl }
end Go.Proofs

namespace Go.Proofs.YtahcehbgfhdbjaaGreatDoor
open Go.RowKit

/-- The two tables of unicode/utf8 are laid. -/
def Tb (w : World) : Prop := Lib.Utf8Tabs (Tryz.decR_ren.g 3) (Tryz.decR_ren.g 4) w
theorem Tb.below {w w' : World} (h : Tb w) (hb : Below w.heap.size w w') : Tb w' := Utf8Tabs_below h hb
theorem tbz {w w' : World} (h : Hid (Tb w)) (hb : Hid (Below w.heap.size w w')) : Tb w' := h.out.below hb.out
namespace UM
/-- The width of the rune that begins at a place. -/
def wd (s : ByteArray) (pos : Nat) : Nat := (Utf8.decode s pos).2
theorem wd_pos (s : ByteArray) (pos : Nat) : 1 ≤ wd s pos := by
  unfold wd
  rw [Lib.decode_at]
  unfold Lib.decodeN
  repeat' split
  all_goals simp
theorem wd_fit (s : ByteArray) (pos : Nat) (h : pos < s.size) : pos + wd s pos ≤ s.size := by
  unfold wd
  rw [Lib.decode_at]
  unfold Lib.decodeN
  repeat' split
  all_goals (simp only; omega)
theorem get_tail (s : ByteArray) (a k : Nat) : (s.extract a s.size).get! k = s.get! (a + k) := by
  have hz : (s.extract a s.size).size = s.size - a := by rw [ByteArray.size_extract, Nat.min_self]
  by_cases h : a + k < s.size
  · have h2 : k < (s.extract a s.size).size := by omega
    have e1 : (s.extract a s.size).get! k = (s.extract a s.size)[k] := Utf8W.get!_of_lt _ _ h2
    have e2 : s.get! (a + k) = s[a + k] := Utf8W.get!_of_lt _ _ h
    rw [e1, e2, ByteArray.getElem_extract]
  · have hd : ∀ (b : ByteArray) (j : Nat), ¬ j < b.size → b.get! j = default := by
      intro b j hj
      show b.data[j]! = default
      exact getElem!_neg b.data j hj
    rw [hd _ _ (by omega), hd _ _ h]
theorem dec_tail (s : ByteArray) (a : Nat) (h : a < s.size) : (Lib.decodeGo (s.extract a s.size)).2 = wd s a := by
  have hz : (s.extract a s.size).size = s.size - a := by rw [ByteArray.size_extract, Nat.min_self]
  unfold Lib.decodeGo wd
  rw [if_neg (by omega), Lib.decode_at, Lib.decode_at, hz]
  simp only [get_tail, Nat.sub_zero, Nat.zero_add, Nat.add_zero]
/-- What nameSize returns. -/
def nsA (s : ByteArray) : Nat → Nat → Nat → Nat
  | 0, _, last => last + (Lib.decodeGo (s.extract last s.size)).2
  | b + 1, pos, last => if pos < s.size then (if 16 < pos then pos else nsA s b (pos + wd s pos) pos) else last + (Lib.decodeGo (s.extract last s.size)).2
def ns (s : ByteArray) : Nat := nsA s s.size 0 0
def At (s : ByteArray) (pos last : Nat) : Prop := (pos = 0 ∧ last = 0) ∨ (last < s.size ∧ last < pos ∧ pos = last + wd s last)
theorem nsA_end (s : ByteArray) (b pos last : Nat) (h : ¬ pos < s.size) : nsA s b pos last = last + (Lib.decodeGo (s.extract last s.size)).2 := by
  cases b with
  | zero => rfl
  | succ b => rw [nsA, if_neg h]
theorem nsA_ok (s : ByteArray) : ∀ (b pos last : Nat), At s pos last → pos ≤ s.size → s.size ≤ pos + b → nsA s b pos last = s.size ∨ (16 < nsA s b pos last ∧ 16 < s.size)
  | b, pos, last, ha, hp, hb => by
    by_cases h : pos < s.size
    · cases b with
      | zero => omega
      | succ b =>
        rw [nsA, if_pos h]
        by_cases h16 : 16 < pos
        · rw [if_pos h16]; omega
        · rw [if_neg h16]
          have := wd_pos s pos
          exact nsA_ok s b _ _ (.inr ⟨h, by omega, rfl⟩) (wd_fit s pos h) (by omega)
    · rw [nsA_end s b pos last h]
      left
      rcases ha with ⟨rfl, rfl⟩ | ⟨h1, h2, h3⟩
      · have hz : s.size = 0 := by omega
        unfold Lib.decodeGo
        rw [if_pos (by rw [ByteArray.size_extract]; omega)]
        simp [hz]
      · rw [dec_tail s last h1]; omega
theorem ns_ok (s : ByteArray) : ns s = s.size ∨ (16 < ns s ∧ 16 < s.size) := nsA_ok s _ 0 0 (.inl ⟨rfl, rfl⟩) (Nat.zero_le _) (by omega)
theorem nsA_le (s : ByteArray) : ∀ (b pos last : Nat), At s pos last → pos ≤ s.size → nsA s b pos last ≤ s.size
  | b, pos, last, ha, hp => by
    have hend : last + (Lib.decodeGo (s.extract last s.size)).2 ≤ s.size := by
      rcases ha with ⟨rfl, rfl⟩ | ⟨h1, h2, h3⟩
      · by_cases h : 0 < s.size
        · rw [dec_tail s 0 h]; exact wd_fit s 0 h
        · unfold Lib.decodeGo
          rw [if_pos (by rw [ByteArray.size_extract]; omega)]
          exact Nat.zero_le _
      · rw [dec_tail s last h1]; omega
    cases b with
    | zero => exact hend
    | succ b =>
      rw [nsA]
      by_cases h : pos < s.size
      · rw [if_pos h]
        by_cases h16 : 16 < pos
        · rw [if_pos h16]; omega
        · rw [if_neg h16]
          have := wd_pos s pos
          exact nsA_le s b _ _ (.inr ⟨h, by omega, rfl⟩) (wd_fit s pos h)
      · rw [if_neg h]; exact hend
theorem ns_le (s : ByteArray) : ns s ≤ s.size := nsA_le s _ 0 0 (.inl ⟨rfl, rfl⟩) (Nat.zero_le _)
end UM

open UM in
set_option maxRecDepth 1000000 in
set_option maxHeartbeats 1000000 in
theorem cNameSize (s : ByteArray) (w : World) (hs : s.size ≤ maxLen) (hT : Tb w) :
    Calls Tryz.prog 178 #[.string s] w fun e w' => e = .returned (.int .i64 (ns s : Nat)) ∧ Below w.heap.size w w' := by
  have hsz : s.size ≤ 9223372036854775807 := by unfold maxLen at hs; omega
  have HIT := Lib.hid (fun pos => (below_fresh w (.stringIter s pos) : Below w.heap.size w (w.iter s pos)))
  have HD := Lib.hid (fun (pos last : Nat) => (show Calls Tryz.prog 188 #[.string (s.extract last s.size)] (w.iter s pos) fun e w' => e = .returned (.tuple #[.int .i32 (Lib.decodeGo (s.extract last s.size)).1, .int .i64 (Lib.decodeGo (s.extract last s.size)).2]) ∧ Below (w.iter s pos).heap.size (w.iter s pos) w' from Any.utf8_DecodeRuneInString Tryz.decR _ _ (hT.below (HIT.out pos))))
  have HLE := Lib.hid (fun b pos last => nsA_le s b pos last)
  clear hs hT
  obtain ⟨R, hR⟩ : ∃ R, R = ns s := ⟨_, rfl⟩
  rw [← hR]
  have HR := Lib.hid (show nsA s s.size 0 0 = R from hR.symm)
  clear hR
  go_enter Tryz.func178, Tryz.ntmps178
  go_wp2
  go_loopw [3] (fun n w' => ∃ (pos b last : Nat), w' = w.iter s pos ∧ n = .int .i64 (last : Int) ∧ Hid (nsA s b pos last = R) ∧ Hid (At s pos last) ∧ Hid (pos ≤ s.size) ∧ Hid (s.size ≤ pos + b)) (fun _ w' => s.size - w'.iterPos w.heap.size)
  case atStart => exact ⟨0, s.size, 0, rfl, rfl, HR, Lib.hid (.inl ⟨rfl, rfl⟩), Lib.hid (Nat.zero_le _), Lib.hid (by omega)⟩
  case round =>
    obtain ⟨pos, b, last, rfl, rfl, hn, ha, hp, hb⟩ := hrel
    by_cases hlt : pos < s.size
    · have hnx : ∀ ty, (Instr.next (.pointer (some ⟨w.heap.size, 0, none⟩)) true ty).run Tryz.prog (w.iter s pos) = _ := fun ty => run_next_any w s pos ty hlt
      have hne : ∃ b', b = b' + 1 := ⟨b - 1, by have := hb.out; omega⟩
      obtain ⟨b', rfl⟩ := hne
      by_cases h16 : (16 : Int) < (pos : Int)
      · have hr : R = pos := by rw [← hn.out, nsA, if_pos hlt, if_pos (by omega)]
        go_wp2
        go_ret
        exact ⟨by rw [hr]; rfl, HIT.out _⟩
      · have hr : nsA s b' (pos + wd s pos) pos = R := by rw [← hn.out, nsA, if_pos hlt, if_neg (by omega)]
        have HR2 := Lib.hid hr
        have HA2 := Lib.hid (show At s (pos + wd s pos) pos from .inr ⟨hlt, by have := wd_pos s pos; omega, rfl⟩)
        have HP2 := Lib.hid (wd_fit s pos hlt)
        have hwd := wd_pos s pos
        have HB2 := Lib.hid (show s.size ≤ pos + wd s pos + b' by have := hb.out; omega)
        clear hr hn ha hp hb
        go_wp2
        go_roundw
        case rel => exact ⟨pos + wd s pos, b', pos, rfl, rfl, HR2, HA2, HP2, HB2⟩
        case measure =>
          show s.size - World.iterPos (w.iter s (pos + wd s pos)) w.heap.size < s.size - World.iterPos (w.iter s pos) w.heap.size
          rw [World.iterPos_iter, World.iterPos_iter]
          omega
    · have hnx : ∀ ty, (Instr.next (.pointer (some ⟨w.heap.size, 0, none⟩)) true ty).run Tryz.prog (w.iter s pos) = _ := fun ty => run_next_end w s pos ty hlt
      have hr : R = last + (Lib.decodeGo (s.extract last s.size)).2 := by rw [← hn.out, nsA_end s b pos last hlt]
      have hla : last ≤ s.size := by rcases ha.out with ⟨_, rfl⟩ | ⟨h, _⟩ <;> omega
      have hRl : R ≤ s.size := by rw [← hn.out]; exact HLE.out _ _ _ ha.out hp.out
      have HC := Lib.hid (HD.out pos last)
      have HIB := Lib.hid (HIT.out pos)
      have HRE := Lib.hid hr
      have hsl : ∀ w0 : World, (Instr.slice 9 (.string s) (some (.int .i64 (last : Int))) none none).run Tryz.prog w0 = .ok (.string (s.extract last s.size)) w0 := by
        intro w0
        simp [go_sem]
        omega
      generalize (Lib.decodeGo (s.extract last s.size)).2 = K at HC HRE hr
      generalize (Lib.decodeGo (s.extract last s.size)).1 = C at HC
      generalize s.extract last s.size = T at hsl HC
      have hsum : (last : Int) + (K : Int) = (R : Int) := by omega
      clear hn ha hp hb HD HIT HR HLE hr
      go_wp2_with fail
      refine HC.out.mono ?_
      rintro e w2 ⟨rfl, hb2⟩
      have HB := Lib.hid (bnext HIB.out hb2)
      clear hb2 HC HIB
      go_wp2
      go_ret
      exact ⟨by rw [HRE.out]; rfl, HB.out⟩

end Go.Proofs.YtahcehbgfhdbjaaGreatDoor
