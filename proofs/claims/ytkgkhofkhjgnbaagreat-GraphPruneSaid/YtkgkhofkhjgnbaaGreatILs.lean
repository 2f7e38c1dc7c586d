/-
  Lists of slices in memory: lists of vectors, of configurations. What reads as one, what is the call's own, an index. No conditions beyond those that each lemma names.
-/
import Derived.Test.YtkgkhofkhjgnbaaGreatIClone
import Derived.Test.YtkgkhofkhjgnbaaGreatVxWith
namespace Go.Proofs.YtkgkhofkhjgnbaaGreat
open Go.RowKit
open JM (Chg)
open CM (Fp)
open VM (Ent)

abbrev SV := Option Addr × Nat × Nat
def svV (s : SV) : Value := .slice s.1 s.2.1 s.2.2
def encL {β : Type} (p : SV × β) : List Value := [svV p.1]
theorem hlL {β : Type} : 0 < 1 ∧ ∀ x : SV × β, (encL x).length = 1 := ⟨by decide, fun _ => rfl⟩
theorem cfgE {β : Type} : IsElem Tryz.prog 28 24 1 24 (encL (β := β)) where
  ht := Tryz.underlying28
  info := by
    obtain ⟨i0, hi, hz0, hz1, hz2⟩ := info_parts (show (Tryz.prog.info? 24).map (fun i => (i.zero, i.size, i.bytes)) = some (some (.slice none 0 0), 1, 24) by kernel_rfl)
    exact ⟨i0, _, hi, hz0, hz1, hz2, rfl⟩
  len := fun _ => rfl
  one := by intro x u hu; simp [encL] at hu; subst hu; rfl
  pos := by decide
  fits := by decide
theorem vecE {β : Type} : IsElem Tryz.prog 92 65 1 24 (encL (β := β)) where
  ht := Tryz.underlying92
  info := by
    obtain ⟨i0, hi, hz0, hz1, hz2⟩ := info_parts (show (Tryz.prog.info? 65).map (fun i => (i.zero, i.size, i.bytes)) = some (some (.slice none 0 0), 1, 24) by kernel_rfl)
    exact ⟨i0, _, hi, hz0, hz1, hz2, rfl⟩
  len := fun _ => rfl
  one := by intro x u hu; simp [encL] at hu; subst hu; rfl
  pos := by decide
  fits := by decide

/-- The slice value v reads as a list of slices, which read as ls, each in the way R. -/
def RdLs {β : Type} (R : World → Value → β → Prop) (w : World) (v : Value) (ls : List β) : Prop := ∃ ps : List (SV × β), RdG encL 1 w v ps ∧ (∀ p ∈ ps, R w (svV p.1) p.2) ∧ ps.map (·.2) = ls
/-- The same of a list of the call's own, with elements of type e. -/
def OwnLs {β : Type} (R : World → Value → β → Prop) (e : TypeId) (base : Nat) (w : World) (v : Value) (ls : List β) : Prop := ∃ ps : List (SV × β), OwnG encL e 1 base w v ps ∧ (∀ p ∈ ps, R w (svV p.1) p.2) ∧ ps.map (·.2) = ls
section
variable {β : Type} {R S : World → Value → β → Prop} {e : TypeId} {base : Nat} {w w' : World} {v : Value} {ls : List β}
theorem OwnLs.rd (h : OwnLs R e base w v ls) : RdLs R w v ls := by
  obtain ⟨ps, h1, h2, h3⟩ := h; exact ⟨ps, h1.rd, h2, h3⟩
theorem RdLs.imp (h : RdLs R w v ls) (hi : ∀ u x, R w u x → S w u x) : RdLs S w v ls := by
  obtain ⟨ps, h1, h2, h3⟩ := h; exact ⟨ps, h1, fun p hp => hi _ _ (h2 p hp), h3⟩
theorem OwnLs.below (h : OwnLs R e base w v ls) (hb : Below w.heap.size w w') (hR : ∀ u x, R w u x → R w' u x) : OwnLs R e base w' v ls := by
  obtain ⟨ps, h1, h2, h3⟩ := h; exact ⟨ps, h1.below hb, fun p hp => hR _ _ (h2 p hp), h3⟩
theorem RdLs.below (h : RdLs R w v ls) (hb : Below w.heap.size w w') (hR : ∀ u x, R w u x → R w' u x) : RdLs R w' v ls := by
  obtain ⟨ps, h1, h2, h3⟩ := h; exact ⟨ps, h1.below hb, fun p hp => hR _ _ (h2 p hp), h3⟩
theorem RdLs.shape (h : RdLs R w v ls) : ∃ a c, v = .slice a ls.length c ∧ c ≤ 9223372036854775807 ∧ ls.length ≤ c := by
  obtain ⟨ps, h1, _, rfl⟩ := h
  simpa using h1.shape
theorem OwnLs.nil (e : TypeId) (base : Nat) (w : World) : OwnLs R e base w (.slice none 0 0) [] := ⟨[], OwnG.nil hlL _ _ _, (fun _ h => by cases h), rfl⟩
theorem OwnLs.mono {b2 : Nat} (h : OwnLs R e base w v ls) (hle : b2 ≤ base) : OwnLs R e b2 w v ls := by
  obtain ⟨ps, h1, h2, h3⟩ := h; exact ⟨ps, h1.mono hle, h2, h3⟩
theorem OwnLs.snoc {w2 : World} {ps : List (SV × β)} {p : SV × β} {v2 : Value} (h2 : ∀ p ∈ ps, R w (svV p.1) p.2) (h3 : ps.map (·.2) = ls) (ho : OwnG encL e 1 base w2 v2 (ps ++ [p])) (hR : ∀ u x, R w u x → R w2 u x) (hp : R w2 (svV p.1) p.2) : OwnLs R e base w2 v2 (ls ++ [p.2]) :=
  ⟨ps ++ [p], ho, fun q hq => (List.mem_append.1 hq).elim (fun h => hR _ _ (h2 q h)) (fun h => by rw [List.mem_singleton] at h; subst h; exact hp), by rw [List.map_append, h3]; rfl⟩
theorem RdLs.at_ {t : TypeId} (E : IsElem Tryz.prog t e 1 24 (encL (β := β))) {a : Option Addr} {n c : Nat} (h : RdLs R w (.slice a n c) ls) (k : Nat) (x : β) (hk : ls[k]? = some x) :
    ∃ b o ad l cp, (∀ w0, (Instr.indexAt t (.slice a n c) (.int .i64 (k : Int))).run Tryz.prog w0 = .ok (.pointer (some ⟨b, o, none⟩)) w0) ∧ b < w.heap.size ∧ w.cell? ⟨b, o, none⟩ = some (.slice ad l cp) ∧ R w (.slice ad l cp) x := by
  obtain ⟨ps, h1, h2, rfl⟩ := h
  rw [List.getElem?_map] at hk
  obtain ⟨p, hp, hx⟩ := Option.map_eq_some_iff.1 hk
  subst hx
  obtain ⟨b, o, h3, h4, h5⟩ := h1.at_ E k p hp
  exact ⟨b, o, p.1.1, p.1.2.1, p.1.2.2, h3, h4, h5 0 _ rfl, h2 p (List.mem_of_getElem? hp)⟩
end
end Go.Proofs.YtkgkhofkhjgnbaaGreat
