/-
  Certificates in memory: a certificate by value, its block; lists of configurations and of certificates; what stays readable when a block of slices is stored into. No conditions beyond those that each lemma names.
-/
import Derived.Test.YtfdgoehfkfdgaaaHMath
namespace Go.Proofs.Ytfdgoehfkfdgaaa
open Go.RowKit
open JM (Chg)
open CM (Fp)

abbrev SV := Option Addr × Nat × Nat
def svV (s : SV) : Value := .slice s.1 s.2.1 s.2.2
def encL {β : Type} (p : SV × β) : List Value := [svV p.1]
theorem hlL {β : Type} : 0 < 1 ∧ ∀ x : SV × β, (encL x).length = 1 := ⟨by decide, fun _ => rfl⟩
theorem cfgE {β : Type} : IsElem Try.prog 59 23 1 24 (encL (β := β)) where
  ht := Try.underlying59
  info := by
    obtain ⟨i0, hi, hz0, hz1, hz2⟩ := info_parts (show (Try.prog.info? 23).map (fun i => (i.zero, i.size, i.bytes)) = some (some (.slice none 0 0), 1, 24) by kernel_rfl)
    exact ⟨i0, _, hi, hz0, hz1, hz2, rfl⟩
  len := fun _ => rfl
  one := by intro x u hu; simp [encL] at hu; subst hu; rfl
  pos := by decide
  fits := by decide
/-- The slice value v reads as a list of slices, which read as ls, each in the way R. -/
def RdLs {β : Type} (R : World → Value → β → Prop) (w : World) (v : Value) (ls : List β) : Prop := ∃ ps : List (SV × β), RdG encL 1 w v ps ∧ (∀ p ∈ ps, R w (svV p.1) p.2) ∧ ps.map (·.2) = ls
/-- The same of a list of the call's own, with elements of type e. -/
def OwnLs {β : Type} (R : World → Value → β → Prop) (e : TypeId) (base : Nat) (w : World) (v : Value) (ls : List β) : Prop := ∃ ps : List (SV × β), OwnG encL e 1 base w v ps ∧ (∀ p ∈ ps, R w (svV p.1) p.2) ∧ ps.map (·.2) = ls
section
variable {β : Type} {R S : World → Value → β → Prop} {e : TypeId} {base : Nat} {w w' : World} {v : Value} {ls : List β}
theorem OwnLs.rd (h : OwnLs R e base w v ls) : RdLs R w v ls := by
  obtain ⟨ps, h1, h2, h3⟩ := h; exact ⟨ps, h1.rd, h2, h3⟩
theorem RdLs.imp (h : RdLs R w v ls) (hi : ∀ u x, R w u x → S w u x) : RdLs S w v ls := by
  obtain ⟨ps, h1, h2, h3⟩ := h; exact ⟨ps, h1, fun p hp => hi _ _ (h2 p hp), h3⟩
theorem OwnLs.below (h : OwnLs R e base w v ls) (hb : Below w.heap.size w w') (hR : ∀ u x, R w u x → R w' u x) : OwnLs R e base w' v ls := by
  obtain ⟨ps, h1, h2, h3⟩ := h; exact ⟨ps, h1.below hb, fun p hp => hR _ _ (h2 p hp), h3⟩
theorem RdLs.below (h : RdLs R w v ls) (hb : Below w.heap.size w w') (hR : ∀ u x, R w u x → R w' u x) : RdLs R w' v ls := by
  obtain ⟨ps, h1, h2, h3⟩ := h; exact ⟨ps, h1.below hb, fun p hp => hR _ _ (h2 p hp), h3⟩
theorem RdLs.shape (h : RdLs R w v ls) : ∃ a c, v = .slice a ls.length c ∧ c ≤ 9223372036854775807 ∧ ls.length ≤ c := by
  obtain ⟨ps, h1, _, rfl⟩ := h
  simpa using h1.shape
theorem OwnLs.nil (e : TypeId) (base : Nat) (w : World) : OwnLs R e base w (.slice none 0 0) [] := ⟨[], OwnG.nil hlL _ _ _, (fun _ h => by cases h), rfl⟩
theorem OwnLs.mono {b2 : Nat} (h : OwnLs R e base w v ls) (hle : b2 ≤ base) : OwnLs R e b2 w v ls := by
  obtain ⟨ps, h1, h2, h3⟩ := h; exact ⟨ps, h1.mono hle, h2, h3⟩
theorem OwnLs.snoc {w2 : World} {ps : List (SV × β)} {p : SV × β} {v2 : Value} (h2 : ∀ p ∈ ps, R w (svV p.1) p.2) (h3 : ps.map (·.2) = ls) (ho : OwnG encL e 1 base w2 v2 (ps ++ [p])) (hR : ∀ u x, R w u x → R w2 u x) (hp : R w2 (svV p.1) p.2) : OwnLs R e base w2 v2 (ls ++ [p.2]) :=
  ⟨ps ++ [p], ho, fun q hq => (List.mem_append.1 hq).elim (fun h => hR _ _ (h2 q h)) (fun h => by rw [List.mem_singleton] at h; subst h; exact hp), by rw [List.map_append, h3]; rfl⟩
theorem RdLs.at_ {t : TypeId} (E : IsElem Try.prog t e 1 24 (encL (β := β))) {a : Option Addr} {n c : Nat} (h : RdLs R w (.slice a n c) ls) (k : Nat) (x : β) (hk : ls[k]? = some x) :
    ∃ b o ad l cp, (∀ w0, (Instr.indexAt t (.slice a n c) (.int .i64 (k : Int))).run Try.prog w0 = .ok (.pointer (some ⟨b, o, none⟩)) w0) ∧ b < w.heap.size ∧ w.cell? ⟨b, o, none⟩ = some (.slice ad l cp) ∧ R w (.slice ad l cp) x := by
  obtain ⟨ps, h1, h2, rfl⟩ := h
  rw [List.getElem?_map] at hk
  obtain ⟨p, hp, hx⟩ := Option.map_eq_some_iff.1 hk
  subst hx
  obtain ⟨b, o, h3, h4, h5⟩ := h1.at_ E k p hp
  exact ⟨b, o, p.1.1, p.1.2.1, p.1.2.2, h3, h4, h5 0 _ rfl, h2 p (List.mem_of_getElem? hp)⟩
end


/-- A certificate by value. -/
abbrev cev (a b : Value) : Value := .agg #[a, b]
/-- Block g is a certificate. -/
def XB (w : World) (g : Nat) (a b : Value) : Prop := w.heap[g]? = some (.cells #[a, b] 25 (0, 0))
theorem XB.cells {w : World} {g : Nat} {a b : Value} (h : XB w g a b) : w.cell? ⟨g, 0, none⟩ = some a ∧ w.cell? ⟨g, 1, none⟩ = some b ∧ w.frozen? ⟨g, 0, none⟩ = false ∧ w.frozen? ⟨g, 1, none⟩ = false := by
  unfold XB at h
  refine ⟨?_, ?_, ?_, ?_⟩ <;> simp [World.cell?, World.frozen?, h]
theorem XB.fresh (w : World) (a b : Value) : XB (w.alloc (.cells #[a, b] 25)) w.heap.size a b := heap_alloc_new w _
theorem XB.below {w w' : World} {g : Nat} {a b : Value} (h : XB w g a b) (hb : Below w.heap.size w w') : XB w' g a b := below_block h hb
theorem XB.only {w w' : World} {k g : Nat} {a b : Value} (h : XB w g a b) (ho : Only k w w') (hne : g ≠ k) : XB w' g a b := ho.at h hne
theorem XB.put {w : World} {g : Nat} {a b : Value} (h : XB w g a b) (a' b' : Value) : XB ((w.setCell ⟨g, 0, none⟩ a').setCell ⟨g, 1, none⟩ b') g a' b' := by
  have h1 : (w.setCell ⟨g, 0, none⟩ a').heap[g]? = some (.cells #[a', b] 25 (0, 0)) := heap_setCell_same w g 0 _ _ _ h
  exact heap_setCell_same _ g 1 _ _ _ h1
theorem only2 {w : World} {g : Nat} (a b : Value) : Only g w ((w.setCell ⟨g, 0, none⟩ a).setCell ⟨g, 1, none⟩ b) := (Only.set 0 a).trans (Only.set 1 b)

/-- What reads through no slice stays when only a block of slices has changed. -/
theorem RdG.off {α : Type} {enc : α → List Value} {size : Nat} {w w' : World} {v : Value} {xs : List α} {B : Nat} (h : RdG enc size w v xs)
    (hn : ∀ x ∈ xs, ∃ u, (enc x)[0]? = some u ∧ ∀ a l c, u ≠ .slice a l c) (hB : ∀ off u, w.cell? ⟨B, off, none⟩ = some u → ∃ a l c, u = .slice a l c) (ho : Only B w w') : RdG enc size w' v xs := by
  obtain ⟨a, c, rfl, h1, h2, h3, hl, h4⟩ := h
  refine ⟨a, c, rfl, h1, h2, h3, hl, fun x hx j u hu => ?_⟩
  have hc := h4 x hx j u hu
  have hne : x.block ≠ B := by
    rintro rfl
    cases xs with
    | nil => simp [cellsOf] at hu
    | cons y ys =>
      obtain ⟨u0, hu0, hns⟩ := hn y (by simp)
      have hc0 := h4 x hx _ _ (cellsOf_get hl.2 (y :: ys) 0 0 y u0 rfl hu0)
      obtain ⟨b, o, spot⟩ := x
      have hspot : spot = none := by simpa [Addr.add] using World.cell?_spot hc0
      subst hspot
      rw [addr_plain] at hc0
      obtain ⟨a', l', c', he⟩ := hB _ _ hc0
      exact hns _ _ _ he
  have hlt := World.block_lt_of_cell? w _ hc
  rw [addr_block] at hlt
  have hk := ho.block _ hlt hne
  have : w'.cell? (x.add j) = w.cell? (x.add j) := by
    unfold World.cell?
    rw [addr_block, hk]
  rw [this]; exact hc
theorem RdC.off {w w' : World} {v : Value} {cs : List Chg} {B : Nat} (h : RdC w v cs) (hB : ∀ off u, w.cell? ⟨B, off, none⟩ = some u → ∃ a l c, u = .slice a l c) (ho : Only B w w') : RdC w' v cs :=
  RdG.off h (fun x _ => ⟨_, rfl, fun _ _ _ h => by cases h⟩) hB ho
theorem Tel.off {w w' : World} {B : Nat} (hB : ∀ off u, w.cell? ⟨B, off, none⟩ = some u → ∃ a l c, u = .slice a l c) (ho : Only B w w') : ∀ {qs : List Pro} {fs : List Fp}, Tel w qs fs → Tel w' qs fs
  | [], [], _ => trivial
  | _ :: _, _ :: _, h => ⟨⟨h.1.1, h.1.2.1, RdC.off h.1.2.2 hB ho⟩, Tel.off hB ho h.2⟩
  | [], _ :: _, h => h.elim
  | _ :: _, [], h => h.elim
theorem RdF.off {w w' : World} {v : Value} {fs : List Fp} {B : Nat} (h : RdF w v fs) (hB : ∀ off u, w.cell? ⟨B, off, none⟩ = some u → ∃ a l c, u = .slice a l c) (ho : Only B w w') : RdF w' v fs := by
  obtain ⟨qs, h1, h2⟩ := h
  exact ⟨qs, RdG.off h1 (fun x _ => ⟨_, rfl, fun _ _ _ h => by cases h⟩) hB ho, Tel.off hB ho h2⟩
/-- A certificate's block holds slices alone. -/
theorem XB.slices {w : World} {g : Nat} {a b : Value} (h : XB w g a b) (ha : ∃ x l c, a = .slice x l c) (hb : ∃ x l c, b = .slice x l c) : ∀ off u, w.cell? ⟨g, off, none⟩ = some u → ∃ x l c, u = .slice x l c := by
  intro off u hu
  unfold XB at h
  match off, hu with
  | 0, hu => rw [show w.cell? ⟨g, 0, none⟩ = some a by simp [World.cell?, h]] at hu; cases hu; exact ha
  | 1, hu => rw [show w.cell? ⟨g, 1, none⟩ = some b by simp [World.cell?, h]] at hu; cases hu; exact hb
  | n + 2, hu => simp [World.cell?, h] at hu
theorem RdF.sl {w : World} {v : Value} {fs : List Fp} (h : RdF w v fs) : ∃ x l c, v = .slice x l c := by
  obtain ⟨a, c, h, _⟩ := h.shape; exact ⟨_, _, _, h⟩
end Go.Proofs.Ytfdgoehfkfdgaaa
