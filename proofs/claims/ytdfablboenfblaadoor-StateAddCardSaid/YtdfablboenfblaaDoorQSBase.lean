/-
  States in memory: when a slice value reads as a list of updates, whole with their effects; what the call's own list is. No conditions beyond those that each lemma names. (Written by mk_sbase.py.)
-/
import Derived.Test.YtdfablboenfblaaDoorQSM1
import Derived.Test.YtdfablboenfblaaDoorQUPool
namespace Go.Proofs.YtdfablboenfblaaDoor.ST
open Go.RowKit
open UM (Ef)
open SM (Fp)

/-! A list of updates, with their effects. -/
def sl (q : Up) : Value := .slice q.2.2.2.1 q.2.2.2.2.1 q.2.2.2.2.2
def Tell1 (w : World) (q : Up) (f : Fp) : Prop := q.1 = f.1 ∧ q.2.1 = f.2.1 ∧ q.2.2.1 = f.2.2.1 ∧ RdEf w (sl q) f.2.2.2
theorem Tell1.below {w w' : World} {q : Up} {f : Fp} (h : Tell1 w q f) (hb : Below w.heap.size w w') : Tell1 w' q f := ⟨h.1, h.2.1, h.2.2.1, h.2.2.2.below hb⟩
def Tel (w : World) : List Up → List Fp → Prop
  | [], [] => True
  | q :: qs, f :: fs => Tell1 w q f ∧ Tel w qs fs
  | _, _ => False
theorem Tel.below {w w' : World} (hb : Below w.heap.size w w') : ∀ {qs : List Up} {fs : List Fp}, Tel w qs fs → Tel w' qs fs
  | [], [], _ => trivial
  | _ :: _, _ :: _, h => ⟨h.1.below hb, Tel.below hb h.2⟩
  | [], _ :: _, h => h.elim
  | _ :: _, [], h => h.elim
theorem Tel.len {w : World} : ∀ {qs : List Up} {fs : List Fp}, Tel w qs fs → qs.length = fs.length
  | [], [], _ => rfl
  | _ :: _, _ :: _, h => by rw [List.length_cons, List.length_cons, Tel.len h.2]
  | [], _ :: _, h => h.elim
  | _ :: _, [], h => h.elim
theorem Tel.get {w : World} : ∀ {qs : List Up} {fs : List Fp} {k : Nat} {f : Fp}, Tel w qs fs → fs[k]? = some f → ∃ q, qs[k]? = some q ∧ Tell1 w q f
  | [], [], _, _, _, hk => by simp at hk
  | q :: _, g :: _, 0, _, h, hk => ⟨q, rfl, by simp at hk; subst hk; exact h.1⟩
  | _ :: qs, _ :: fs, k + 1, f, h, hk => by
    obtain ⟨q, h1, h2⟩ := Tel.get (k := k) h.2 (by simpa using hk)
    exact ⟨q, by simpa using h1, h2⟩
  | [], _ :: _, _, _, h, _ => h.elim
  | _ :: _, [], _, _, h, _ => h.elim
theorem Tel.app {w : World} : ∀ {qs qs2 : List Up} {fs fs2 : List Fp}, Tel w qs fs → Tel w qs2 fs2 → Tel w (qs ++ qs2) (fs ++ fs2)
  | [], _, [], _, _, k => k
  | _ :: _, _, _ :: _, _, h, k => ⟨h.1, Tel.app h.2 k⟩
  | [], _, _ :: _, _, h, _ => h.elim
  | _ :: _, _, [], _, h, _ => h.elim
theorem Tel.drop {w : World} : ∀ {qs : List Up} {fs : List Fp} (n : Nat), Tel w qs fs → Tel w (qs.drop n) (fs.drop n)
  | _, _, 0, h => h
  | [], [], _ + 1, _ => trivial
  | _ :: _, _ :: _, n + 1, h => Tel.drop n h.2
  | [], _ :: _, _, h => h.elim
  | _ :: _, [], _, h => h.elim
theorem Tel.take {w : World} : ∀ {qs : List Up} {fs : List Fp} (n : Nat), Tel w qs fs → Tel w (qs.take n) (fs.take n)
  | _, _, 0, _ => trivial
  | [], [], _ + 1, _ => trivial
  | _ :: _, _ :: _, n + 1, h => ⟨h.1, Tel.take n h.2⟩
  | [], _ :: _, _, h => h.elim
  | _ :: _, [], _, h => h.elim
theorem Tel.one {w : World} {q : Up} {f : Fp} (h : Tell1 w q f) : Tel w [q] [f] := ⟨h, trivial⟩

/-- The slice value v reads in w as the state fs. -/
def RdF (w : World) (v : Value) (fs : List Fp) : Prop := ∃ qs, RdUp w v qs ∧ Tel w qs fs
theorem RdF.below {w w' : World} {v : Value} {fs : List Fp} (h : RdF w v fs) (hb : Below w.heap.size w w') : RdF w' v fs := by
  obtain ⟨qs, h1, h2⟩ := h; exact ⟨qs, h1.below hb, h2.below hb⟩
theorem RdF.nil (w : World) : RdF w (.slice none 0 0) [] := ⟨[], RdG.nil hlUp w, trivial⟩
theorem RdF.shape {w : World} {v : Value} {fs : List Fp} (h : RdF w v fs) : ∃ a c, v = .slice a fs.length c ∧ c ≤ 9223372036854775807 ∧ fs.length ≤ c := by
  obtain ⟨qs, h1, h2⟩ := h
  have := h1.shape
  rw [h2.len] at this
  exact this
/-- 'c[k]': where it lies and what is there. -/
theorem RdF.at_ {w : World} {a : Option Addr} {n c : Nat} {fs : List Fp} (h : RdF w (.slice a n c) fs) (k : Nat) (x m t : Int) (es : List Ef) (hk : fs[k]? = some (x, m, t, es)) :
    ∃ b o ad l cp, (∀ w0, (Instr.indexAt 23 (.slice a n c) (.int .i64 (k : Int))).run Tryd.prog w0 = .ok (.pointer (some ⟨b, o, none⟩)) w0) ∧ b < w.heap.size ∧
      w.cell? ⟨b, o, none⟩ = some (.int .i64 x) ∧ w.cell? ⟨b, o + 1, none⟩ = some (.int .i64 m) ∧ w.cell? ⟨b, o + 2, none⟩ = some (.int .i64 t) ∧ w.cell? ⟨b, o + 3, none⟩ = some (.slice ad l cp) ∧ RdEf w (.slice ad l cp) es := by
  obtain ⟨qs, h1, h2⟩ := h
  obtain ⟨⟨x', m', t', ad, l, cp⟩, h3, h4, h5, h6, h7⟩ := h2.get hk
  simp only at h4 h5 h6
  subst h4 h5 h6
  obtain ⟨b, o, hi, hb, c0, c1, c2, c3⟩ := atUp h1 k _ _ _ _ _ _ h3
  exact ⟨b, o, ad, l, cp, hi, hb, c0, c1, c2, c3, h7⟩
theorem RdF.cutL {w : World} {a : Option Addr} {n c : Nat} {fs : List Fp} (h : RdF w (.slice a n c) fs) (lo : Nat) (h2 : lo ≤ fs.length) :
    ∃ v', (∀ w0 : World, (Instr.slice 23 (.slice a n c) (some (.int .i64 (lo : Int))) none none).run Tryd.prog w0 = .ok v' w0) ∧ RdF w v' (fs.drop lo) := by
  obtain ⟨qs, h3, h4⟩ := h
  obtain ⟨v', h5, h6⟩ := h3.cutL upE lo (by rw [h4.len]; exact h2)
  exact ⟨v', h5, _, h6, h4.drop lo⟩
theorem RdF.cut0 {w : World} {a : Option Addr} {n c : Nat} {fs : List Fp} (h : RdF w (.slice a n c) fs) (hi : Nat) (h2 : hi ≤ fs.length) :
    ∃ v', (∀ w0 : World, (Instr.slice 23 (.slice a n c) none (some (.int .i64 (hi : Int))) none).run Tryd.prog w0 = .ok v' w0) ∧ RdF w v' (fs.take hi) := by
  obtain ⟨qs, h3, h4⟩ := h
  obtain ⟨v', h5, h6⟩ := h3.cut0 upE hi (by rw [h4.len]; exact h2)
  exact ⟨v', h5, _, h6, h4.take hi⟩
/-- A list of the call's own whose updates' effects lie as they did in w0. -/
def OwnF (w0 : World) (base : Nat) (w : World) (v : Value) (fs : List Fp) : Prop := ∃ qs, OwnUp base w v qs ∧ Tel w0 qs fs
theorem OwnF.nil (w0 : World) (base : Nat) (w : World) : OwnF w0 base w (.slice none 0 0) [] := ⟨[], OwnG.nil hlUp _ _ _, trivial⟩
theorem OwnF.rd {w0 w : World} {base : Nat} {v : Value} {fs : List Fp} (h : OwnF w0 base w v fs) (hb : Below w0.heap.size w0 w) : RdF w v fs := by
  obtain ⟨qs, h1, h2⟩ := h; exact ⟨qs, h1.rd, h2.below hb⟩
theorem OwnF.below {w0 w w' : World} {base : Nat} {v : Value} {fs : List Fp} (h : OwnF w0 base w v fs) (hb : Below w.heap.size w w') : OwnF w0 base w' v fs := by
  obtain ⟨qs, h1, h2⟩ := h; exact ⟨qs, h1.below hb, h2⟩
theorem OwnF.shape {w0 w : World} {base : Nat} {v : Value} {fs : List Fp} (h : OwnF w0 base w v fs) : ∃ a c, v = .slice a fs.length c ∧ c ≤ 9223372036854775807 ∧ fs.length ≤ c := by
  obtain ⟨qs, h1, h2⟩ := h
  have := h1.rd.shape
  rw [h2.len] at this
  exact this

end Go.Proofs.YtdfablboenfblaaDoor.ST
