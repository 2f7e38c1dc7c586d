/-
  Lists of package sets' own type in memory, a set's kind as a block, copies of the call's own. No conditions beyond those that each lemma names. (Written by mk_sets.py.)
  The calls of sets.Follows and sets.Validate: what the plain mathematics says. Conditions: the set reads. (Written by mk_sets.py.)
  The call of sets.Validate: the error that the plain mathematics says. Conditions: the set reads. (Written by mk_sets.py.)
  The calls of slices.BinarySearchFunc over a set, sets.Find and sets.Contains. Conditions: the sets read; the first is sorted. (Written by mk_sets.py.)
-/
import Derived.Laws.EntriesVeiled
import Derived.Test.YthfpafnljnnndaaGreatSKH
import Derived.Test.YthfpafnljnnndaaGreatSKG
namespace Go.Proofs.YthfpafnljnnndaaGreat
open Go.RowKit
open JM (Chg)
open CM (Fp)
open VM (Ent)

theorem setE : IsElem Tryz.prog 22 70 3 40 encQ := { proE with ht := Tryz.underlying22 }
/-- 'set[k]': where it lies and what is there. -/
theorem RdF.atS {w : World} {a : Option Addr} {n c : Nat} {fs : List Fp} (h : RdF w (.slice a n c) fs) (k : Nat) (x m : Int) (cs : List Chg) (hk : fs[k]? = some (x, m, cs)) :
    ∃ b o ad l cp, (∀ w0, (Instr.indexAt 22 (.slice a n c) (.int .i64 (k : Int))).run Tryz.prog w0 = .ok (.pointer (some ⟨b, o, none⟩)) w0) ∧ b < w.heap.size ∧
      w.cell? ⟨b, o, none⟩ = some (.int .i64 x) ∧ w.cell? ⟨b, o + 1, none⟩ = some (.int .i64 m) ∧ w.cell? ⟨b, o + 2, none⟩ = some (.slice ad l cp) ∧ RdC w (.slice ad l cp) cs := by
  obtain ⟨qs, h1, h2⟩ := h
  obtain ⟨⟨x', m', ad, l, cp⟩, h3, h4, h5, h6⟩ := h2.get hk
  simp only at h4 h5
  subst h4 h5
  obtain ⟨b, o, g1, g2, g3⟩ := RdG.at_ setE h1 k _ h3
  exact ⟨b, o, ad, l, cp, g1, g2, g3 0 _ rfl, g3 1 _ rfl, g3 2 _ rfl, h6⟩
theorem RdF.cut0S {w : World} {a : Option Addr} {n c : Nat} {fs : List Fp} (h : RdF w (.slice a n c) fs) (hi : Nat) (h2 : hi ≤ fs.length) :
    ∃ v', (∀ w0 : World, (Instr.slice 22 (.slice a n c) none (some (.int .i64 (hi : Int))) none).run Tryz.prog w0 = .ok v' w0) ∧ RdF w v' (fs.take hi) := by
  obtain ⟨qs, h3, h4⟩ := h
  obtain ⟨v', h5, h6⟩ := h3.cut0 setE hi (by rw [h4.len]; exact h2)
  exact ⟨v', h5, _, h6, h4.take hi⟩

/-- The block of a set's kind. -/
def KB (w : World) (K : Nat) : Prop := w.heap[K]? = some (.cells #[.func (.func 91) #[] #[], .func (.func 92) #[] #[], .func (.func 93) #[] #[], .func (.func 94) #[] #[], .func (.func 95) #[] #[], .func (.func 96) #[] #[], .func (.func 97) #[] #[], .func (.func 98) #[] #[], .int .i64 9] 101 (0, 0))
theorem KB.fresh (w : World) : KB (w.alloc (.cells #[.func (.func 91) #[] #[], .func (.func 92) #[] #[], .func (.func 93) #[] #[], .func (.func 94) #[] #[], .func (.func 95) #[] #[], .func (.func 96) #[] #[], .func (.func 97) #[] #[], .func (.func 98) #[] #[], .int .i64 9] 101)) w.heap.size := heap_alloc_new w _
theorem KB.below {w w' : World} {K : Nat} (h : KB w K) (hb : Below w.heap.size w w') : KB w' K := below_block h hb
theorem KB.keep {w w' : World} {K : Nat} (h : KB w K) (hk : KeepsX 70 w w') : KB w' K := hk.at h (by decide)
theorem KB.lt {w : World} {K : Nat} (h : KB w K) : K < w.heap.size := (Array.getElem?_eq_some_iff.1 h).1
theorem KB.cells {w : World} {K : Nat} (h : KB w K) : w.cell? ⟨K, 0, none⟩ = some (.func (.func 91) #[] #[]) ∧ w.cell? ⟨K, 1, none⟩ = some (.func (.func 92) #[] #[]) ∧
    w.cell? ⟨K, 2, none⟩ = some (.func (.func 93) #[] #[]) ∧ w.cell? ⟨K, 3, none⟩ = some (.func (.func 94) #[] #[]) ∧ w.cell? ⟨K, 4, none⟩ = some (.func (.func 95) #[] #[]) ∧
    w.cell? ⟨K, 5, none⟩ = some (.func (.func 96) #[] #[]) ∧ w.cell? ⟨K, 6, none⟩ = some (.func (.func 97) #[] #[]) ∧ w.cell? ⟨K, 7, none⟩ = some (.func (.func 98) #[] #[]) ∧ w.cell? ⟨K, 8, none⟩ = some (.int .i64 9) := by
  unfold KB at h
  refine ⟨?_, ?_, ?_, ?_, ?_, ?_, ?_, ?_, ?_⟩ <;> simp [World.cell?, h]
theorem KB.later {w : World} {K : Nat} (h : KB w K) : (∀ p : Later w, p.val.cell? ⟨K, 0, none⟩ = some (.func (.func 91) #[] #[])) ∧ (∀ p : Later w, p.val.cell? ⟨K, 1, none⟩ = some (.func (.func 92) #[] #[])) ∧
    (∀ p : Later w, p.val.cell? ⟨K, 2, none⟩ = some (.func (.func 93) #[] #[])) ∧ (∀ p : Later w, p.val.cell? ⟨K, 3, none⟩ = some (.func (.func 94) #[] #[])) ∧ (∀ p : Later w, p.val.cell? ⟨K, 4, none⟩ = some (.func (.func 95) #[] #[])) ∧
    (∀ p : Later w, p.val.cell? ⟨K, 5, none⟩ = some (.func (.func 96) #[] #[])) ∧ (∀ p : Later w, p.val.cell? ⟨K, 6, none⟩ = some (.func (.func 97) #[] #[])) ∧ (∀ p : Later w, p.val.cell? ⟨K, 7, none⟩ = some (.func (.func 98) #[] #[])) ∧ (∀ p : Later w, p.val.cell? ⟨K, 8, none⟩ = some (.int .i64 9)) := by
  obtain ⟨k0, k1, k2, k3, k4, k5, k6, k7, k8⟩ := h.cells
  exact ⟨fun p => below_cell p.h k0, fun p => below_cell p.h k1, fun p => below_cell p.h k2, fun p => below_cell p.h k3, fun p => below_cell p.h k4, fun p => below_cell p.h k5, fun p => below_cell p.h k6, fun p => below_cell p.h k7, fun p => below_cell p.h k8⟩
theorem lat_e {w : World} {B : Nat} {x m : Int} {s : Value} (h : OP w B x m s) : (∀ p : Later w, p.val.cell? ⟨B, 0, none⟩ = some (.int .i64 x)) ∧ (∀ p : Later w, p.val.cell? ⟨B, 1, none⟩ = some (.int .i64 m)) ∧ ∀ p : Later w, p.val.cell? ⟨B, 2, none⟩ = some s := by
  obtain ⟨c0, c1, c2, _⟩ := h.cells
  exact ⟨fun p => below_cell p.h c0, fun p => below_cell p.h c1, fun p => below_cell p.h c2⟩
/-- The world behind a set's kind and an element that came by value. -/
structure KBox (w w2 : World) (x m : Int) (s : Value) : Prop where
  eq : (w.alloc (.cells #[.func (.func 91) #[] #[], .func (.func 92) #[] #[], .func (.func 93) #[] #[], .func (.func 94) #[] #[], .func (.func 95) #[] #[], .func (.func 96) #[] #[], .func (.func 97) #[] #[], .func (.func 98) #[] #[], .int .i64 9] 101)).alloc (.cells #[.int .i64 x, .int .i64 m, s] 70) = w2
  k : KB w2 w.heap.size
  e : OP w2 (w.heap.size + 1) x m s
  below : Below w.heap.size w w2
  size : w2.heap.size = w.heap.size + 2
theorem kbox (w : World) (x m : Int) (s : Value) : ∃ w2, KBox w w2 x m s := by
  have b1 := below_fresh w (.cells #[.func (.func 91) #[] #[], .func (.func 92) #[] #[], .func (.func 93) #[] #[], .func (.func 94) #[] #[], .func (.func 95) #[] #[], .func (.func 96) #[] #[], .func (.func 97) #[] #[], .func (.func 98) #[] #[], .int .i64 9] 101)
  have k1 := KB.fresh w
  have z1 := World.size_alloc w (.cells #[.func (.func 91) #[] #[], .func (.func 92) #[] #[], .func (.func 93) #[] #[], .func (.func 94) #[] #[], .func (.func 95) #[] #[], .func (.func 96) #[] #[], .func (.func 97) #[] #[], .func (.func 98) #[] #[], .int .i64 9] 101)
  obtain ⟨w1, hw1⟩ : ∃ z, w.alloc (.cells #[.func (.func 91) #[] #[], .func (.func 92) #[] #[], .func (.func 93) #[] #[], .func (.func 94) #[] #[], .func (.func 95) #[] #[], .func (.func 96) #[] #[], .func (.func 97) #[] #[], .func (.func 98) #[] #[], .int .i64 9] 101) = z := ⟨_, rfl⟩
  rw [hw1] at b1 k1 z1
  have b2 := below_fresh w1 (.cells #[.int .i64 x, .int .i64 m, s] 70)
  have o2 := OP.fresh w1 x m s
  rw [z1] at o2
  exact ⟨_, by rw [hw1], k1.below b2, o2, bnext b1 b2, by rw [World.size_alloc, z1]⟩
/-- The world behind a set's kind alone. -/
structure KOne (w w1 : World) : Prop where
  eq : w.alloc (.cells #[.func (.func 91) #[] #[], .func (.func 92) #[] #[], .func (.func 93) #[] #[], .func (.func 94) #[] #[], .func (.func 95) #[] #[], .func (.func 96) #[] #[], .func (.func 97) #[] #[], .func (.func 98) #[] #[], .int .i64 9] 101) = w1
  k : KB w1 w.heap.size
  below : Below w.heap.size w w1
theorem kone (w : World) : ∃ w1, KOne w w1 := ⟨_, rfl, KB.fresh w, below_fresh w _⟩
/-- The world behind an element's own block. -/
structure EOne (w w1 : World) (x m : Int) (s : Value) : Prop where
  eq : w.alloc (.cells #[.int .i64 x, .int .i64 m, s] 70) = w1
  e : OP w1 w.heap.size x m s
  below : Below w.heap.size w w1
  size : w1.heap.size = w.heap.size + 1
theorem eone (w : World) (x m : Int) (s : Value) : ∃ w1, EOne w w1 x m s := ⟨_, rfl, OP.fresh w x m s, below_fresh w _, World.size_alloc w _⟩
theorem el_ret {R : Ending → World → Prop} {a : Act} {w : World} {g : Nat} (hp : a.tmps.getD 0 undef = .pointer (some ⟨g, 0, none⟩)) (hg : KB w g)
    (hd : a.defers = []) (hR : R (.returned (.agg #[.func (.func 91) #[] #[], .func (.func 92) #[] #[], .func (.func 93) #[] #[], .func (.func 94) #[] #[], .func (.func 95) #[] #[], .func (.func 96) #[] #[], .func (.func 97) #[] #[], .func (.func 98) #[] #[], .int .i64 9])) w) : bodyPost Tryz.prog Tryz.f64 R .ret a w :=
  bodyPost_ret (results_cell_row (P := Tryz.prog) rfl a.tmps w g 101 _ _ _ hp hg Tryz.underlying101 rfl (by kernel_rfl)) hd hR

set_option maxRecDepth 100000 in
set_option maxHeartbeats 2000000 in
theorem cElements (w : World) : Calls Tryz.prog 64 #[] w fun e w' => e = .returned (.agg #[.func (.func 91) #[] #[], .func (.func 92) #[] #[], .func (.func 93) #[] #[], .func (.func 94) #[] #[], .func (.func 95) #[] #[], .func (.func 96) #[] #[], .func (.func 97) #[] #[], .func (.func 98) #[] #[], .int .i64 9]) ∧ Below w.heap.size w w' := by
  have hb := below_fresh w (.cells #[.func (.func 91) #[] #[], .func (.func 92) #[] #[], .func (.func 93) #[] #[], .func (.func 94) #[] #[], .func (.func 95) #[] #[], .func (.func 96) #[] #[], .func (.func 97) #[] #[], .func (.func 98) #[] #[], .int .i64 9] 101)
  have hk := KB.fresh w
  obtain ⟨w1, hw1⟩ : ∃ z, w.alloc (.cells #[.func (.func 91) #[] #[], .func (.func 92) #[] #[], .func (.func 93) #[] #[], .func (.func 94) #[] #[], .func (.func 95) #[] #[], .func (.func 96) #[] #[], .func (.func 97) #[] #[], .func (.func 98) #[] #[], .int .i64 9] 101) = z := ⟨_, rfl⟩
  rw [hw1] at hb hk
  have HW := Lib.hid hw1
  have HB := Lib.hid hb
  have HK := Lib.hid hk
  clear hw1 hb hk
  go_enter Tryz.func64, Tryz.ntmps64
  go_wp2
  rw [HW.out]
  refine el_ret rfl HK.out rfl ?_
  exact ⟨rfl, HB.out⟩

set_option maxRecDepth 100000 in
set_option maxHeartbeats 1000000 in
theorem cAuth (x m : Int) (a : Option Addr) (l c : Nat) (w : World) : Calls Tryz.prog 91 #[pv x m (.slice a l c)] w fun e w' => e = .returned (.int .i64 x) ∧ Below w.heap.size w w' := by
  have hb := below_fresh w (.cells #[.int .i64 x, .int .i64 m, .slice a l c] 70)
  go_enter Tryz.func91, Tryz.ntmps91
  go_wp2
  go_ret
  exact ⟨rfl, hb⟩
set_option maxRecDepth 100000 in
set_option maxHeartbeats 1000000 in
theorem cNumb (x m : Int) (a : Option Addr) (l c : Nat) (w : World) : Calls Tryz.prog 92 #[pv x m (.slice a l c)] w fun e w' => e = .returned (.int .i64 m) ∧ Below w.heap.size w w' := by
  have hb := below_fresh w (.cells #[.int .i64 x, .int .i64 m, .slice a l c] 70)
  go_enter Tryz.func92, Tryz.ntmps92
  go_wp2
  go_ret
  exact ⟨rfl, hb⟩

section
variable {α : Type} {P : Program} {t e : TypeId} {size bytes : Nat} {enc : α → List Value}
variable {w : World} {ops : Array Oper} {o : Oper} {a : Act} {K : Act → World → Prop} {Q : Exit → Act → World → Prop} {F : Prop} {base : Nat} {v : Value} {ys : List α}
end

/-- 'out[k] = e' in the call's own list. -/
theorem own_put {base : Nat} {w : World} {a : Option Addr} {n c : Nat} {xs : List Pro} (h : OwnQ base w (.slice a n c) xs) {k : Nat} {q : Pro} (hk : xs[k]? = some q) :
    ∃ g o, (∀ w0, (Instr.indexAt 22 (.slice a n c) (.int .i64 (k : Int))).run Tryz.prog w0 = .ok (.pointer (some ⟨g, o, none⟩)) w0) ∧ base ≤ g ∧ g < w.heap.size ∧
      (∀ j u, (encQ q)[j]? = some u → w.cell? ⟨g, o + j, none⟩ = some u ∧ w.frozen? ⟨g, o + j, none⟩ = false) ∧
      ∀ (x m : Int) (ad : Option Addr) (l cp : Nat), OwnQ base (((w.setCell ⟨g, o, none⟩ (.int .i64 x)).setCell ⟨g, o + 1, none⟩ (.int .i64 m)).setCell ⟨g, o + 2, none⟩ (.slice ad l cp)) (.slice a n c) (xs.set k (x, m, ad, l, cp)) ∧
        Below base w (((w.setCell ⟨g, o, none⟩ (.int .i64 x)).setCell ⟨g, o + 1, none⟩ (.int .i64 m)).setCell ⟨g, o + 2, none⟩ (.slice ad l cp)) ∧
        KeepsX 70 w (((w.setCell ⟨g, o, none⟩ (.int .i64 x)).setCell ⟨g, o + 1, none⟩ (.int .i64 m)).setCell ⟨g, o + 2, none⟩ (.slice ad l cp)) := by
  obtain ⟨g, o, a', c', hv, hi, h1, h2, h3, h4⟩ := h.at_put setE hk
  cases hv
  have hlt := (List.getElem?_eq_some_iff.1 hk).1
  refine ⟨g, o, hi, h1, h2, h3, fun x m ad l cp => ?_⟩
  obtain ⟨x0, m0, ad0, l0, cp0⟩ := q
  have step : ∀ {w1 : World} {ys : List Pro} {y z : Pro} {j : Nat} {u : Value}, OwnQ base w1 (.slice a xs.length c) ys → ys.length = xs.length → ys[k]? = some y → j < 3 → encQ z = (encQ y).set j u →
      OwnQ base (w1.setCell ⟨g, o + j, none⟩ u) (.slice a xs.length c) (ys.set k z) ∧ (ys.set k z).length = xs.length ∧ (ys.set k z)[k]? = some z ∧ Below base w1 (w1.setCell ⟨g, o + j, none⟩ u) ∧ KeepsX 70 w1 (w1.setCell ⟨g, o + j, none⟩ u) := by
    intro w1 ys y z j u k1 k2 k3 k4 k5
    obtain ⟨g', o', a', c', hv', hi', _, _, _, h4'⟩ := k1.at_put setE k3
    rw [k2] at hv' hi' h4'
    cases hv'
    have e := idx_same w1 hi hi'
    cases e
    obtain ⟨r1, r2, r3⟩ := h4' j z u k4 k5
    exact ⟨r1, by rw [List.length_set, k2], by rw [List.getElem?_set_self (by omega)], r2, r3⟩
  obtain ⟨a1, a2, a3, a4, a5⟩ := step (z := (x, m0, ad0, l0, cp0)) (j := 0) (u := .int .i64 x) h rfl hk (by decide) rfl
  obtain ⟨b1, b2, b3, b4, b5⟩ := step (z := (x, m, ad0, l0, cp0)) (j := 1) (u := .int .i64 m) a1 a2 a3 (by decide) rfl
  obtain ⟨e1, _, _, e4, e5⟩ := step (z := (x, m, ad, l, cp)) (j := 2) (u := .slice ad l cp) b1 b2 b3 (by decide) rfl
  refine ⟨?_, (a4.trans b4).trans e4, KeepsX.trans (KeepsX.trans a5 a4.size b5) (a4.trans b4).size e5⟩
  have : (((xs.set k (x, m0, ad0, l0, cp0)).set k (x, m, ad0, l0, cp0)).set k (x, m, ad, l, cp)) = xs.set k (x, m, ad, l, cp) := by simp [List.set_set]
  rw [← this]
  exact e1
/-- A set of the call's own: its elements and what they hold. -/
def OwnD (base : Nat) (w : World) (v : Value) (fs : List Fp) : Prop := ∃ qs, OwnQ base w v qs ∧ TelO base w qs fs
theorem OwnD.rd {base : Nat} {w : World} {v : Value} {fs : List Fp} (h : OwnD base w v fs) : RdF w v fs := by
  obtain ⟨qs, h1, h2⟩ := h; exact ⟨qs, h1.rd, h2.rd⟩
theorem OwnD.mono {base b2 : Nat} {w : World} {v : Value} {fs : List Fp} (h : OwnD base w v fs) (hle : b2 ≤ base) : OwnD b2 w v fs := by
  obtain ⟨qs, h1, h2⟩ := h; exact ⟨qs, h1.mono hle, h2.mono hle⟩
theorem OwnD.below {base : Nat} {w w' : World} {v : Value} {fs : List Fp} (h : OwnD base w v fs) (hb : Below w.heap.size w w') : OwnD base w' v fs := by
  obtain ⟨qs, h1, h2⟩ := h; exact ⟨qs, h1.below hb, h2.below hb⟩
theorem TelO.keepX {base : Nat} {e : TypeId} {w w' : World} (hk : KeepsX e w w') (he : 67 ≠ e) : ∀ {qs : List Pro} {fs : List Fp}, TelO base w qs fs → TelO base w' qs fs
  | [], [], _ => trivial
  | _ :: _, _ :: _, h => ⟨⟨h.1.1, h.1.2.1, ownG_keep h.1.2.2 hk he⟩, TelO.keepX hk he h.2⟩
  | [], _ :: _, h => h.elim
  | _ :: _, [], h => h.elim
theorem OwnD.keep {base : Nat} {e : TypeId} {w w' : World} {v : Value} {fs : List Fp} (h : OwnD base w v fs) (hk : KeepsX e w w') (h1 : 70 ≠ e) (h2 : 67 ≠ e) : OwnD base w' v fs := by
  obtain ⟨qs, g1, g2⟩ := h; exact ⟨qs, ownG_keep g1 hk h1, g2.keepX hk h2⟩
theorem OwnD.nil (base : Nat) (w : World) : OwnD base w (.slice none 0 0) [] := ⟨[], OwnG.nil hlQ _ _ _, trivial⟩

end Go.Proofs.YthfpafnljnnndaaGreat

namespace Go.Proofs.YthfpafnljnnndaaGreat
open Go.RowKit
open JM (Chg)
open CM (Fp)

theorem pre_take {fs : List Fp} {k : Nat} (hk : k ≤ fs.length) : pre (fs.take k) (fs.take k).length = pre fs k := by
  rw [List.length_take, Nat.min_eq_left hk]
  unfold pre
  by_cases h : k = 0
  · rw [if_pos h, if_pos h]
  · rw [if_neg h, if_neg h]
    have : (fs.take k).getD (k - 1) (0, 0, []) = fs.getD (k - 1) (0, 0, []) := by simp [List.getD, show k - 1 < k by omega]
    rw [this]
/-- What Follows answers. -/
def folS (fs : List Fp) (x m : Int) : Bool := decide (m ≤ 1 ∨ ((pre fs fs.length).1 = x ∧ (pre fs fs.length).2 = m - 1))

set_option maxRecDepth 100000 in
set_option maxHeartbeats 4000000 in
theorem sFollows (v : Value) (fs : List Fp) (x m : Int) (da : Option Addr) (dl dc : Nat) (w : World) (h : RdF w v fs) (hm : 1 ≤ m ∧ m ≤ 100) (hx : x ≠ 0) :
    Calls Tryz.prog 134 #[(.agg #[.func (.func 91) #[] #[], .func (.func 92) #[] #[], .func (.func 93) #[] #[], .func (.func 94) #[] #[], .func (.func 95) #[] #[], .func (.func 96) #[] #[], .func (.func 97) #[] #[], .func (.func 98) #[] #[], .int .i64 9]), v, pv x m (.slice da dl dc)] w fun e w' => e = .returned (.bool (folS fs x m)) ∧ Below w.heap.size w w' := by
  obtain ⟨va, vc, rfl, hvc, _⟩ := h.shape
  obtain ⟨w2, HX⟩ := kbox w x m (.slice da dl dc)
  have HW := Lib.hid HX.eq
  have HB := Lib.hid HX.below
  have HK := Lib.hid HX.k
  have HP := Lib.hid HX.e
  have H2 := Lib.hid (h.below HX.below)
  obtain ⟨hm1, hm2⟩ := hm
  obtain ⟨K, hK⟩ : ∃ K, w.heap.size = K := ⟨_, rfl⟩
  rw [hK] at HK HP
  have HKE := Lib.hid hK
  clear HX h hK
  obtain ⟨R, hR⟩ : ∃ R, R = folS fs x m := ⟨_, rfl⟩
  rw [← hR]
  have HR := Lib.hid hR
  clear hR
  have HN := Lib.hid (cNumb x m da dl dc w2)
  obtain ⟨_, k1, _⟩ := HK.out.cells
  obtain ⟨p0, p1, p2, _⟩ := HP.out.cells
  go_enter Tryz.func134, Tryz.ntmps134
  go_upto_region 1 with fail
  rw [HW.out, HKE.out]
  have HB0 := Lib.hid (show Below K w w2 by rw [← HKE.out]; exact HB.out)
  clear HW HB
  go_wp2_with fail
  refine HN.out.mono ?_
  rintro e w3 ⟨rfl, hb3⟩
  have HB3 := Lib.hid (HB0.out.trans (hb3.mono (Nat.le_of_lt HK.out.lt)))
  have HK3 := Lib.hid (HK.out.below hb3)
  have HP3 := Lib.hid (HP.out.below hb3)
  have H3 := Lib.hid (H2.out.below hb3)
  clear k1 p0 p1 p2 HN HK HP H2 hb3
  by_cases h1 : m ≤ 1
  · have e := Lib.hid (show R = true by rw [HR.out]; exact decide_eq_true (.inl h1))
    go_wp2
    go_ret
    rw [e.out, HKE.out]
    exact ⟨rfl, HB3.out⟩
  · by_cases h0 : fs.length = 0
    · have e := Lib.hid (show R = false by
        rw [HR.out]
        refine decide_eq_false ?_
        rintro (h | ⟨h, _⟩)
        · exact h1 h
        · rw [h0, show pre fs 0 = (0, 0) from rfl] at h; exact hx h.symm)
      have hz : ((fs.length : Int) == 0) = true := beq_t (by omega)
      go_wp2
      go_ret
      rw [e.out, HKE.out]
      exact ⟨rfl, HB3.out⟩
    · have hlt : fs.length - 1 < fs.length := by omega
      have hg := List.getElem?_eq_getElem hlt
      have hpk : pre fs fs.length = (fs[fs.length - 1].1, fs[fs.length - 1].2.1) := by simp [pre, h0, List.getD, hg]
      generalize fs[fs.length - 1] = g at hg hpk
      obtain ⟨y, n, ds⟩ := g
      simp only at hpk
      have HR2 := Lib.hid (show R = decide (y = x ∧ n = m - 1) by
        rw [HR.out]; unfold folS; rw [hpk]
        exact decide_eq_decide.2 ⟨fun h => h.resolve_left h1, .inr⟩)
      obtain ⟨b, o, ea, el, ec, hi, hb, c0, c1, c2, _⟩ := H3.out.atS (fs.length - 1) y n ds hg
      rw [show ((fs.length - 1 : Nat) : Int) = (fs.length : Int) - 1 by omega] at hi
      have hz : ((fs.length : Int) == 0) = false := beq_f (by omega)
      have hpos : (0 : Int) < (fs.length : Int) := by omega
      obtain ⟨w4, HX4⟩ := eone w3 y n (.slice ea el ec)
      have HW4 := Lib.hid HX4.eq
      have HL4 := Lib.hid HX4.e
      have HB4 := Lib.hid (HB3.out.trans (HX4.below.mono (Nat.le_of_lt HK3.out.lt)))
      have HK4 := Lib.hid (HK3.out.below HX4.below)
      have HP4 := Lib.hid (HP3.out.below HX4.below)
      have HA1 := Lib.hid (fun p : Later w4 => Calls.later (cAuth y n ea el ec p.val))
      have HA2 := Lib.hid (fun p : Later w4 => Calls.later (cAuth x m da dl dc p.val))
      have HN1 := Lib.hid (fun p : Later w4 => Calls.later (cNumb y n ea el ec p.val))
      have HN2 := Lib.hid (fun p : Later w4 => Calls.later (cNumb x m da dl dc p.val))
      obtain ⟨L, hL⟩ : ∃ L, w3.heap.size = L := ⟨_, rfl⟩
      rw [hL] at HL4
      have HLE := Lib.hid hL
      clear hg hpk HR HX4 HK3 HP3 H3 HB3 hL
      go_upto_region 6 with fail
      rw [HW4.out, HLE.out]
      clear c0 c1 c2 hi hb HW4 HLE
      obtain ⟨j0, j1, _⟩ := HK4.out.later
      obtain ⟨z0, z1, z2⟩ := lat_e HP4.out
      obtain ⟨y0, y1, y2⟩ := lat_e HL4.out
      have hw1 : IntKind.i64.wrap (m - 1) = m - 1 := IntWalk.i64_in _ (by omega)
      by_cases hyx : y = x
      · have q1 : (y == x) = true := beq_t hyx
        by_cases hnm : n = m - 1
        · have q2 : (n == m - 1) = true := beq_t hnm
          have e := Lib.hid (show R = true by rw [HR2.out]; exact decide_eq_true ⟨hyx, hnm⟩)
          clear hyx hnm HR2
          refine wp_region_later (by kernel_rfl) (by kernel_rfl) ?_
          repeat (go_big_quiet_step (first | (go_at_call 91; with_reducible exact HA1.out _) | (go_at_call 91; with_reducible exact HA2.out _) | (go_at_call 92; with_reducible exact HN1.out _) | (go_at_call 92; with_reducible exact HN2.out _)))
          refine wpQuiet_nil ?_
          rintro _ ⟨p, rfl⟩
          have HB5 := Lib.hid (HB4.out.trans (p.h.mono (Nat.le_of_lt HK4.out.lt)))
          generalize p.val = w5 at HB5 ⊢
          go_wp2
          go_ret
          rw [e.out, HKE.out]
          exact ⟨rfl, HB5.out⟩
        · have q2 : (n == m - 1) = false := beq_f hnm
          have e := Lib.hid (show R = false by rw [HR2.out]; exact decide_eq_false (fun h => hnm h.2))
          clear hyx hnm HR2
          refine wp_region_later (by kernel_rfl) (by kernel_rfl) ?_
          repeat (go_big_quiet_step (first | (go_at_call 91; with_reducible exact HA1.out _) | (go_at_call 91; with_reducible exact HA2.out _) | (go_at_call 92; with_reducible exact HN1.out _) | (go_at_call 92; with_reducible exact HN2.out _)))
          refine wpQuiet_nil ?_
          rintro _ ⟨p, rfl⟩
          have HB5 := Lib.hid (HB4.out.trans (p.h.mono (Nat.le_of_lt HK4.out.lt)))
          generalize p.val = w5 at HB5 ⊢
          go_wp2
          go_ret
          rw [e.out, HKE.out]
          exact ⟨rfl, HB5.out⟩
      · have q1 : (y == x) = false := beq_f hyx
        have e := Lib.hid (show R = false by rw [HR2.out]; exact decide_eq_false (fun h => hyx h.1))
        clear hyx HR2
        refine wp_region_later (by kernel_rfl) (by kernel_rfl) ?_
        repeat (go_big_quiet_step (first | (go_at_call 91; with_reducible exact HA1.out _) | (go_at_call 91; with_reducible exact HA2.out _)))
        refine wpQuiet_nil ?_
        rintro _ ⟨p, rfl⟩
        have HB5 := Lib.hid (HB4.out.trans (p.h.mono (Nat.le_of_lt HK4.out.lt)))
        generalize p.val = w5 at HB5 ⊢
        go_wp2
        go_ret
        rw [e.out, HKE.out]
        exact ⟨rfl, HB5.out⟩

end Go.Proofs.YthfpafnljnnndaaGreat

namespace Go.Proofs.YthfpafnljnnndaaGreat
open Go.RowKit
open JM (Chg)
open CM (Fp)

set_option maxRecDepth 100000 in
set_option maxHeartbeats 8000000 in
theorem sValidate (v : Value) (fs : List Fp) (w : World) (h : RdF w v fs) :
    Calls Tryz.prog 100 #[(.agg #[.func (.func 91) #[] #[], .func (.func 92) #[] #[], .func (.func 93) #[] #[], .func (.func 94) #[] #[], .func (.func 95) #[] #[], .func (.func 96) #[] #[], .func (.func 97) #[] #[], .func (.func 98) #[] #[], .int .i64 9]), v] w fun e w' => e = .returned (.int .i64 (CM.errL (0, 0) fs)) ∧ Below w.heap.size w w' := by
  obtain ⟨ad, c, rfl, hc, hl⟩ := h.shape
  obtain ⟨R, hR⟩ : ∃ R, R = CM.errL (0, 0) fs := ⟨_, rfl⟩
  rw [← hR]
  have H := Lib.hid h
  have HR := Lib.hid hR
  obtain ⟨w0, HX⟩ := kone w
  have HW := Lib.hid HX.eq
  have HB0 := Lib.hid HX.below
  have HK0 := Lib.hid HX.k
  obtain ⟨K, hK⟩ : ∃ K, w.heap.size = K := ⟨_, rfl⟩
  rw [hK] at HK0
  have HKE := Lib.hid hK
  clear h hR HX hK
  go_enter Tryz.func100, Tryz.ntmps100
  go_upto_region 1 with fail
  rw [HW.out, HKE.out]
  clear HW
  go_wp2
  go_loopw [10] (fun i wr => ∃ (k : Nat), k ≤ fs.length ∧ i = .int .i64 k ∧ Hid (Below w.heap.size w wr) ∧ Hid (KB wr K) ∧ Hid (R = CM.errL (pre fs k) (fs.drop k))) (fun i _ => fs.length - (intOf i).toNat)
  case atStart => exact ⟨0, Nat.zero_le _, rfl, HB0.out, HK0.out, HR.out⟩
  case round =>
    obtain ⟨k, hk, rfl, hbl, hkb, he⟩ := hrel
    clear HR HB0 HK0
    by_cases hlt : k < fs.length
    · have hq : (k : Int) < (fs.length : Int) := by omega
      have hd := Lib.hid (drop_get hlt)
      have hk2 := List.getElem?_eq_getElem hlt
      have hp := Lib.hid (pre_succ hk2)
      generalize fs[k] = f at hd hk2 hp
      obtain ⟨x, m, cs⟩ := f
      obtain ⟨b, o, da, dl, dc, hi, hb, c0, c1, c2, hrd⟩ := (H.out.below hbl.out).atS k x m cs hk2
      have e1 := Lib.hid (he.out.trans ((congrArg (CM.errL (pre fs k)) hd.out).trans (errL_step _ _ _)))
      have e2 : Hid (R = if JM.errP x m cs ≠ 0 then JM.errP x m cs else if JM.cmpP x m (pre fs k).1 (pre fs k).2 ≤ 0 then 7 else if 1 < m ∧ ¬ ((pre fs k).1 = x ∧ (pre fs k).2 = m - 1) then 8 else CM.errL (x, m) (fs.drop (k + 1))) := e1.out
      have hp' : Hid (pre fs (k + 1) = (x, m)) := hp.out
      have HN := Lib.hid (fun h => CM.errF_num (f := (x, m, cs)) h)
      obtain ⟨wx, HX⟩ := eone wr x m (.slice da dl dc)
      have HWX := Lib.hid HX.eq
      have HBX := Lib.hid (bnext hbl.out HX.below)
      have HKX := Lib.hid (hkb.out.below HX.below)
      have HPX := Lib.hid HX.e
      have HV := Lib.hid (cValidate x m (.slice da dl dc) cs wx (hrd.below HX.below))
      obtain ⟨B, hB⟩ : ∃ B, wr.heap.size = B := ⟨_, rfl⟩
      rw [hB] at HPX
      have HBE := Lib.hid hB
      clear hk2 he hd e1 hp hrd HX hB hbl hkb
      go_upto_region 4 with fail
      rw [HWX.out, HBE.out]
      clear c0 c1 c2 hi hb HWX
      obtain ⟨p0, p1, p2, _⟩ := HPX.out.cells
      obtain ⟨_, _, j2, _⟩ := HKX.out.cells
      by_cases hE : JM.errP x m cs = 0
      · obtain ⟨n1, n2, n3, n4⟩ := HN.out hE
        simp only at n1 n2 n3 n4
        rw [hE] at HV
        have e3 := Lib.hid (e2.out.trans (if_neg (by rw [hE]; simp)))
        clear e2 hE HN
        go_wp2_with fail
        refine HV.out.mono ?_
        rintro e w1 ⟨rfl, hb1⟩
        have HP1 := Lib.hid (HPX.out.below hb1)
        have HK1 := Lib.hid (HKX.out.below hb1)
        have HB1 := Lib.hid (bnext HBX.out hb1)
        clear p0 p1 p2 j2 HV hb1 HBX HKX HPX
        have hFT : ∀ w2, Below w.heap.size w w2 → ∃ v2, (∀ w0 : World, (Instr.slice 22 (.slice ad fs.length c) none (some (.int .i64 (k : Int))) none).run Tryz.prog w0 = .ok v2 w0) ∧ RdF w2 v2 (fs.take k) := fun w2 hb => (H.out.below hb).cut0S k (by omega)
        obtain ⟨v2, hcut, hr1⟩ := hFT w1 HB1.out
        have HFO := Lib.hid (fun w' (hb : Below w1.heap.size w1 w') => sFollows v2 (fs.take k) x m da dl dc w' (hr1.below hb) ⟨n3, by omega⟩ (by omega))
        obtain ⟨z0, z1, z2⟩ := lat_e HP1.out
        obtain ⟨l0, l1, l2, l3, l4, l5, l6, l7, l8⟩ := HK1.out.later
        clear hFT hr1
        by_cases h0 : k = 0
        · have hkd : decide ((0 : Int) < (k : Int)) = false := decide_eq_false (by omega)
          have hkn : decide (0 < k) = false := decide_eq_false (by omega)
          have hpk : pre fs k = (0, 0) := by rw [h0]; rfl
          have e4 := Lib.hid (e3.out.trans (if_neg (by rw [hpk]; show ¬ JM.cmpP x m 0 0 ≤ 0; have := (@CM.cmpP_pos x m 0 0).2 (by omega); omega)))
          have hfo := pre_take (show k ≤ fs.length by omega)
          clear e3 h0 hpk
          by_cases hG : 1 < m ∧ ¬ ((pre fs k).1 = x ∧ (pre fs k).2 = m - 1)
          · have e5 := Lib.hid (e4.out.trans (if_pos hG))
            have hff : folS (fs.take k) x m = false := by unfold folS; rw [hfo]; exact decide_eq_false (fun h => h.elim (fun h => by omega) (fun h => hG.2 h))
            rw [hff] at HFO
            clear e4 hG hfo hff
            go_wp2
            refine wp_region_later (by kernel_rfl) (by kernel_rfl) ?_
            repeat (go_big_quiet_step (fail))
            refine wpQuiet_nil ?_
            rintro _ ⟨p, rfl⟩
            have HB2 := Lib.hid (bnext HB1.out p.h)
            have HK2 := Lib.hid (HK1.out.below p.h)
            have HP2 := Lib.hid (HP1.out.below p.h)
            have HFO2 := Lib.hid (fun q : Later p.val => Calls.later (HFO.out q.val (bnext p.h q.h)))
            clear z0 z1 z2 l0 l1 l2 l3 l4 l5 l6 l7 l8 HFO HK1 HP1 HB1
            generalize p.val = w2 at HB2 HK2 HP2 HFO2 ⊢
            obtain ⟨z0, z1, z2⟩ := lat_e HP2.out
            obtain ⟨l0, l1, l2, l3, l4, l5, l6, l7, l8⟩ := HK2.out.later
            go_wp2
            refine wp_region_later (by kernel_rfl) (by kernel_rfl) ?_
            repeat (go_big_quiet_step (first | (go_at_call 134; with_reducible exact HFO2.out _)))
            refine wpQuiet_nil ?_
            rintro _ ⟨p', rfl⟩
            have HB3 := Lib.hid (bnext HB2.out p'.h)
            have HK3 := Lib.hid (HK2.out.below p'.h)
            generalize p'.val = w3 at HB3 HK3 ⊢
            clear z0 z1 z2 l0 l1 l2 l3 l4 l5 l6 l7 l8 HFO2 HK2 HP2 HB2
            go_wp2
            go_ret
            rw [e5.out]
            exact ⟨rfl, HB3.out⟩
          · have e5 := Lib.hid (e4.out.trans (if_neg hG))
            have hff : folS (fs.take k) x m = true := by
              unfold folS; rw [hfo]
              by_cases hm : m ≤ 1
              · exact decide_eq_true (.inl hm)
              · refine decide_eq_true (.inr ?_)
                by_cases hH : (pre fs k).1 = x ∧ (pre fs k).2 = m - 1
                · exact hH
                · exact absurd ⟨by omega, hH⟩ hG
            rw [hff] at HFO
            clear e4 hG hfo hff
            go_wp2
            refine wp_region_later (by kernel_rfl) (by kernel_rfl) ?_
            repeat (go_big_quiet_step (fail))
            refine wpQuiet_nil ?_
            rintro _ ⟨p, rfl⟩
            have HB2 := Lib.hid (bnext HB1.out p.h)
            have HK2 := Lib.hid (HK1.out.below p.h)
            have HP2 := Lib.hid (HP1.out.below p.h)
            have HFO2 := Lib.hid (fun q : Later p.val => Calls.later (HFO.out q.val (bnext p.h q.h)))
            clear z0 z1 z2 l0 l1 l2 l3 l4 l5 l6 l7 l8 HFO HK1 HP1 HB1
            generalize p.val = w2 at HB2 HK2 HP2 HFO2 ⊢
            obtain ⟨z0, z1, z2⟩ := lat_e HP2.out
            obtain ⟨l0, l1, l2, l3, l4, l5, l6, l7, l8⟩ := HK2.out.later
            go_wp2
            refine wp_region_later (by kernel_rfl) (by kernel_rfl) ?_
            repeat (go_big_quiet_step (first | (go_at_call 134; with_reducible exact HFO2.out _)))
            refine wpQuiet_nil ?_
            rintro _ ⟨p', rfl⟩
            have HB3 := Lib.hid (bnext HB2.out p'.h)
            have HK3 := Lib.hid (HK2.out.below p'.h)
            generalize p'.val = w3 at HB3 HK3 ⊢
            clear z0 z1 z2 l0 l1 l2 l3 l4 l5 l6 l7 l8 HFO2 HK2 HP2 HB2
            go_wp2
            go_roundw
            case rel => exact ⟨k + 1, by omega, by go_num, HB3.out, HK3.out, by rw [hp'.out]; exact e5.out⟩
            case measure => simp [intOf]; omega
        · have hkd : (0 : Int) < (k : Int) := by omega
          have hkn : 0 < k := by omega
          have hkl : k - 1 < fs.length := by omega
          have hg2 := List.getElem?_eq_getElem hkl
          have hpk : pre fs k = (fs[k - 1].1, fs[k - 1].2.1) := by simp [pre, h0, List.getD, List.getElem?_eq_getElem hkl]
          generalize fs[k - 1] = g at hg2 hpk
          obtain ⟨y, n, ds⟩ := g
          simp only at hpk
          obtain ⟨b2, o2, ea, el, ec, hi2, hb2, f0, f1, f2, hrd2⟩ := (H.out.below HB1.out).atS (k - 1) y n ds hg2
          rw [show ((k - 1 : Nat) : Int) = (k : Int) - 1 by omega] at hi2
          have hC := fun p : Later w1 => Calls.later (cCompare x m da dl dc y n ea el ec p.val)
          have hcc : JM.cmpP x m (pre fs k).1 (pre fs k).2 = JM.cmpP x m y n := by rw [hpk]
          rw [hcc] at e3
          have y0 : ∀ p : Later w1, p.val.cell? ⟨b2, o2, none⟩ = some (.int .i64 y) := fun p => below_cell p.h f0
          have y1 : ∀ p : Later w1, p.val.cell? ⟨b2, o2 + 1, none⟩ = some (.int .i64 n) := fun p => below_cell p.h f1
          have y2 : ∀ p : Later w1, p.val.cell? ⟨b2, o2 + 2, none⟩ = some (.slice ea el ec) := fun p => below_cell p.h f2
          have hfo := pre_take (show k ≤ fs.length by omega)
          clear hg2 hrd2 hcc h0 hpk f0 f1 f2
          by_cases hcl : JM.cmpP x m y n ≤ 0
          · have e4 := Lib.hid (e3.out.trans (if_pos hcl))
            generalize JM.cmpP x m y n = C at hC hcl
            have HC := Lib.hid hC
            clear e3 hC hfo
            go_wp2
            refine wp_region_later (by kernel_rfl) (by kernel_rfl) ?_
            repeat (go_big_quiet_step (first | (go_at_call 94; with_reducible exact HC.out _)))
            refine wpQuiet_nil ?_
            rintro _ ⟨p, rfl⟩
            have HB2 := Lib.hid (bnext HB1.out p.h)
            generalize p.val = w2 at HB2 ⊢
            go_wp2
            go_ret
            rw [e4.out]
            exact ⟨rfl, HB2.out⟩
          · have e4 := Lib.hid (e3.out.trans (if_neg hcl))
            generalize JM.cmpP x m y n = C at hC hcl
            have HC := Lib.hid hC
            clear e3 hC
            by_cases hG : 1 < m ∧ ¬ ((pre fs k).1 = x ∧ (pre fs k).2 = m - 1)
            · have e5 := Lib.hid (e4.out.trans (if_pos hG))
              have hff : folS (fs.take k) x m = false := by unfold folS; rw [hfo]; exact decide_eq_false (fun h => h.elim (fun h => by omega) (fun h => hG.2 h))
              rw [hff] at HFO
              clear e4 hG hfo hff
              go_wp2
              refine wp_region_later (by kernel_rfl) (by kernel_rfl) ?_
              repeat (go_big_quiet_step (first | (go_at_call 94; with_reducible exact HC.out _)))
              refine wpQuiet_nil ?_
              rintro _ ⟨p, rfl⟩
              have HB2 := Lib.hid (bnext HB1.out p.h)
              have HK2 := Lib.hid (HK1.out.below p.h)
              have HP2 := Lib.hid (HP1.out.below p.h)
              have HFO2 := Lib.hid (fun q : Later p.val => Calls.later (HFO.out q.val (bnext p.h q.h)))
              clear z0 z1 z2 l0 l1 l2 l3 l4 l5 l6 l7 l8 HFO HK1 HP1 HB1
              generalize p.val = w2 at HB2 HK2 HP2 HFO2 ⊢
              obtain ⟨z0, z1, z2⟩ := lat_e HP2.out
              obtain ⟨l0, l1, l2, l3, l4, l5, l6, l7, l8⟩ := HK2.out.later
              go_wp2
              refine wp_region_later (by kernel_rfl) (by kernel_rfl) ?_
              repeat (go_big_quiet_step (first | (go_at_call 134; with_reducible exact HFO2.out _)))
              refine wpQuiet_nil ?_
              rintro _ ⟨p', rfl⟩
              have HB3 := Lib.hid (bnext HB2.out p'.h)
              have HK3 := Lib.hid (HK2.out.below p'.h)
              generalize p'.val = w3 at HB3 HK3 ⊢
              clear z0 z1 z2 l0 l1 l2 l3 l4 l5 l6 l7 l8 HFO2 HK2 HP2 HB2
              go_wp2
              go_ret
              rw [e5.out]
              exact ⟨rfl, HB3.out⟩
            · have e5 := Lib.hid (e4.out.trans (if_neg hG))
              have hff : folS (fs.take k) x m = true := by
                unfold folS; rw [hfo]
                by_cases hm : m ≤ 1
                · exact decide_eq_true (.inl hm)
                · refine decide_eq_true (.inr ?_)
                  by_cases hH : (pre fs k).1 = x ∧ (pre fs k).2 = m - 1
                  · exact hH
                  · exact absurd ⟨by omega, hH⟩ hG
              rw [hff] at HFO
              clear e4 hG hfo hff
              go_wp2
              refine wp_region_later (by kernel_rfl) (by kernel_rfl) ?_
              repeat (go_big_quiet_step (first | (go_at_call 94; with_reducible exact HC.out _)))
              refine wpQuiet_nil ?_
              rintro _ ⟨p, rfl⟩
              have HB2 := Lib.hid (bnext HB1.out p.h)
              have HK2 := Lib.hid (HK1.out.below p.h)
              have HP2 := Lib.hid (HP1.out.below p.h)
              have HFO2 := Lib.hid (fun q : Later p.val => Calls.later (HFO.out q.val (bnext p.h q.h)))
              clear z0 z1 z2 l0 l1 l2 l3 l4 l5 l6 l7 l8 HFO HK1 HP1 HB1
              generalize p.val = w2 at HB2 HK2 HP2 HFO2 ⊢
              obtain ⟨z0, z1, z2⟩ := lat_e HP2.out
              obtain ⟨l0, l1, l2, l3, l4, l5, l6, l7, l8⟩ := HK2.out.later
              go_wp2
              refine wp_region_later (by kernel_rfl) (by kernel_rfl) ?_
              repeat (go_big_quiet_step (first | (go_at_call 134; with_reducible exact HFO2.out _)))
              refine wpQuiet_nil ?_
              rintro _ ⟨p', rfl⟩
              have HB3 := Lib.hid (bnext HB2.out p'.h)
              have HK3 := Lib.hid (HK2.out.below p'.h)
              generalize p'.val = w3 at HB3 HK3 ⊢
              clear z0 z1 z2 l0 l1 l2 l3 l4 l5 l6 l7 l8 HFO2 HK2 HP2 HB2
              go_wp2
              go_roundw
              case rel => exact ⟨k + 1, by omega, by go_num, HB3.out, HK3.out, by rw [hp'.out]; exact e5.out⟩
              case measure => simp [intOf]; omega
      · have e3 := Lib.hid (e2.out.trans (if_pos hE))
        have hne : (JM.errP x m cs != 0) = true := bne_t hE
        generalize JM.errP x m cs = E at HV e3 hne
        clear e2 hE HN
        go_wp2_with fail
        refine HV.out.mono ?_
        rintro e w1 ⟨rfl, hb1⟩
        go_wp2
        go_ret
        rw [e3.out]
        exact ⟨rfl, bnext HBX.out hb1⟩
    · have hq : ¬ ((k : Int) < (fs.length : Int)) := by omega
      have e2 := Lib.hid (show R = 0 by rw [he.out, List.drop_of_length_le (by omega)]; rfl)
      clear he
      go_wp2
      go_ret
      rw [e2.out]
      exact ⟨rfl, hbl.out⟩

end Go.Proofs.YthfpafnljnnndaaGreat

namespace Go.Proofs.YthfpafnljnnndaaGreat
open Go.RowKit
open JM (Chg)
open CM (Fp)

set_option maxRecDepth 100000 in
set_option maxHeartbeats 4000000 in
theorem sSearch (v : Value) (fs : List Fp) (x m : Int) (ua : Option Addr) (ul uc : Nat) (w : World) (h : RdF w v fs) (hv : CM.Srt fs) (hl : fs.length ≤ 1000) :
    Calls Tryz.prog 135 #[v, pv x m (.slice ua ul uc), .func (.func 94) #[] #[]] w
      fun e w' => ∃ i : Nat, e = .returned (.tuple #[.int .i64 i, .bool (fndF fs x m i)]) ∧ AtF fs x m i ∧ Below w.heap.size w w' := by
  obtain ⟨ad, cap, rfl, hc, _⟩ := h.shape
  have hb0 := below_fresh w (.cells #[.int .i64 x, .int .i64 m, .slice ua ul uc] 70)
  have hP0 := OP.fresh w x m (.slice ua ul uc)
  have hB : w.heap.size < (w.alloc (.cells #[.int .i64 x, .int .i64 m, .slice ua ul uc] 70)).heap.size := by rw [World.size_alloc]; exact Nat.lt_succ_self _
  have H := Lib.hid (h.below hb0)
  have HV := Lib.hid hv
  clear h hv
  go_enter Tryz.func135, Tryz.ntmps135
  go_wp2
  obtain ⟨w0, hw0⟩ : ∃ w0, w.alloc (.cells #[.int .i64 x, .int .i64 m, .slice ua ul uc] 70) = w0 := ⟨_, rfl⟩
  rw [hw0] at hb0 hP0 H hB ⊢
  obtain ⟨B, hBe⟩ : ∃ B, B = w.heap.size := ⟨_, rfl⟩
  rw [← hBe] at hP0 hB ⊢
  have HP := Lib.hid hP0
  have HB := Lib.hid (show Below B w w0 by rw [hBe]; exact hb0)
  have HBE := Lib.hid hBe
  clear hw0 hb0 hP0 hBe
  go_loopw [9, 10] (fun i j wr => ∃ p q : Nat, p ≤ q ∧ q ≤ fs.length ∧ i = .int .i64 p ∧ j = .int .i64 q ∧ Below w0.heap.size w0 wr ∧ Hid (∀ k f, fs[k]? = some f → k < p → JM.cmpP f.1 f.2.1 x m < 0) ∧ Hid (∀ k f, fs[k]? = some f → q ≤ k → 0 ≤ JM.cmpP f.1 f.2.1 x m)) (fun i j _ => (intOf j - intOf i).toNat)
  case atStart => exact ⟨0, fs.length, Nat.zero_le _, Nat.le_refl _, rfl, rfl, Below.refl _ _, (by show ∀ k e, _; intro k e _ h; omega), (by show ∀ k e, _; intro k e hk h; have := (List.getElem?_eq_some_iff.1 hk).1; omega)⟩
  case round =>
    obtain ⟨p, q, hpq, hq, rfl, rfl, hbl, hlo, hhi⟩ := hrel
    obtain ⟨r0, r1, r2, _⟩ := (HP.out.below hbl).cells
    have z0 : ∀ p : Later wr, p.val.cell? ⟨B, 0, none⟩ = some (.int .i64 x) := fun p => below_cell p.h r0
    have z1 : ∀ p : Later wr, p.val.cell? ⟨B, 1, none⟩ = some (.int .i64 m) := fun p => below_cell p.h r1
    have z2 : ∀ p : Later wr, p.val.cell? ⟨B, 2, none⟩ = some (.slice ua ul uc) := fun p => below_cell p.h r2
    clear r0 r1 r2
    by_cases hlt : p < q
    · have hq1 : (p : Int) < (q : Int) := by omega
      have hmid : (p + q) / 2 < fs.length := by omega
      have hg := List.getElem?_eq_getElem hmid
      generalize fs[(p + q) / 2] = en at hg
      obtain ⟨y, n, cs⟩ := en
      obtain ⟨b, o, da, dl, dc, hi, hb, c0, c1, c2, _⟩ := (H.out.below hbl).atS ((p + q) / 2) y n cs hg
      rw [show (((p + q) / 2 : Nat) : Int) = ((p : Int) + (q : Int)) / 2 by omega] at hi
      have k0 : ∀ p : Later wr, p.val.cell? ⟨b, o, none⟩ = some (.int .i64 y) := fun p => below_cell p.h c0
      have k1 : ∀ p : Later wr, p.val.cell? ⟨b, o + 1, none⟩ = some (.int .i64 n) := fun p => below_cell p.h c1
      have k2 : ∀ p : Later wr, p.val.cell? ⟨b, o + 2, none⟩ = some (.slice da dl dc) := fun p => below_cell p.h c2
      have hC := fun p : Later wr => Calls.later (cCompare y n da dl dc x m ua ul uc p.val)
      by_cases hx : JM.cmpP y n x m < 0
      · have hlo2 := Lib.hid (show ∀ k f, fs[k]? = some f → k < (p + q) / 2 + 1 → JM.cmpP f.1 f.2.1 x m < 0 from fun k e hk hkl => by
          by_cases hkm : k = (p + q) / 2
          · subst hkm
            rw [hg] at hk
            cases hk
            exact hx
          · exact cmp_lt (by have := HV.out.get hk hg (by omega); exact this) hx)
        generalize JM.cmpP y n x m = C at hC hx
        have HC := Lib.hid hC
        clear hlo hg hC c0 c1 c2
        go_wp2
        refine wp_region_later (by kernel_rfl) (by kernel_rfl) ?_
        repeat (go_big_quiet_step (first | (go_at_call 94; with_reducible exact HC.out _)))
        refine wpQuiet_nil ?_
        rintro _ ⟨p', rfl⟩
        have HB2 := Lib.hid (bnext hbl p'.h)
        generalize p'.val = w2 at HB2 ⊢
        clear k0 k1 k2 z0 z1 z2 HC hbl
        go_wp2
        go_roundw
        case rel => exact ⟨(p + q) / 2 + 1, q, by omega, hq, vint (by omega), rfl, HB2.out, hlo2, hhi⟩
        case measure => simp [intOf]; omega
      · have hhi2 := Lib.hid (show ∀ k f, fs[k]? = some f → (p + q) / 2 ≤ k → 0 ≤ JM.cmpP f.1 f.2.1 x m from fun k e hk hkl => by
          by_cases hkm : k = (p + q) / 2
          · subst hkm
            rw [hg] at hk
            cases hk
            show 0 ≤ JM.cmpP y n x m; omega
          · exact cmp_gt (by have := HV.out.get hg hk (by omega); exact this) (show 0 ≤ JM.cmpP y n x m by omega))
        generalize JM.cmpP y n x m = C at hC hx
        have HC := Lib.hid hC
        clear hhi hg hC c0 c1 c2
        go_wp2
        refine wp_region_later (by kernel_rfl) (by kernel_rfl) ?_
        repeat (go_big_quiet_step (first | (go_at_call 94; with_reducible exact HC.out _)))
        refine wpQuiet_nil ?_
        rintro _ ⟨p', rfl⟩
        have HB2 := Lib.hid (bnext hbl p'.h)
        generalize p'.val = w2 at HB2 ⊢
        clear k0 k1 k2 z0 z1 z2 HC hbl
        go_wp2
        go_roundw
        case rel => exact ⟨p, (p + q) / 2, by omega, by omega, rfl, vint (by omega), HB2.out, hlo, hhi2⟩
        case measure => simp [intOf]; omega
    · obtain rfl : p = q := by omega
      have hq1 : ¬ ((p : Int) < (p : Int)) := by omega
      have hat := Lib.hid (show AtF fs x m p from ⟨hq, hlo.out, hhi.out⟩)
      by_cases hpn : p < fs.length
      · have hpi : (p : Int) < (fs.length : Int) := by omega
        have hg := List.getElem?_eq_getElem hpn
        generalize fs[p] = en at hg
        obtain ⟨y, n, cs⟩ := en
        obtain ⟨b, o, da, dl, dc, hi, hb, c0, c1, c2, _⟩ := (H.out.below hbl).atS p y n cs hg
        have k0 : ∀ p : Later wr, p.val.cell? ⟨b, o, none⟩ = some (.int .i64 y) := fun p => below_cell p.h c0
        have k1 : ∀ p : Later wr, p.val.cell? ⟨b, o + 1, none⟩ = some (.int .i64 n) := fun p => below_cell p.h c1
        have k2 : ∀ p : Later wr, p.val.cell? ⟨b, o + 2, none⟩ = some (.slice da dl dc) := fun p => below_cell p.h c2
        have hC := fun p : Later wr => Calls.later (cCompare y n da dl dc x m ua ul uc p.val)
        have hf := Lib.hid (show fndF fs x m p = (JM.cmpP y n x m == 0) by unfold fndF; rw [hg]; by_cases h : JM.cmpP y n x m = 0 <;> simp [h])
        generalize JM.cmpP y n x m = C at hC hf
        have HC := Lib.hid hC
        clear hlo hhi hg hC c0 c1 c2
        go_wp2
        refine wp_region_later (by kernel_rfl) (by kernel_rfl) ?_
        repeat (go_big_quiet_step (first | (go_at_call 94; with_reducible exact HC.out _)))
        refine wpQuiet_nil ?_
        rintro _ ⟨p', rfl⟩
        have HB2 := Lib.hid (bnext hbl p'.h)
        generalize p'.val = w2 at HB2 ⊢
        go_wp2
        go_ret2
        exact ⟨p, by rw [hf.out]; rfl, hat.out, by have := HB.out.trans (HB2.out.mono (Nat.le_of_lt hB)); rw [HBE.out] at this; exact this⟩
      · have hpi : ¬ ((p : Int) < (fs.length : Int)) := by omega
        have hf := Lib.hid (show fndF fs x m p = false by unfold fndF; rw [List.getElem?_eq_none (by omega)])
        clear hlo hhi
        go_wp2
        go_quiet (fail)
        go_wp2
        go_ret2
        exact ⟨p, by rw [hf.out]; rfl, hat.out, by rw [← HBE.out]; exact HB.out.trans ((hbl.trans (below_drewN _ _ _)).mono (Nat.le_of_lt hB))⟩

set_option maxRecDepth 100000 in
set_option maxHeartbeats 1000000 in
theorem sFind (v : Value) (fs : List Fp) (x m : Int) (ua : Option Addr) (ul uc : Nat) (w : World) (h : RdF w v fs) (hv : CM.Srt fs) (hl : fs.length ≤ 1000) :
    Calls Tryz.prog 101 #[(.agg #[.func (.func 91) #[] #[], .func (.func 92) #[] #[], .func (.func 93) #[] #[], .func (.func 94) #[] #[], .func (.func 95) #[] #[], .func (.func 96) #[] #[], .func (.func 97) #[] #[], .func (.func 98) #[] #[], .int .i64 9]), v, pv x m (.slice ua ul uc)] w fun e w' => ∃ i : Nat, e = .returned (.tuple #[.int .i64 i, .bool (fndF fs x m i)]) ∧ AtF fs x m i ∧ Below w.heap.size w w' := by
  obtain ⟨w2, HX⟩ := kbox w x m (.slice ua ul uc)
  have HW := Lib.hid HX.eq
  have HB := Lib.hid HX.below
  have HK := Lib.hid HX.k
  have HP := Lib.hid HX.e
  have HS := Lib.hid (sSearch v fs x m ua ul uc w2 (h.below HX.below) hv hl)
  clear HX h hv
  obtain ⟨_, _, _, k3, _⟩ := HK.out.cells
  obtain ⟨p0, p1, p2, _⟩ := HP.out.cells
  go_enter Tryz.func101, Tryz.ntmps101
  go_upto_region 1 with fail
  rw [HW.out]
  go_wp2_with fail
  refine HS.out.mono ?_
  rintro e w1 ⟨i, rfl, hat, hb⟩
  have HA := Lib.hid hat
  clear hat HS
  obtain ⟨r, hr⟩ : ∃ r, r = fndF fs x m i := ⟨_, rfl⟩
  rw [← hr]
  have HR := Lib.hid hr
  clear hr
  go_wp2
  go_ret2
  exact ⟨i, by rw [← HR.out]; rfl, HA.out, bnext HB.out hb⟩

set_option maxRecDepth 100000 in
set_option maxHeartbeats 2000000 in
theorem sContains (va vb : Value) (xs ys : List Fp) (w : World) (ha : RdF w va xs) (hb : RdF w vb ys) (hs : CM.Srt xs) (hl : xs.length ≤ 1000) :
    Calls Tryz.prog 68 #[(.agg #[.func (.func 91) #[] #[], .func (.func 92) #[] #[], .func (.func 93) #[] #[], .func (.func 94) #[] #[], .func (.func 95) #[] #[], .func (.func 96) #[] #[], .func (.func 97) #[] #[], .func (.func 98) #[] #[], .int .i64 9]), va, vb] w fun e w' => e = .returned (.bool (CM.cons xs ys)) ∧ Below w.heap.size w w' := by
  obtain ⟨aa, ac, rfl, hac, _⟩ := ha.shape
  obtain ⟨ba, bc, rfl, hbc, _⟩ := hb.shape
  obtain ⟨R, hR⟩ : ∃ R, R = CM.cons xs ys := ⟨_, rfl⟩
  rw [← hR]
  have HA := Lib.hid ha
  have HB := Lib.hid hb
  have HS := Lib.hid hs
  have HR := Lib.hid hR
  clear ha hb hs hR
  obtain ⟨w0, HX⟩ := kone w
  have HW := Lib.hid HX.eq
  have HB0 := Lib.hid HX.below
  have HK0 := Lib.hid HX.k
  obtain ⟨K, hK⟩ : ∃ K, w.heap.size = K := ⟨_, rfl⟩
  rw [hK] at HK0
  have HKE := Lib.hid hK
  clear HX hK
  go_enter Tryz.func68, Tryz.ntmps68
  go_upto_region 1 with fail
  rw [HW.out, HKE.out]
  clear HW
  go_wp2
  go_loopw [13] (fun i wr => ∃ k : Nat, k ≤ ys.length ∧ i = .int .i64 k ∧ Below w.heap.size w wr ∧ Hid (KB wr K) ∧ Hid (R = CM.cons xs (ys.drop k))) (fun i _ => ys.length - (intOf i).toNat)
  case atStart => exact ⟨0, Nat.zero_le _, rfl, HB0.out, HK0.out, HR.out⟩
  case round =>
    obtain ⟨k, hk, rfl, hbl, hkb, he⟩ := hrel
    clear HR HB0 HK0
    by_cases hlt : k < ys.length
    · have hq : (k : Int) < (ys.length : Int) := by omega
      have hd := drop_get hlt
      have hk2 := List.getElem?_eq_getElem hlt
      generalize ys[k] = f at hd hk2
      have e1 : Hid (R = (decide (f ∈ xs) && CM.cons xs (ys.drop (k + 1)))) := by show R = _; rw [he.out, hd]; rfl
      obtain ⟨x, m, cs⟩ := f
      obtain ⟨b, o, da, dl, dc, hi, hb, c0, c1, c2, hrd⟩ := (HB.out.below hbl).atS k x m cs hk2
      obtain ⟨wx, HX⟩ := eone wr x m (.slice da dl dc)
      have HWX := Lib.hid HX.eq
      have HBX := Lib.hid (bnext hbl HX.below)
      have HPX := Lib.hid HX.e
      have HKX := Lib.hid (hkb.out.below HX.below)
      have HRD := Lib.hid (hrd.below HX.below)
      have HF := Lib.hid (sFind (.slice aa xs.length ac) xs x m da dl dc wx (HA.out.below HBX.out) HS.out hl)
      obtain ⟨B, hB⟩ : ∃ B, wr.heap.size = B := ⟨_, rfl⟩
      rw [hB] at HPX
      have HBE := Lib.hid hB
      clear HX hk2 hd he hrd hbl hkb hB
      obtain ⟨p0, p1, p2, _⟩ := HPX.out.cells
      obtain ⟨g0, g1, g2, g3, g4, g5, g6, g7, g8⟩ := HKX.out.cells
      go_upto_region 4 with fail
      rw [HWX.out, HBE.out]
      go_wp2_with fail
      refine HF.out.mono ?_
      rintro e w1 ⟨i, rfl, hat, hb1⟩
      have HP1 := Lib.hid (HPX.out.below hb1)
      have HK1 := Lib.hid (HKX.out.below hb1)
      have HRD1 := Lib.hid (HRD.out.below hb1)
      have HB1 := Lib.hid (bnext HBX.out hb1)
      clear c0 c1 c2 hi hb p0 p1 p2 g0 g1 g2 g3 g4 g5 g6 g7 g8 HF HPX HKX HRD HBX HWX hb1
      by_cases hf : fndF xs x m i = true
      · obtain ⟨g, hgi, hg1, hg2⟩ := fnd_true hf
        obtain ⟨y, n, ds⟩ := g
        simp only at hg1 hg2
        subst hg1 hg2
        obtain ⟨b, o, ea, el, ec, hi, hb, c0, c1, c2, hrd⟩ := (HA.out.below HB1.out).atS i y n ds hgi
        have hil : i < xs.length := (List.getElem?_eq_some_iff.1 hgi).1
        have hil2 : (i : Int) < (xs.length : Int) := by omega
        have hmem : ((y, n, cs) ∈ xs) ↔ ds = cs := by
          constructor
          · intro hm
            have := HS.out.key (List.mem_of_getElem? hgi) hm ⟨rfl, rfl⟩
            cases this; rfl
          · rintro rfl; exact List.mem_of_getElem? hgi
        have hE := fun p : Later w1 => Calls.later (cEqual y n (.slice ea el ec) ds y n (.slice da dl dc) cs p.val (hrd.below p.h) (HRD1.out.below p.h))
        have k0 : ∀ p : Later w1, p.val.cell? ⟨b, o, none⟩ = some (.int .i64 y) := fun p => below_cell p.h c0
        have k1 : ∀ p : Later w1, p.val.cell? ⟨b, o + 1, none⟩ = some (.int .i64 n) := fun p => below_cell p.h c1
        have k2 : ∀ p : Later w1, p.val.cell? ⟨b, o + 2, none⟩ = some (.slice ea el ec) := fun p => below_cell p.h c2
        obtain ⟨z0, z1, z2⟩ := lat_e HP1.out
        obtain ⟨_, _, _, _, l4, _⟩ := HK1.out.later
        rw [hf]
        clear hat hf hgi hrd HRD1 c0 c1 c2 hb
        by_cases hds : ds = cs
        · have e2 := Lib.hid (show R = CM.cons xs (ys.drop (k + 1)) by rw [e1.out, decide_eq_true (hmem.2 hds)]; rfl)
          rw [show eqP y n ds y n cs = true from decide_eq_true ⟨rfl, rfl, hds⟩] at hE
          have HE := Lib.hid hE
          clear e1 hE hmem hds
          go_wp2
          refine wp_region_later (by kernel_rfl) (by kernel_rfl) ?_
          repeat (go_big_quiet_step (first | (go_at_call 95; with_reducible exact HE.out _)))
          refine wpQuiet_nil ?_
          rintro _ ⟨p', rfl⟩
          have HB2 := Lib.hid (bnext HB1.out p'.h)
          have HK2 := Lib.hid (HK1.out.below p'.h)
          generalize p'.val = w2 at HB2 HK2 ⊢
          clear k0 k1 k2 z0 z1 z2 l4 HE HB1 HK1 HP1
          go_wp2
          go_roundw
          case rel => exact ⟨k + 1, by omega, by go_num, HB2.out, HK2, e2⟩
          case measure => simp [intOf]; omega
        · have e2 := Lib.hid (show R = false by rw [e1.out, decide_eq_false (fun h => hds (hmem.1 h))]; rfl)
          rw [show eqP y n ds y n cs = false from decide_eq_false (fun h => hds h.2.2)] at hE
          have HE := Lib.hid hE
          clear e1 hE hmem hds
          go_wp2
          refine wp_region_later (by kernel_rfl) (by kernel_rfl) ?_
          repeat (go_big_quiet_step (first | (go_at_call 95; with_reducible exact HE.out _)))
          refine wpQuiet_nil ?_
          rintro _ ⟨p', rfl⟩
          have HB2 := Lib.hid (bnext HB1.out p'.h)
          generalize p'.val = w2 at HB2 ⊢
          clear k0 k1 k2 z0 z1 z2 l4 HE HB1
          go_wp2
          go_ret
          rw [e2.out]
          exact ⟨rfl, HB2.out⟩
      · have hf' : fndF xs x m i = false := by simpa using hf
        have e2 := Lib.hid (show R = false by rw [e1.out, decide_eq_false (fun h => fnd_false HS.out hat hf' _ h ⟨rfl, rfl⟩)]; rfl)
        rw [hf']
        clear e1 hat hf hf'
        go_wp2
        go_quiet (fail)
        go_wp2
        go_ret
        rw [e2.out]
        exact ⟨rfl, HB1.out.trans (below_drewN _ _ _)⟩
    · have hq : ¬ ((k : Int) < (ys.length : Int)) := by omega
      have e2 := Lib.hid (show R = true by rw [he.out, List.drop_of_length_le (by omega)]; rfl)
      clear he
      go_wp2
      go_ret
      rw [e2.out]
      exact ⟨rfl, hbl⟩

end Go.Proofs.YthfpafnljnnndaaGreat
