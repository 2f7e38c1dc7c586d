/-
  Lists of package sets' own type in memory, a set's kind as a block, copies of the call's own. No conditions beyond those that each lemma names. (Written by mk_sets.py.)
  The call of state.copied: an update with effects in memory of the call's own. Conditions: the effects read.
-/
import Derived.Laws.EntriesVeiled
import Derived.Test.YtdfablboenfblaaDoorQSR2
import Derived.Test.YtdfablboenfblaaDoorQUC
import Derived.Test.YtdfablboenfblaaDoorQUV
import Derived.Test.YtdfablboenfblaaDoorQUDec
import Derived.Test.YtdfablboenfblaaDoorQYLaw
namespace Go.Proofs.YtdfablboenfblaaDoor.ST
open Go.RowKit
open UM (Ef)
open SM (Fp)
open VM (Ent)

theorem setE : IsElem Tryd.prog 22 43 4 48 encUp := { upE with ht := Tryd.underlying22 }
/-- 'set[k]': where it lies and what is there. -/
theorem RdF.atS {w : World} {a : Option Addr} {n c : Nat} {fs : List Fp} (h : RdF w (.slice a n c) fs) (k : Nat) (x m t : Int) (cs : List Ef) (hk : fs[k]? = some (x, m, t, cs)) :
    ∃ b o ad l cp, (∀ w0, (Instr.indexAt 22 (.slice a n c) (.int .i64 (k : Int))).run Tryd.prog w0 = .ok (.pointer (some ⟨b, o, none⟩)) w0) ∧ b < w.heap.size ∧
      w.cell? ⟨b, o, none⟩ = some (.int .i64 x) ∧ w.cell? ⟨b, o + 1, none⟩ = some (.int .i64 m) ∧ w.cell? ⟨b, o + 2, none⟩ = some (.int .i64 t) ∧ w.cell? ⟨b, o + 3, none⟩ = some (.slice ad l cp) ∧ RdEf w (.slice ad l cp) cs := by
  obtain ⟨qs, h1, h2⟩ := h
  obtain ⟨⟨x', m', t', ad, l, cp⟩, h3, h4, h5, h7, h6⟩ := h2.get hk
  simp only at h4 h5 h7
  subst h4 h5 h7
  obtain ⟨b, o, g1, g2, g3⟩ := RdG.at_ setE h1 k _ h3
  exact ⟨b, o, ad, l, cp, g1, g2, g3 0 _ rfl, g3 1 _ rfl, g3 2 _ rfl, g3 3 _ rfl, h6⟩
theorem RdF.cutLS {w : World} {a : Option Addr} {n c : Nat} {fs : List Fp} (h : RdF w (.slice a n c) fs) (lo : Nat) (h2 : lo ≤ fs.length) :
    ∃ v', (∀ w0 : World, (Instr.slice 22 (.slice a n c) (some (.int .i64 (lo : Int))) none none).run Tryd.prog w0 = .ok v' w0) ∧ RdF w v' (fs.drop lo) := by
  obtain ⟨qs, h3, h4⟩ := h
  obtain ⟨v', h5, h6⟩ := h3.cutL setE lo (by rw [h4.len]; exact h2)
  exact ⟨v', h5, _, h6, h4.drop lo⟩
theorem RdF.cut0S {w : World} {a : Option Addr} {n c : Nat} {fs : List Fp} (h : RdF w (.slice a n c) fs) (hi : Nat) (h2 : hi ≤ fs.length) :
    ∃ v', (∀ w0 : World, (Instr.slice 22 (.slice a n c) none (some (.int .i64 (hi : Int))) none).run Tryd.prog w0 = .ok v' w0) ∧ RdF w v' (fs.take hi) := by
  obtain ⟨qs, h3, h4⟩ := h
  obtain ⟨v', h5, h6⟩ := h3.cut0 setE hi (by rw [h4.len]; exact h2)
  exact ⟨v', h5, _, h6, h4.take hi⟩

/-- The block of a set's kind. -/
def KB (w : World) (K : Nat) : Prop := w.heap[K]? = some (.cells #[.func (.func 71) #[] #[], .func (.func 72) #[] #[], .func (.func 61) #[] #[], .func (.func 73) #[] #[], .func (.func 53) #[] #[], .func (.func 74) #[] #[], .func (.func 75) #[] #[], .func (.func 76) #[] #[], .int .i64 48] 72 (0, 0))
theorem KB.fresh (w : World) : KB (w.alloc (.cells #[.func (.func 71) #[] #[], .func (.func 72) #[] #[], .func (.func 61) #[] #[], .func (.func 73) #[] #[], .func (.func 53) #[] #[], .func (.func 74) #[] #[], .func (.func 75) #[] #[], .func (.func 76) #[] #[], .int .i64 48] 72)) w.heap.size := heap_alloc_new w _
theorem KB.below {w w' : World} {K : Nat} (h : KB w K) (hb : Below w.heap.size w w') : KB w' K := below_block h hb
theorem KB.keep {w w' : World} {K : Nat} (h : KB w K) (hk : KeepsX 43 w w') : KB w' K := hk.at h (by decide)
theorem KB.lt {w : World} {K : Nat} (h : KB w K) : K < w.heap.size := (Array.getElem?_eq_some_iff.1 h).1
theorem KB.cells {w : World} {K : Nat} (h : KB w K) : w.cell? ⟨K, 0, none⟩ = some (.func (.func 71) #[] #[]) ∧ w.cell? ⟨K, 1, none⟩ = some (.func (.func 72) #[] #[]) ∧
    w.cell? ⟨K, 2, none⟩ = some (.func (.func 61) #[] #[]) ∧ w.cell? ⟨K, 3, none⟩ = some (.func (.func 73) #[] #[]) ∧ w.cell? ⟨K, 4, none⟩ = some (.func (.func 53) #[] #[]) ∧
    w.cell? ⟨K, 5, none⟩ = some (.func (.func 74) #[] #[]) ∧ w.cell? ⟨K, 6, none⟩ = some (.func (.func 75) #[] #[]) ∧ w.cell? ⟨K, 7, none⟩ = some (.func (.func 76) #[] #[]) ∧ w.cell? ⟨K, 8, none⟩ = some (.int .i64 48) := by
  unfold KB at h
  refine ⟨?_, ?_, ?_, ?_, ?_, ?_, ?_, ?_, ?_⟩ <;> simp [World.cell?, h]
theorem KB.later {w : World} {K : Nat} (h : KB w K) : (∀ p : Later w, p.val.cell? ⟨K, 0, none⟩ = some (.func (.func 71) #[] #[])) ∧ (∀ p : Later w, p.val.cell? ⟨K, 1, none⟩ = some (.func (.func 72) #[] #[])) ∧
    (∀ p : Later w, p.val.cell? ⟨K, 2, none⟩ = some (.func (.func 61) #[] #[])) ∧ (∀ p : Later w, p.val.cell? ⟨K, 3, none⟩ = some (.func (.func 73) #[] #[])) ∧ (∀ p : Later w, p.val.cell? ⟨K, 4, none⟩ = some (.func (.func 53) #[] #[])) ∧
    (∀ p : Later w, p.val.cell? ⟨K, 5, none⟩ = some (.func (.func 74) #[] #[])) ∧ (∀ p : Later w, p.val.cell? ⟨K, 6, none⟩ = some (.func (.func 75) #[] #[])) ∧ (∀ p : Later w, p.val.cell? ⟨K, 7, none⟩ = some (.func (.func 76) #[] #[])) ∧ (∀ p : Later w, p.val.cell? ⟨K, 8, none⟩ = some (.int .i64 48)) := by
  obtain ⟨k0, k1, k2, k3, k4, k5, k6, k7, k8⟩ := h.cells
  exact ⟨fun p => below_cell p.h k0, fun p => below_cell p.h k1, fun p => below_cell p.h k2, fun p => below_cell p.h k3, fun p => below_cell p.h k4, fun p => below_cell p.h k5, fun p => below_cell p.h k6, fun p => below_cell p.h k7, fun p => below_cell p.h k8⟩
theorem lat_e {w : World} {B : Nat} {x m t : Int} {s : Value} (h : OU w B x m t s) : (∀ p : Later w, p.val.cell? ⟨B, 0, none⟩ = some (.int .i64 x)) ∧ (∀ p : Later w, p.val.cell? ⟨B, 1, none⟩ = some (.int .i64 m)) ∧ (∀ p : Later w, p.val.cell? ⟨B, 2, none⟩ = some (.int .i64 t)) ∧ ∀ p : Later w, p.val.cell? ⟨B, 3, none⟩ = some s := by
  obtain ⟨c0, c1, c2, c3, _⟩ := h.cells
  exact ⟨fun p => below_cell p.h c0, fun p => below_cell p.h c1, fun p => below_cell p.h c2, fun p => below_cell p.h c3⟩
/-- The world behind a set's kind and an element that came by value. -/
structure KBox (w w2 : World) (x m t : Int) (s : Value) : Prop where
  eq : (w.alloc (.cells #[.func (.func 71) #[] #[], .func (.func 72) #[] #[], .func (.func 61) #[] #[], .func (.func 73) #[] #[], .func (.func 53) #[] #[], .func (.func 74) #[] #[], .func (.func 75) #[] #[], .func (.func 76) #[] #[], .int .i64 48] 72)).alloc (.cells #[.int .i64 x, .int .i64 m, .int .i64 t, s] 43) = w2
  k : KB w2 w.heap.size
  e : OU w2 (w.heap.size + 1) x m t s
  below : Below w.heap.size w w2
  size : w2.heap.size = w.heap.size + 2
theorem kbox (w : World) (x m t : Int) (s : Value) : ∃ w2, KBox w w2 x m t s := by
  have b1 := below_fresh w (.cells #[.func (.func 71) #[] #[], .func (.func 72) #[] #[], .func (.func 61) #[] #[], .func (.func 73) #[] #[], .func (.func 53) #[] #[], .func (.func 74) #[] #[], .func (.func 75) #[] #[], .func (.func 76) #[] #[], .int .i64 48] 72)
  have k1 := KB.fresh w
  have z1 := World.size_alloc w (.cells #[.func (.func 71) #[] #[], .func (.func 72) #[] #[], .func (.func 61) #[] #[], .func (.func 73) #[] #[], .func (.func 53) #[] #[], .func (.func 74) #[] #[], .func (.func 75) #[] #[], .func (.func 76) #[] #[], .int .i64 48] 72)
  obtain ⟨w1, hw1⟩ : ∃ z, w.alloc (.cells #[.func (.func 71) #[] #[], .func (.func 72) #[] #[], .func (.func 61) #[] #[], .func (.func 73) #[] #[], .func (.func 53) #[] #[], .func (.func 74) #[] #[], .func (.func 75) #[] #[], .func (.func 76) #[] #[], .int .i64 48] 72) = z := ⟨_, rfl⟩
  rw [hw1] at b1 k1 z1
  have b2 := below_fresh w1 (.cells #[.int .i64 x, .int .i64 m, .int .i64 t, s] 43)
  have o2 := OU.fresh w1 x m t s
  rw [z1] at o2
  exact ⟨_, by rw [hw1], k1.below b2, o2, bnext b1 b2, by rw [World.size_alloc, z1]⟩
/-- The world behind a set's kind alone. -/
structure KOne (w w1 : World) : Prop where
  eq : w.alloc (.cells #[.func (.func 71) #[] #[], .func (.func 72) #[] #[], .func (.func 61) #[] #[], .func (.func 73) #[] #[], .func (.func 53) #[] #[], .func (.func 74) #[] #[], .func (.func 75) #[] #[], .func (.func 76) #[] #[], .int .i64 48] 72) = w1
  k : KB w1 w.heap.size
  below : Below w.heap.size w w1
theorem kone (w : World) : ∃ w1, KOne w w1 := ⟨_, rfl, KB.fresh w, below_fresh w _⟩
/-- The world behind an element's own block. -/
structure EOne (w w1 : World) (x m t : Int) (s : Value) : Prop where
  eq : w.alloc (.cells #[.int .i64 x, .int .i64 m, .int .i64 t, s] 43) = w1
  e : OU w1 w.heap.size x m t s
  below : Below w.heap.size w w1
  size : w1.heap.size = w.heap.size + 1
theorem eone (w : World) (x m t : Int) (s : Value) : ∃ w1, EOne w w1 x m t s := ⟨_, rfl, OU.fresh w x m t s, below_fresh w _, World.size_alloc w _⟩
theorem el_ret {R : Ending → World → Prop} {a : Act} {w : World} {g : Nat} (hp : a.tmps.getD 0 undef = .pointer (some ⟨g, 0, none⟩)) (hg : KB w g)
    (hd : a.defers = []) (hR : R (.returned (.agg #[.func (.func 71) #[] #[], .func (.func 72) #[] #[], .func (.func 61) #[] #[], .func (.func 73) #[] #[], .func (.func 53) #[] #[], .func (.func 74) #[] #[], .func (.func 75) #[] #[], .func (.func 76) #[] #[], .int .i64 48])) w) : bodyPost Tryd.prog Tryd.f43 R .ret a w :=
  bodyPost_ret (results_cell_row (P := Tryd.prog) rfl a.tmps w g 72 _ _ _ hp hg Tryd.underlying72 rfl (by kernel_rfl)) hd hR

set_option maxRecDepth 100000 in
set_option maxHeartbeats 2000000 in
theorem cElements (w : World) : Calls Tryd.prog 43 #[] w fun e w' => e = .returned (.agg #[.func (.func 71) #[] #[], .func (.func 72) #[] #[], .func (.func 61) #[] #[], .func (.func 73) #[] #[], .func (.func 53) #[] #[], .func (.func 74) #[] #[], .func (.func 75) #[] #[], .func (.func 76) #[] #[], .int .i64 48]) ∧ Below w.heap.size w w' := by
  have hb := below_fresh w (.cells #[.func (.func 71) #[] #[], .func (.func 72) #[] #[], .func (.func 61) #[] #[], .func (.func 73) #[] #[], .func (.func 53) #[] #[], .func (.func 74) #[] #[], .func (.func 75) #[] #[], .func (.func 76) #[] #[], .int .i64 48] 72)
  have hk := KB.fresh w
  obtain ⟨w1, hw1⟩ : ∃ z, w.alloc (.cells #[.func (.func 71) #[] #[], .func (.func 72) #[] #[], .func (.func 61) #[] #[], .func (.func 73) #[] #[], .func (.func 53) #[] #[], .func (.func 74) #[] #[], .func (.func 75) #[] #[], .func (.func 76) #[] #[], .int .i64 48] 72) = z := ⟨_, rfl⟩
  rw [hw1] at hb hk
  have HW := Lib.hid hw1
  have HB := Lib.hid hb
  have HK := Lib.hid hk
  clear hw1 hb hk
  go_enter Tryd.func43, Tryd.ntmps43
  go_wp2
  rw [HW.out]
  refine el_ret rfl HK.out rfl ?_
  exact ⟨rfl, HB.out⟩

set_option maxRecDepth 100000 in
set_option maxHeartbeats 1000000 in
theorem cAuth (x m t : Int) (a : Option Addr) (l c : Nat) (w : World) : Calls Tryd.prog 71 #[uv x m t (.slice a l c)] w fun e w' => e = .returned (.int .i64 x) ∧ Below w.heap.size w w' := by
  have hb := below_fresh w (.cells #[.int .i64 x, .int .i64 m, .int .i64 t, .slice a l c] 43)
  go_enter Tryd.func71, Tryd.ntmps71
  go_wp2
  go_ret
  exact ⟨rfl, hb⟩
set_option maxRecDepth 100000 in
set_option maxHeartbeats 1000000 in
theorem cNumb (x m t : Int) (a : Option Addr) (l c : Nat) (w : World) : Calls Tryd.prog 72 #[uv x m t (.slice a l c)] w fun e w' => e = .returned (.int .i64 m) ∧ Below w.heap.size w w' := by
  have hb := below_fresh w (.cells #[.int .i64 x, .int .i64 m, .int .i64 t, .slice a l c] 43)
  go_enter Tryd.func72, Tryd.ntmps72
  go_wp2
  go_ret
  exact ⟨rfl, hb⟩

section
variable {α : Type} {P : Program} {t e : TypeId} {size bytes : Nat} {enc : α → List Value}
variable {w : World} {ops : Array Oper} {o : Oper} {a : Act} {K : Act → World → Prop} {Q : Exit → Act → World → Prop} {F : Prop} {base : Nat} {v : Value} {ys : List α}
/-- 'append(out, u...)' as one step of a region that draws its order. -/
theorem step_appGK (E : IsElem P t e size bytes enc) {u : Value} {zs : List α} (hwant : Region.wanted o (yielded ops a.tmps) = true) (s r : Operand) (ho : o.op = .call { callee := .builtin .append, args := #[s, r], argTypes := #[t, t] })
    (hs : a.eval s = v) (hown : OwnG enc e size base w v ys) (hx : a.eval r = u) (hu : RdG enc size w u zs) (hlen : ys.length ≤ 1073741824) (hlen2 : zs.length ≤ 1073741824) (hb : base ≤ w.heap.size)
    (h : ∀ v' w', OwnG enc e size base w' v' (ys ++ zs) → Below base w w' → KeepsX e w w' → K (a.put o.dst v') w') :
    if Region.wanted o (yielded ops a.tmps) = true then Oper.wp P o a w K Q else F := by
  rw [if_pos hwant]
  obtain ⟨i0, z, hi, hz0, hz1, hz2, hz3⟩ := E.info
  obtain ⟨ad, c, rfl, h1, h2, h3, hl, h4⟩ := hu
  cases ad with
  | none =>
    obtain ⟨rfl, rfl⟩ := h3 rfl
    have hrun := run_append_owned_none (P := P) (w := w) base t o.type e i0 size E.ht hi _ _ _ hown.1
    unfold Oper.wp
    simp [execOp, ho, resolve, invoke, builtin, hs, hx, hrun, Result.andThen]
    exact h _ _ (by rw [List.append_nil]; exact hown) (Below.refl _ _) (Below.keepsX (Below.refl _ _) e)
  | some ad =>
    refine wp_append_own w s r t ho base e i0 z size bytes E.ht hi hz0 hz1 hz2 hz3 E.pos _ _ _ hs hown.1 ad zs.length c (cellsOf enc zs) hx (cellsOf_length E.len zs) (h4 ad rfl) (cellsOf_one E.one zs) ?_ ?_ hb ?_
    · unfold maxLen; omega
    · have := E.fits
      calc (ys.length + zs.length) * bytes ≤ (1073741824 + 1073741824) * 4096 := Nat.mul_le_mul (by omega) this
        _ ≤ 140737488355328 := by decide
    · intro v' w1 ho1 hg1 _
      refine h v' w1 ⟨?_, hown.2⟩ ((Below.refl _ _).grown hg1 hb (fun k hk => (World.ownsRow.lt hown.1 k hk).1)) (keepsX_grown hown.1 hg1)
      rw [cellsOf_append, List.length_append]
      exact ho1
end

/-- 'out[k] = e' in the call's own list. -/
theorem own_put {base : Nat} {w : World} {a : Option Addr} {n c : Nat} {xs : List Up} (h : OwnUp base w (.slice a n c) xs) {k : Nat} {q : Up} (hk : xs[k]? = some q) :
    ∃ g o, (∀ w0, (Instr.indexAt 22 (.slice a n c) (.int .i64 (k : Int))).run Tryd.prog w0 = .ok (.pointer (some ⟨g, o, none⟩)) w0) ∧ base ≤ g ∧ g < w.heap.size ∧
      (∀ j u, (encUp q)[j]? = some u → w.cell? ⟨g, o + j, none⟩ = some u ∧ w.frozen? ⟨g, o + j, none⟩ = false) ∧
      ∀ (x m t : Int) (ad : Option Addr) (l cp : Nat), OwnUp base ((((w.setCell ⟨g, o, none⟩ (.int .i64 x)).setCell ⟨g, o + 1, none⟩ (.int .i64 m)).setCell ⟨g, o + 2, none⟩ (.int .i64 t)).setCell ⟨g, o + 3, none⟩ (.slice ad l cp)) (.slice a n c) (xs.set k (x, m, t, ad, l, cp)) ∧
        Below base w ((((w.setCell ⟨g, o, none⟩ (.int .i64 x)).setCell ⟨g, o + 1, none⟩ (.int .i64 m)).setCell ⟨g, o + 2, none⟩ (.int .i64 t)).setCell ⟨g, o + 3, none⟩ (.slice ad l cp)) ∧
        KeepsX 43 w ((((w.setCell ⟨g, o, none⟩ (.int .i64 x)).setCell ⟨g, o + 1, none⟩ (.int .i64 m)).setCell ⟨g, o + 2, none⟩ (.int .i64 t)).setCell ⟨g, o + 3, none⟩ (.slice ad l cp)) := by
  obtain ⟨g, o, a', c', hv, hi, h1, h2, h3, h4⟩ := h.at_put setE hk
  cases hv
  have hlt := (List.getElem?_eq_some_iff.1 hk).1
  refine ⟨g, o, hi, h1, h2, h3, fun x m t ad l cp => ?_⟩
  obtain ⟨x0, m0, t0, ad0, l0, cp0⟩ := q
  have step : ∀ {w1 : World} {ys : List Up} {y z : Up} {j : Nat} {u : Value}, OwnUp base w1 (.slice a xs.length c) ys → ys.length = xs.length → ys[k]? = some y → j < 4 → encUp z = (encUp y).set j u →
      OwnUp base (w1.setCell ⟨g, o + j, none⟩ u) (.slice a xs.length c) (ys.set k z) ∧ (ys.set k z).length = xs.length ∧ (ys.set k z)[k]? = some z ∧ Below base w1 (w1.setCell ⟨g, o + j, none⟩ u) ∧ KeepsX 43 w1 (w1.setCell ⟨g, o + j, none⟩ u) := by
    intro w1 ys y z j u k1 k2 k3 k4 k5
    obtain ⟨g', o', a', c', hv', hi', _, _, _, h4'⟩ := k1.at_put setE k3
    rw [k2] at hv' hi' h4'
    cases hv'
    have e := idx_same w1 hi hi'
    cases e
    obtain ⟨r1, r2, r3⟩ := h4' j z u k4 k5
    exact ⟨r1, by rw [List.length_set, k2], by rw [List.getElem?_set_self (by omega)], r2, r3⟩
  obtain ⟨a1, a2, a3, a4, a5⟩ := step (z := (x, m0, t0, ad0, l0, cp0)) (j := 0) (u := .int .i64 x) h rfl hk (by decide) rfl
  obtain ⟨b1, b2, b3, b4, b5⟩ := step (z := (x, m, t0, ad0, l0, cp0)) (j := 1) (u := .int .i64 m) a1 a2 a3 (by decide) rfl
  obtain ⟨d1, d2, d3, d4, d5⟩ := step (z := (x, m, t, ad0, l0, cp0)) (j := 2) (u := .int .i64 t) b1 b2 b3 (by decide) rfl
  obtain ⟨e1, _, _, e4, e5⟩ := step (z := (x, m, t, ad, l, cp)) (j := 3) (u := .slice ad l cp) d1 d2 d3 (by decide) rfl
  refine ⟨?_, (a4.trans b4).trans (d4.trans e4), KeepsX.trans (KeepsX.trans a5 a4.size b5) (a4.trans b4).size (KeepsX.trans d5 d4.size e5)⟩
  have : ((((xs.set k (x, m0, t0, ad0, l0, cp0)).set k (x, m, t0, ad0, l0, cp0)).set k (x, m, t, ad0, l0, cp0)).set k (x, m, t, ad, l, cp)) = xs.set k (x, m, t, ad, l, cp) := by simp [List.set_set]
  rw [← this]
  exact e1
/-- 'out = append(out, x)': all blocks but the list's own are as they were. -/
theorem wp_appG1C {α : Type} {P : Program} {t e : TypeId} {size bytes : Nat} {enc : α → List Value} {w : World} {ops : Array Oper} {rest : List Oper} {o : Oper} {a : Act} {Q : Exit → Act → World → Prop} {base : Nat} {v : Value} {ys : List α}
    (E : IsElem P t e size bytes enc) (x : α) (B : Nat) (hBw : B < w.heap.size) (hBv : v.ownBlock ≠ some B) (hgd : o.guard = none) (s r : Operand) (ho : o.op = .call { callee := .builtin .append, args := #[s, r], argTypes := #[t, t] })
    (hs : a.eval s = v) (hown : OwnG enc e size base w v ys) (hx : a.eval r = .slice (some ⟨w.heap.size, 0, none⟩) 1 1) (hlen : ys.length ≤ 1073741824) (hb : base ≤ w.heap.size)
    (h : ∀ v' w', OwnG enc e size base w' v' (ys ++ [x]) → Below base w w' → KeepsX e w w' → Hid (∀ ob, w.heap[B]? = some ob → w'.heap[B]? = some ob) → v'.ownBlock ≠ some B → w.heap.size ≤ w'.heap.size → wpList P ops Q rest (a.put o.dst v') w') :
    wpList P ops Q (o :: rest) a (w.alloc (.cells (enc x).toArray e)) := by
  obtain ⟨i0, z, hi, hz0, hz1, hz2, hz3⟩ := E.info
  refine wpList_append_own_at _ hgd s r t ho base e i0 z size bytes E.ht hi hz0 hz1 hz2 hz3 E.pos _ _ _ hs (World.ownsRow.alloc hown.1 _) ⟨w.heap.size, 0, none⟩ 1 1 (enc x) hx (by rw [E.len, Nat.one_mul]) ?_ (E.one x) ?_ ?_ ?_ ?_
  · intro j u hu
    rw [addr_plain, Nat.zero_add, World.cell?_alloc_new]
    simpa using hu
  · unfold maxLen; omega
  · have := E.fits
    calc (ys.length + 1) * bytes ≤ (1073741824 + 1) * 4096 := Nat.mul_le_mul (by omega) this
      _ ≤ 140737488355328 := by decide
  · simp; omega
  · intro v' w1 ho1 hg1 _ hat
    have hB := ((Below.refl _ _).alloc hb (.cells (enc x).toArray e)).grown hg1 (by simp; omega) (fun k hk => (World.ownsRow.lt hown.1 k hk).1)
    refine h v' w1 ⟨?_, hown.2⟩ hB ((Below.keepsX (below_fresh w _) e).trans (by simp) (keepsX_grown (World.ownsRow.alloc hown.1 _) hg1)) ?_ ?_ hB.size
    · rw [cellsOf_append, List.length_append]
      simpa [cellsOf] using ho1
    · intro ob hob
      rw [hg1.block B (by simp; omega) hBv.symm, (below_fresh w _).block B hBw]
      exact hob
    · rcases hat with h1 | h1
      · rw [h1]; exact hBv
      · intro h2
        rw [h1] at h2
        injection h2 with h2
        simp at h2
        omega
theorem pCmp (x m t : Int) (ua : Option Addr) (ul uc : Nat) (y n u : Int) (va : Option Addr) (vl vc : Nat) (w : World) :
    Calls Tryd.prog 73 #[uv x m t (.slice ua ul uc), uv y n u (.slice va vl vc)] w fun e w' => e = .returned (.int .i64 (UM.cmpU x m y n)) ∧ Below w.heap.size w w' :=
  uCompare x m t _ y n u _ w ⟨_, _, _, rfl⟩ ⟨_, _, _, rfl⟩
/-- A set of the call's own: its elements and what they hold. -/
def OwnD (base : Nat) (w : World) (v : Value) (fs : List Fp) : Prop := ∃ qs, OwnUp base w v qs ∧ TelO base w qs fs
theorem OwnD.rd {base : Nat} {w : World} {v : Value} {fs : List Fp} (h : OwnD base w v fs) : RdF w v fs := by
  obtain ⟨qs, h1, h2⟩ := h; exact ⟨qs, h1.rd, h2.rd⟩
theorem OwnD.mono {base b2 : Nat} {w : World} {v : Value} {fs : List Fp} (h : OwnD base w v fs) (hle : b2 ≤ base) : OwnD b2 w v fs := by
  obtain ⟨qs, h1, h2⟩ := h; exact ⟨qs, h1.mono hle, h2.mono hle⟩
theorem OwnD.below {base : Nat} {w w' : World} {v : Value} {fs : List Fp} (h : OwnD base w v fs) (hb : Below w.heap.size w w') : OwnD base w' v fs := by
  obtain ⟨qs, h1, h2⟩ := h; exact ⟨qs, h1.below hb, h2.below hb⟩
theorem TelO.keepX {base : Nat} {e : TypeId} {w w' : World} (hk : KeepsX e w w') (he : 62 ≠ e) : ∀ {qs : List Up} {fs : List Fp}, TelO base w qs fs → TelO base w' qs fs
  | [], [], _ => trivial
  | _ :: _, _ :: _, h => ⟨⟨h.1.1, h.1.2.1, h.1.2.2.1, ownG_keep h.1.2.2.2 hk he⟩, TelO.keepX hk he h.2⟩
  | [], _ :: _, h => h.elim
  | _ :: _, [], h => h.elim
theorem OwnD.keep {base : Nat} {e : TypeId} {w w' : World} {v : Value} {fs : List Fp} (h : OwnD base w v fs) (hk : KeepsX e w w') (h1 : 43 ≠ e) (h2 : 62 ≠ e) : OwnD base w' v fs := by
  obtain ⟨qs, g1, g2⟩ := h; exact ⟨qs, ownG_keep g1 hk h1, g2.keepX hk h2⟩
theorem OwnD.nil (base : Nat) (w : World) : OwnD base w (.slice none 0 0) [] := ⟨[], OwnG.nil hlUp _ _ _, trivial⟩

end Go.Proofs.YtdfablboenfblaaDoor.ST

namespace Go.Proofs.YtdfablboenfblaaDoor.ST
open Go.RowKit
open UM (Ef)
open SM (Fp)

theorem cop_ret {R : Ending → World → Prop} {a : Act} {w : World} {g : Nat} {x m t : Int} {s : Value} (hp : a.tmps.getD 2 undef = .pointer (some ⟨g, 0, none⟩)) (hg : OU w g x m t s)
    (hd : a.defers = []) (hR : R (.returned (uv x m t s)) w) : bodyPost Tryd.prog Tryd.f74 R .ret a w :=
  bodyPost_ret (results_cell_row (P := Tryd.prog) rfl a.tmps w g 43 _ _ _ hp hg Tryd.underlying43 rfl (by kernel_rfl)) hd hR

set_option maxRecDepth 100000 in
set_option maxHeartbeats 4000000 in
theorem cCopied (x m t : Int) (v : Value) (cs : List Ef) (w : World) (h : RdEf w v cs) (hl : cs.length ≤ 1073741824) :
    Calls Tryd.prog 74 #[uv x m t v] w fun e w' => ∃ v', e = .returned (uv x m t v') ∧ OwnEf w.heap.size w' v' cs ∧ Below w.heap.size w w' := by
  obtain ⟨da, dc, rfl, hdc, _⟩ := h.shape
  obtain ⟨w1, HX⟩ := eone w x m t (.slice da cs.length dc)
  obtain ⟨w2, HY⟩ := eone w1 0 0 0 (.slice none 0 0)
  have HW1 := Lib.hid HX.eq
  have HW2 := Lib.hid HY.eq
  have HB2 := Lib.hid (bnext HX.below HY.below)
  have HP2 := Lib.hid (HX.e.below HY.below)
  have HQ2 := Lib.hid HY.e
  rw [HX.size] at HQ2
  have hs2 : w2.heap.size = w.heap.size + 2 := by rw [HY.size, HX.size]
  have HR2 := Lib.hid (h.below HB2.out)
  clear HX HY h
  obtain ⟨i0, z0, hi0, hz0, hz1, hz2, hz3⟩ := efE.info
  obtain ⟨MC, hMC⟩ : ∃ MC, MC = madeCells z0.cells (cs.length * i0.size) := ⟨_, rfl⟩
  have hms : MC.size = cs.length * 5 := by rw [hMC, size_madeCells, hz1]
  have hmk : ∀ w0 : World, (Instr.makeSlice 41 (.int .i64 (cs.length : Int)) (.int .i64 (cs.length : Int))).run Tryd.prog w0 = .ok (.slice (some ⟨w0.heap.size, 0, none⟩) cs.length cs.length) (w0.alloc (.cells MC 62)) := by
    intro w0
    have := run_make (P := Tryd.prog) w0 41 62 i0 z0 efE.ht hi0 hz0 .i64 .i64 cs.length cs.length (by omega) (Int.le_refl _) (by rw [hz2]; omega) (by omega)
    simp only [Int.toNat_natCast] at this
    rw [hMC]
    exact this
  have hb3 := below_fresh w2 (.cells MC 62)
  have hg3 := heap_alloc_new w2 (.cells MC 62)
  obtain ⟨w3, hw3⟩ : ∃ w3, w2.alloc (.cells MC 62) = w3 := ⟨_, rfl⟩
  rw [hw3] at hb3 hg3
  rw [hs2] at hg3
  have HW3 := Lib.hid hw3
  have HP3 := Lib.hid (HP2.out.below hb3)
  have HQ3 := Lib.hid (HQ2.out.below hb3)
  have HR3 := Lib.hid (HR2.out.below hb3)
  have HB3 := Lib.hid (bnext HB2.out hb3)
  obtain ⟨w4, hcp, hon, hown⟩ : ∃ w4, (∀ ty : TypeId, (Builtin.copy_ #[41, 41] ty #[.slice (some ⟨w.heap.size + 2, 0, none⟩) cs.length cs.length, .slice da cs.length dc]).run Tryd.prog w3 = .ok (goInt cs.length) w4) ∧ Only (w.heap.size + 2) w3 w4 ∧ OwnEf w.heap.size w4 (.slice (some ⟨w.heap.size + 2, 0, none⟩) cs.length cs.length) cs := by
    obtain ⟨a', c', hv, h1, h2, h3, hhl, h4⟩ := HR3.out
    cases hv
    cases da with
    | none =>
      obtain ⟨rfl, rfl⟩ := h3 rfl
      refine ⟨w3, fun ty => run_copy_noneS w3 _ _ ty 62 5 _ _ _ _ efE.ht efE.run_size, Only.refl _ _, ?_⟩
      exact ownG_row hlEf (g := w.heap.size + 2) (cap := 0) (cur := MC.toList) (xs := []) (by omega) (by simpa using hg3) (Nat.le_refl _) (Nat.zero_le _) (by simpa using hms) (by simp [cellsOf])
    | some x0 =>
      have hcl := cellsOf_length efE.len cs
      have hmin : Nat.min cs.length cs.length = cs.length := Nat.min_self _
      have hfit : 0 + (cellsOf encEf cs).length ≤ MC.size := by rw [hms, hcl]; omega
      refine ⟨w3.setRow (w.heap.size + 2) (MC.toList.take 0 ++ cellsOf encEf cs ++ MC.toList.drop (0 + (cellsOf encEf cs).length)).toArray, fun ty => ?_, setRow_only w3 (w.heap.size + 2) _, ?_⟩
      · have := run_copy_rowS (P := Tryd.prog) w3 41 41 ty 62 5 (w.heap.size + 2) 0 cs.length cs.length x0 cs.length dc MC 62 (cellsOf encEf cs) efE.ht efE.run_size hg3 (by rw [hcl, hmin]) (fun j u hu => h4 x0 rfl j u hu) hfit (cellsOf_one efE.one cs)
        rw [hmin] at this
        exact this
      · have hd : MC.toList.take 0 ++ cellsOf encEf cs ++ MC.toList.drop (0 + (cellsOf encEf cs).length) = cellsOf encEf cs := by
          rw [List.take_zero, List.nil_append, List.drop_of_length_le (by rw [Array.length_toList, hms, hcl]; omega), List.append_nil]
        rw [hd]
        exact ownG_row hlEf (g := w.heap.size + 2) (cap := cs.length) (cur := cellsOf encEf cs) (xs := cs) (by omega) (setRow_heap w3 _ MC _ _ _ hg3) (Nat.le_refl _) (by unfold maxLen; omega) hcl (List.take_of_length_le (by rw [hcl]; omega))
  have HCP := Lib.hid hcp
  have HP4 := Lib.hid (HP3.out.only hon (by omega))
  have HQ4 := Lib.hid (HQ3.out.only hon (by omega))
  have HO4 := Lib.hid hown
  have HB4 := Lib.hid (seen HB3.out (by omega) hon)
  have hs4 : w4.heap.size = w4.heap.size := rfl
  clear hcp hon hown hg3 hb3 hw3 hMC hms hi0 hz0 hz1 hz2 hz3 hs4
  obtain ⟨p0, p1, p2, p3, _⟩ := HP2.out.cells
  obtain ⟨r0, r1, r2, r3, _⟩ := HP3.out.cells
  obtain ⟨g0, g1, g2, g3, f0, f1, f2, f3⟩ := HP4.out.cells
  obtain ⟨h0, h1, h2, h3, e0, e1, e2, e3⟩ := HQ4.out.cells
  have hon : Only w.heap.size w4 (w4.setCell ⟨w.heap.size, 3, none⟩ (.slice (some ⟨w.heap.size + 2, 0, none⟩) cs.length cs.length)) := Only.set 3 _
  have HQ5 := Lib.hid (HQ4.out.only hon (by omega))
  have HO5 := Lib.hid (ownG_only HO4.out HP4.out (by decide) hon)
  have HB5 := Lib.hid (seen HB4.out (Nat.le_refl _) hon)
  have HQ6 := Lib.hid (HQ5.out.put4 x m t (.slice (some ⟨w.heap.size + 2, 0, none⟩) cs.length cs.length))
  have hon6 := only4 (w := w4.setCell ⟨w.heap.size, 3, none⟩ (.slice (some ⟨w.heap.size + 2, 0, none⟩) cs.length cs.length)) (B := w.heap.size + 1) (.int .i64 x) (.int .i64 m) (.int .i64 t) (.slice (some ⟨w.heap.size + 2, 0, none⟩) cs.length cs.length)
  have HO6 := Lib.hid (ownG_only HO5.out HQ5.out (by decide) hon6)
  have HB6 := Lib.hid (seen HB5.out (Nat.le_succ _) hon6)
  clear hon hon6 HP2 HP3 HQ2 HQ3 HQ4 HQ5 HP4 HO4 HO5 HB2 HB3 HB4 HB5 HR2 HR3
  go_enter Tryd.func74, Tryd.ntmps74
  go_upto_region 1 with fail
  rw [HW1.out, HW2.out]
  go_upto_region 2 with fail
  rw [HW3.out]
  go_wp2_with (refine wpList_copy_run _ rfl _ _ _ _ rfl _ _ rfl rfl (HCP.out _) ?_)
  go_wp2
  refine cop_ret rfl HQ6.out rfl ?_
  exact ⟨_, rfl, HO6.out, HB6.out⟩

end Go.Proofs.YtdfablboenfblaaDoor.ST
