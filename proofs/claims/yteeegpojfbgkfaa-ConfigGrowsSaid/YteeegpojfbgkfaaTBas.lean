/-
  Lists of package sets' own type in memory, a set's kind as a block, copies of the call's own. No conditions beyond those that each lemma names. (Written by mk_sets.py.)
-/
import Derived.Laws.EntriesVeiled
import Derived.Test.YteeegpojfbgkfaaKH
namespace Go.Proofs.Yteeegpojfbgkfaa
open Go.RowKit
open JM (Chg)
open CM (Fp)
open VM (Ent)

theorem setE : IsElem Try.prog 22 45 3 40 encQ := { proE with ht := Try.underlying22 }
/-- 'set[k]': where it lies and what is there. -/
theorem RdF.atS {w : World} {a : Option Addr} {n c : Nat} {fs : List Fp} (h : RdF w (.slice a n c) fs) (k : Nat) (x m : Int) (cs : List Chg) (hk : fs[k]? = some (x, m, cs)) :
    ∃ b o ad l cp, (∀ w0, (Instr.indexAt 22 (.slice a n c) (.int .i64 (k : Int))).run Try.prog w0 = .ok (.pointer (some ⟨b, o, none⟩)) w0) ∧ b < w.heap.size ∧
      w.cell? ⟨b, o, none⟩ = some (.int .i64 x) ∧ w.cell? ⟨b, o + 1, none⟩ = some (.int .i64 m) ∧ w.cell? ⟨b, o + 2, none⟩ = some (.slice ad l cp) ∧ RdC w (.slice ad l cp) cs := by
  obtain ⟨qs, h1, h2⟩ := h
  obtain ⟨⟨x', m', ad, l, cp⟩, h3, h4, h5, h6⟩ := h2.get hk
  simp only at h4 h5
  subst h4 h5
  obtain ⟨b, o, g1, g2, g3⟩ := RdG.at_ setE h1 k _ h3
  exact ⟨b, o, ad, l, cp, g1, g2, g3 0 _ rfl, g3 1 _ rfl, g3 2 _ rfl, h6⟩
theorem RdF.cutLS {w : World} {a : Option Addr} {n c : Nat} {fs : List Fp} (h : RdF w (.slice a n c) fs) (lo : Nat) (h2 : lo ≤ fs.length) :
    ∃ v', (∀ w0 : World, (Instr.slice 22 (.slice a n c) (some (.int .i64 (lo : Int))) none none).run Try.prog w0 = .ok v' w0) ∧ RdF w v' (fs.drop lo) := by
  obtain ⟨qs, h3, h4⟩ := h
  obtain ⟨v', h5, h6⟩ := h3.cutL setE lo (by rw [h4.len]; exact h2)
  exact ⟨v', h5, _, h6, h4.drop lo⟩
theorem RdF.cut0S {w : World} {a : Option Addr} {n c : Nat} {fs : List Fp} (h : RdF w (.slice a n c) fs) (hi : Nat) (h2 : hi ≤ fs.length) :
    ∃ v', (∀ w0 : World, (Instr.slice 22 (.slice a n c) none (some (.int .i64 (hi : Int))) none).run Try.prog w0 = .ok v' w0) ∧ RdF w v' (fs.take hi) := by
  obtain ⟨qs, h3, h4⟩ := h
  obtain ⟨v', h5, h6⟩ := h3.cut0 setE hi (by rw [h4.len]; exact h2)
  exact ⟨v', h5, _, h6, h4.take hi⟩

/-- The block of a set's kind. -/
def KB (w : World) (K : Nat) : Prop := w.heap[K]? = some (.cells #[.func (.func 70) #[] #[], .func (.func 71) #[] #[], .func (.func 72) #[] #[], .func (.func 73) #[] #[], .func (.func 55) #[] #[], .func (.func 74) #[] #[], .func (.func 75) #[] #[], .func (.func 76) #[] #[], .int .i64 9] 73 (0, 0))
theorem KB.fresh (w : World) : KB (w.alloc (.cells #[.func (.func 70) #[] #[], .func (.func 71) #[] #[], .func (.func 72) #[] #[], .func (.func 73) #[] #[], .func (.func 55) #[] #[], .func (.func 74) #[] #[], .func (.func 75) #[] #[], .func (.func 76) #[] #[], .int .i64 9] 73)) w.heap.size := heap_alloc_new w _
theorem KB.below {w w' : World} {K : Nat} (h : KB w K) (hb : Below w.heap.size w w') : KB w' K := below_block h hb
theorem KB.keep {w w' : World} {K : Nat} (h : KB w K) (hk : KeepsX 45 w w') : KB w' K := hk.at h (by decide)
theorem KB.lt {w : World} {K : Nat} (h : KB w K) : K < w.heap.size := (Array.getElem?_eq_some_iff.1 h).1
theorem KB.cells {w : World} {K : Nat} (h : KB w K) : w.cell? ⟨K, 0, none⟩ = some (.func (.func 70) #[] #[]) ∧ w.cell? ⟨K, 1, none⟩ = some (.func (.func 71) #[] #[]) ∧
    w.cell? ⟨K, 2, none⟩ = some (.func (.func 72) #[] #[]) ∧ w.cell? ⟨K, 3, none⟩ = some (.func (.func 73) #[] #[]) ∧ w.cell? ⟨K, 4, none⟩ = some (.func (.func 55) #[] #[]) ∧
    w.cell? ⟨K, 5, none⟩ = some (.func (.func 74) #[] #[]) ∧ w.cell? ⟨K, 6, none⟩ = some (.func (.func 75) #[] #[]) ∧ w.cell? ⟨K, 7, none⟩ = some (.func (.func 76) #[] #[]) ∧ w.cell? ⟨K, 8, none⟩ = some (.int .i64 9) := by
  unfold KB at h
  refine ⟨?_, ?_, ?_, ?_, ?_, ?_, ?_, ?_, ?_⟩ <;> simp [World.cell?, h]
theorem KB.later {w : World} {K : Nat} (h : KB w K) : (∀ p : Later w, p.val.cell? ⟨K, 0, none⟩ = some (.func (.func 70) #[] #[])) ∧ (∀ p : Later w, p.val.cell? ⟨K, 1, none⟩ = some (.func (.func 71) #[] #[])) ∧
    (∀ p : Later w, p.val.cell? ⟨K, 2, none⟩ = some (.func (.func 72) #[] #[])) ∧ (∀ p : Later w, p.val.cell? ⟨K, 3, none⟩ = some (.func (.func 73) #[] #[])) ∧ (∀ p : Later w, p.val.cell? ⟨K, 4, none⟩ = some (.func (.func 55) #[] #[])) ∧
    (∀ p : Later w, p.val.cell? ⟨K, 5, none⟩ = some (.func (.func 74) #[] #[])) ∧ (∀ p : Later w, p.val.cell? ⟨K, 6, none⟩ = some (.func (.func 75) #[] #[])) ∧ (∀ p : Later w, p.val.cell? ⟨K, 7, none⟩ = some (.func (.func 76) #[] #[])) ∧ (∀ p : Later w, p.val.cell? ⟨K, 8, none⟩ = some (.int .i64 9)) := by
  obtain ⟨k0, k1, k2, k3, k4, k5, k6, k7, k8⟩ := h.cells
  exact ⟨fun p => below_cell p.h k0, fun p => below_cell p.h k1, fun p => below_cell p.h k2, fun p => below_cell p.h k3, fun p => below_cell p.h k4, fun p => below_cell p.h k5, fun p => below_cell p.h k6, fun p => below_cell p.h k7, fun p => below_cell p.h k8⟩
theorem lat_e {w : World} {B : Nat} {x m : Int} {s : Value} (h : OP w B x m s) : (∀ p : Later w, p.val.cell? ⟨B, 0, none⟩ = some (.int .i64 x)) ∧ (∀ p : Later w, p.val.cell? ⟨B, 1, none⟩ = some (.int .i64 m)) ∧ ∀ p : Later w, p.val.cell? ⟨B, 2, none⟩ = some s := by
  obtain ⟨c0, c1, c2, _⟩ := h.cells
  exact ⟨fun p => below_cell p.h c0, fun p => below_cell p.h c1, fun p => below_cell p.h c2⟩
/-- The world behind a set's kind and an element that came by value. -/
structure KBox (w w2 : World) (x m : Int) (s : Value) : Prop where
  eq : (w.alloc (.cells #[.func (.func 70) #[] #[], .func (.func 71) #[] #[], .func (.func 72) #[] #[], .func (.func 73) #[] #[], .func (.func 55) #[] #[], .func (.func 74) #[] #[], .func (.func 75) #[] #[], .func (.func 76) #[] #[], .int .i64 9] 73)).alloc (.cells #[.int .i64 x, .int .i64 m, s] 45) = w2
  k : KB w2 w.heap.size
  e : OP w2 (w.heap.size + 1) x m s
  below : Below w.heap.size w w2
  size : w2.heap.size = w.heap.size + 2
theorem kbox (w : World) (x m : Int) (s : Value) : ∃ w2, KBox w w2 x m s := by
  have b1 := below_fresh w (.cells #[.func (.func 70) #[] #[], .func (.func 71) #[] #[], .func (.func 72) #[] #[], .func (.func 73) #[] #[], .func (.func 55) #[] #[], .func (.func 74) #[] #[], .func (.func 75) #[] #[], .func (.func 76) #[] #[], .int .i64 9] 73)
  have k1 := KB.fresh w
  have z1 := World.size_alloc w (.cells #[.func (.func 70) #[] #[], .func (.func 71) #[] #[], .func (.func 72) #[] #[], .func (.func 73) #[] #[], .func (.func 55) #[] #[], .func (.func 74) #[] #[], .func (.func 75) #[] #[], .func (.func 76) #[] #[], .int .i64 9] 73)
  obtain ⟨w1, hw1⟩ : ∃ z, w.alloc (.cells #[.func (.func 70) #[] #[], .func (.func 71) #[] #[], .func (.func 72) #[] #[], .func (.func 73) #[] #[], .func (.func 55) #[] #[], .func (.func 74) #[] #[], .func (.func 75) #[] #[], .func (.func 76) #[] #[], .int .i64 9] 73) = z := ⟨_, rfl⟩
  rw [hw1] at b1 k1 z1
  have b2 := below_fresh w1 (.cells #[.int .i64 x, .int .i64 m, s] 45)
  have o2 := OP.fresh w1 x m s
  rw [z1] at o2
  exact ⟨_, by rw [hw1], k1.below b2, o2, bnext b1 b2, by rw [World.size_alloc, z1]⟩
/-- The world behind a set's kind alone. -/
structure KOne (w w1 : World) : Prop where
  eq : w.alloc (.cells #[.func (.func 70) #[] #[], .func (.func 71) #[] #[], .func (.func 72) #[] #[], .func (.func 73) #[] #[], .func (.func 55) #[] #[], .func (.func 74) #[] #[], .func (.func 75) #[] #[], .func (.func 76) #[] #[], .int .i64 9] 73) = w1
  k : KB w1 w.heap.size
  below : Below w.heap.size w w1
theorem kone (w : World) : ∃ w1, KOne w w1 := ⟨_, rfl, KB.fresh w, below_fresh w _⟩
/-- The world behind an element's own block. -/
structure EOne (w w1 : World) (x m : Int) (s : Value) : Prop where
  eq : w.alloc (.cells #[.int .i64 x, .int .i64 m, s] 45) = w1
  e : OP w1 w.heap.size x m s
  below : Below w.heap.size w w1
  size : w1.heap.size = w.heap.size + 1
theorem eone (w : World) (x m : Int) (s : Value) : ∃ w1, EOne w w1 x m s := ⟨_, rfl, OP.fresh w x m s, below_fresh w _, World.size_alloc w _⟩
theorem el_ret {R : Ending → World → Prop} {a : Act} {w : World} {g : Nat} (hp : a.tmps.getD 0 undef = .pointer (some ⟨g, 0, none⟩)) (hg : KB w g)
    (hd : a.defers = []) (hR : R (.returned (.agg #[.func (.func 70) #[] #[], .func (.func 71) #[] #[], .func (.func 72) #[] #[], .func (.func 73) #[] #[], .func (.func 55) #[] #[], .func (.func 74) #[] #[], .func (.func 75) #[] #[], .func (.func 76) #[] #[], .int .i64 9])) w) : bodyPost Try.prog Try.f45 R .ret a w :=
  bodyPost_ret (results_cell_row (P := Try.prog) rfl a.tmps w g 73 _ _ _ hp hg Try.underlying73 rfl (by kernel_rfl)) hd hR

set_option maxRecDepth 100000 in
set_option maxHeartbeats 2000000 in
theorem cElements (w : World) : Calls Try.prog 45 #[] w fun e w' => e = .returned (.agg #[.func (.func 70) #[] #[], .func (.func 71) #[] #[], .func (.func 72) #[] #[], .func (.func 73) #[] #[], .func (.func 55) #[] #[], .func (.func 74) #[] #[], .func (.func 75) #[] #[], .func (.func 76) #[] #[], .int .i64 9]) ∧ Below w.heap.size w w' := by
  have hb := below_fresh w (.cells #[.func (.func 70) #[] #[], .func (.func 71) #[] #[], .func (.func 72) #[] #[], .func (.func 73) #[] #[], .func (.func 55) #[] #[], .func (.func 74) #[] #[], .func (.func 75) #[] #[], .func (.func 76) #[] #[], .int .i64 9] 73)
  have hk := KB.fresh w
  obtain ⟨w1, hw1⟩ : ∃ z, w.alloc (.cells #[.func (.func 70) #[] #[], .func (.func 71) #[] #[], .func (.func 72) #[] #[], .func (.func 73) #[] #[], .func (.func 55) #[] #[], .func (.func 74) #[] #[], .func (.func 75) #[] #[], .func (.func 76) #[] #[], .int .i64 9] 73) = z := ⟨_, rfl⟩
  rw [hw1] at hb hk
  have HW := Lib.hid hw1
  have HB := Lib.hid hb
  have HK := Lib.hid hk
  clear hw1 hb hk
  go_enter Try.func45, Try.ntmps45
  go_wp2
  rw [HW.out]
  refine el_ret rfl HK.out rfl ?_
  exact ⟨rfl, HB.out⟩

set_option maxRecDepth 100000 in
set_option maxHeartbeats 1000000 in
theorem cAuth (x m : Int) (a : Option Addr) (l c : Nat) (w : World) : Calls Try.prog 70 #[pv x m (.slice a l c)] w fun e w' => e = .returned (.int .i64 x) ∧ Below w.heap.size w w' := by
  have hb := below_fresh w (.cells #[.int .i64 x, .int .i64 m, .slice a l c] 45)
  go_enter Try.func70, Try.ntmps70
  go_wp2
  go_ret
  exact ⟨rfl, hb⟩
set_option maxRecDepth 100000 in
set_option maxHeartbeats 1000000 in
theorem cNumb (x m : Int) (a : Option Addr) (l c : Nat) (w : World) : Calls Try.prog 71 #[pv x m (.slice a l c)] w fun e w' => e = .returned (.int .i64 m) ∧ Below w.heap.size w w' := by
  have hb := below_fresh w (.cells #[.int .i64 x, .int .i64 m, .slice a l c] 45)
  go_enter Try.func71, Try.ntmps71
  go_wp2
  go_ret
  exact ⟨rfl, hb⟩

section
variable {α : Type} {P : Program} {t e : TypeId} {size bytes : Nat} {enc : α → List Value}
variable {w : World} {ops : Array Oper} {o : Oper} {a : Act} {K : Act → World → Prop} {Q : Exit → Act → World → Prop} {F : Prop} {base : Nat} {v : Value} {ys : List α}
/-- 'append(out, u...)' as one step of a region that draws its order. -/
theorem step_appGK (E : IsElem P t e size bytes enc) {u : Value} {zs : List α} (hwant : Region.wanted o (yielded ops a.tmps) = true) (s r : Operand) (ho : o.op = .call { callee := .builtin .append, args := #[s, r], argTypes := #[t, t] })
    (hs : a.eval s = v) (hown : OwnG enc e size base w v ys) (hx : a.eval r = u) (hu : RdG enc size w u zs) (hlen : ys.length ≤ 1073741824) (hlen2 : zs.length ≤ 1073741824) (hb : base ≤ w.heap.size)
    (h : ∀ v' w', OwnG enc e size base w' v' (ys ++ zs) → Below base w w' → KeepsX e w w' → K (a.put o.dst v') w') :
    if Region.wanted o (yielded ops a.tmps) = true then Oper.wp P o a w K Q else F := by
  rw [if_pos hwant]
  obtain ⟨i0, z, hi, hz0, hz1, hz2, hz3⟩ := E.info
  obtain ⟨ad, c, rfl, h1, h2, h3, hl, h4⟩ := hu
  cases ad with
  | none =>
    obtain ⟨rfl, rfl⟩ := h3 rfl
    have hrun := run_append_owned_none (P := P) (w := w) base t o.type e i0 size E.ht hi _ _ _ hown.1
    unfold Oper.wp
    simp [execOp, ho, resolve, invoke, builtin, hs, hx, hrun, Result.andThen]
    exact h _ _ (by rw [List.append_nil]; exact hown) (Below.refl _ _) (Below.keepsX (Below.refl _ _) e)
  | some ad =>
    refine wp_append_own w s r t ho base e i0 z size bytes E.ht hi hz0 hz1 hz2 hz3 E.pos _ _ _ hs hown.1 ad zs.length c (cellsOf enc zs) hx (cellsOf_length E.len zs) (h4 ad rfl) (cellsOf_one E.one zs) ?_ ?_ hb ?_
    · unfold maxLen; omega
    · have := E.fits
      calc (ys.length + zs.length) * bytes ≤ (1073741824 + 1073741824) * 4096 := Nat.mul_le_mul (by omega) this
        _ ≤ 140737488355328 := by decide
    · intro v' w1 ho1 hg1 _
      refine h v' w1 ⟨?_, hown.2⟩ ((Below.refl _ _).grown hg1 hb (fun k hk => (World.ownsRow.lt hown.1 k hk).1)) (keepsX_grown hown.1 hg1)
      rw [cellsOf_append, List.length_append]
      exact ho1
end

/-- 'out[k] = e' in the call's own list. -/
theorem own_put {base : Nat} {w : World} {a : Option Addr} {n c : Nat} {xs : List Pro} (h : OwnQ base w (.slice a n c) xs) {k : Nat} {q : Pro} (hk : xs[k]? = some q) :
    ∃ g o, (∀ w0, (Instr.indexAt 22 (.slice a n c) (.int .i64 (k : Int))).run Try.prog w0 = .ok (.pointer (some ⟨g, o, none⟩)) w0) ∧ base ≤ g ∧ g < w.heap.size ∧
      (∀ j u, (encQ q)[j]? = some u → w.cell? ⟨g, o + j, none⟩ = some u ∧ w.frozen? ⟨g, o + j, none⟩ = false) ∧
      ∀ (x m : Int) (ad : Option Addr) (l cp : Nat), OwnQ base (((w.setCell ⟨g, o, none⟩ (.int .i64 x)).setCell ⟨g, o + 1, none⟩ (.int .i64 m)).setCell ⟨g, o + 2, none⟩ (.slice ad l cp)) (.slice a n c) (xs.set k (x, m, ad, l, cp)) ∧
        Below base w (((w.setCell ⟨g, o, none⟩ (.int .i64 x)).setCell ⟨g, o + 1, none⟩ (.int .i64 m)).setCell ⟨g, o + 2, none⟩ (.slice ad l cp)) ∧
        KeepsX 45 w (((w.setCell ⟨g, o, none⟩ (.int .i64 x)).setCell ⟨g, o + 1, none⟩ (.int .i64 m)).setCell ⟨g, o + 2, none⟩ (.slice ad l cp)) := by
  obtain ⟨g, o, a', c', hv, hi, h1, h2, h3, h4⟩ := h.at_put setE hk
  cases hv
  have hlt := (List.getElem?_eq_some_iff.1 hk).1
  refine ⟨g, o, hi, h1, h2, h3, fun x m ad l cp => ?_⟩
  obtain ⟨x0, m0, ad0, l0, cp0⟩ := q
  have step : ∀ {w1 : World} {ys : List Pro} {y z : Pro} {j : Nat} {u : Value}, OwnQ base w1 (.slice a xs.length c) ys → ys.length = xs.length → ys[k]? = some y → j < 3 → encQ z = (encQ y).set j u →
      OwnQ base (w1.setCell ⟨g, o + j, none⟩ u) (.slice a xs.length c) (ys.set k z) ∧ (ys.set k z).length = xs.length ∧ (ys.set k z)[k]? = some z ∧ Below base w1 (w1.setCell ⟨g, o + j, none⟩ u) ∧ KeepsX 45 w1 (w1.setCell ⟨g, o + j, none⟩ u) := by
    intro w1 ys y z j u k1 k2 k3 k4 k5
    obtain ⟨g', o', a', c', hv', hi', _, _, _, h4'⟩ := k1.at_put setE k3
    rw [k2] at hv' hi' h4'
    cases hv'
    have e := idx_same w1 hi hi'
    cases e
    obtain ⟨r1, r2, r3⟩ := h4' j z u k4 k5
    exact ⟨r1, by rw [List.length_set, k2], by rw [List.getElem?_set_self (by omega)], r2, r3⟩
  obtain ⟨a1, a2, a3, a4, a5⟩ := step (z := (x, m0, ad0, l0, cp0)) (j := 0) (u := .int .i64 x) h rfl hk (by decide) rfl
  obtain ⟨b1, b2, b3, b4, b5⟩ := step (z := (x, m, ad0, l0, cp0)) (j := 1) (u := .int .i64 m) a1 a2 a3 (by decide) rfl
  obtain ⟨e1, _, _, e4, e5⟩ := step (z := (x, m, ad, l, cp)) (j := 2) (u := .slice ad l cp) b1 b2 b3 (by decide) rfl
  refine ⟨?_, (a4.trans b4).trans e4, KeepsX.trans (KeepsX.trans a5 a4.size b5) (a4.trans b4).size e5⟩
  have : (((xs.set k (x, m0, ad0, l0, cp0)).set k (x, m, ad0, l0, cp0)).set k (x, m, ad, l, cp)) = xs.set k (x, m, ad, l, cp) := by simp [List.set_set]
  rw [← this]
  exact e1
/-- 'out = append(out, x)': all blocks but the list's own are as they were. -/
theorem wp_appG1C {α : Type} {P : Program} {t e : TypeId} {size bytes : Nat} {enc : α → List Value} {w : World} {ops : Array Oper} {rest : List Oper} {o : Oper} {a : Act} {Q : Exit → Act → World → Prop} {base : Nat} {v : Value} {ys : List α}
    (E : IsElem P t e size bytes enc) (x : α) (B : Nat) (hBw : B < w.heap.size) (hBv : v.ownBlock ≠ some B) (hgd : o.guard = none) (s r : Operand) (ho : o.op = .call { callee := .builtin .append, args := #[s, r], argTypes := #[t, t] })
    (hs : a.eval s = v) (hown : OwnG enc e size base w v ys) (hx : a.eval r = .slice (some ⟨w.heap.size, 0, none⟩) 1 1) (hlen : ys.length ≤ 1073741824) (hb : base ≤ w.heap.size)
    (h : ∀ v' w', OwnG enc e size base w' v' (ys ++ [x]) → Below base w w' → KeepsX e w w' → Hid (∀ ob, w.heap[B]? = some ob → w'.heap[B]? = some ob) → v'.ownBlock ≠ some B → w.heap.size ≤ w'.heap.size → wpList P ops Q rest (a.put o.dst v') w') :
    wpList P ops Q (o :: rest) a (w.alloc (.cells (enc x).toArray e)) := by
  obtain ⟨i0, z, hi, hz0, hz1, hz2, hz3⟩ := E.info
  refine wpList_append_own_at _ hgd s r t ho base e i0 z size bytes E.ht hi hz0 hz1 hz2 hz3 E.pos _ _ _ hs (World.ownsRow.alloc hown.1 _) ⟨w.heap.size, 0, none⟩ 1 1 (enc x) hx (by rw [E.len, Nat.one_mul]) ?_ (E.one x) ?_ ?_ ?_ ?_
  · intro j u hu
    rw [addr_plain, Nat.zero_add, World.cell?_alloc_new]
    simpa using hu
  · unfold maxLen; omega
  · have := E.fits
    calc (ys.length + 1) * bytes ≤ (1073741824 + 1) * 4096 := Nat.mul_le_mul (by omega) this
      _ ≤ 140737488355328 := by decide
  · simp; omega
  · intro v' w1 ho1 hg1 _ hat
    have hB := ((Below.refl _ _).alloc hb (.cells (enc x).toArray e)).grown hg1 (by simp; omega) (fun k hk => (World.ownsRow.lt hown.1 k hk).1)
    refine h v' w1 ⟨?_, hown.2⟩ hB ((Below.keepsX (below_fresh w _) e).trans (by simp) (keepsX_grown (World.ownsRow.alloc hown.1 _) hg1)) ?_ ?_ hB.size
    · rw [cellsOf_append, List.length_append]
      simpa [cellsOf] using ho1
    · intro ob hob
      rw [hg1.block B (by simp; omega) hBv.symm, (below_fresh w _).block B hBw]
      exact hob
    · rcases hat with h1 | h1
      · rw [h1]; exact hBv
      · intro h2
        rw [h1] at h2
        injection h2 with h2
        simp at h2
        omega
/-- A set of the call's own: its elements and what they hold. -/
def OwnD (base : Nat) (w : World) (v : Value) (fs : List Fp) : Prop := ∃ qs, OwnQ base w v qs ∧ TelO base w qs fs
theorem OwnD.rd {base : Nat} {w : World} {v : Value} {fs : List Fp} (h : OwnD base w v fs) : RdF w v fs := by
  obtain ⟨qs, h1, h2⟩ := h; exact ⟨qs, h1.rd, h2.rd⟩
theorem OwnD.mono {base b2 : Nat} {w : World} {v : Value} {fs : List Fp} (h : OwnD base w v fs) (hle : b2 ≤ base) : OwnD b2 w v fs := by
  obtain ⟨qs, h1, h2⟩ := h; exact ⟨qs, h1.mono hle, h2.mono hle⟩
theorem OwnD.below {base : Nat} {w w' : World} {v : Value} {fs : List Fp} (h : OwnD base w v fs) (hb : Below w.heap.size w w') : OwnD base w' v fs := by
  obtain ⟨qs, h1, h2⟩ := h; exact ⟨qs, h1.below hb, h2.below hb⟩
theorem TelO.keepX {base : Nat} {e : TypeId} {w w' : World} (hk : KeepsX e w w') (he : 63 ≠ e) : ∀ {qs : List Pro} {fs : List Fp}, TelO base w qs fs → TelO base w' qs fs
  | [], [], _ => trivial
  | _ :: _, _ :: _, h => ⟨⟨h.1.1, h.1.2.1, ownG_keep h.1.2.2 hk he⟩, TelO.keepX hk he h.2⟩
  | [], _ :: _, h => h.elim
  | _ :: _, [], h => h.elim
theorem OwnD.keep {base : Nat} {e : TypeId} {w w' : World} {v : Value} {fs : List Fp} (h : OwnD base w v fs) (hk : KeepsX e w w') (h1 : 45 ≠ e) (h2 : 63 ≠ e) : OwnD base w' v fs := by
  obtain ⟨qs, g1, g2⟩ := h; exact ⟨qs, ownG_keep g1 hk h1, g2.keepX hk h2⟩
theorem OwnD.nil (base : Nat) (w : World) : OwnD base w (.slice none 0 0) [] := ⟨[], OwnG.nil hlQ _ _ _, trivial⟩

end Go.Proofs.Yteeegpojfbgkfaa
