/-
  The call of the program's Join: it returns the join of two summaries. No conditions beyond that they read and are short.
-/
import Derived.Test.YtkaafbdhgekeeaaGreatMMg
namespace Go.Proofs.YtkaafbdhgekeeaaGreat
open Go.RowKit
open MM (Mem Ent Sm Tri)

theorem join_ret {R : Ending → World → Prop} {a : Act} {w : World} {g : Nat} {x y z : Value} {k c f v a' n : Int} (hp : a.tmps.getD 4 undef = .pointer (some ⟨g, 0, none⟩)) (hg : w.heap[g]? = some (.cells (s9 x y z k c f v a' n) 37 (0, 0)))
    (hd : a.defers = []) (hR : R (.returned (sv x y z k c f v a' n)) w) : bodyPost Tryz.prog Tryz.f21 R .ret a w :=
  bodyPost_ret (results_cell_row (P := Tryz.prog) rfl a.tmps w g 37 _ _ _ hp hg Tryz.underlying37 rfl (by kernel_rfl)) hd hR
theorem B9.of_block {w : World} {B : Nat} {t : TypeId} {x y z : Value} {k c f v a n : Int} (h : w.heap[B]? = some (.cells (s9 x y z k c f v a n) t (0, 0))) : B9 w B x y z k c f v a n := by
  obtain ⟨⟨z0, z1, z2, z3, z4, z5, z6, z7, z8⟩, _⟩ := row9_at h
  exact ⟨(Array.getElem?_eq_some_iff.1 h).1, z0, z1, z2, z3, z4, z5, z6, z7, z8⟩
/-- The boxes of Join: both summaries, the result, the summary that is built. -/
theorem join_boxes (w : World) (x y z x' y' z' : Value) (k c f v a n k' c' f' v' a' n' : Int) :
    ∃ w4, (((w.alloc (.cells (s9 x y z k c f v a n) 37)).alloc (.cells (s9 x' y' z' k' c' f' v' a' n') 37)).alloc (.cells (s9 (.slice none 0 0) (.slice none 0 0) (.slice none 0 0) 0 0 0 0 0 0) 37)).alloc (.cells (s9 x y z k c f v a n) 37) = w4 ∧
      Below w.heap.size w w4 ∧ w4.heap.size = w.heap.size + 4 ∧
      w4.heap[w.heap.size]? = some (.cells (s9 x y z k c f v a n) 37 (0, 0)) ∧
      w4.heap[w.heap.size + 1]? = some (.cells (s9 x' y' z' k' c' f' v' a' n') 37 (0, 0)) ∧
      w4.heap[w.heap.size + 1 + 1]? = some (.cells (s9 (.slice none 0 0) (.slice none 0 0) (.slice none 0 0) 0 0 0 0 0 0) 37 (0, 0)) ∧
      w4.heap[w.heap.size + 1 + 1 + 1]? = some (.cells (s9 x y z k c f v a n) 37 (0, 0)) := by
  have h1 := heap_alloc_new w (.cells (s9 x y z k c f v a n) 37)
  have b1 := below_fresh w (.cells (s9 x y z k c f v a n) 37)
  have z1 := World.size_alloc w (.cells (s9 x y z k c f v a n) 37)
  generalize w.alloc (.cells (s9 x y z k c f v a n) 37) = w1 at *
  have h2 := heap_alloc_new w1 (.cells (s9 x' y' z' k' c' f' v' a' n') 37)
  have b2 := below_fresh w1 (.cells (s9 x' y' z' k' c' f' v' a' n') 37)
  have z2 := World.size_alloc w1 (.cells (s9 x' y' z' k' c' f' v' a' n') 37)
  generalize w1.alloc (.cells (s9 x' y' z' k' c' f' v' a' n') 37) = w2 at *
  have h3 := heap_alloc_new w2 (.cells (s9 (.slice none 0 0) (.slice none 0 0) (.slice none 0 0) 0 0 0 0 0 0) 37)
  have b3 := below_fresh w2 (.cells (s9 (.slice none 0 0) (.slice none 0 0) (.slice none 0 0) 0 0 0 0 0 0) 37)
  have z3 := World.size_alloc w2 (.cells (s9 (.slice none 0 0) (.slice none 0 0) (.slice none 0 0) 0 0 0 0 0 0) 37)
  generalize w2.alloc (.cells (s9 (.slice none 0 0) (.slice none 0 0) (.slice none 0 0) 0 0 0 0 0 0) 37) = w3 at *
  have h4 := heap_alloc_new w3 (.cells (s9 x y z k c f v a n) 37)
  have b4 := below_fresh w3 (.cells (s9 x y z k c f v a n) 37)
  have z4 := World.size_alloc w3 (.cells (s9 x y z k c f v a n) 37)
  refine ⟨_, rfl, bnext b1 (bnext b2 (bnext b3 b4)), by omega, below_block (below_block (below_block h1 b2) b3) b4, ?_, ?_, ?_⟩
  · rw [← z1]; exact below_block (below_block h2 b3) b4
  · rw [← z1, ← z2]; exact below_block h3 b4
  · rw [← z1, ← z2, ← z3]; exact h4

set_option maxRecDepth 100000 in
set_option maxHeartbeats 8000000 in
theorem cJoin (va vb : Value) (s t : Sm) (w : World) (ha : RdS w va s) (hb : RdS w vb t) (hls : s.J.length ≤ 1000000 ∧ s.R.length ≤ 1000000 ∧ s.W.length ≤ 1000000) (hlt : t.J.length ≤ 1000000 ∧ t.R.length ≤ 1000000 ∧ t.W.length ≤ 1000000) :
    Calls Tryz.prog 21 #[va, vb] w fun e w' => ∃ v, e = .returned v ∧ FrS w.heap.size w' v (MM.join s t) ∧ Below w.heap.size w w' := by
  obtain ⟨x, y, z, rfl, hj, hr, hw⟩ := ha
  obtain ⟨x', y', z', rfl, hj', hr', hw'⟩ := hb
  obtain ⟨J, R1, W, k, c, f, v, a, n⟩ := s
  obtain ⟨J', R1', W', k', c', f', v', a', n'⟩ := t
  dsimp only at *
  obtain ⟨w4, hw4, hB, hsz, hA, hB', hZ, hS⟩ := join_boxes w x y z x' y' z' k c f v a n k' c' f' v' a' n'
  have HJN := Lib.hid (show ∀ u : Bool, MM.useB ⟨J, R1, W, k, c, f, v, a, n⟩ ⟨J', R1', W', k', c', f', v', a', n'⟩ = u → MM.join ⟨J, R1, W, k, c, f, v, a, n⟩ ⟨J', R1', W', k', c', f', v', a', n'⟩ = ⟨MM.mg MM.kI MM.fstI J J', MM.mg MM.kI MM.fstI R1 R1', MM.mg MM.kW MM.lat W W', if u then k' else k, if u then c' else c, if u then f' else f, if u then v' else v, if u then a' else a, if u then n' else n⟩ from fun u hu => by rw [← hu]; rfl)
  have hU : MM.useB ⟨J, R1, W, k, c, f, v, a, n⟩ ⟨J', R1', W', k', c', f', v', a', n'⟩ = (decide (k = 0 ∧ c = 0 ∧ f = 0) || (!decide (k' = 0 ∧ c' = 0 ∧ f' = 0) && MM.aft (v', a', n') (v, a, n))) := rfl
  rw [hU] at HJN
  clear hU
  generalize MM.join ⟨J, R1, W, k, c, f, v, a, n⟩ ⟨J', R1', W', k', c', f', v', a', n'⟩ = JN at HJN ⊢
  have h1 := fun p : Later w4 => Calls.later (cAfter v' a' n' v a n p.val)
  have H4 := Lib.hid (fun p : Later w4 => Calls.later (cRuleOrigin x y z k c f v a n p.val))
  have H5 := Lib.hid (fun p : Later w4 => Calls.later (cRuleOrigin x' y' z' k' c' f' v' a' n' p.val))
  have heq := fun w => eql_rule k c f 0 0 0 w
  have heq' := fun w => neq_rule k' c' f' 0 0 0 w
  generalize decide (k = 0 ∧ c = 0 ∧ f = 0) = za at heq HJN
  generalize decide (k' = 0 ∧ c' = 0 ∧ f' = 0) = zb at heq' HJN
  generalize MM.aft (v', a', n') (v, a, n) = af at h1 HJN
  have H1 := Lib.hid h1
  have HX := Lib.hid (And.intro hj (And.intro hr hw))
  have HX' := Lib.hid (And.intro hj' (And.intro hr' hw'))
  have HLS := Lib.hid hls
  have HLT := Lib.hid hlt
  have HB := Lib.hid hB
  have HSZ := Lib.hid hsz
  have HW4 := Lib.hid hw4
  have HBK := Lib.hid (And.intro hA (And.intro hB' (And.intro hZ hS)))
  have HP := Lib.hid (And.intro (B9.of_block hA) (B9.of_block hB'))
  have HM1 := Lib.hid (fun w1 (h : Below w.heap.size w w1) => cMergeI x x' J J' w1 (hj.below h) (hj'.below h) (by omega) (by omega))
  have HM2 := Lib.hid (fun w1 (h : Below w.heap.size w w1) => cMergeI y y' R1 R1' w1 (hr.below h) (hr'.below h) (by omega) (by omega))
  have HM3 := Lib.hid (fun w1 (h : Below w.heap.size w w1) => cMergeW z z' W W' w1 (hw.below h) (hw'.below h) (by omega) (by omega))
  obtain ⟨ax, lx, cx, hx⟩ : ∃ a l c, x = .slice a l c := by obtain ⟨a, c, h, _⟩ := hj.shape; exact ⟨a, _, c, h⟩
  obtain ⟨ay, ly, cy, hy⟩ : ∃ a l c, y = .slice a l c := by obtain ⟨a, c, h, _⟩ := hr.shape; exact ⟨a, _, c, h⟩
  obtain ⟨az, lz, cz, hz⟩ : ∃ a l c, z = .slice a l c := by obtain ⟨a, c, h, _⟩ := hw.shape; exact ⟨a, _, c, h⟩
  obtain ⟨ax', lx', cx', hx'⟩ : ∃ a l c, x' = .slice a l c := by obtain ⟨a, c, h, _⟩ := hj'.shape; exact ⟨a, _, c, h⟩
  obtain ⟨ay', ly', cy', hy'⟩ : ∃ a l c, y' = .slice a l c := by obtain ⟨a, c, h, _⟩ := hr'.shape; exact ⟨a, _, c, h⟩
  obtain ⟨az', lz', cz', hz'⟩ : ∃ a l c, z' = .slice a l c := by obtain ⟨a, c, h, _⟩ := hw'.shape; exact ⟨a, _, c, h⟩
  subst hx hy hz hx' hy' hz'
  clear h1 hj hj' hr hr' hw hw' hA hB' hZ hS hB hsz hw4 hls hlt
  have P0 : ∀ p : Later w4, p.val.cell? ⟨w.heap.size, 0, none⟩ = some (.slice ax lx cx) := fun p => (HP.out.1.below p.h).2.1
  have P1 : ∀ p : Later w4, p.val.cell? ⟨w.heap.size, 1, none⟩ = some (.slice ay ly cy) := fun p => (HP.out.1.below p.h).2.2.1
  have P2 : ∀ p : Later w4, p.val.cell? ⟨w.heap.size, 2, none⟩ = some (.slice az lz cz) := fun p => (HP.out.1.below p.h).2.2.2.1
  have P3 : ∀ p : Later w4, p.val.cell? ⟨w.heap.size, 3, none⟩ = some (.int .i64 k) := fun p => (HP.out.1.below p.h).2.2.2.2.1
  have P4 : ∀ p : Later w4, p.val.cell? ⟨w.heap.size, 4, none⟩ = some (.int .i64 c) := fun p => (HP.out.1.below p.h).2.2.2.2.2.1
  have P5 : ∀ p : Later w4, p.val.cell? ⟨w.heap.size, 5, none⟩ = some (.int .i64 f) := fun p => (HP.out.1.below p.h).2.2.2.2.2.2.1
  have P6 : ∀ p : Later w4, p.val.cell? ⟨w.heap.size, 6, none⟩ = some (.int .i64 v) := fun p => (HP.out.1.below p.h).2.2.2.2.2.2.2.1
  have P7 : ∀ p : Later w4, p.val.cell? ⟨w.heap.size, 7, none⟩ = some (.int .i64 a) := fun p => (HP.out.1.below p.h).2.2.2.2.2.2.2.2.1
  have P8 : ∀ p : Later w4, p.val.cell? ⟨w.heap.size, 8, none⟩ = some (.int .i64 n) := fun p => (HP.out.1.below p.h).2.2.2.2.2.2.2.2.2
  have Q0 : ∀ p : Later w4, p.val.cell? ⟨w.heap.size + 1, 0, none⟩ = some (.slice ax' lx' cx') := fun p => (HP.out.2.below p.h).2.1
  have Q1 : ∀ p : Later w4, p.val.cell? ⟨w.heap.size + 1, 1, none⟩ = some (.slice ay' ly' cy') := fun p => (HP.out.2.below p.h).2.2.1
  have Q2 : ∀ p : Later w4, p.val.cell? ⟨w.heap.size + 1, 2, none⟩ = some (.slice az' lz' cz') := fun p => (HP.out.2.below p.h).2.2.2.1
  have Q3 : ∀ p : Later w4, p.val.cell? ⟨w.heap.size + 1, 3, none⟩ = some (.int .i64 k') := fun p => (HP.out.2.below p.h).2.2.2.2.1
  have Q4 : ∀ p : Later w4, p.val.cell? ⟨w.heap.size + 1, 4, none⟩ = some (.int .i64 c') := fun p => (HP.out.2.below p.h).2.2.2.2.2.1
  have Q5 : ∀ p : Later w4, p.val.cell? ⟨w.heap.size + 1, 5, none⟩ = some (.int .i64 f') := fun p => (HP.out.2.below p.h).2.2.2.2.2.2.1
  have Q6 : ∀ p : Later w4, p.val.cell? ⟨w.heap.size + 1, 6, none⟩ = some (.int .i64 v') := fun p => (HP.out.2.below p.h).2.2.2.2.2.2.2.1
  have Q7 : ∀ p : Later w4, p.val.cell? ⟨w.heap.size + 1, 7, none⟩ = some (.int .i64 a') := fun p => (HP.out.2.below p.h).2.2.2.2.2.2.2.2.1
  have Q8 : ∀ p : Later w4, p.val.cell? ⟨w.heap.size + 1, 8, none⟩ = some (.int .i64 n') := fun p => (HP.out.2.below p.h).2.2.2.2.2.2.2.2.2
  have hmr := gm_rule
  have hmo := gm_org
  have hc4 : za = true ∨ (za = false ∧ zb = true) ∨ (za = false ∧ zb = false ∧ af = true) ∨ (za = false ∧ zb = false ∧ af = false) := by
    cases za <;> cases zb <;> cases af <;> simp
  obtain ⟨u, hu⟩ : ∃ u, u = (za || (!zb && af)) := ⟨_, rfl⟩
  replace HJN := Lib.hid (HJN.out u hu.symm)
  rcases hc4 with rfl | ⟨rfl, rfl⟩ | ⟨rfl, rfl, rfl⟩ | ⟨rfl, rfl, rfl⟩
  · obtain rfl : u = true := hu
    go_enter Tryz.func21, Tryz.ntmps21
    go_wp2
    rw [HW4.out]
    refine wp_region_later (by kernel_rfl) (by kernel_rfl) ?_
    repeat (go_big_quiet_step (first | (with_reducible exact H1.out _) | (with_reducible exact H4.out _) | (with_reducible exact H5.out _)))
    refine wpQuiet_nil ?_
    rintro _ ⟨p', rfl⟩
    have HB2 := Lib.hid (bnext HB.out p'.h)
    have hA := below_block HBK.out.1 p'.h
    have hB' := below_block HBK.out.2.1 p'.h
    have hZ := below_block HBK.out.2.2.1 p'.h
    have hS := below_block HBK.out.2.2.2 p'.h
    have hs5 := p'.h.size
    generalize p'.val = w5 at HB2 hA hB' hZ hS hs5 ⊢
    clear P0 P1 P2 P3 P4 P5 P6 P7 P8 Q0 Q1 Q2 Q3 Q4 Q5 Q6 Q7 Q8
    obtain ⟨⟨a0, a1, a2, a3, a4, a5, a6, a7, a8⟩, _⟩ := row9_at hA
    obtain ⟨⟨b0, b1, b2, b3, b4, b5, b6, b7, b8⟩, _⟩ := row9_at hB'
    obtain ⟨⟨s0, s1, s2, s3, s4, s5, s6, s7, s8⟩, f0, f1, f2, f3, f4, f5, f6, f7, f8⟩ := row9_at hS
    have HA5 := Lib.hid hA
    have HB5 := Lib.hid hB'
    have HZ5 := Lib.hid hZ
    have HS5 := Lib.hid hS
    clear hA hB' hZ hS
    go_wp2_with fail
    have hput := row9_put HS5.out (.slice ax' lx' cx') (.slice ay' ly' cy') (.slice az' lz' cz') (.int .i64 k') (.int .i64 c') (.int .i64 f') (.int .i64 v') (.int .i64 a') (.int .i64 n') w.heap.size (by omega)
    have hon := onlyc9 (w := w5) (g := w.heap.size + 1 + 1 + 1) (.slice ax' lx' cx') (.slice ay' ly' cy') (.slice az' lz' cz') (.int .i64 k') (.int .i64 c') (.int .i64 f') (.int .i64 v') (.int .i64 a') (.int .i64 n')
    generalize ((((((((w5.setCell ⟨w.heap.size + 1 + 1 + 1, 0, none⟩ (.slice ax' lx' cx')).setCell ⟨w.heap.size + 1 + 1 + 1, 1, none⟩ (.slice ay' ly' cy')).setCell ⟨w.heap.size + 1 + 1 + 1, 2, none⟩ (.slice az' lz' cz')).setCell ⟨w.heap.size + 1 + 1 + 1, 3, none⟩ (.int .i64 k')).setCell ⟨w.heap.size + 1 + 1 + 1, 4, none⟩ (.int .i64 c')).setCell ⟨w.heap.size + 1 + 1 + 1, 5, none⟩ (.int .i64 f')).setCell ⟨w.heap.size + 1 + 1 + 1, 6, none⟩ (.int .i64 v')).setCell ⟨w.heap.size + 1 + 1 + 1, 7, none⟩ (.int .i64 a')).setCell ⟨w.heap.size + 1 + 1 + 1, 8, none⟩ (.int .i64 n') = w6 at hput hon ⊢
    have HB6 := Lib.hid (HB2.out.trans hput.2)
    have HA6 := Lib.hid (hon.at HA5.out (by omega))
    have HBb6 := Lib.hid (hon.at HB5.out (by omega))
    have HZ6 := Lib.hid (hon.at HZ5.out (by omega))
    have HS6 := Lib.hid hput.1
    have HG6 := Lib.hid (show w.heap.size + 4 ≤ w6.heap.size by have h1 := hon.size; have h2 := HSZ.out; omega)
    clear hput hon
    clear a0 a1 a2 a3 a4 a5 a6 a7 a8 b0 b1 b2 b3 b4 b5 b6 b7 b8 s0 s1 s2 s3 s4 s5 s6 s7 s8 f0 f1 f2 f3 f4 f5 f6 f7 f8 hs5
    refine (HM1.out _ HB6.out).mono ?_
    rintro e w7 ⟨m0, rfl, hm0, hb7⟩
    obtain ⟨am0, lm0, cm0, hvm0⟩ : ∃ a l c, m0 = .slice a l c := by obtain ⟨a, c, h, _⟩ := (hm0 _ (Fr.refl _ _)).shape; exact ⟨a, _, c, h⟩
    subst hvm0
    have hA7 := below_block HA6.out hb7
    have hBb7 := below_block HBb6.out hb7
    have hZ7 := below_block HZ6.out hb7
    have hS7 := below_block HS6.out hb7
    have HB7 := Lib.hid (bnext HB6.out hb7)
    have HMm0 := Lib.hid hm0
    have HF7 := Lib.hid (show Fr w6.heap.size w6 w7 from Fr.of hb7)
    have HG7 := Lib.hid (show w6.heap.size ≤ w7.heap.size from Nat.le_trans (Nat.le_refl _) hb7.size)
    obtain ⟨⟨a0, a1, a2, a3, a4, a5, a6, a7, a8⟩, _⟩ := row9_at hA7
    obtain ⟨⟨b0, b1, b2, b3, b4, b5, b6, b7, b8⟩, _⟩ := row9_at hBb7
    obtain ⟨⟨s0, s1, s2, s3, s4, s5, s6, s7, s8⟩, f0, f1, f2, f3, f4, f5, f6, f7, f8⟩ := row9_at hS7
    have hs8 : (w7.setCell ⟨w.heap.size + 1 + 1 + 1, 0, none⟩ (.slice am0 lm0 cm0)).heap[w.heap.size + 1 + 1 + 1]? = some (.cells (s9 (.slice am0 lm0 cm0) (.slice ay' ly' cy') (.slice az' lz' cz') k' c' f' v' a' n') 37 (0, 0)) := heap_setCell_same w7 _ 0 _ _ _ hS7
    have ho8 : Only (w.heap.size + 1 + 1 + 1) w7 (w7.setCell ⟨w.heap.size + 1 + 1 + 1, 0, none⟩ (.slice am0 lm0 cm0)) := Only.set 0 _
    have HA8 := Lib.hid (ho8.at hA7 (by omega))
    have HBb8 := Lib.hid (ho8.at hBb7 (by omega))
    have HZ8 := Lib.hid (ho8.at hZ7 (by omega))
    have HS8 := Lib.hid hs8
    have HB8 := Lib.hid (HB7.out.trans (ho8.below (by omega) HB7.out.size))
    have HF8 := Lib.hid (show Fr w6.heap.size w7 (w7.setCell ⟨w.heap.size + 1 + 1 + 1, 0, none⟩ (.slice am0 lm0 cm0)) from Fr.only ho8 (by have := HG6.out; omega))
    have HG8 := Lib.hid (show w6.heap.size ≤ (w7.setCell ⟨w.heap.size + 1 + 1 + 1, 0, none⟩ (.slice am0 lm0 cm0)).heap.size from Nat.le_trans HG7.out ho8.size)
    clear hs8 ho8 hA7 hBb7 hZ7 hS7 hb7 hm0
    go_wp2_with fail
    generalize w7.setCell ⟨w.heap.size + 1 + 1 + 1, 0, none⟩ (.slice am0 lm0 cm0) = w8 at HA8 HBb8 HZ8 HS8 HB8 HF8 HG8 ⊢
    clear a0 a1 a2 a3 a4 a5 a6 a7 a8 b0 b1 b2 b3 b4 b5 b6 b7 b8 s0 s1 s2 s3 s4 s5 s6 s7 s8 f0 f1 f2 f3 f4 f5 f6 f7 f8
    refine (HM2.out _ HB8.out).mono ?_
    rintro e w9 ⟨m1, rfl, hm1, hb9⟩
    obtain ⟨am1, lm1, cm1, hvm1⟩ : ∃ a l c, m1 = .slice a l c := by obtain ⟨a, c, h, _⟩ := (hm1 _ (Fr.refl _ _)).shape; exact ⟨a, _, c, h⟩
    subst hvm1
    have hA9 := below_block HA8.out hb9
    have hBb9 := below_block HBb8.out hb9
    have hZ9 := below_block HZ8.out hb9
    have hS9 := below_block HS8.out hb9
    have HB9 := Lib.hid (bnext HB8.out hb9)
    have HMm1 := Lib.hid hm1
    have HF9 := Lib.hid (show Fr w6.heap.size w8 w9 from Fr.of hb9)
    have HG9 := Lib.hid (show w6.heap.size ≤ w9.heap.size from Nat.le_trans HG8.out hb9.size)
    obtain ⟨⟨a0, a1, a2, a3, a4, a5, a6, a7, a8⟩, _⟩ := row9_at hA9
    obtain ⟨⟨b0, b1, b2, b3, b4, b5, b6, b7, b8⟩, _⟩ := row9_at hBb9
    obtain ⟨⟨s0, s1, s2, s3, s4, s5, s6, s7, s8⟩, f0, f1, f2, f3, f4, f5, f6, f7, f8⟩ := row9_at hS9
    have hs8 : (w9.setCell ⟨w.heap.size + 1 + 1 + 1, 1, none⟩ (.slice am1 lm1 cm1)).heap[w.heap.size + 1 + 1 + 1]? = some (.cells (s9 (.slice am0 lm0 cm0) (.slice am1 lm1 cm1) (.slice az' lz' cz') k' c' f' v' a' n') 37 (0, 0)) := heap_setCell_same w9 _ 1 _ _ _ hS9
    have ho8 : Only (w.heap.size + 1 + 1 + 1) w9 (w9.setCell ⟨w.heap.size + 1 + 1 + 1, 1, none⟩ (.slice am1 lm1 cm1)) := Only.set 1 _
    have HA10 := Lib.hid (ho8.at hA9 (by omega))
    have HBb10 := Lib.hid (ho8.at hBb9 (by omega))
    have HZ10 := Lib.hid (ho8.at hZ9 (by omega))
    have HS10 := Lib.hid hs8
    have HB10 := Lib.hid (HB9.out.trans (ho8.below (by omega) HB9.out.size))
    have HF10 := Lib.hid (show Fr w6.heap.size w9 (w9.setCell ⟨w.heap.size + 1 + 1 + 1, 1, none⟩ (.slice am1 lm1 cm1)) from Fr.only ho8 (by have := HG6.out; omega))
    have HG10 := Lib.hid (show w6.heap.size ≤ (w9.setCell ⟨w.heap.size + 1 + 1 + 1, 1, none⟩ (.slice am1 lm1 cm1)).heap.size from Nat.le_trans HG9.out ho8.size)
    clear hs8 ho8 hA9 hBb9 hZ9 hS9 hb9 hm1
    go_wp2_with fail
    generalize w9.setCell ⟨w.heap.size + 1 + 1 + 1, 1, none⟩ (.slice am1 lm1 cm1) = w10 at HA10 HBb10 HZ10 HS10 HB10 HF10 HG10 ⊢
    clear a0 a1 a2 a3 a4 a5 a6 a7 a8 b0 b1 b2 b3 b4 b5 b6 b7 b8 s0 s1 s2 s3 s4 s5 s6 s7 s8 f0 f1 f2 f3 f4 f5 f6 f7 f8
    refine (HM3.out _ HB10.out).mono ?_
    rintro e w11 ⟨m2, rfl, hm2, hb11⟩
    obtain ⟨am2, lm2, cm2, hvm2⟩ : ∃ a l c, m2 = .slice a l c := by obtain ⟨a, c, h, _⟩ := (hm2 _ (Fr.refl _ _)).shape; exact ⟨a, _, c, h⟩
    subst hvm2
    have hA11 := below_block HA10.out hb11
    have hBb11 := below_block HBb10.out hb11
    have hZ11 := below_block HZ10.out hb11
    have hS11 := below_block HS10.out hb11
    have HB11 := Lib.hid (bnext HB10.out hb11)
    have HMm2 := Lib.hid hm2
    have HF11 := Lib.hid (show Fr w6.heap.size w10 w11 from Fr.of hb11)
    have HG11 := Lib.hid (show w6.heap.size ≤ w11.heap.size from Nat.le_trans HG10.out hb11.size)
    obtain ⟨⟨a0, a1, a2, a3, a4, a5, a6, a7, a8⟩, _⟩ := row9_at hA11
    obtain ⟨⟨b0, b1, b2, b3, b4, b5, b6, b7, b8⟩, _⟩ := row9_at hBb11
    obtain ⟨⟨s0, s1, s2, s3, s4, s5, s6, s7, s8⟩, f0, f1, f2, f3, f4, f5, f6, f7, f8⟩ := row9_at hS11
    have hs8 : (w11.setCell ⟨w.heap.size + 1 + 1 + 1, 2, none⟩ (.slice am2 lm2 cm2)).heap[w.heap.size + 1 + 1 + 1]? = some (.cells (s9 (.slice am0 lm0 cm0) (.slice am1 lm1 cm1) (.slice am2 lm2 cm2) k' c' f' v' a' n') 37 (0, 0)) := heap_setCell_same w11 _ 2 _ _ _ hS11
    have ho8 : Only (w.heap.size + 1 + 1 + 1) w11 (w11.setCell ⟨w.heap.size + 1 + 1 + 1, 2, none⟩ (.slice am2 lm2 cm2)) := Only.set 2 _
    have HA12 := Lib.hid (ho8.at hA11 (by omega))
    have HBb12 := Lib.hid (ho8.at hBb11 (by omega))
    have HZ12 := Lib.hid (ho8.at hZ11 (by omega))
    have HS12 := Lib.hid hs8
    have HB12 := Lib.hid (HB11.out.trans (ho8.below (by omega) HB11.out.size))
    have HF12 := Lib.hid (show Fr w6.heap.size w11 (w11.setCell ⟨w.heap.size + 1 + 1 + 1, 2, none⟩ (.slice am2 lm2 cm2)) from Fr.only ho8 (by have := HG6.out; omega))
    have HG12 := Lib.hid (show w6.heap.size ≤ (w11.setCell ⟨w.heap.size + 1 + 1 + 1, 2, none⟩ (.slice am2 lm2 cm2)).heap.size from Nat.le_trans HG11.out ho8.size)
    clear hs8 ho8 hA11 hBb11 hZ11 hS11 hb11 hm2
    obtain ⟨⟨y0, y1, y2, y3, y4, y5, y6, y7, y8⟩, g0, g1, g2, g3, g4, g5, g6, g7, g8⟩ := row9_at HZ12.out
    obtain ⟨⟨x0, x1, x2, x3, x4, x5, x6, x7, x8⟩, _⟩ := row9_at HS12.out
    go_wp2
    have hput := row9_put HZ12.out (.slice am0 lm0 cm0) (.slice am1 lm1 cm1) (.slice am2 lm2 cm2) (.int .i64 k') (.int .i64 c') (.int .i64 f') (.int .i64 v') (.int .i64 a') (.int .i64 n') w.heap.size (by omega)
    have hon := onlyc9 (w := (w11.setCell ⟨w.heap.size + 1 + 1 + 1, 2, none⟩ (.slice am2 lm2 cm2))) (g := w.heap.size + 1 + 1) (.slice am0 lm0 cm0) (.slice am1 lm1 cm1) (.slice am2 lm2 cm2) (.int .i64 k') (.int .i64 c') (.int .i64 f') (.int .i64 v') (.int .i64 a') (.int .i64 n')
    refine join_ret rfl hput.1 rfl ⟨_, rfl, ?_, HB12.out.trans hput.2⟩
    rw [HJN.out]
    intro w'' hf
    have hlast := (Fr.only (B := w6.heap.size) hon (by have := HG6.out; omega)).trans (hf.mono (by have := HG6.out; omega))
    have h12 := HF12.out.trans hlast
    have h11 := HF11.out.trans h12
    have h10 := HF10.out.trans h11
    have h9 := HF9.out.trans h10
    have h8 := HF8.out.trans h9
    exact ⟨_, _, _, rfl, HMm0.out _ h8, HMm1.out _ (h10.mono HG8.out), HMm2.out _ (h12.mono HG10.out)⟩
  · obtain rfl : u = false := hu
    go_enter Tryz.func21, Tryz.ntmps21
    go_wp2
    rw [HW4.out]
    refine wp_region_later (by kernel_rfl) (by kernel_rfl) ?_
    repeat (go_big_quiet_step (first | (with_reducible exact H1.out _) | (with_reducible exact H4.out _) | (with_reducible exact H5.out _)))
    refine wpQuiet_nil ?_
    rintro _ ⟨p', rfl⟩
    have HB2 := Lib.hid (bnext HB.out p'.h)
    have hA := below_block HBK.out.1 p'.h
    have hB' := below_block HBK.out.2.1 p'.h
    have hZ := below_block HBK.out.2.2.1 p'.h
    have hS := below_block HBK.out.2.2.2 p'.h
    have hs5 := p'.h.size
    generalize p'.val = w5 at HB2 hA hB' hZ hS hs5 ⊢
    clear P0 P1 P2 P3 P4 P5 P6 P7 P8 Q0 Q1 Q2 Q3 Q4 Q5 Q6 Q7 Q8
    obtain ⟨⟨a0, a1, a2, a3, a4, a5, a6, a7, a8⟩, _⟩ := row9_at hA
    obtain ⟨⟨b0, b1, b2, b3, b4, b5, b6, b7, b8⟩, _⟩ := row9_at hB'
    obtain ⟨⟨s0, s1, s2, s3, s4, s5, s6, s7, s8⟩, f0, f1, f2, f3, f4, f5, f6, f7, f8⟩ := row9_at hS
    have HA5 := Lib.hid hA
    have HB5 := Lib.hid hB'
    have HZ5 := Lib.hid hZ
    have HS5 := Lib.hid hS
    clear hA hB' hZ hS
    go_wp2_with fail
    obtain ⟨w6, hw6⟩ : ∃ w6, w6 = w5 := ⟨_, rfl⟩
    subst hw6
    have HB6 := HB2
    have HA6 := HA5
    have HBb6 := HB5
    have HZ6 := HZ5
    have HS6 := HS5
    have HG6 := Lib.hid (show w.heap.size + 4 ≤ w6.heap.size by have h2 := HSZ.out; omega)
    clear a0 a1 a2 a3 a4 a5 a6 a7 a8 b0 b1 b2 b3 b4 b5 b6 b7 b8 s0 s1 s2 s3 s4 s5 s6 s7 s8 f0 f1 f2 f3 f4 f5 f6 f7 f8 hs5
    refine (HM1.out _ HB6.out).mono ?_
    rintro e w7 ⟨m0, rfl, hm0, hb7⟩
    obtain ⟨am0, lm0, cm0, hvm0⟩ : ∃ a l c, m0 = .slice a l c := by obtain ⟨a, c, h, _⟩ := (hm0 _ (Fr.refl _ _)).shape; exact ⟨a, _, c, h⟩
    subst hvm0
    have hA7 := below_block HA6.out hb7
    have hBb7 := below_block HBb6.out hb7
    have hZ7 := below_block HZ6.out hb7
    have hS7 := below_block HS6.out hb7
    have HB7 := Lib.hid (bnext HB6.out hb7)
    have HMm0 := Lib.hid hm0
    have HF7 := Lib.hid (show Fr w6.heap.size w6 w7 from Fr.of hb7)
    have HG7 := Lib.hid (show w6.heap.size ≤ w7.heap.size from Nat.le_trans (Nat.le_refl _) hb7.size)
    obtain ⟨⟨a0, a1, a2, a3, a4, a5, a6, a7, a8⟩, _⟩ := row9_at hA7
    obtain ⟨⟨b0, b1, b2, b3, b4, b5, b6, b7, b8⟩, _⟩ := row9_at hBb7
    obtain ⟨⟨s0, s1, s2, s3, s4, s5, s6, s7, s8⟩, f0, f1, f2, f3, f4, f5, f6, f7, f8⟩ := row9_at hS7
    have hs8 : (w7.setCell ⟨w.heap.size + 1 + 1 + 1, 0, none⟩ (.slice am0 lm0 cm0)).heap[w.heap.size + 1 + 1 + 1]? = some (.cells (s9 (.slice am0 lm0 cm0) (.slice ay ly cy) (.slice az lz cz) k c f v a n) 37 (0, 0)) := heap_setCell_same w7 _ 0 _ _ _ hS7
    have ho8 : Only (w.heap.size + 1 + 1 + 1) w7 (w7.setCell ⟨w.heap.size + 1 + 1 + 1, 0, none⟩ (.slice am0 lm0 cm0)) := Only.set 0 _
    have HA8 := Lib.hid (ho8.at hA7 (by omega))
    have HBb8 := Lib.hid (ho8.at hBb7 (by omega))
    have HZ8 := Lib.hid (ho8.at hZ7 (by omega))
    have HS8 := Lib.hid hs8
    have HB8 := Lib.hid (HB7.out.trans (ho8.below (by omega) HB7.out.size))
    have HF8 := Lib.hid (show Fr w6.heap.size w7 (w7.setCell ⟨w.heap.size + 1 + 1 + 1, 0, none⟩ (.slice am0 lm0 cm0)) from Fr.only ho8 (by have := HG6.out; omega))
    have HG8 := Lib.hid (show w6.heap.size ≤ (w7.setCell ⟨w.heap.size + 1 + 1 + 1, 0, none⟩ (.slice am0 lm0 cm0)).heap.size from Nat.le_trans HG7.out ho8.size)
    clear hs8 ho8 hA7 hBb7 hZ7 hS7 hb7 hm0
    go_wp2_with fail
    generalize w7.setCell ⟨w.heap.size + 1 + 1 + 1, 0, none⟩ (.slice am0 lm0 cm0) = w8 at HA8 HBb8 HZ8 HS8 HB8 HF8 HG8 ⊢
    clear a0 a1 a2 a3 a4 a5 a6 a7 a8 b0 b1 b2 b3 b4 b5 b6 b7 b8 s0 s1 s2 s3 s4 s5 s6 s7 s8 f0 f1 f2 f3 f4 f5 f6 f7 f8
    refine (HM2.out _ HB8.out).mono ?_
    rintro e w9 ⟨m1, rfl, hm1, hb9⟩
    obtain ⟨am1, lm1, cm1, hvm1⟩ : ∃ a l c, m1 = .slice a l c := by obtain ⟨a, c, h, _⟩ := (hm1 _ (Fr.refl _ _)).shape; exact ⟨a, _, c, h⟩
    subst hvm1
    have hA9 := below_block HA8.out hb9
    have hBb9 := below_block HBb8.out hb9
    have hZ9 := below_block HZ8.out hb9
    have hS9 := below_block HS8.out hb9
    have HB9 := Lib.hid (bnext HB8.out hb9)
    have HMm1 := Lib.hid hm1
    have HF9 := Lib.hid (show Fr w6.heap.size w8 w9 from Fr.of hb9)
    have HG9 := Lib.hid (show w6.heap.size ≤ w9.heap.size from Nat.le_trans HG8.out hb9.size)
    obtain ⟨⟨a0, a1, a2, a3, a4, a5, a6, a7, a8⟩, _⟩ := row9_at hA9
    obtain ⟨⟨b0, b1, b2, b3, b4, b5, b6, b7, b8⟩, _⟩ := row9_at hBb9
    obtain ⟨⟨s0, s1, s2, s3, s4, s5, s6, s7, s8⟩, f0, f1, f2, f3, f4, f5, f6, f7, f8⟩ := row9_at hS9
    have hs8 : (w9.setCell ⟨w.heap.size + 1 + 1 + 1, 1, none⟩ (.slice am1 lm1 cm1)).heap[w.heap.size + 1 + 1 + 1]? = some (.cells (s9 (.slice am0 lm0 cm0) (.slice am1 lm1 cm1) (.slice az lz cz) k c f v a n) 37 (0, 0)) := heap_setCell_same w9 _ 1 _ _ _ hS9
    have ho8 : Only (w.heap.size + 1 + 1 + 1) w9 (w9.setCell ⟨w.heap.size + 1 + 1 + 1, 1, none⟩ (.slice am1 lm1 cm1)) := Only.set 1 _
    have HA10 := Lib.hid (ho8.at hA9 (by omega))
    have HBb10 := Lib.hid (ho8.at hBb9 (by omega))
    have HZ10 := Lib.hid (ho8.at hZ9 (by omega))
    have HS10 := Lib.hid hs8
    have HB10 := Lib.hid (HB9.out.trans (ho8.below (by omega) HB9.out.size))
    have HF10 := Lib.hid (show Fr w6.heap.size w9 (w9.setCell ⟨w.heap.size + 1 + 1 + 1, 1, none⟩ (.slice am1 lm1 cm1)) from Fr.only ho8 (by have := HG6.out; omega))
    have HG10 := Lib.hid (show w6.heap.size ≤ (w9.setCell ⟨w.heap.size + 1 + 1 + 1, 1, none⟩ (.slice am1 lm1 cm1)).heap.size from Nat.le_trans HG9.out ho8.size)
    clear hs8 ho8 hA9 hBb9 hZ9 hS9 hb9 hm1
    go_wp2_with fail
    generalize w9.setCell ⟨w.heap.size + 1 + 1 + 1, 1, none⟩ (.slice am1 lm1 cm1) = w10 at HA10 HBb10 HZ10 HS10 HB10 HF10 HG10 ⊢
    clear a0 a1 a2 a3 a4 a5 a6 a7 a8 b0 b1 b2 b3 b4 b5 b6 b7 b8 s0 s1 s2 s3 s4 s5 s6 s7 s8 f0 f1 f2 f3 f4 f5 f6 f7 f8
    refine (HM3.out _ HB10.out).mono ?_
    rintro e w11 ⟨m2, rfl, hm2, hb11⟩
    obtain ⟨am2, lm2, cm2, hvm2⟩ : ∃ a l c, m2 = .slice a l c := by obtain ⟨a, c, h, _⟩ := (hm2 _ (Fr.refl _ _)).shape; exact ⟨a, _, c, h⟩
    subst hvm2
    have hA11 := below_block HA10.out hb11
    have hBb11 := below_block HBb10.out hb11
    have hZ11 := below_block HZ10.out hb11
    have hS11 := below_block HS10.out hb11
    have HB11 := Lib.hid (bnext HB10.out hb11)
    have HMm2 := Lib.hid hm2
    have HF11 := Lib.hid (show Fr w6.heap.size w10 w11 from Fr.of hb11)
    have HG11 := Lib.hid (show w6.heap.size ≤ w11.heap.size from Nat.le_trans HG10.out hb11.size)
    obtain ⟨⟨a0, a1, a2, a3, a4, a5, a6, a7, a8⟩, _⟩ := row9_at hA11
    obtain ⟨⟨b0, b1, b2, b3, b4, b5, b6, b7, b8⟩, _⟩ := row9_at hBb11
    obtain ⟨⟨s0, s1, s2, s3, s4, s5, s6, s7, s8⟩, f0, f1, f2, f3, f4, f5, f6, f7, f8⟩ := row9_at hS11
    have hs8 : (w11.setCell ⟨w.heap.size + 1 + 1 + 1, 2, none⟩ (.slice am2 lm2 cm2)).heap[w.heap.size + 1 + 1 + 1]? = some (.cells (s9 (.slice am0 lm0 cm0) (.slice am1 lm1 cm1) (.slice am2 lm2 cm2) k c f v a n) 37 (0, 0)) := heap_setCell_same w11 _ 2 _ _ _ hS11
    have ho8 : Only (w.heap.size + 1 + 1 + 1) w11 (w11.setCell ⟨w.heap.size + 1 + 1 + 1, 2, none⟩ (.slice am2 lm2 cm2)) := Only.set 2 _
    have HA12 := Lib.hid (ho8.at hA11 (by omega))
    have HBb12 := Lib.hid (ho8.at hBb11 (by omega))
    have HZ12 := Lib.hid (ho8.at hZ11 (by omega))
    have HS12 := Lib.hid hs8
    have HB12 := Lib.hid (HB11.out.trans (ho8.below (by omega) HB11.out.size))
    have HF12 := Lib.hid (show Fr w6.heap.size w11 (w11.setCell ⟨w.heap.size + 1 + 1 + 1, 2, none⟩ (.slice am2 lm2 cm2)) from Fr.only ho8 (by have := HG6.out; omega))
    have HG12 := Lib.hid (show w6.heap.size ≤ (w11.setCell ⟨w.heap.size + 1 + 1 + 1, 2, none⟩ (.slice am2 lm2 cm2)).heap.size from Nat.le_trans HG11.out ho8.size)
    clear hs8 ho8 hA11 hBb11 hZ11 hS11 hb11 hm2
    obtain ⟨⟨y0, y1, y2, y3, y4, y5, y6, y7, y8⟩, g0, g1, g2, g3, g4, g5, g6, g7, g8⟩ := row9_at HZ12.out
    obtain ⟨⟨x0, x1, x2, x3, x4, x5, x6, x7, x8⟩, _⟩ := row9_at HS12.out
    go_wp2
    have hput := row9_put HZ12.out (.slice am0 lm0 cm0) (.slice am1 lm1 cm1) (.slice am2 lm2 cm2) (.int .i64 k) (.int .i64 c) (.int .i64 f) (.int .i64 v) (.int .i64 a) (.int .i64 n) w.heap.size (by omega)
    have hon := onlyc9 (w := (w11.setCell ⟨w.heap.size + 1 + 1 + 1, 2, none⟩ (.slice am2 lm2 cm2))) (g := w.heap.size + 1 + 1) (.slice am0 lm0 cm0) (.slice am1 lm1 cm1) (.slice am2 lm2 cm2) (.int .i64 k) (.int .i64 c) (.int .i64 f) (.int .i64 v) (.int .i64 a) (.int .i64 n)
    refine join_ret rfl hput.1 rfl ⟨_, rfl, ?_, HB12.out.trans hput.2⟩
    rw [HJN.out]
    intro w'' hf
    have hlast := (Fr.only (B := w6.heap.size) hon (by have := HG6.out; omega)).trans (hf.mono (by have := HG6.out; omega))
    have h12 := HF12.out.trans hlast
    have h11 := HF11.out.trans h12
    have h10 := HF10.out.trans h11
    have h9 := HF9.out.trans h10
    have h8 := HF8.out.trans h9
    exact ⟨_, _, _, rfl, HMm0.out _ h8, HMm1.out _ (h10.mono HG8.out), HMm2.out _ (h12.mono HG10.out)⟩
  · obtain rfl : u = true := hu
    go_enter Tryz.func21, Tryz.ntmps21
    go_wp2
    rw [HW4.out]
    refine wp_region_later (by kernel_rfl) (by kernel_rfl) ?_
    repeat (go_big_quiet_step (first | (with_reducible exact H1.out _) | (with_reducible exact H4.out _) | (with_reducible exact H5.out _)))
    refine wpQuiet_nil ?_
    rintro _ ⟨p', rfl⟩
    have HB2 := Lib.hid (bnext HB.out p'.h)
    have hA := below_block HBK.out.1 p'.h
    have hB' := below_block HBK.out.2.1 p'.h
    have hZ := below_block HBK.out.2.2.1 p'.h
    have hS := below_block HBK.out.2.2.2 p'.h
    have hs5 := p'.h.size
    generalize p'.val = w5 at HB2 hA hB' hZ hS hs5 ⊢
    clear P0 P1 P2 P3 P4 P5 P6 P7 P8 Q0 Q1 Q2 Q3 Q4 Q5 Q6 Q7 Q8
    obtain ⟨⟨a0, a1, a2, a3, a4, a5, a6, a7, a8⟩, _⟩ := row9_at hA
    obtain ⟨⟨b0, b1, b2, b3, b4, b5, b6, b7, b8⟩, _⟩ := row9_at hB'
    obtain ⟨⟨s0, s1, s2, s3, s4, s5, s6, s7, s8⟩, f0, f1, f2, f3, f4, f5, f6, f7, f8⟩ := row9_at hS
    have HA5 := Lib.hid hA
    have HB5 := Lib.hid hB'
    have HZ5 := Lib.hid hZ
    have HS5 := Lib.hid hS
    clear hA hB' hZ hS
    go_wp2_with fail
    have hput := row9_put HS5.out (.slice ax' lx' cx') (.slice ay' ly' cy') (.slice az' lz' cz') (.int .i64 k') (.int .i64 c') (.int .i64 f') (.int .i64 v') (.int .i64 a') (.int .i64 n') w.heap.size (by omega)
    have hon := onlyc9 (w := w5) (g := w.heap.size + 1 + 1 + 1) (.slice ax' lx' cx') (.slice ay' ly' cy') (.slice az' lz' cz') (.int .i64 k') (.int .i64 c') (.int .i64 f') (.int .i64 v') (.int .i64 a') (.int .i64 n')
    generalize ((((((((w5.setCell ⟨w.heap.size + 1 + 1 + 1, 0, none⟩ (.slice ax' lx' cx')).setCell ⟨w.heap.size + 1 + 1 + 1, 1, none⟩ (.slice ay' ly' cy')).setCell ⟨w.heap.size + 1 + 1 + 1, 2, none⟩ (.slice az' lz' cz')).setCell ⟨w.heap.size + 1 + 1 + 1, 3, none⟩ (.int .i64 k')).setCell ⟨w.heap.size + 1 + 1 + 1, 4, none⟩ (.int .i64 c')).setCell ⟨w.heap.size + 1 + 1 + 1, 5, none⟩ (.int .i64 f')).setCell ⟨w.heap.size + 1 + 1 + 1, 6, none⟩ (.int .i64 v')).setCell ⟨w.heap.size + 1 + 1 + 1, 7, none⟩ (.int .i64 a')).setCell ⟨w.heap.size + 1 + 1 + 1, 8, none⟩ (.int .i64 n') = w6 at hput hon ⊢
    have HB6 := Lib.hid (HB2.out.trans hput.2)
    have HA6 := Lib.hid (hon.at HA5.out (by omega))
    have HBb6 := Lib.hid (hon.at HB5.out (by omega))
    have HZ6 := Lib.hid (hon.at HZ5.out (by omega))
    have HS6 := Lib.hid hput.1
    have HG6 := Lib.hid (show w.heap.size + 4 ≤ w6.heap.size by have h1 := hon.size; have h2 := HSZ.out; omega)
    clear hput hon
    clear a0 a1 a2 a3 a4 a5 a6 a7 a8 b0 b1 b2 b3 b4 b5 b6 b7 b8 s0 s1 s2 s3 s4 s5 s6 s7 s8 f0 f1 f2 f3 f4 f5 f6 f7 f8 hs5
    refine (HM1.out _ HB6.out).mono ?_
    rintro e w7 ⟨m0, rfl, hm0, hb7⟩
    obtain ⟨am0, lm0, cm0, hvm0⟩ : ∃ a l c, m0 = .slice a l c := by obtain ⟨a, c, h, _⟩ := (hm0 _ (Fr.refl _ _)).shape; exact ⟨a, _, c, h⟩
    subst hvm0
    have hA7 := below_block HA6.out hb7
    have hBb7 := below_block HBb6.out hb7
    have hZ7 := below_block HZ6.out hb7
    have hS7 := below_block HS6.out hb7
    have HB7 := Lib.hid (bnext HB6.out hb7)
    have HMm0 := Lib.hid hm0
    have HF7 := Lib.hid (show Fr w6.heap.size w6 w7 from Fr.of hb7)
    have HG7 := Lib.hid (show w6.heap.size ≤ w7.heap.size from Nat.le_trans (Nat.le_refl _) hb7.size)
    obtain ⟨⟨a0, a1, a2, a3, a4, a5, a6, a7, a8⟩, _⟩ := row9_at hA7
    obtain ⟨⟨b0, b1, b2, b3, b4, b5, b6, b7, b8⟩, _⟩ := row9_at hBb7
    obtain ⟨⟨s0, s1, s2, s3, s4, s5, s6, s7, s8⟩, f0, f1, f2, f3, f4, f5, f6, f7, f8⟩ := row9_at hS7
    have hs8 : (w7.setCell ⟨w.heap.size + 1 + 1 + 1, 0, none⟩ (.slice am0 lm0 cm0)).heap[w.heap.size + 1 + 1 + 1]? = some (.cells (s9 (.slice am0 lm0 cm0) (.slice ay' ly' cy') (.slice az' lz' cz') k' c' f' v' a' n') 37 (0, 0)) := heap_setCell_same w7 _ 0 _ _ _ hS7
    have ho8 : Only (w.heap.size + 1 + 1 + 1) w7 (w7.setCell ⟨w.heap.size + 1 + 1 + 1, 0, none⟩ (.slice am0 lm0 cm0)) := Only.set 0 _
    have HA8 := Lib.hid (ho8.at hA7 (by omega))
    have HBb8 := Lib.hid (ho8.at hBb7 (by omega))
    have HZ8 := Lib.hid (ho8.at hZ7 (by omega))
    have HS8 := Lib.hid hs8
    have HB8 := Lib.hid (HB7.out.trans (ho8.below (by omega) HB7.out.size))
    have HF8 := Lib.hid (show Fr w6.heap.size w7 (w7.setCell ⟨w.heap.size + 1 + 1 + 1, 0, none⟩ (.slice am0 lm0 cm0)) from Fr.only ho8 (by have := HG6.out; omega))
    have HG8 := Lib.hid (show w6.heap.size ≤ (w7.setCell ⟨w.heap.size + 1 + 1 + 1, 0, none⟩ (.slice am0 lm0 cm0)).heap.size from Nat.le_trans HG7.out ho8.size)
    clear hs8 ho8 hA7 hBb7 hZ7 hS7 hb7 hm0
    go_wp2_with fail
    generalize w7.setCell ⟨w.heap.size + 1 + 1 + 1, 0, none⟩ (.slice am0 lm0 cm0) = w8 at HA8 HBb8 HZ8 HS8 HB8 HF8 HG8 ⊢
    clear a0 a1 a2 a3 a4 a5 a6 a7 a8 b0 b1 b2 b3 b4 b5 b6 b7 b8 s0 s1 s2 s3 s4 s5 s6 s7 s8 f0 f1 f2 f3 f4 f5 f6 f7 f8
    refine (HM2.out _ HB8.out).mono ?_
    rintro e w9 ⟨m1, rfl, hm1, hb9⟩
    obtain ⟨am1, lm1, cm1, hvm1⟩ : ∃ a l c, m1 = .slice a l c := by obtain ⟨a, c, h, _⟩ := (hm1 _ (Fr.refl _ _)).shape; exact ⟨a, _, c, h⟩
    subst hvm1
    have hA9 := below_block HA8.out hb9
    have hBb9 := below_block HBb8.out hb9
    have hZ9 := below_block HZ8.out hb9
    have hS9 := below_block HS8.out hb9
    have HB9 := Lib.hid (bnext HB8.out hb9)
    have HMm1 := Lib.hid hm1
    have HF9 := Lib.hid (show Fr w6.heap.size w8 w9 from Fr.of hb9)
    have HG9 := Lib.hid (show w6.heap.size ≤ w9.heap.size from Nat.le_trans HG8.out hb9.size)
    obtain ⟨⟨a0, a1, a2, a3, a4, a5, a6, a7, a8⟩, _⟩ := row9_at hA9
    obtain ⟨⟨b0, b1, b2, b3, b4, b5, b6, b7, b8⟩, _⟩ := row9_at hBb9
    obtain ⟨⟨s0, s1, s2, s3, s4, s5, s6, s7, s8⟩, f0, f1, f2, f3, f4, f5, f6, f7, f8⟩ := row9_at hS9
    have hs8 : (w9.setCell ⟨w.heap.size + 1 + 1 + 1, 1, none⟩ (.slice am1 lm1 cm1)).heap[w.heap.size + 1 + 1 + 1]? = some (.cells (s9 (.slice am0 lm0 cm0) (.slice am1 lm1 cm1) (.slice az' lz' cz') k' c' f' v' a' n') 37 (0, 0)) := heap_setCell_same w9 _ 1 _ _ _ hS9
    have ho8 : Only (w.heap.size + 1 + 1 + 1) w9 (w9.setCell ⟨w.heap.size + 1 + 1 + 1, 1, none⟩ (.slice am1 lm1 cm1)) := Only.set 1 _
    have HA10 := Lib.hid (ho8.at hA9 (by omega))
    have HBb10 := Lib.hid (ho8.at hBb9 (by omega))
    have HZ10 := Lib.hid (ho8.at hZ9 (by omega))
    have HS10 := Lib.hid hs8
    have HB10 := Lib.hid (HB9.out.trans (ho8.below (by omega) HB9.out.size))
    have HF10 := Lib.hid (show Fr w6.heap.size w9 (w9.setCell ⟨w.heap.size + 1 + 1 + 1, 1, none⟩ (.slice am1 lm1 cm1)) from Fr.only ho8 (by have := HG6.out; omega))
    have HG10 := Lib.hid (show w6.heap.size ≤ (w9.setCell ⟨w.heap.size + 1 + 1 + 1, 1, none⟩ (.slice am1 lm1 cm1)).heap.size from Nat.le_trans HG9.out ho8.size)
    clear hs8 ho8 hA9 hBb9 hZ9 hS9 hb9 hm1
    go_wp2_with fail
    generalize w9.setCell ⟨w.heap.size + 1 + 1 + 1, 1, none⟩ (.slice am1 lm1 cm1) = w10 at HA10 HBb10 HZ10 HS10 HB10 HF10 HG10 ⊢
    clear a0 a1 a2 a3 a4 a5 a6 a7 a8 b0 b1 b2 b3 b4 b5 b6 b7 b8 s0 s1 s2 s3 s4 s5 s6 s7 s8 f0 f1 f2 f3 f4 f5 f6 f7 f8
    refine (HM3.out _ HB10.out).mono ?_
    rintro e w11 ⟨m2, rfl, hm2, hb11⟩
    obtain ⟨am2, lm2, cm2, hvm2⟩ : ∃ a l c, m2 = .slice a l c := by obtain ⟨a, c, h, _⟩ := (hm2 _ (Fr.refl _ _)).shape; exact ⟨a, _, c, h⟩
    subst hvm2
    have hA11 := below_block HA10.out hb11
    have hBb11 := below_block HBb10.out hb11
    have hZ11 := below_block HZ10.out hb11
    have hS11 := below_block HS10.out hb11
    have HB11 := Lib.hid (bnext HB10.out hb11)
    have HMm2 := Lib.hid hm2
    have HF11 := Lib.hid (show Fr w6.heap.size w10 w11 from Fr.of hb11)
    have HG11 := Lib.hid (show w6.heap.size ≤ w11.heap.size from Nat.le_trans HG10.out hb11.size)
    obtain ⟨⟨a0, a1, a2, a3, a4, a5, a6, a7, a8⟩, _⟩ := row9_at hA11
    obtain ⟨⟨b0, b1, b2, b3, b4, b5, b6, b7, b8⟩, _⟩ := row9_at hBb11
    obtain ⟨⟨s0, s1, s2, s3, s4, s5, s6, s7, s8⟩, f0, f1, f2, f3, f4, f5, f6, f7, f8⟩ := row9_at hS11
    have hs8 : (w11.setCell ⟨w.heap.size + 1 + 1 + 1, 2, none⟩ (.slice am2 lm2 cm2)).heap[w.heap.size + 1 + 1 + 1]? = some (.cells (s9 (.slice am0 lm0 cm0) (.slice am1 lm1 cm1) (.slice am2 lm2 cm2) k' c' f' v' a' n') 37 (0, 0)) := heap_setCell_same w11 _ 2 _ _ _ hS11
    have ho8 : Only (w.heap.size + 1 + 1 + 1) w11 (w11.setCell ⟨w.heap.size + 1 + 1 + 1, 2, none⟩ (.slice am2 lm2 cm2)) := Only.set 2 _
    have HA12 := Lib.hid (ho8.at hA11 (by omega))
    have HBb12 := Lib.hid (ho8.at hBb11 (by omega))
    have HZ12 := Lib.hid (ho8.at hZ11 (by omega))
    have HS12 := Lib.hid hs8
    have HB12 := Lib.hid (HB11.out.trans (ho8.below (by omega) HB11.out.size))
    have HF12 := Lib.hid (show Fr w6.heap.size w11 (w11.setCell ⟨w.heap.size + 1 + 1 + 1, 2, none⟩ (.slice am2 lm2 cm2)) from Fr.only ho8 (by have := HG6.out; omega))
    have HG12 := Lib.hid (show w6.heap.size ≤ (w11.setCell ⟨w.heap.size + 1 + 1 + 1, 2, none⟩ (.slice am2 lm2 cm2)).heap.size from Nat.le_trans HG11.out ho8.size)
    clear hs8 ho8 hA11 hBb11 hZ11 hS11 hb11 hm2
    obtain ⟨⟨y0, y1, y2, y3, y4, y5, y6, y7, y8⟩, g0, g1, g2, g3, g4, g5, g6, g7, g8⟩ := row9_at HZ12.out
    obtain ⟨⟨x0, x1, x2, x3, x4, x5, x6, x7, x8⟩, _⟩ := row9_at HS12.out
    go_wp2
    have hput := row9_put HZ12.out (.slice am0 lm0 cm0) (.slice am1 lm1 cm1) (.slice am2 lm2 cm2) (.int .i64 k') (.int .i64 c') (.int .i64 f') (.int .i64 v') (.int .i64 a') (.int .i64 n') w.heap.size (by omega)
    have hon := onlyc9 (w := (w11.setCell ⟨w.heap.size + 1 + 1 + 1, 2, none⟩ (.slice am2 lm2 cm2))) (g := w.heap.size + 1 + 1) (.slice am0 lm0 cm0) (.slice am1 lm1 cm1) (.slice am2 lm2 cm2) (.int .i64 k') (.int .i64 c') (.int .i64 f') (.int .i64 v') (.int .i64 a') (.int .i64 n')
    refine join_ret rfl hput.1 rfl ⟨_, rfl, ?_, HB12.out.trans hput.2⟩
    rw [HJN.out]
    intro w'' hf
    have hlast := (Fr.only (B := w6.heap.size) hon (by have := HG6.out; omega)).trans (hf.mono (by have := HG6.out; omega))
    have h12 := HF12.out.trans hlast
    have h11 := HF11.out.trans h12
    have h10 := HF10.out.trans h11
    have h9 := HF9.out.trans h10
    have h8 := HF8.out.trans h9
    exact ⟨_, _, _, rfl, HMm0.out _ h8, HMm1.out _ (h10.mono HG8.out), HMm2.out _ (h12.mono HG10.out)⟩
  · obtain rfl : u = false := hu
    go_enter Tryz.func21, Tryz.ntmps21
    go_wp2
    rw [HW4.out]
    refine wp_region_later (by kernel_rfl) (by kernel_rfl) ?_
    repeat (go_big_quiet_step (first | (with_reducible exact H1.out _) | (with_reducible exact H4.out _) | (with_reducible exact H5.out _)))
    refine wpQuiet_nil ?_
    rintro _ ⟨p', rfl⟩
    have HB2 := Lib.hid (bnext HB.out p'.h)
    have hA := below_block HBK.out.1 p'.h
    have hB' := below_block HBK.out.2.1 p'.h
    have hZ := below_block HBK.out.2.2.1 p'.h
    have hS := below_block HBK.out.2.2.2 p'.h
    have hs5 := p'.h.size
    generalize p'.val = w5 at HB2 hA hB' hZ hS hs5 ⊢
    clear P0 P1 P2 P3 P4 P5 P6 P7 P8 Q0 Q1 Q2 Q3 Q4 Q5 Q6 Q7 Q8
    obtain ⟨⟨a0, a1, a2, a3, a4, a5, a6, a7, a8⟩, _⟩ := row9_at hA
    obtain ⟨⟨b0, b1, b2, b3, b4, b5, b6, b7, b8⟩, _⟩ := row9_at hB'
    obtain ⟨⟨s0, s1, s2, s3, s4, s5, s6, s7, s8⟩, f0, f1, f2, f3, f4, f5, f6, f7, f8⟩ := row9_at hS
    have HA5 := Lib.hid hA
    have HB5 := Lib.hid hB'
    have HZ5 := Lib.hid hZ
    have HS5 := Lib.hid hS
    clear hA hB' hZ hS
    go_wp2_with fail
    obtain ⟨w6, hw6⟩ : ∃ w6, w6 = w5 := ⟨_, rfl⟩
    subst hw6
    have HB6 := HB2
    have HA6 := HA5
    have HBb6 := HB5
    have HZ6 := HZ5
    have HS6 := HS5
    have HG6 := Lib.hid (show w.heap.size + 4 ≤ w6.heap.size by have h2 := HSZ.out; omega)
    clear a0 a1 a2 a3 a4 a5 a6 a7 a8 b0 b1 b2 b3 b4 b5 b6 b7 b8 s0 s1 s2 s3 s4 s5 s6 s7 s8 f0 f1 f2 f3 f4 f5 f6 f7 f8 hs5
    refine (HM1.out _ HB6.out).mono ?_
    rintro e w7 ⟨m0, rfl, hm0, hb7⟩
    obtain ⟨am0, lm0, cm0, hvm0⟩ : ∃ a l c, m0 = .slice a l c := by obtain ⟨a, c, h, _⟩ := (hm0 _ (Fr.refl _ _)).shape; exact ⟨a, _, c, h⟩
    subst hvm0
    have hA7 := below_block HA6.out hb7
    have hBb7 := below_block HBb6.out hb7
    have hZ7 := below_block HZ6.out hb7
    have hS7 := below_block HS6.out hb7
    have HB7 := Lib.hid (bnext HB6.out hb7)
    have HMm0 := Lib.hid hm0
    have HF7 := Lib.hid (show Fr w6.heap.size w6 w7 from Fr.of hb7)
    have HG7 := Lib.hid (show w6.heap.size ≤ w7.heap.size from Nat.le_trans (Nat.le_refl _) hb7.size)
    obtain ⟨⟨a0, a1, a2, a3, a4, a5, a6, a7, a8⟩, _⟩ := row9_at hA7
    obtain ⟨⟨b0, b1, b2, b3, b4, b5, b6, b7, b8⟩, _⟩ := row9_at hBb7
    obtain ⟨⟨s0, s1, s2, s3, s4, s5, s6, s7, s8⟩, f0, f1, f2, f3, f4, f5, f6, f7, f8⟩ := row9_at hS7
    have hs8 : (w7.setCell ⟨w.heap.size + 1 + 1 + 1, 0, none⟩ (.slice am0 lm0 cm0)).heap[w.heap.size + 1 + 1 + 1]? = some (.cells (s9 (.slice am0 lm0 cm0) (.slice ay ly cy) (.slice az lz cz) k c f v a n) 37 (0, 0)) := heap_setCell_same w7 _ 0 _ _ _ hS7
    have ho8 : Only (w.heap.size + 1 + 1 + 1) w7 (w7.setCell ⟨w.heap.size + 1 + 1 + 1, 0, none⟩ (.slice am0 lm0 cm0)) := Only.set 0 _
    have HA8 := Lib.hid (ho8.at hA7 (by omega))
    have HBb8 := Lib.hid (ho8.at hBb7 (by omega))
    have HZ8 := Lib.hid (ho8.at hZ7 (by omega))
    have HS8 := Lib.hid hs8
    have HB8 := Lib.hid (HB7.out.trans (ho8.below (by omega) HB7.out.size))
    have HF8 := Lib.hid (show Fr w6.heap.size w7 (w7.setCell ⟨w.heap.size + 1 + 1 + 1, 0, none⟩ (.slice am0 lm0 cm0)) from Fr.only ho8 (by have := HG6.out; omega))
    have HG8 := Lib.hid (show w6.heap.size ≤ (w7.setCell ⟨w.heap.size + 1 + 1 + 1, 0, none⟩ (.slice am0 lm0 cm0)).heap.size from Nat.le_trans HG7.out ho8.size)
    clear hs8 ho8 hA7 hBb7 hZ7 hS7 hb7 hm0
    go_wp2_with fail
    generalize w7.setCell ⟨w.heap.size + 1 + 1 + 1, 0, none⟩ (.slice am0 lm0 cm0) = w8 at HA8 HBb8 HZ8 HS8 HB8 HF8 HG8 ⊢
    clear a0 a1 a2 a3 a4 a5 a6 a7 a8 b0 b1 b2 b3 b4 b5 b6 b7 b8 s0 s1 s2 s3 s4 s5 s6 s7 s8 f0 f1 f2 f3 f4 f5 f6 f7 f8
    refine (HM2.out _ HB8.out).mono ?_
    rintro e w9 ⟨m1, rfl, hm1, hb9⟩
    obtain ⟨am1, lm1, cm1, hvm1⟩ : ∃ a l c, m1 = .slice a l c := by obtain ⟨a, c, h, _⟩ := (hm1 _ (Fr.refl _ _)).shape; exact ⟨a, _, c, h⟩
    subst hvm1
    have hA9 := below_block HA8.out hb9
    have hBb9 := below_block HBb8.out hb9
    have hZ9 := below_block HZ8.out hb9
    have hS9 := below_block HS8.out hb9
    have HB9 := Lib.hid (bnext HB8.out hb9)
    have HMm1 := Lib.hid hm1
    have HF9 := Lib.hid (show Fr w6.heap.size w8 w9 from Fr.of hb9)
    have HG9 := Lib.hid (show w6.heap.size ≤ w9.heap.size from Nat.le_trans HG8.out hb9.size)
    obtain ⟨⟨a0, a1, a2, a3, a4, a5, a6, a7, a8⟩, _⟩ := row9_at hA9
    obtain ⟨⟨b0, b1, b2, b3, b4, b5, b6, b7, b8⟩, _⟩ := row9_at hBb9
    obtain ⟨⟨s0, s1, s2, s3, s4, s5, s6, s7, s8⟩, f0, f1, f2, f3, f4, f5, f6, f7, f8⟩ := row9_at hS9
    have hs8 : (w9.setCell ⟨w.heap.size + 1 + 1 + 1, 1, none⟩ (.slice am1 lm1 cm1)).heap[w.heap.size + 1 + 1 + 1]? = some (.cells (s9 (.slice am0 lm0 cm0) (.slice am1 lm1 cm1) (.slice az lz cz) k c f v a n) 37 (0, 0)) := heap_setCell_same w9 _ 1 _ _ _ hS9
    have ho8 : Only (w.heap.size + 1 + 1 + 1) w9 (w9.setCell ⟨w.heap.size + 1 + 1 + 1, 1, none⟩ (.slice am1 lm1 cm1)) := Only.set 1 _
    have HA10 := Lib.hid (ho8.at hA9 (by omega))
    have HBb10 := Lib.hid (ho8.at hBb9 (by omega))
    have HZ10 := Lib.hid (ho8.at hZ9 (by omega))
    have HS10 := Lib.hid hs8
    have HB10 := Lib.hid (HB9.out.trans (ho8.below (by omega) HB9.out.size))
    have HF10 := Lib.hid (show Fr w6.heap.size w9 (w9.setCell ⟨w.heap.size + 1 + 1 + 1, 1, none⟩ (.slice am1 lm1 cm1)) from Fr.only ho8 (by have := HG6.out; omega))
    have HG10 := Lib.hid (show w6.heap.size ≤ (w9.setCell ⟨w.heap.size + 1 + 1 + 1, 1, none⟩ (.slice am1 lm1 cm1)).heap.size from Nat.le_trans HG9.out ho8.size)
    clear hs8 ho8 hA9 hBb9 hZ9 hS9 hb9 hm1
    go_wp2_with fail
    generalize w9.setCell ⟨w.heap.size + 1 + 1 + 1, 1, none⟩ (.slice am1 lm1 cm1) = w10 at HA10 HBb10 HZ10 HS10 HB10 HF10 HG10 ⊢
    clear a0 a1 a2 a3 a4 a5 a6 a7 a8 b0 b1 b2 b3 b4 b5 b6 b7 b8 s0 s1 s2 s3 s4 s5 s6 s7 s8 f0 f1 f2 f3 f4 f5 f6 f7 f8
    refine (HM3.out _ HB10.out).mono ?_
    rintro e w11 ⟨m2, rfl, hm2, hb11⟩
    obtain ⟨am2, lm2, cm2, hvm2⟩ : ∃ a l c, m2 = .slice a l c := by obtain ⟨a, c, h, _⟩ := (hm2 _ (Fr.refl _ _)).shape; exact ⟨a, _, c, h⟩
    subst hvm2
    have hA11 := below_block HA10.out hb11
    have hBb11 := below_block HBb10.out hb11
    have hZ11 := below_block HZ10.out hb11
    have hS11 := below_block HS10.out hb11
    have HB11 := Lib.hid (bnext HB10.out hb11)
    have HMm2 := Lib.hid hm2
    have HF11 := Lib.hid (show Fr w6.heap.size w10 w11 from Fr.of hb11)
    have HG11 := Lib.hid (show w6.heap.size ≤ w11.heap.size from Nat.le_trans HG10.out hb11.size)
    obtain ⟨⟨a0, a1, a2, a3, a4, a5, a6, a7, a8⟩, _⟩ := row9_at hA11
    obtain ⟨⟨b0, b1, b2, b3, b4, b5, b6, b7, b8⟩, _⟩ := row9_at hBb11
    obtain ⟨⟨s0, s1, s2, s3, s4, s5, s6, s7, s8⟩, f0, f1, f2, f3, f4, f5, f6, f7, f8⟩ := row9_at hS11
    have hs8 : (w11.setCell ⟨w.heap.size + 1 + 1 + 1, 2, none⟩ (.slice am2 lm2 cm2)).heap[w.heap.size + 1 + 1 + 1]? = some (.cells (s9 (.slice am0 lm0 cm0) (.slice am1 lm1 cm1) (.slice am2 lm2 cm2) k c f v a n) 37 (0, 0)) := heap_setCell_same w11 _ 2 _ _ _ hS11
    have ho8 : Only (w.heap.size + 1 + 1 + 1) w11 (w11.setCell ⟨w.heap.size + 1 + 1 + 1, 2, none⟩ (.slice am2 lm2 cm2)) := Only.set 2 _
    have HA12 := Lib.hid (ho8.at hA11 (by omega))
    have HBb12 := Lib.hid (ho8.at hBb11 (by omega))
    have HZ12 := Lib.hid (ho8.at hZ11 (by omega))
    have HS12 := Lib.hid hs8
    have HB12 := Lib.hid (HB11.out.trans (ho8.below (by omega) HB11.out.size))
    have HF12 := Lib.hid (show Fr w6.heap.size w11 (w11.setCell ⟨w.heap.size + 1 + 1 + 1, 2, none⟩ (.slice am2 lm2 cm2)) from Fr.only ho8 (by have := HG6.out; omega))
    have HG12 := Lib.hid (show w6.heap.size ≤ (w11.setCell ⟨w.heap.size + 1 + 1 + 1, 2, none⟩ (.slice am2 lm2 cm2)).heap.size from Nat.le_trans HG11.out ho8.size)
    clear hs8 ho8 hA11 hBb11 hZ11 hS11 hb11 hm2
    obtain ⟨⟨y0, y1, y2, y3, y4, y5, y6, y7, y8⟩, g0, g1, g2, g3, g4, g5, g6, g7, g8⟩ := row9_at HZ12.out
    obtain ⟨⟨x0, x1, x2, x3, x4, x5, x6, x7, x8⟩, _⟩ := row9_at HS12.out
    go_wp2
    have hput := row9_put HZ12.out (.slice am0 lm0 cm0) (.slice am1 lm1 cm1) (.slice am2 lm2 cm2) (.int .i64 k) (.int .i64 c) (.int .i64 f) (.int .i64 v) (.int .i64 a) (.int .i64 n) w.heap.size (by omega)
    have hon := onlyc9 (w := (w11.setCell ⟨w.heap.size + 1 + 1 + 1, 2, none⟩ (.slice am2 lm2 cm2))) (g := w.heap.size + 1 + 1) (.slice am0 lm0 cm0) (.slice am1 lm1 cm1) (.slice am2 lm2 cm2) (.int .i64 k) (.int .i64 c) (.int .i64 f) (.int .i64 v) (.int .i64 a) (.int .i64 n)
    refine join_ret rfl hput.1 rfl ⟨_, rfl, ?_, HB12.out.trans hput.2⟩
    rw [HJN.out]
    intro w'' hf
    have hlast := (Fr.only (B := w6.heap.size) hon (by have := HG6.out; omega)).trans (hf.mono (by have := HG6.out; omega))
    have h12 := HF12.out.trans hlast
    have h11 := HF11.out.trans h12
    have h10 := HF10.out.trans h11
    have h9 := HF9.out.trans h10
    have h8 := HF8.out.trans h9
    exact ⟨_, _, _, rfl, HMm0.out _ h8, HMm1.out _ (h10.mono HG8.out), HMm2.out _ (h12.mono HG10.out)⟩

end Go.Proofs.YtkaafbdhgekeeaaGreat
