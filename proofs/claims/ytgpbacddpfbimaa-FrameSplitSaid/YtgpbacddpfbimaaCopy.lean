/-
  The calls of bytes.Clone, slices.Grow at the nil slice, slices.Concat of two slices. Conditions: the slices read as bytes, within the bounds that are named.
-/
import Derived.Lib.AppendZerosOnto
import Derived.Lib.LazyBuf
import Derived.Test.YtgpbacddpfbimaaNum
namespace Go.Proofs.Ytgpbacddpfbimaa
open Go.RowKit
open WM (Bytes)

set_option maxRecDepth 100000 in
set_option maxHeartbeats 1000000 in
theorem wClone (v : Value) (xs : List Int) (w : World) (h : Rd w v xs) (hl : xs.length ≤ 35184372088832) :
    Calls Try.prog 27 #[v] w fun e w' => ∃ v', e = .returned v' ∧ Own w.heap.size w' v' xs ∧ Below w.heap.size w w' := by
  have hr := h.below (below_empty w)
  have ho := own_empty w
  have hb0 := below_empty w
  have hnil : xs.length = 0 → xs = [] := List.eq_nil_of_length_eq_zero
  obtain ⟨a, n, c, rfl, hn, _, hcm, hcn, _⟩ := h
  subst hn
  have heq := fun w n c => run_eql_slice_nil (P := Try.prog) w 22 5 a n c Try.underlying22
  cases a with
  | none =>
    obtain ⟨h0, rfl⟩ := hcn rfl
    obtain rfl := hnil h0
    clear hr ho hb0 hcn hnil
    go_enter Try.func27, Try.ntmps27
    go_wp2
    go_ret
    exact ⟨_, rfl, ⟨World.ownsRow_nil _ _ _ _, fun _ h => by cases h⟩, Below.refl _ _⟩
  | some x =>
    clear hcn hnil
    go_enter Try.func27, Try.ntmps27
    go_wp2_with (at_builtin; refine wp_appS rfl _ _ rfl rfl ho rfl hr (by simp) (by omega) hb0.size ?_)
    intro v1 w1 ho1 hb1
    go_wp2
    go_ret
    exact ⟨_, rfl, by simpa using ho1, hb0.trans hb1⟩

set_option maxRecDepth 100000 in
set_option maxHeartbeats 1000000 in
theorem wGrow (n : Nat) (w : World) (hn : n ≤ 70368744177664) :
    Calls Try.prog 29 #[.slice none 0 0, .int .i64 n] w fun e w' => ∃ v', e = .returned v' ∧ Own w.heap.size w' v' [] ∧ Below w.heap.size w w' := by
  obtain ⟨i0, hi, hz0, hz1, hz2⟩ := info_parts infoU8
  by_cases h0 : n = 0
  · subst h0
    clear hn
    go_enter Try.func29, Try.ntmps29
    go_wp2
    go_ret
    exact ⟨_, rfl, ⟨World.ownsRow_nil _ _ _ _, fun _ h => by cases h⟩, Below.refl _ _⟩
  · have hpos : (0 : Int) < (n : Int) := by omega
    have hnn : ¬ ((n : Int) < 0) := by omega
    have hold := run_firstCells_none (P := Try.prog) w.drew 1 0 0 0
    have hg := grownCap_ge w n 0 5
    have hm := grownCap_le_maxLen w n 0 5 (by unfold maxLen; omega)
    have hrz := fun ty => Lib.run_append_grow_zeros (P := Try.prog) w 22 3 ty 5 i0 (.int .u8 0) .i64 .i64 Try.underlying22 Try.underlying3 hi hz0 none 0 0 [] (by rw [hz1]; exact hold) n (by omega)
      (by rw [hz1]; omega) (by omega) (by omega) (by rw [hz2]; omega) (by rw [hz2]; exact growslice_fits (by omega) (by omega))
    rw [Nat.zero_add] at hrz
    generalize grownCap w n 0 5 = G at hrz hg hm
    have hown : (w.drew.alloc (.cells (#[] ++ Builtin.zeroCells (Value.int IntKind.u8 0).cells n ++ Builtin.zeroCells (Value.int IntKind.u8 0).cells (G - n)) 5)).ownsRow w.heap.size 5 1 (.slice (some ⟨w.heap.size, 0, none⟩) 0 G) 0 [] :=
      World.ownsRow_made w.drew _ G (Nat.le_refl _) hm (by
        rw [Array.size_append, Array.size_append, size_zeroCells, size_zeroCells]
        show 0 + n * 1 + (G - n) * 1 = G * 1
        omega)
    have hbl : Below w.heap.size w (w.drew.alloc (.cells (#[] ++ Builtin.zeroCells (Value.int IntKind.u8 0).cells n ++ Builtin.zeroCells (Value.int IntKind.u8 0).cells (G - n)) 5)) := ((Below.refl _ w).drew).alloc (Nat.le_refl _) _
    generalize w.drew.alloc (.cells (#[] ++ Builtin.zeroCells (Value.int IntKind.u8 0).cells n ++ Builtin.zeroCells (Value.int IntKind.u8 0).cells (G - n)) 5) = w1 at hrz hown hbl
    have hG63 : G ≤ 9223372036854775807 := by unfold maxLen at hm; omega
    clear hm hold hi hz0 hz1 hz2
    go_enter Try.func29, Try.ntmps29
    go_wp2_with (at_builtin; refine Lib.wpList_append_run _ rfl _ _ _ _ rfl _ _ rfl rfl _ _ (hrz _) ?_)
    all_goals
      go_ret
      exact ⟨_, rfl, ⟨hown, fun _ h => by cases h⟩, hbl⟩

set_option maxRecDepth 100000 in
set_option maxHeartbeats 1000000 in
/-- slices.Concat of two slices: the call's own bytes. -/
theorem wConcat (g : Nat) (u v : Value) (xs ys : List Int) (w : World) (c0 : w.cell? ⟨g, 0, none⟩ = some u) (c1 : w.cell? ⟨g, 1, none⟩ = some v) (hu : Rd w u xs) (hv : Rd w v ys) (hl : xs.length + ys.length ≤ 35184372088832) :
    Calls Try.prog 24 #[.slice (some ⟨g, 0, none⟩) 2 2] w fun e w' => ∃ v', e = .returned v' ∧ Own w.heap.size w' v' (xs ++ ys) ∧ Below w.heap.size w w' := by
  have hgrow := wGrow (xs.length + ys.length) w (by omega)
  obtain ⟨au, cu, rfl, hcu⟩ := hu.shape
  obtain ⟨av, cv, rfl, hcv⟩ := hv.shape
  have HU := Lib.hid hu
  have HV := Lib.hid hv
  clear hu hv
  go_enter Try.func24, Try.ntmps24
  go_wp2
  refine wp_loop_rounds 3 ?_
  rw [rounds_succ]
  go_wp2
  rw [rounds_succ]
  go_wp2
  rw [rounds_succ]
  go_wp2_with fail
  have hs : ((xs.length : Int) + (ys.length : Int)) = ((xs.length + ys.length : Nat) : Int) := by omega
  rw [hs]
  refine hgrow.mono ?_
  rintro e w1 ⟨v1, rfl, ho1, hb1⟩
  clear hgrow hs
  have d0 := below_cell hb1 c0
  have d1 := below_cell hb1 c1
  have HU1 := HU.out.below hb1
  have hs1 := hb1.size
  go_wp2
  refine wp_loop_rounds 3 ?_
  rw [rounds_succ]
  go_wp2_with (at_builtin; refine wp_appS rfl _ _ rfl rfl ho1 rfl HU1 (by simp) (by omega) hs1 ?_)
  intro v2 w2 ho2 hb2
  have hb3 := hb1.trans hb2
  have f1 := below_cell hb3 c1
  have HV1 := HV.out.below hb3
  have hs2 := hb3.size
  clear ho1 HU1 hb1 hb2 d0 d1 c0 c1 hs1
  go_wp2
  rw [rounds_succ]
  go_wp2_with (at_builtin; refine wp_appS rfl _ _ rfl rfl ho2 rfl HV1 (by omega) (by omega) hs2 ?_)
  intro v3 w3 ho3 hb4
  have hb5 := hb3.trans hb4
  clear ho2 HV1 hb3 hb4 f1 hs2
  go_wp2
  rw [rounds_succ]
  go_wp2
  go_ret
  exact ⟨_, rfl, ho3, hb5⟩

end Go.Proofs.Ytgpbacddpfbimaa
