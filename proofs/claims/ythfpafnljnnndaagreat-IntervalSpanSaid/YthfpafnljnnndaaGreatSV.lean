/-
  The calls of package vector's walk, its collector and its observer; of vector.Join, Meet, Compare, LessEqual. Conditions: the arguments read as vectors, valid and within the bounds where they are named.
  The calls of vector.Join, Meet, Compare, LessEqual: each returns what the plain mathematics says. Conditions: the arguments read as vectors, within the bounds that are named.
  The calls of slices.Clone, slices.Grow at the nil slice, slices.Concat of three slices, vector.With. Conditions: the slices read as vectors, valid and within the bounds where they are named.
-/
import Derived.StillTailTactics
import Derived.Shelf.Abstract
import Derived.Test.YthfpafnljnnndaaGreatSKF
import Derived.Lib.AppendZerosOnto
import Derived.Lib.LazyBuf
namespace Go.Proofs.YthfpafnljnnndaaGreat.VX
open Go.RowKit Go.Shelf
open VM (Ent)

/-- Block g is a collector (or whatever lies in one cell) that holds the call's own vector xs; all that lay in w0 is as it was. -/
def Coll (w0 : World) (g : Nat) (w : World) (xs : List Ent) : Prop :=
  ∃ v, w.heap[g]? = some (.cells #[v] 124 (0, 0)) ∧ OwnV w0.heap.size w v xs ∧ Below w0.heap.size w0 w

theorem OwnV.set_other {B : Nat} {w : World} {v u x : Value} {xs : List Ent} {g : Nat} {t : TypeId} (h : OwnV B w v xs) (hg : w.heap[g]? = some (.cells #[x] t (0, 0))) (ht : t ≠ 89) : OwnV B (w.setCell ⟨g, 0, none⟩ u) v xs := by
  refine ownsRow_setCell_other h ?_ u
  intro he
  rcases h.2 with ⟨rfl, _⟩ | ⟨g', cap, cur, rfl, _, hh, _⟩
  · cases he
  · simp only [Value.ownBlock] at he
    cases he
    rw [hh] at hg
    cases hg
    exact ht rfl

set_option maxRecDepth 100000 in
set_option maxHeartbeats 1000000 in
theorem wAdd (w0 : World) (g : Nat) (xs : List Ent) (x n : Int) (w : World) (h : Coll w0 g w xs) (hg : w0.heap.size ≤ g) (hl : xs.length ≤ 1000000) :
    Calls Tryz.prog 88 #[.pointer (some ⟨g, 0, none⟩), .int .i64 x, .int .i64 n] w fun e w' => e = .returned (.tuple #[]) ∧ Coll w0 g w' (xs ++ VM.one x n) := by
  by_cases hn : n = 0
  · have hx : (n != 0) = false := by simpa using hn
    have h' : Coll w0 g w (xs ++ VM.one x n) := by rw [VM.one, if_pos hn, List.append_nil]; exact h
    clear h hn
    go_enter Tryz.func88, Tryz.ntmps88
    go_wp2
    go_end0
    exact ⟨rfl, h'⟩
  · have hx : (n != 0) = true := by simpa using hn
    obtain ⟨v, hv, ho, hb⟩ := h
    have hsz := hb.size
    have ho1 : VM.one x n = [(x, n)] := by rw [VM.one, if_neg hn]
    rw [ho1]
    have c0 := cell_of_one hv
    have HV := Lib.hid hv
    clear hn ho1 hv
    go_enter Tryz.func88, Tryz.ntmps88
    go_wp2_with (at_builtin; refine wp_appV1 rfl _ _ rfl rfl ho rfl (by omega) hsz ?_)
    intro v5 w5 ho5 hb5 hk5
    have hv5 := hk5 _ _ _ _ (by decide) HV.out
    have hb6 := (hb.trans hb5).setCell (p := ⟨g, 0, none⟩) hg v5
    have ho6 := ho5.set_other (u := v5) hv5 (by decide)
    have hv6 := one_setCell (u := v5) hv5
    have c5 := cell_of_one hv5
    have f5 := free_of_one hv5
    have HV6 := Lib.hid hv6
    have HO6 := Lib.hid ho6
    have HB6 := Lib.hid hb6
    clear hk5 hv5 ho5 hb5 hb ho HV hv6 ho6 hb6 c0 hsz
    obtain ⟨a5, n5, k5, rfl⟩ : ∃ a5 n5 k5, v5 = .slice a5 n5 k5 := by
      obtain ⟨a, c, h, _⟩ := HO6.out.rd.shape
      exact ⟨_, _, _, h⟩
    go_wp2
    go_end0
    exact ⟨rfl, _, HV6.out, HO6.out, HB6.out⟩

/-- How many elements a slice value has. -/
def slLen : Value → Nat
  | .slice _ n _ => n
  | _ => 0
theorem RdV.slLen {w : World} {v : Value} {xs : List Ent} (h : RdV w v xs) : slLen v = xs.length := by
  obtain ⟨a, c, rfl, _⟩ := h
  rfl

/-- 'v[0]' and 'v[1:]' of a vector that has an entry. -/
theorem RdV.head {w : World} {a : Option Addr} {n c : Nat} {e : Ent} {v : List Ent} (h : RdV w (.slice a n c) (e :: v)) :
    ∃ b o v', (∀ w0, (Instr.indexAt 54 (.slice a n c) (.int .i64 0)).run Tryz.prog w0 = .ok (.pointer (some ⟨b, o, none⟩)) w0) ∧
      w.cell? ⟨b, o, none⟩ = some (.int .i64 e.1) ∧ w.cell? ⟨b, o + 1, none⟩ = some (.int .i64 e.2) ∧
      (∀ w0, (Instr.slice 54 (.slice a n c) (some (.int .i64 1)) none none).run Tryz.prog w0 = .ok v' w0) ∧ RdV w v' v ∧ v.length + 1 = n := by
  obtain ⟨b, o, h1, _, h2, h3⟩ := h.at 0 e rfl
  obtain ⟨v', h4, h5⟩ := h.cutL 1 (by simp)
  have hn := h.slLen
  exact ⟨b, o, v', h1, h2, h3, h4, h5, hn.symm⟩

/-- A world that has drawn. -/
def Drew (w w' : World) : Prop := ∃ n, w' = w.drewN n

end Go.Proofs.YthfpafnljnnndaaGreat.VX

namespace Go.Proofs.YthfpafnljnnndaaGreat.VX
open Go.RowKit Go.Shelf
open VM (Ent)

theorem Coll.below {w0 w : World} {g : Nat} {xs : List Ent} (h : Coll w0 g w xs) : Below w0.heap.size w0 w := by
  obtain ⟨_, _, _, hb⟩ := h
  exact hb
theorem Coll.drew {w0 w : World} {g : Nat} {xs : List Ent} (h : Coll w0 g w xs) (n : Nat) : Coll w0 g (w.drewN n) xs := by
  obtain ⟨v, h1, h2, h3⟩ := h
  exact ⟨v, h1, h2.below (below_drewN _ w n), h3.trans (below_drewN _ w n)⟩
theorem Coll.new (w : World) : Coll w w.heap.size (w.alloc (.cells #[.slice none 0 0] 124)) [] := ⟨_, heap_alloc_new w _, OwnV.nil _ _, below_fresh w _⟩
/-- The result of Compare, of valid vectors. -/
def cmp (xs ys : List Ent) : Int := VM.code (!VM.le ys xs) (!VM.le xs ys)

end Go.Proofs.YthfpafnljnnndaaGreat.VX

namespace Go.Proofs.YthfpafnljnnndaaGreat.VX
open Go.RowKit
open VM (Ent)

set_option maxRecDepth 100000 in
set_option maxHeartbeats 1000000 in
theorem wGrow (n : Nat) (w : World) (hn : n ≤ 1099511627776) :
    Calls Tryz.prog 121 #[.slice none 0 0, .int .i64 n] w fun e w' => ∃ v', e = .returned v' ∧ OwnV w.heap.size w' v' [] ∧ Below w.heap.size w w' := by
  obtain ⟨i0, hi, hz0, hz1, hz2⟩ := info_parts infoEnt
  by_cases h0 : n = 0
  · subst h0
    clear hn
    go_enter Tryz.func121, Tryz.ntmps121
    go_wp2
    go_ret
    exact ⟨_, rfl, OwnV.nil _ _, Below.refl _ _⟩
  · have hpos : (0 : Int) < (n : Int) := by omega
    have hnn : ¬ ((n : Int) < 0) := by omega
    have hold := run_firstCells_none (P := Tryz.prog) w.drew 2 0 0 0
    have hg := grownCap_ge w n 0 89
    have hm := grownCap_le_maxLen w n 0 89 (by unfold maxLen; omega)
    have hrz := fun ty => Lib.run_append_grow_zeros (P := Tryz.prog) w 54 3 ty 89 i0 _ .i64 .i64 Tryz.underlying54 Tryz.underlying3 hi hz0 none 0 0 [] (by rw [hz1]; exact hold) n (by omega)
      (by rw [hz1]; omega) (by omega) (by omega) (by rw [hz2]; omega) (by rw [hz2]; exact growslice_fits (by omega) (by omega))
    rw [Nat.zero_add] at hrz
    generalize grownCap w n 0 89 = G at hrz hg hm
    obtain ⟨Z, hZ⟩ : ∃ Z : Array Value, Z = (Value.agg #[Value.int IntKind.i64 0, Value.int IntKind.i64 0]).cells := ⟨_, rfl⟩
    have hZs : Z.size = 2 := by rw [hZ]; rfl
    rw [← hZ] at hrz
    have hown : (w.drew.alloc (.cells (#[] ++ Builtin.zeroCells Z n ++ Builtin.zeroCells Z (G - n)) 89)).ownsRow w.heap.size 89 2 (.slice (some ⟨w.heap.size, 0, none⟩) 0 G) 0 [] :=
      World.ownsRow_made w.drew _ G (Nat.le_refl _) hm (by
        rw [Array.size_append, Array.size_append, size_zeroCells, size_zeroCells, hZs]
        show 0 + n * 2 + (G - n) * 2 = G * 2
        omega)
    have hbl : Below w.heap.size w (w.drew.alloc (.cells (#[] ++ Builtin.zeroCells Z n ++ Builtin.zeroCells Z (G - n)) 89)) := ((Below.refl _ w).drew).alloc (Nat.le_refl _) _
    have hrz' : ∀ ty, (Builtin.append_ #[54, 3] ty #[.slice none 0 0, .int .i64 n]).run Tryz.prog w = .ok (.slice (some ⟨w.heap.size, 0, none⟩) n G) (w.drew.alloc (.cells (#[] ++ Builtin.zeroCells Z n ++ Builtin.zeroCells Z (G - n)) 89)) := hrz
    generalize w.drew.alloc (.cells (#[] ++ Builtin.zeroCells Z n ++ Builtin.zeroCells Z (G - n)) 89) = w1 at hrz' hown hbl
    have hG63 : G ≤ 9223372036854775807 := by unfold maxLen at hm; omega
    clear hm hold hi hz0 hz1 hz2 hrz hZ hZs
    go_enter Tryz.func121, Tryz.ntmps121
    go_wp2_with (at_builtin; refine Lib.wpList_append_run _ rfl _ _ _ _ rfl _ _ rfl rfl _ _ (hrz' _) ?_)
    all_goals
      go_ret
      exact ⟨_, rfl, hown, hbl⟩

set_option maxRecDepth 100000 in
set_option maxHeartbeats 2000000 in
/-- slices.Concat of three slices: the call's own vector. -/
theorem wConcat (g : Nat) (t u v : Value) (xs ys zs : List Ent) (w : World) (c0 : w.cell? ⟨g, 0, none⟩ = some t) (c1 : w.cell? ⟨g, 1, none⟩ = some u) (c2 : w.cell? ⟨g, 2, none⟩ = some v)
    (ht : RdV w t xs) (hu : RdV w u ys) (hv : RdV w v zs) (hl : xs.length + ys.length + zs.length ≤ 1000000) :
    Calls Tryz.prog 89 #[.slice (some ⟨g, 0, none⟩) 3 3] w fun e w' => ∃ v', e = .returned v' ∧ OwnV w.heap.size w' v' (xs ++ ys ++ zs) ∧ Below w.heap.size w w' := by
  have hgrow := wGrow (xs.length + ys.length + zs.length) w (by omega)
  obtain ⟨at_, ct, rfl, hct⟩ := ht.shape
  obtain ⟨au, cu, rfl, hcu⟩ := hu.shape
  obtain ⟨av, cv, rfl, hcv⟩ := hv.shape
  have HT := Lib.hid ht
  have HU := Lib.hid hu
  have HV := Lib.hid hv
  clear ht hu hv
  go_enter Tryz.func89, Tryz.ntmps89
  go_wp2
  refine wp_loop_rounds 4 ?_
  rw [rounds_succ]
  go_wp2
  rw [rounds_succ]
  go_wp2
  rw [rounds_succ]
  go_wp2
  rw [rounds_succ]
  go_wp2_with fail
  have hs : ((xs.length : Int) + (ys.length : Int) + (zs.length : Int)) = ((xs.length + ys.length + zs.length : Nat) : Int) := by omega
  rw [hs]
  refine hgrow.mono ?_
  rintro e w1 ⟨v1, rfl, ho1, hb1⟩
  clear hgrow hs
  have d0 := below_cell hb1 c0
  have d1 := below_cell hb1 c1
  have d2 := below_cell hb1 c2
  have HT1 := HT.out.below hb1
  have hs1 := hb1.size
  go_wp2
  refine wp_loop_rounds 4 ?_
  rw [rounds_succ]
  go_wp2_with (at_builtin; refine wp_appVS rfl _ _ rfl rfl ho1 rfl HT1 (by simp) (by omega) hs1 ?_)
  intro v2 w2 ho2 hb2
  have hb3 := hb1.trans hb2
  have f1 := below_cell hb3 c1
  have f2 := below_cell hb3 c2
  have HU1 := HU.out.below hb3
  have hs2 := hb3.size
  clear ho1 HT1 hb1 hb2 d0 d1 d2 c0 hs1
  go_wp2
  rw [rounds_succ]
  go_wp2_with (at_builtin; refine wp_appVS rfl _ _ rfl rfl ho2 rfl HU1 (by first | omega | (simp; omega)) (by omega) hs2 ?_)
  intro v3 w3 ho3 hb4
  have hb5 := hb3.trans hb4
  have g2 := below_cell hb5 c2
  have HV1 := HV.out.below hb5
  have hs3 := hb5.size
  clear ho2 HU1 hb3 hb4 f1 f2 c1 hs2
  go_wp2
  rw [rounds_succ]
  go_wp2_with (at_builtin; refine wp_appVS rfl _ _ rfl rfl ho3 rfl HV1 (by first | omega | (simp; omega)) (by omega) hs3 ?_)
  intro v4 w4 ho4 hb6
  have hb7 := hb5.trans hb6
  clear ho3 HV1 hb5 hb6 g2 c2 hs3
  go_wp2
  rw [rounds_succ]
  go_wp2
  go_ret
  exact ⟨_, rfl, by simpa using ho4, hb7⟩

theorem tri0 (w : World) (x y z : Value) (t : TypeId) : (w.alloc (.cells #[x, y, z] t)).cell? ⟨w.heap.size, 0, none⟩ = some x := by rw [World.cell?_alloc_new]; rfl
theorem tri1 (w : World) (x y z : Value) (t : TypeId) : (w.alloc (.cells #[x, y, z] t)).cell? ⟨w.heap.size, 1, none⟩ = some y := by rw [World.cell?_alloc_new]; rfl
theorem tri2 (w : World) (x y z : Value) (t : TypeId) : (w.alloc (.cells #[x, y, z] t)).cell? ⟨w.heap.size, 2, none⟩ = some z := by rw [World.cell?_alloc_new]; rfl

set_option maxRecDepth 100000 in
set_option maxHeartbeats 2000000 in
theorem wWith (v : Value) (xs : List Ent) (a c : Int) (w : World) (h : RdV w v xs) (hv : VM.Val 0 xs) (ha : 1 ≤ a) (hc0 : 0 ≤ c) (hc1 : c ≤ 1000000) (hl : xs.length ≤ 1000) :
    Calls Tryz.prog 62 #[v, .int .i64 a, .int .i64 c] w fun e w' => ∃ v', e = .returned v' ∧ OwnV w.heap.size w' v' (VM.wi xs a c) ∧ Below w.heap.size w w' := by
  have hs := wFind v xs a w h hv hl
  obtain ⟨ad, cap, rfl, hcp, _⟩ := h.shape
  have H := Lib.hid h
  have HV := Lib.hid hv
  have k1 : ¬ a < 1 := by omega
  have k2 : ¬ c < 0 := by omega
  have k3 : ¬ 1000000 < c := by omega
  clear h hv
  go_enter Tryz.func62, Tryz.ntmps62
  go_wp2_with fail
  refine hs.mono ?_
  rintro e w1 ⟨i, rfl, hat, hb⟩
  clear hs
  have hres := VM.wi_at (c := c) HV.out hat
  have hil : i ≤ xs.length := hat.1
  have hbig : VM.fnd xs a i = true → i < xs.length := by
    intro hf
    unfold VM.fnd at hf
    split at hf
    · rename_i he
      exact (List.getElem?_eq_some_iff.1 he).1
    · cases hf
  obtain ⟨s1, e1, r1⟩ := H.out.cut0 i hil
  obtain ⟨a1, d1, hs1, _⟩ := r1.shape
  generalize (xs.take i).length = L1 at hs1
  subst hs1
  have hco := Coll.new w1
  have hadd := wAdd w1 w1.heap.size [] a c _ hco (Nat.le_refl _) (by simp)
  rw [List.nil_append] at hadd
  have hol : (VM.one a c).length ≤ 1 := VM.one_length a c
  clear hat hco
  cases hf : VM.fnd xs a i with
  | true =>
    have hlt := hbig hf
    rw [hf, if_pos rfl] at hres
    obtain ⟨s3, e3, r3⟩ := H.out.cutL (i + 1) (by omega)
    obtain ⟨a3, d3, hs3, _⟩ := r3.shape
    generalize (xs.drop (i + 1)).length = L3 at hs3
    subst hs3
    rw [show ((i + 1 : Nat) : Int) = (i : Int) + 1 by omega] at e3
    have HR := Lib.hid hres
    have R1 := Lib.hid (r1.below hb)
    have R3 := Lib.hid (r3.below hb)
    clear hres hf hbig r1 r3
    go_wp2_with fail
    refine hadd.mono ?_
    rintro e w2 ⟨rfl, v2, hv2, ho2, hb2⟩
    have c2 := cell_of_one hv2
    have R1' := Lib.hid (R1.out.below hb2)
    have R3' := Lib.hid (R3.out.below hb2)
    have hb3 := hb.trans (hb2.mono hb.size)
    obtain ⟨az, cz, rfl, hcz, _⟩ := ho2.rd.shape
    have HO := Lib.hid ho2.rd
    have HB3 := Lib.hid hb3
    clear hadd R1 R3 hb hb2 hv2 ho2 hb3
    go_wp2
    go_still_tail 8, (by kernel_rfl)
    change wpList _ _ _ _ _ w2.drew
    have hb4 : Below w.heap.size w w2.drew := HB3.out.drew
    have q1 : RdV w2.drew (.slice a1 L1 d1) (xs.take i) := R1'.out
    have q2 : RdV w2.drew (.slice az (VM.one a c).length cz) (VM.one a c) := HO.out
    have q3 : RdV w2.drew (.slice a3 L3 d3) (xs.drop (i + 1)) := R3'.out
    generalize w2.drew = w3 at hb4 q1 q2 q3
    have hn := below_fresh w3 (.cells #[.slice a1 L1 d1, .slice az (VM.one a c).length cz, .slice a3 L3 d3] 54)
    have hcc := wConcat w3.heap.size _ _ _ _ _ _ _ (tri0 w3 (.slice a1 L1 d1) (.slice az (VM.one a c).length cz) (.slice a3 L3 d3) 54) (tri1 w3 _ _ _ _) (tri2 w3 _ _ _ _) (q1.below hn) (q2.below hn) (q3.below hn)
      (by rw [List.length_take, List.length_drop]; omega)
    have hb5 := hb4.trans (hn.mono hb4.size)
    have HB5 := Lib.hid hb5
    clear c2 R1' R3' HO HB3 q1 q2 q3 hn hb4 hb5 e1 e3
    go_wp2_with fail
    refine hcc.mono ?_
    rintro e w4 ⟨v4, rfl, ho4, hb6⟩
    have hb7 := HB5.out.trans (hb6.mono HB5.out.size)
    have ho5 := ho4.mono HB5.out.size
    rw [List.append_assoc, ← HR.out] at ho5
    clear hcc ho4 hb6
    go_wp2
    go_ret
    exact ⟨_, rfl, ho5, hb7⟩
  | false =>
    rw [hf, if_neg (by decide), Nat.add_zero] at hres
    obtain ⟨s3, e3, r3⟩ := H.out.cutL i hil
    obtain ⟨a3, d3, hs3, _⟩ := r3.shape
    generalize (xs.drop i).length = L3 at hs3
    subst hs3
    have HR := Lib.hid hres
    have R1 := Lib.hid (r1.below hb)
    have R3 := Lib.hid (r3.below hb)
    clear hres hf hbig r1 r3
    go_wp2_with fail
    refine hadd.mono ?_
    rintro e w2 ⟨rfl, v2, hv2, ho2, hb2⟩
    have c2 := cell_of_one hv2
    have R1' := Lib.hid (R1.out.below hb2)
    have R3' := Lib.hid (R3.out.below hb2)
    have hb3 := hb.trans (hb2.mono hb.size)
    obtain ⟨az, cz, rfl, hcz, _⟩ := ho2.rd.shape
    have HO := Lib.hid ho2.rd
    have HB3 := Lib.hid hb3
    clear hadd R1 R3 hb hb2 hv2 ho2 hb3
    go_wp2
    go_still_tail 8, (by kernel_rfl)
    change wpList _ _ _ _ _ w2.drew
    have hb4 : Below w.heap.size w w2.drew := HB3.out.drew
    have q1 : RdV w2.drew (.slice a1 L1 d1) (xs.take i) := R1'.out
    have q2 : RdV w2.drew (.slice az (VM.one a c).length cz) (VM.one a c) := HO.out
    have q3 : RdV w2.drew (.slice a3 L3 d3) (xs.drop i) := R3'.out
    generalize w2.drew = w3 at hb4 q1 q2 q3
    have hn := below_fresh w3 (.cells #[.slice a1 L1 d1, .slice az (VM.one a c).length cz, .slice a3 L3 d3] 54)
    have hcc := wConcat w3.heap.size _ _ _ _ _ _ _ (tri0 w3 (.slice a1 L1 d1) (.slice az (VM.one a c).length cz) (.slice a3 L3 d3) 54) (tri1 w3 _ _ _ _) (tri2 w3 _ _ _ _) (q1.below hn) (q2.below hn) (q3.below hn)
      (by rw [List.length_take, List.length_drop]; omega)
    have hb5 := hb4.trans (hn.mono hb4.size)
    have HB5 := Lib.hid hb5
    clear c2 R1' R3' HO HB3 q1 q2 q3 hn hb4 hb5 e1 e3
    go_wp2_with fail
    refine hcc.mono ?_
    rintro e w4 ⟨v4, rfl, ho4, hb6⟩
    have hb7 := HB5.out.trans (hb6.mono HB5.out.size)
    have ho5 := ho4.mono HB5.out.size
    rw [List.append_assoc, ← HR.out] at ho5
    clear hcc ho4 hb6
    go_wp2
    go_ret
    exact ⟨_, rfl, ho5, hb7⟩

end Go.Proofs.YthfpafnljnnndaaGreat.VX
