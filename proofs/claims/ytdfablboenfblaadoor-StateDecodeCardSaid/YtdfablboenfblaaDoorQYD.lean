/-
  The calls of slices.Grow, slices.Concat of a set's list, of sets.Add. Conditions: what comes in reads; the set is valid; the tables of unicode/utf8 are laid; the effects fit. (Written by mk_sets.py.)
  The call of sets.Append: the number of elements, then each of them. Conditions: what comes in reads; the set is valid; the effects' numbers are of 64 bits. (Written by mk_sets.py.)
  The call of sets.Decode. Conditions: the bytes read; the tables of unicode/utf8 are laid. (Written by mk_sets.py.)
-/
import Derived.Lib.AppendZerosOnto
import Derived.Lib.LazyBuf
import Derived.Deep.RegionHeld3
import Derived.Test.YtdfablboenfblaaDoorQYC
import Derived.Test.YtdfablboenfblaaDoorQYB
import Derived.Test.YtdfablboenfblaaDoorQSR2
import Derived.Test.YtdfablboenfblaaDoorQYA
import Derived.Test.YtdfablboenfblaaDoorQSM1
import Derived.Test.YtdfablboenfblaaDoorQUC
import Derived.Test.YtdfablboenfblaaDoorQKD
import Derived.Test.YtdfablboenfblaaDoorQUDec
namespace Go.Proofs.YtdfablboenfblaaDoor.ST
open Go.RowKit
open UM (Ef)
open SM (Fp)

set_option maxRecDepth 100000 in
set_option maxHeartbeats 1000000 in
theorem gGrow (n : Nat) (w : World) (hn : n ≤ 1073741824) :
    Calls Tryd.prog 107 #[.slice none 0 0, .int .i64 n] w fun e w' => ∃ v', e = .returned v' ∧ OwnUp w.heap.size w' v' [] ∧ Below w.heap.size w w' := by
  obtain ⟨i0, hi, hz0, hz1, hz2⟩ := info_parts infoUp
  by_cases h0 : n = 0
  · subst h0
    clear hn
    go_enter Tryd.func107, Tryd.ntmps107
    go_wp2
    go_ret
    exact ⟨_, rfl, OwnG.nil hlUp _ _ _, Below.refl _ _⟩
  · have hpos : (0 : Int) < (n : Int) := by omega
    have hnn : ¬ ((n : Int) < 0) := by omega
    have hold := run_firstCells_none (P := Tryd.prog) w.drew 4 0 0 0
    have hg := grownCap_ge w n 0 43
    have hm := grownCap_le_maxLen w n 0 43 (by unfold maxLen; omega)
    have hrz := fun ty => Lib.run_append_grow_zeros (P := Tryd.prog) w 22 3 ty 43 i0 _ .i64 .i64 Tryd.underlying22 Tryd.underlying3 hi hz0 none 0 0 [] (by rw [hz1]; exact hold) n (by omega)
      (by rw [hz1]; omega) (by omega) (by omega) (by rw [hz2]; omega) (by rw [hz2]; exact growslice_fits (by omega) (by omega))
    rw [Nat.zero_add] at hrz
    generalize grownCap w n 0 43 = G at hrz hg hm
    obtain ⟨Z, hZ⟩ : ∃ Z : Array Value, Z = (Value.agg #[Value.int IntKind.i64 0, Value.int IntKind.i64 0, Value.int IntKind.i64 0, Value.slice none 0 0]).cells := ⟨_, rfl⟩
    have hZs : Z.size = 4 := by rw [hZ]; rfl
    rw [← hZ] at hrz
    have hown : (w.drew.alloc (.cells (#[] ++ Builtin.zeroCells Z n ++ Builtin.zeroCells Z (G - n)) 43)).ownsRow w.heap.size 43 4 (.slice (some ⟨w.heap.size, 0, none⟩) 0 G) 0 [] :=
      World.ownsRow_made w.drew _ G (Nat.le_refl _) hm (by
        rw [Array.size_append, Array.size_append, size_zeroCells, size_zeroCells, hZs]
        show 0 + n * 4 + (G - n) * 4 = G * 4
        omega)
    have hbl : Below w.heap.size w (w.drew.alloc (.cells (#[] ++ Builtin.zeroCells Z n ++ Builtin.zeroCells Z (G - n)) 43)) := ((Below.refl _ w).drew).alloc (Nat.le_refl _) _
    have hrz' : ∀ ty, (Builtin.append_ #[22, 3] ty #[.slice none 0 0, .int .i64 n]).run Tryd.prog w = .ok (.slice (some ⟨w.heap.size, 0, none⟩) n G) (w.drew.alloc (.cells (#[] ++ Builtin.zeroCells Z n ++ Builtin.zeroCells Z (G - n)) 43)) := hrz
    generalize w.drew.alloc (.cells (#[] ++ Builtin.zeroCells Z n ++ Builtin.zeroCells Z (G - n)) 43) = w1 at hrz' hown hbl
    have hG63 : G ≤ 9223372036854775807 := by unfold maxLen at hm; omega
    clear hm hold hi hz0 hz1 hz2 hrz hZ hZs
    go_enter Tryd.func107, Tryd.ntmps107
    go_wp2_with (at_builtin; refine Lib.wpList_append_run _ rfl _ _ _ _ rfl _ _ rfl rfl _ _ (hrz' _) ?_)
    all_goals
      go_ret
      exact ⟨_, rfl, ⟨hown, hlUp⟩, hbl⟩

set_option maxRecDepth 100000 in
set_option maxHeartbeats 2000000 in
/-- slices.Concat of three configurations: the call's own list. -/
theorem gConcat (g : Nat) (t u v : Value) (xs ys zs : List Up) (w : World) (c0 : w.cell? ⟨g, 0, none⟩ = some t) (c1 : w.cell? ⟨g, 1, none⟩ = some u) (c2 : w.cell? ⟨g, 2, none⟩ = some v)
    (ht : RdUp w t xs) (hu : RdUp w u ys) (hv : RdUp w v zs) (hl : xs.length + ys.length + zs.length ≤ 1000000) :
    Calls Tryd.prog 82 #[.slice (some ⟨g, 0, none⟩) 3 3] w fun e w' => ∃ v', e = .returned v' ∧ OwnUp w.heap.size w' v' (xs ++ ys ++ zs) ∧ Below w.heap.size w w' := by
  have hgrow := gGrow (xs.length + ys.length + zs.length) w (by omega)
  obtain ⟨at_, ct, rfl, hct, _⟩ := ht.shape
  obtain ⟨au, cu, rfl, hcu, _⟩ := hu.shape
  obtain ⟨av, cv, rfl, hcv, _⟩ := hv.shape
  have HT := Lib.hid ht
  have HU := Lib.hid hu
  have HV := Lib.hid hv
  clear ht hu hv
  go_enter Tryd.func82, Tryd.ntmps82
  go_wp2
  refine wp_loop_rounds 4 ?_
  rw [rounds_succ]
  go_wp2
  rw [rounds_succ]
  go_wp2
  rw [rounds_succ]
  go_wp2
  rw [rounds_succ]
  go_wp2_with fail
  have hs : ((xs.length : Int) + (ys.length : Int) + (zs.length : Int)) = ((xs.length + ys.length + zs.length : Nat) : Int) := by omega
  rw [hs]
  refine hgrow.mono ?_
  rintro e w1 ⟨v1, rfl, ho1, hb1⟩
  clear hgrow hs
  have d0 := below_cell hb1 c0
  have d1 := below_cell hb1 c1
  have d2 := below_cell hb1 c2
  have HT1 := HT.out.below hb1
  have hs1 := hb1.size
  go_wp2
  refine wp_loop_rounds 4 ?_
  rw [rounds_succ]
  go_wp2_with (at_builtin; refine wp_appGS setE rfl _ _ rfl rfl ho1 rfl HT1 (by simp) (by omega) hs1 ?_)
  intro v2 w2 ho2 hb2 _
  have hb3 := hb1.trans hb2
  have f1 := below_cell hb3 c1
  have f2 := below_cell hb3 c2
  have HU1 := HU.out.below hb3
  have hs2 := hb3.size
  clear ho1 HT1 hb1 hb2 d0 d1 d2 c0 hs1
  go_wp2
  rw [rounds_succ]
  go_wp2_with (at_builtin; refine wp_appGS setE rfl _ _ rfl rfl ho2 rfl HU1 (by first | omega | (simp; omega)) (by omega) hs2 ?_)
  intro v3 w3 ho3 hb4 _
  have hb5 := hb3.trans hb4
  have g2 := below_cell hb5 c2
  have HV1 := HV.out.below hb5
  have hs3 := hb5.size
  clear ho2 HU1 hb3 hb4 f1 f2 c1 hs2
  go_wp2
  rw [rounds_succ]
  go_wp2_with (at_builtin; refine wp_appGS setE rfl _ _ rfl rfl ho3 rfl HV1 (by first | omega | (simp; omega)) (by omega) hs3 ?_)
  intro v4 w4 ho4 hb6 _
  have hb7 := hb5.trans hb6
  clear ho3 HV1 hb5 hb6 g2 c2 hs3
  go_wp2
  rw [rounds_succ]
  go_wp2
  go_ret
  exact ⟨_, rfl, by simpa using ho4, hb7⟩

theorem all_len6 {x m t : Int} {cs : List Ef} (h : UM.errU x m t cs = 0) : cs.length ≤ 4 := (UM.errU_ok h).2.2.2.2.2.2.1
/-- What Follows answers at the place of an identifier that is not there. -/
theorem fol_ct {fs : List Fp} {x m : Int} {i : Nat} (ho : SM.Ok fs) (ha : AtF fs x m i) (hk : SM.hasK fs x m = false) (hm : 1 ≤ m) (hx : x ≠ 0) : folS (fs.take i) x m = decide (m = SM.ct fs x + 1) := by
  have hnm : ¬ m ≤ SM.ct fs x := fun h => by rw [(ho.has x m hm).2 h] at hk; cases hk
  have hpos := SM.ct_pos fs x
  unfold folS
  rw [pre_take ha.1]
  apply decide_eq_decide.2
  have hp : i ≠ 0 → ∃ g, fs[i - 1]? = some g ∧ pre fs i = (g.1, g.2.1) := fun hi => by
    have hlt : i - 1 < fs.length := by have := ha.1; omega
    have hg := List.getElem?_eq_getElem hlt
    exact ⟨_, hg, by simp [pre, hi, List.getD, hg]⟩
  constructor
  · rintro (h1 | ⟨h1, h2⟩)
    · omega
    · by_cases hi : i = 0
      · rw [hi] at h1
        exact absurd (show (0 : Int) = x from h1).symm hx
      · obtain ⟨g, hg, hpg⟩ := hp hi
        rw [hpg] at h1 h2
        by_cases h3 : m ≤ 1
        · omega
        · have := (ho.has x (m - 1) (by omega)).1 (SM.hasK_iff.2 ⟨g, List.mem_of_getElem? hg, h1, h2⟩)
          omega
  · intro h
    by_cases h1 : m ≤ 1
    · exact .inl h1
    · right
      obtain ⟨g, hg, hg1, hg2⟩ := SM.hasK_iff.1 ((ho.has x (m - 1) (by omega)).2 (by omega))
      obtain ⟨j, hj⟩ := List.getElem?_of_mem hg
      have hji : j < i := by
        rcases Nat.lt_or_ge j i with h2 | h2
        · exact h2
        · have h3 := ha.2.2 j g hj h2
          have h4 : UM.cmpU g.1 g.2.1 x m < 0 := SM.cmpP_lt.2 (.inr ⟨hg1, by omega⟩)
          omega
      obtain ⟨q, hq, hpq⟩ := hp (by omega)
      have hl := ha.2.1 (i - 1) q hq (by omega)
      rw [SM.cmpP_lt] at hl
      rcases Nat.lt_or_ge j (i - 1) with h2 | h2
      · have h3 := ho.srt.get hj hq h2
        unfold SM.lt at h3
        omega
      · obtain rfl : j = i - 1 := by omega
        rw [hj] at hq
        cases hq
        rw [hpq]
        exact ⟨hg1, hg2⟩

set_option maxRecDepth 100000 in
set_option maxHeartbeats 8000000 in
theorem sAdd (v : Value) (fs : List Fp) (x m t : Int) (sv : Value) (cs : List Ef) (w : World) (h : RdF w v fs) (hs : RdEf w sv cs) (hok : SM.Ok fs) (hT : Tb w) (hfit : ∀ e ∈ cs, NmFit e) :
    Calls Tryd.prog 58 #[(.agg #[.func (.func 71) #[] #[], .func (.func 72) #[] #[], .func (.func 61) #[] #[], .func (.func 73) #[] #[], .func (.func 53) #[] #[], .func (.func 74) #[] #[], .func (.func 75) #[] #[], .func (.func 76) #[] #[], .int .i64 48]), v, uv x m t sv] w fun e w' => ∃ v', e = .returned (.tuple #[v', .int .i64 (SM.addU fs (x, m, t, cs)).1]) ∧ OwnD w.heap.size w' v' (SM.addU fs (x, m, t, cs)).2 ∧ Below w.heap.size w w' := by
  obtain ⟨ad, cp, rfl, hcp, _⟩ := h.shape
  obtain ⟨da, dc, rfl, hdc, _⟩ := hs.shape
  have h9 := hok.all48
  obtain ⟨R, hR⟩ : ∃ R, R = SM.addU fs (x, m, t, cs) := ⟨_, rfl⟩
  rw [← hR]
  have hR2 : R = if UM.errU x m t cs ≠ 0 then (UM.errU x m t cs, []) else if SM.hasK fs x m = true then (5, []) else if m ≠ SM.ct fs x + 1 then (8, []) else (0, SM.un fs [(x, m, t, cs)]) := hR
  obtain ⟨w0, HX⟩ := kbox w x m t (.slice da cs.length dc)
  have HW0 := Lib.hid HX.eq
  have HB0 := Lib.hid HX.below
  have HK0 := Lib.hid HX.k
  have HP0 := Lib.hid HX.e
  have H0 := Lib.hid (h.below HX.below)
  have HS0 := Lib.hid (hs.below HX.below)
  obtain ⟨K, hK⟩ : ∃ K, w.heap.size = K := ⟨_, rfl⟩
  rw [hK] at HK0 HP0
  have HKE := Lib.hid hK
  have hV := cVal x m t (.slice da cs.length dc) cs w0 (hT.below HX.below) HS0.out hfit
  have HOK := Lib.hid hok
  have HN := Lib.hid (fun h => SM.errF_num (f := (x, m, t, cs)) h)
  clear h hs HX hR hok hK hT hfit
  obtain ⟨p0, p1, p2, p3, _⟩ := HP0.out.cells
  obtain ⟨_, _, k2, _⟩ := HK0.out.cells
  by_cases hE : UM.errU x m t cs = 0
  · rw [hE] at hV
    rw [if_neg (by rw [hE]; simp)] at hR2
    have HV := Lib.hid hV
    obtain ⟨n1, n2, n3, n4⟩ := HN.out hE
    simp only at n1 n2 n3 n4
    have hc6 : cs.length ≤ 1000 := by have := all_len6 hE; omega
    have HER := Lib.hid hE
    have HR2 := Lib.hid hR2
    clear hV hR2 hE HN
    go_enter Tryd.func58, Tryd.ntmps58
    go_upto_region 1 with fail
    rw [HW0.out, HKE.out]
    go_wp2_with fail
    refine HV.out.mono ?_
    rintro e w1 ⟨rfl, hb1⟩
    have HP1 := Lib.hid (HP0.out.below hb1)
    have HK1 := Lib.hid (HK0.out.below hb1)
    have H1 := Lib.hid (H0.out.below hb1)
    have HS1 := Lib.hid (HS0.out.below hb1)
    have HB1 := Lib.hid (bnext HB0.out hb1)
    clear p0 p1 p2 p3 k2 HV HP0 HK0 H0 HS0 HB0 HW0 hb1
    obtain ⟨p0, p1, p2, p3, _⟩ := HP1.out.cells
    obtain ⟨k0, k1, k2, k3, k4, k5, k6, k7, k8⟩ := HK1.out.cells
    have HF := Lib.hid (sFind _ fs x m t da cs.length dc w1 H1.out HOK.out.srt (by omega))
    go_wp2_with fail
    refine HF.out.mono ?_
    rintro e w2 ⟨i, rfl, hat, hb2⟩
    have HP2 := Lib.hid (HP1.out.below hb2)
    have HK2 := Lib.hid (HK1.out.below hb2)
    have H2 := Lib.hid (H1.out.below hb2)
    have HS2 := Lib.hid (HS1.out.below hb2)
    have HB2 := Lib.hid (bnext HB1.out hb2)
    have HAT := Lib.hid hat
    have hfh := fnd_has HOK.out.srt hat
    clear p0 p1 p2 p3 k0 k1 k2 k3 k4 k5 k6 k7 k8 HF HP1 HK1 H1 HS1 HB1 hb2 hat
    obtain ⟨F, hF⟩ : ∃ F, F = fndF fs x m i := ⟨_, rfl⟩
    rw [← hF] at hfh ⊢
    have HFN := Lib.hid hF
    clear hF
    cases F
    · have HR3 := Lib.hid (show R = if m ≠ SM.ct fs x + 1 then (8, []) else (0, SM.un fs [(x, m, t, cs)]) by rw [HR2.out, if_neg (by rw [← hfh]; decide)])
      have hfo := fol_ct HOK.out HAT.out hfh.symm n3 (by omega)
      have HFN2 : Hid (fndF fs x m i = false) := HFN.out.symm
      have hi := HAT.out.1
      obtain ⟨vp, hcut0, hrp⟩ := H2.out.cut0S i hi
      have HFO := Lib.hid (fun w' (hb : Below w2.heap.size w2 w') => sFollows vp (fs.take i) x m t da cs.length dc w' (hrp.below hb) ⟨n3, by omega⟩ (by omega))
      rw [hfo] at HFO
      obtain ⟨z0, z1, z2, z3⟩ := lat_e HP2.out
      obtain ⟨l0, l1, l2, l3, l4, l5, l6, l7, l8⟩ := HK2.out.later
      clear HR2 hfh hfo HFN hrp
      by_cases hmn : m = SM.ct fs x + 1
      · have HR4 := Lib.hid (show R = (0, fs.take i ++ ([(x, m, t, cs)] ++ fs.drop i)) by rw [HR3.out, if_neg (by simpa using hmn), un_at HAT.out HFN2.out])
        rw [decide_eq_true hmn] at HFO
        have HFO2 := Lib.hid (fun q : Later w2 => Calls.later (HFO.out q.val q.h))
        clear HR3 hmn HFO
        go_wp2
        refine wp_region_later (by kernel_rfl) (by kernel_rfl) ?_
        repeat (go_big_quiet_step (first | (go_at_call 63; with_reducible exact HFO2.out _)))
        refine wpQuiet_nil ?_
        rintro _ ⟨p', rfl⟩
        have HP3 := Lib.hid (HP2.out.below p'.h)
        have HK3 := Lib.hid (HK2.out.below p'.h)
        have H3 := Lib.hid (H2.out.below p'.h)
        have HS3 := Lib.hid (HS2.out.below p'.h)
        have HB3 := Lib.hid (bnext HB2.out p'.h)
        clear z0 z1 z2 z3 l0 l1 l2 l3 l4 l5 l6 l7 l8 HFO2 HP2 HK2 H2 HS2 HB2 hcut0
        obtain ⟨w3, hw3⟩ : ∃ w3, w3 = p'.val := ⟨_, rfl⟩
        rw [← hw3] at HP3 HK3 H3 HS3 HB3 ⊢
        clear hw3
        obtain ⟨qs, hq1, hq2⟩ := H3.out
        have hql := hq2.len
        obtain ⟨va, hcut0, hra⟩ := hq1.cut0 setE i (by omega)
        obtain ⟨vb, hcutL, hrb⟩ := hq1.cutL setE i (by omega)
        obtain ⟨a3, l3, c3, rfl⟩ : ∃ a l c, va = .slice a l c := by obtain ⟨a, c, h, _⟩ := hra.shape; exact ⟨a, _, c, h⟩
        obtain ⟨a4, l4, c4, rfl⟩ : ∃ a l c, vb = .slice a l c := by obtain ⟨a, c, h, _⟩ := hrb.shape; exact ⟨a, _, c, h⟩
        have HRA := Lib.hid hra
        have HRB := Lib.hid hrb
        have HT3 := Lib.hid hq2
        have HQL := Lib.hid hql
        have HI := Lib.hid hi
        have HCL := Lib.hid (show ∀ f ∈ fs.take i ++ ([(x, m, t, cs)] ++ fs.drop i), f.2.2.2.length ≤ 1073741824 by
          intro f hf
          rcases List.mem_append.1 hf with h1 | h1
          · exact all_len HOK.out.all f (List.mem_of_mem_take h1)
          · rcases List.mem_append.1 h1 with h2 | h2
            · rw [List.mem_singleton] at h2; subst h2; show cs.length ≤ _; omega
            · exact all_len HOK.out.all f (List.mem_of_mem_drop h2))
        have HLL := Lib.hid (show (fs.take i ++ ([(x, m, t, cs)] ++ fs.drop i)).length ≤ 1073741824 by rw [List.length_append, List.length_append, List.length_take, List.length_drop]; simp; omega)
        clear hq1 hq2 hql hra hrb hi
        go_wp2
        refine wp_region_held_drew (S := fun w' => Below w3.heap.size w3 w') (by kernel_rfl) ((Below.refl _ _).drew) (fun ha => ?_)
        replace ha : Below w3.heap.size w3 w3.drew := (Below.refl _ _).drew
        generalize w3.drew = wa at ha ⊢
        refine takeH (i := 1) (v := ?_) rfl (by kernel_rfl) (by kernel_rfl) (by kernel_rfl) (fun _ _ _ h => h) (Or.inl ⟨by rfl, ?_⟩) (by assumption) ?_
        rotate_left
        · (intro w hSw; (try dsimp only at hSw); go_simp; first | done | with_reducible rfl)
        (try simp only [Act.put, List.setIfInBounds_toArray, List.set_cons_zero, List.set_cons_succ])
        refine takeH (i := 2) (v := ?_) rfl (by kernel_rfl) (by kernel_rfl) (by kernel_rfl) (fun _ _ _ h => h) (Or.inl ⟨by rfl, ?_⟩) (by assumption) ?_
        rotate_left
        · (intro w hSw; (try dsimp only at hSw); go_simp; first | done | with_reducible rfl)
        (try simp only [Act.put, List.setIfInBounds_toArray, List.set_cons_zero, List.set_cons_succ])
        refine takeH (i := 3) (v := ?_) rfl (by kernel_rfl) (by kernel_rfl) (by kernel_rfl) (fun _ _ _ h => h) (Or.inl ⟨by rfl, ?_⟩) (by assumption) ?_
        rotate_left
        · (intro w hSw; (try dsimp only at hSw); go_simp; first | done | with_reducible rfl)
        (try simp only [Act.put, List.setIfInBounds_toArray, List.set_cons_zero, List.set_cons_succ])
        refine takeH (i := 0) (v := ?_) rfl (by kernel_rfl) (by kernel_rfl) (by kernel_rfl) (fun _ _ _ h => h) (Or.inl ⟨by rfl, ?_⟩) (by assumption) ?_
        rotate_left
        · (intro w hSw; (try dsimp only at hSw); obtain ⟨q0, q1, q2, q3, q4, q5, q6, q7, q8⟩ := (HK3.out.below hSw).cells; go_simp; first | done | with_reducible rfl)
        (try simp only [Act.put, List.setIfInBounds_toArray, List.set_cons_zero, List.set_cons_succ])
        refine takeH (i := 4) (v := ?_) rfl (by kernel_rfl) (by kernel_rfl) (by kernel_rfl) (fun _ _ _ h => h) (Or.inl ⟨by rfl, ?_⟩) (by assumption) ?_
        rotate_left
        · (intro w hSw; (try dsimp only at hSw); obtain ⟨p0, p1, p2, p3, _⟩ := (HP3.out.below hSw).cells; go_simp; first | done | with_reducible rfl)
        (try simp only [Act.put, List.setIfInBounds_toArray, List.set_cons_zero, List.set_cons_succ])
        refine takeH (i := 6) (v := ?_) rfl (by kernel_rfl) (by kernel_rfl) (by kernel_rfl) (fun _ _ _ h => h) (Or.inl ⟨by rfl, ?_⟩) (by assumption) ?_
        rotate_left
        · (intro w hSw; (try dsimp only at hSw); go_simp; first | done | with_reducible rfl)
        (try simp only [Act.put, List.setIfInBounds_toArray, List.set_cons_zero, List.set_cons_succ])
        refine takeH (i := 7) (v := ?_) rfl (by kernel_rfl) (by kernel_rfl) (by kernel_rfl) (fun _ _ _ h => h) (Or.inl ⟨by rfl, ?_⟩) (by assumption) ?_
        rotate_left
        · (intro w hSw; (try dsimp only at hSw); go_simp; first | done | with_reducible rfl)
        (try simp only [Act.put, List.setIfInBounds_toArray, List.set_cons_zero, List.set_cons_succ])
        refine takeH (i := 8) (v := ?_) rfl (by kernel_rfl) (by kernel_rfl) (by kernel_rfl) (fun _ _ _ h => h) (Or.inl ⟨by rfl, ?_⟩) (by assumption) ?_
        rotate_left
        · (intro w hSw; (try dsimp only at hSw); go_simp; first | done | with_reducible rfl)
        (try simp only [Act.put, List.setIfInBounds_toArray, List.set_cons_zero, List.set_cons_succ])
        refine wpAnyH_ready (rs := [5]) (by kernel_rfl) (by simp) ?_
        refine stepH rfl (fun K hK => ?_) AllReadyH.nil
        go_simp
        have hb := bnext ha (below_fresh _ (.cells #[.int .i64 x, .int .i64 m, .int .i64 t, .slice da cs.length dc] 43))
        have hrp : RdUp (wa.alloc (.cells #[.int .i64 x, .int .i64 m, .int .i64 t, .slice da cs.length dc] 43)) (.slice (some ⟨wa.heap.size, 0, none⟩) 1 1) [(x, m, t, da, cs.length, dc)] := (ownG_fresh hlUp 43 wa [(x, m, t, da, cs.length, dc)] (by simp [maxLen])).rd
        refine hK.out _ _ (hb) (fun _ => ?_)
        clear hK K
        (try simp only [Act.put, List.setIfInBounds_toArray, List.set_cons_zero, List.set_cons_succ])
        obtain ⟨wb , hwb ⟩ : ∃ wb , (wa).alloc (.cells #[.int .i64 x, .int .i64 m, .int .i64 t, .slice da cs.length dc] 43) = wb  := ⟨_, rfl⟩
        rw [hwb ] at hb hrp ⊢
        clear hwb 
        refine wpAnyH_ready (rs := [9]) (by kernel_rfl) (by simp) ?_
        refine stepH rfl (fun K hK => ?_) AllReadyH.nil
        go_simp
        have hc := bnext hb (below_fresh _ (.cells #[.slice a3 l3 c3, .slice (some ⟨wa.heap.size, 0, none⟩) 1 1, .slice a4 l4 c4] 22))
        have c0 : (wb.alloc (.cells #[.slice a3 l3 c3, .slice (some ⟨wa.heap.size, 0, none⟩) 1 1, .slice a4 l4 c4] 22)).cell? ⟨wb.heap.size, 0, none⟩ = some (.slice a3 l3 c3) := by rw [World.cell?_alloc_new]; rfl
        have c1 : (wb.alloc (.cells #[.slice a3 l3 c3, .slice (some ⟨wa.heap.size, 0, none⟩) 1 1, .slice a4 l4 c4] 22)).cell? ⟨wb.heap.size, 1, none⟩ = some (.slice (some ⟨wa.heap.size, 0, none⟩) 1 1) := by rw [World.cell?_alloc_new]; rfl
        have c2 : (wb.alloc (.cells #[.slice a3 l3 c3, .slice (some ⟨wa.heap.size, 0, none⟩) 1 1, .slice a4 l4 c4] 22)).cell? ⟨wb.heap.size, 2, none⟩ = some (.slice a4 l4 c4) := by rw [World.cell?_alloc_new]; rfl
        have hrp := hrp.below (below_fresh wb (.cells #[.slice a3 l3 c3, .slice (some ⟨wa.heap.size, 0, none⟩) 1 1, .slice a4 l4 c4] 22))
        refine hK.out _ _ (hc) (fun _ => ?_)
        clear hK K
        (try simp only [Act.put, List.setIfInBounds_toArray, List.set_cons_zero, List.set_cons_succ])
        obtain ⟨wd , hwd ⟩ : ∃ wd , (wb).alloc (.cells #[.slice a3 l3 c3, .slice (some ⟨wa.heap.size, 0, none⟩) 1 1, .slice a4 l4 c4] 22) = wd  := ⟨_, rfl⟩
        rw [hwd ] at hc c0 c1 c2 hrp ⊢
        clear hwd 
        refine wpAnyH_ready (rs := [10]) (by kernel_rfl) (by simp) ?_
        refine stepH rfl (fun K hK => ?_) AllReadyH.nil
        go_simp
        refine (gConcat wb.heap.size (.slice a3 l3 c3) (.slice (some ⟨wa.heap.size, 0, none⟩) 1 1) (.slice a4 l4 c4) (qs.take i) [(x, m, t, da, cs.length, dc)] (qs.drop i) wd c0 c1 c2 (HRA.out.below hc) hrp (HRB.out.below hc) (by have := HQL.out; rw [List.length_take, List.length_drop]; simp; omega)).mono ?_
        rintro e we ⟨ve, rfl, hoe, hq⟩
        have hrf : RdF we ve (fs.take i ++ ([(x, m, t, cs)] ++ fs.drop i)) := ⟨_, hoe.rd, by rw [List.append_assoc]; exact Tel.app ((HT3.out.take i).below (bnext hc hq)) (Tel.app (Tel.one ⟨rfl, rfl, rfl, HS3.out.below (bnext hc hq)⟩) ((HT3.out.drop i).below (bnext hc hq)))⟩
        have he := bnext hc hq
        go_wp2_with fail
        refine hK.out _ _ (he) (fun _ => ?_)
        clear hK K
        (try simp only [Act.put, List.setIfInBounds_toArray, List.set_cons_zero, List.set_cons_succ])
        refine wpAnyH_ready (rs := [11]) (by kernel_rfl) (by simp) ?_
        refine stepH rfl (fun K hK => ?_) AllReadyH.nil
        go_simp
        refine (sCopy ve _ we hrf HLL.out HCL.out).mono ?_
        rintro e wf ⟨vf, rfl, hof, hq⟩
        have hf := bnext he hq
        go_wp2_with fail
        refine hK.out _ _ (hf) (fun _ => ?_)
        clear hK K
        (try simp only [Act.put, List.setIfInBounds_toArray, List.set_cons_zero, List.set_cons_succ])
        refine takeH (i := 12) (v := ?_) rfl (by kernel_rfl) (by kernel_rfl) (by kernel_rfl) (fun _ _ _ h => h) (Or.inl ⟨by rfl, ?_⟩) (by assumption) ?_
        rotate_left
        · (intro w hSw; (try dsimp only at hSw); go_simp; first | done | with_reducible rfl)
        (try simp only [Act.put, List.setIfInBounds_toArray, List.set_cons_zero, List.set_cons_succ])
        refine takeH (i := 13) (v := ?_) rfl (by kernel_rfl) (by kernel_rfl) (by kernel_rfl) (fun _ _ _ h => h) (Or.inl ⟨by rfl, ?_⟩) (by assumption) ?_
        rotate_left
        · (intro w hSw; (try dsimp only at hSw); go_simp; first | done | with_reducible rfl)
        (try simp only [Act.put, List.setIfInBounds_toArray, List.set_cons_zero, List.set_cons_succ])
        refine wpAnyH_done (by kernel_rfl) ?_ _
        have HOF := Lib.hid (OwnD.mono hof (bnext HB3.out he).size)
        have HBF := Lib.hid (bnext HB3.out hf)
        clear hof he hf hc hb ha hrf hrp c0 c1 c2 hoe
        go_wp2
        go_ret2
        exact ⟨_, by rw [HR4.out]; rfl, by rw [HR4.out]; exact HOF.out, HBF.out⟩
      · have HR4 := Lib.hid (show R = (8, []) by rw [HR3.out, if_pos (by simpa using hmn)])
        rw [decide_eq_false hmn] at HFO
        have HFO2 := Lib.hid (fun q : Later w2 => Calls.later (HFO.out q.val q.h))
        clear HR3 hmn HFO
        go_wp2
        refine wp_region_later (by kernel_rfl) (by kernel_rfl) ?_
        repeat (go_big_quiet_step (first | (go_at_call 63; with_reducible exact HFO2.out _)))
        refine wpQuiet_nil ?_
        rintro _ ⟨p', rfl⟩
        have HB3 := Lib.hid (bnext HB2.out p'.h)
        generalize p'.val = w3 at HB3 ⊢
        clear z0 z1 z2 z3 l0 l1 l2 l3 l4 l5 l6 l7 l8 HFO2 HP2 HK2 H2 HS2 HB2 hcut0
        go_wp2
        go_ret2
        rw [HKE.out]
        exact ⟨_, by rw [HR4.out]; rfl, by rw [HR4.out]; exact OwnD.nil _ _, by rw [← HKE.out]; exact HB3.out⟩
    · have HR3 := Lib.hid (show R = (5, []) by rw [HR2.out, if_pos hfh.symm])
      clear HR2 hfh
      go_wp2
      go_ret2
      exact ⟨_, by rw [HR3.out]; rfl, by rw [HR3.out]; exact OwnD.nil _ _, HB2.out⟩
  · have HR3 := Lib.hid (show R = (UM.errU x m t cs, []) by rw [hR2, if_pos hE])
    have hne : (UM.errU x m t cs != 0) = true := bne_t hE
    generalize UM.errU x m t cs = E at hV HR3 hne
    have HV := Lib.hid hV
    clear hV hR2 hE HN
    go_enter Tryd.func58, Tryd.ntmps58
    go_upto_region 1 with fail
    rw [HW0.out, HKE.out]
    go_wp2_with fail
    refine HV.out.mono ?_
    rintro e w1 ⟨rfl, hb1⟩
    have HB1 := Lib.hid (bnext HB0.out hb1)
    go_wp2
    go_ret2
    exact ⟨_, by rw [HR3.out]; rfl, by rw [HR3.out]; exact OwnD.nil _ _, HB1.out⟩

end Go.Proofs.YtdfablboenfblaaDoor.ST

namespace Go.Proofs.YtdfablboenfblaaDoor.ST
open Go.RowKit
open UM (Ef)
open SM (Fp)
open VM (Ent)
open WM (enc dec Bytes)

theorem KB.keepB {w w' : World} {K : Nat} (h : KB w K) (hk : KeepsX 5 w w') : KB w' K := hk.at h (by decide)

set_option maxRecDepth 100000 in
set_option maxHeartbeats 2000000 in
theorem sAppend (v : Value) (bs : List Int) (u : Value) (fs : List Fp) (w : World) (h : Rd w v bs) (hu : RdF w u fs) (hok : SM.Ok fs) (hfit : SM.Fit fs) (hlen : bs.length ≤ 1000000) :
    Calls Tryd.prog 65 #[(.agg #[.func (.func 71) #[] #[], .func (.func 72) #[] #[], .func (.func 61) #[] #[], .func (.func 73) #[] #[], .func (.func 53) #[] #[], .func (.func 74) #[] #[], .func (.func 75) #[] #[], .func (.func 76) #[] #[], .int .i64 48]), v, u] w fun e w' => ∃ v', e = .returned v' ∧ Own w.heap.size w' v' (bs ++ SM.encL fs) ∧ Below w.heap.size w w' := by
  obtain ⟨ad, cp, rfl, hcp, _⟩ := hu.shape
  have h9 := hok.all48
  obtain ⟨w0, HX⟩ := kone w
  have HW := Lib.hid HX.eq
  have HB0 := Lib.hid HX.below
  have HK0 := Lib.hid HX.k
  obtain ⟨K, hK⟩ : ∃ K, w.heap.size = K := ⟨_, rfl⟩
  rw [hK] at HK0
  have HKE := Lib.hid hK
  have HA := Lib.hid (wAppendUint v bs fs.length w0 (h.below HX.below) (by omega) (by omega))
  have HU := Lib.hid hu
  have HOK := Lib.hid hok.all
  have hel := WM.enc_len10 fs.length (by omega)
  have hfl := fun k => SM.flat_len (fs := fs.take k) (fun f hf => hok.all f (List.mem_of_mem_take hf)) (fun f hf => hfit f (List.mem_of_mem_take hf))
  have HFL := Lib.hid (show ∀ k, (bs ++ enc fs.length ++ SM.flat (fs.take k)).length ≤ 1100000 from fun k => by
    have h1 := hfl k
    rw [List.length_take] at h1
    rw [List.length_append, List.length_append]
    omega)
  have HFT := Lib.hid hfit
  clear h hu hok hel hfl HX hK hfit
  go_enter Tryd.func65, Tryd.ntmps65
  go_upto_region 1 with fail
  rw [HW.out, HKE.out]
  clear HW
  go_wp2_with fail
  refine HA.out.mono ?_
  rintro e w1 ⟨v1, rfl, ho1, hb1⟩
  have HO1 := Lib.hid (ho1.mono HB0.out.size)
  have HB1 := Lib.hid (bnext HB0.out hb1)
  have HK1 := Lib.hid (HK0.out.below hb1)
  clear ho1 hb1 HA HB0 HK0
  go_wp2
  go_loopw [7, 17] (fun u i wr => ∃ k : Nat, k ≤ fs.length ∧ i = .int .i64 k ∧ Hid (Own w.heap.size wr u (bs ++ enc fs.length ++ SM.flat (fs.take k))) ∧ Hid (KB wr K) ∧ Hid (Below w.heap.size w wr)) (fun _ i _ => fs.length - (intOf i).toNat)
  case atStart => exact ⟨0, Nat.zero_le _, rfl, (by show Own _ _ _ _; rw [List.take_zero]; simpa [SM.flat] using HO1.out), HK1.out, HB1.out⟩
  case round =>
    obtain ⟨k, hk, rfl, ho, hkb, hbl⟩ := hrel
    clear HO1 HB1 HK1
    by_cases hlt : k < fs.length
    · have hq : (k : Int) < (fs.length : Int) := by omega
      have hk2 := List.getElem?_eq_getElem hlt
      generalize fs[k] = f at hk2
      have hsn : bs ++ enc fs.length ++ SM.flat (fs.take (k + 1)) = (bs ++ enc fs.length ++ SM.flat (fs.take k)) ++ SM.encF f := by rw [take_snocF hk2, SM.flat_snoc]; simp only [List.append_assoc]
      have hef := HOK.out f (List.mem_of_getElem? hk2)
      have hl2 := SM.encF_len hef (HFT.out f (List.mem_of_getElem? hk2))
      have hf64 := HFT.out f (List.mem_of_getElem? hk2)
      have hl1 := HFL.out k
      obtain ⟨x, m, t, cs⟩ := f
      obtain ⟨b, o, da, dl, dc, hi, hbw, c0, c1, c2, c3, hrd⟩ := (HU.out.below hbl.out).atS k x m t cs hk2
      obtain ⟨wx, HX⟩ := eone wr x m t (.slice da dl dc)
      have hap := cAppendU (.slice none 0 0) [] x m t (.slice da dl dc) cs wx (Rd.nil _) (hrd.below HX.below) hef hf64 (by simp)
      rw [List.nil_append] at hap
      have HAP := Lib.hid hap
      have HWX := Lib.hid HX.eq
      have HOX := Lib.hid (ho.out.below HX.below)
      have HBX := Lib.hid (bnext hbl.out HX.below)
      have HKX := Lib.hid (hkb.out.below HX.below)
      have HPX := Lib.hid HX.e
      obtain ⟨B, hB⟩ : ∃ B, wr.heap.size = B := ⟨_, rfl⟩
      rw [hB] at HPX
      have HBE := Lib.hid hB
      have HSN := Lib.hid hsn
      have HE : Hid (SM.encF (x, m, t, cs) = UM.encU x m t cs) := rfl
      obtain ⟨p0, p1, p2, p3, _⟩ := HPX.out.cells
      obtain ⟨_, _, _, _, _, _, j6, _⟩ := HKX.out.cells
      generalize (bs ++ enc fs.length ++ SM.flat (fs.take k)) = E at HOX HSN hl1
      clear HX hap hsn hef hk2 hrd ho hbl hkb hB hf64
      go_upto_region 5 with fail
      rw [HWX.out, HBE.out]
      go_wp2_with fail
      refine HAP.out.mono ?_
      rintro e w2 ⟨v2, rfl, ho2, hb2⟩
      have hoe := HOX.out.below hb2
      have HB2 := Lib.hid (bnext HBX.out hb2)
      have hs2 := HB2.out.size
      have HK2 := Lib.hid (HKX.out.below hb2)
      have hr2 := ho2
      rw [← HE.out] at hr2
      have hl1' : E.length ≤ 35184372088832 := by omega
      have hl2' : (SM.encF (x, m, t, cs)).length ≤ 35184372088832 := by omega
      clear c0 c1 c2 c3 hi hbw p0 p1 p2 p3 j6 HAP HWX HOX HBX HKX HPX hb2 ho2 hl1 hl2
      go_wp2_with (at_builtin; refine wp_appSK rfl _ _ rfl rfl hoe rfl hr2 hl1' hl2' hs2 ?_)
      intro v3 w3 ho3 hb3 hk3
      have HK3 := Lib.hid (HK2.out.keepB hk3)
      have HO3 := Lib.hid (show Own w.heap.size w3 v3 (bs ++ enc fs.length ++ SM.flat (fs.take (k + 1))) by rw [HSN.out]; exact ho3)
      have HB3 := Lib.hid (HB2.out.trans hb3)
      clear hoe hr2 ho3 hb3 hk3 HK2 HB2 hs2 HSN
      go_wp2
      go_roundw
      case rel => exact ⟨k + 1, by omega, by go_num, HO3, HK3, HB3⟩
      case measure => simp [intOf]; omega
    · have hq : ¬ ((k : Int) < (fs.length : Int)) := by omega
      obtain rfl : k = fs.length := by omega
      rw [List.take_length, List.append_assoc] at ho
      go_wp2
      go_ret
      exact ⟨_, rfl, ho.out, hbl.out⟩

end Go.Proofs.YtdfablboenfblaaDoor.ST

namespace Go.Proofs.YtdfablboenfblaaDoor.ST
open Go.RowKit
open UM (Ef)
open SM (Fp)
open WM (enc dec Bytes)

theorem decU_ok (xs : List Int) : (UM.decU xs).1 = 0 → UM.errU (UM.decU xs).2.2.1.1 (UM.decU xs).2.2.1.2.1 (UM.decU xs).2.2.1.2.2 (UM.decU xs).2.2.2 = 0 := by
  unfold UM.decU
  split
  · rename_i h; intro h2; exact absurd h2 h
  split
  · intro h2; exact absurd (show (3 : Int) = 0 from h2) (by decide)
  unfold UM.finU
  split
  · rename_i h; intro h2; exact absurd h2 h
  split
  · rename_i h; intro h2; exact absurd h2 h
  · rename_i h; intro _; exact Decidable.not_not.1 h
theorem nm_ok {a n t : Int} {cs : List Ef} (h : UM.errU a n t cs = 0) : ∀ e ∈ cs, NmFit e := fun e he => by
  have h1 := (UM.errU_ok h).2.2.2.2.2.2.2 e he
  obtain ⟨k, o, f, n', s⟩ := e
  have h2 := UM.errE_ok h1
  exact ⟨by show o.size ≤ _; unfold maxLen; omega, by show f.size ≤ _; unfold maxLen; omega⟩
set_option maxRecDepth 100000 in
set_option maxHeartbeats 4000000 in
theorem sDecode (v : Value) (xs : List Int) (w : World) (hT : Tb w) (h : Rd w v xs) :
    Calls Tryd.prog 66 #[(.agg #[.func (.func 71) #[] #[], .func (.func 72) #[] #[], .func (.func 61) #[] #[], .func (.func 73) #[] #[], .func (.func 53) #[] #[], .func (.func 74) #[] #[], .func (.func 75) #[] #[], .func (.func 76) #[] #[], .int .i64 48]), v] w fun e w' => ∃ v', e = .returned (.tuple #[v', .int .i64 ((SM.decL xs).2.1 : Int), .int .i64 (SM.decL xs).1]) ∧ RdF w' v' (SM.decL xs).2.2 ∧ Below w.heap.size w w' := by
  obtain ⟨va, vc, rfl, hvc⟩ := h.shape
  have hby := h.bytes
  obtain ⟨w0, HX⟩ := kone w
  have HW := Lib.hid HX.eq
  have HB0 := Lib.hid HX.below
  have HK0 := Lib.hid HX.k
  obtain ⟨K, hK⟩ : ∃ K, w.heap.size = K := ⟨_, rfl⟩
  rw [hK] at HK0
  have HKE := Lib.hid hK
  have HTB := Lib.hid hT
  have hU := wUint (.slice va xs.length vc) xs w0 (h.below HX.below)
  obtain ⟨R, hR⟩ : ∃ R, R = SM.decL xs := ⟨_, rfl⟩
  rw [← hR]
  have H := Lib.hid h
  clear h HX hK hT
  rcases SM.dec_num hby with ⟨e, he, hd⟩ | ⟨N, hN, hd, hl⟩
  · rw [hd] at hU
    have HR := Lib.hid (show R = (e, 0, []) by rw [hR, SM.decL, hd, if_pos he])
    have hne : (e != 0) = true := bne_t he
    have HU := Lib.hid hU
    clear hd hU hR he
    go_enter Tryd.func66, Tryd.ntmps66
    go_upto_region 1 with fail
    rw [HW.out, HKE.out]
    go_wp2_with fail
    refine HU.out.mono ?_
    rintro e' w1 ⟨rfl, rfl⟩
    go_wp2
    go_ret3
    exact ⟨_, by rw [HR.out]; rfl, by rw [HR.out]; exact RdF.nil _, HB0.out⟩
  rw [hd] at hU
  have HU := Lib.hid hU
  clear hU
  obtain ⟨_, _, _, _, _, _, _, _, k8⟩ := HK0.out.cells
  by_cases h9 : 48 < N
  · have HR := Lib.hid (show R = (3, 0, []) by rw [hR, SM.decL, hd, if_neg (by simp), if_pos (by simp only; omega)])
    have hq9 : (48 : Int) < (N : Int) := by omega
    clear hd hR
    go_enter Tryd.func66, Tryd.ntmps66
    go_upto_region 1 with fail
    rw [HW.out, HKE.out]
    go_wp2_with fail
    refine HU.out.mono ?_
    rintro e' w1 ⟨rfl, rfl⟩
    go_wp2
    go_ret3
    exact ⟨_, by rw [HR.out]; rfl, by rw [HR.out]; exact RdF.nil _, HB0.out⟩
  have HR := Lib.hid (show R = SM.finL (SM.rest xs N [] (enc N).length) by rw [hR, SM.decL, hd, if_neg (by simp), if_neg (by simp only; omega)]; rfl)
  have hq9 : ¬ (48 : Int) < (N : Int) := by omega
  generalize (enc N).length = u0 at HU HR hl
  have HL := Lib.hid hl
  have HBY := Lib.hid hby
  clear hd hR hl hN hby
  go_enter Tryd.func66, Tryd.ntmps66
  go_upto_region 1 with fail
  rw [HW.out, HKE.out]
  go_wp2_with fail
  refine HU.out.mono ?_
  rintro e' w1 ⟨rfl, rfl⟩
  clear HU
  go_wp2
  clear k8
  go_loopw [8, 10, 30] (fun us c i wr => ∃ (k uu : Nat) (qs : List Up) (U : List Fp), k ≤ N ∧ i = .int .u64 k ∧ us = .int .i64 uu ∧ Hid (uu ≤ xs.length) ∧ Hid (U.length ≤ k) ∧ Hid (OwnUp w.heap.size wr c qs) ∧ Hid (TelO w.heap.size wr qs U) ∧ Hid (KB wr K) ∧ Hid (Below w.heap.size w wr) ∧ Hid (FitN U) ∧ Hid (R = SM.finL (SM.rest xs (N - k) U uu))) (fun _ _ i _ => N - (intOf i).toNat)
  case atStart => exact ⟨0, u0, [], [], Nat.zero_le _, rfl, rfl, HL.out, Nat.le_refl _, OwnG.nil hlUp _ _ _, trivial, HK0.out, HB0.out, (fun f hf => by cases hf), HR.out⟩
  case round =>
    obtain ⟨k, uu, qs, U, hk, rfl, rfl, huu, hul, ho, ht, hkb, hbl, hfu, he⟩ := hrel
    clear HR HL HB0 HK0
    obtain ⟨c1, c2, rfl, hc2, _⟩ := ho.out.rd.shape
    have HQF := Lib.hid ht.out.rd.len
    by_cases hlt : k < N
    · have hq : (k : Int) < (N : Int) := by omega
      obtain ⟨v2, hcut, hrd⟩ := (H.out.below hbl.out).cutL uu huu.out
      have hus := UM.decU_used (xs := xs.drop uu) (fun c hc => HBY.out c (List.mem_of_mem_drop hc))
      have hrs := SM.rest_succ xs (N - (k + 1)) U uu
      rw [show N - (k + 1) + 1 = N - k by omega] at hrs
      have e1 := he.out
      rw [hrs] at e1
      rw [List.length_drop] at hus
      have hD := fun w' (hb : Below wr.heap.size wr w') => uDecodeO v2 _ w' (HTB.out.below (bnext hbl.out hb)) (hrd.below hb)
      have hoku := decU_ok (xs.drop uu)
      generalize UM.decU (xs.drop uu) = d at hD hus e1 hoku
      obtain ⟨er, used, ⟨a, n, t⟩, cs⟩ := d
      simp only at hD hus e1 hoku
      have HOKU := Lib.hid hoku
      have HD := Lib.hid hD
      have HUS := Lib.hid hus
      have hxl : xs.length ≤ 9223372036854775807 := by
        obtain ⟨_, n', _, hv, h1, h2, h3, _⟩ := H.out
        unfold maxLen at h3
        omega
      have hw1 : (uu : Int) + (used : Int) ≤ 9223372036854775807 := by have := huu.out; omega
      have HE1 := Lib.hid e1
      obtain ⟨a2, l2, c2', rfl⟩ : ∃ a l c, v2 = .slice a l c := by obtain ⟨a, c, h, _⟩ := hrd.shape; exact ⟨a, _, c, h⟩
      have HO0 := Lib.hid (fun w' (hb : Below wr.heap.size wr w') => ho.out.below hb)
      have HT0 := Lib.hid (fun w' (hb : Below wr.heap.size wr w') => ht.out.below hb)
      have hsl := hbl.out.size
      clear he hrs hD hus hrd e1 ho ht hoku
      go_wp2
      refine wp_region_held_drew (S := fun w' => Below wr.heap.size wr w') (by kernel_rfl) ((Below.refl _ _).drew) (fun ha => ?_)
      replace ha : Below wr.heap.size wr wr.drew := (Below.refl _ _).drew
      generalize wr.drew = wa at ha ⊢
      refine takeH (i := 0) (v := ?_) rfl (by kernel_rfl) (by kernel_rfl) (by kernel_rfl) (fun _ _ _ h => h) (Or.inl ⟨by rfl, ?_⟩) (by assumption) ?_
      rotate_left
      · (intro w hSw; (try dsimp only at hSw); go_simp; first | done | with_reducible rfl)
      (try simp only [Act.put, List.setIfInBounds_toArray, List.set_cons_zero, List.set_cons_succ])
      refine takeH (i := 1) (v := ?_) rfl (by kernel_rfl) (by kernel_rfl) (by kernel_rfl) (fun _ _ _ h => h) (Or.inl ⟨by rfl, ?_⟩) (by assumption) ?_
      rotate_left
      · (intro w hSw; (try dsimp only at hSw); obtain ⟨_, _, _, _, _, _, _, q7, _⟩ := (hkb.out.below hSw).cells; go_simp; first | done | with_reducible rfl)
      (try simp only [Act.put, List.setIfInBounds_toArray, List.set_cons_zero, List.set_cons_succ])
      refine takeH (i := 2) (v := ?_) rfl (by kernel_rfl) (by kernel_rfl) (by kernel_rfl) (fun _ _ _ h => h) (Or.inl ⟨by rfl, ?_⟩) (by assumption) ?_
      rotate_left
      · (intro w hSw; (try dsimp only at hSw); go_simp; first | done | with_reducible rfl)
      (try simp only [Act.put, List.setIfInBounds_toArray, List.set_cons_zero, List.set_cons_succ])
      refine takeH (i := 3) (v := ?_) rfl (by kernel_rfl) (by kernel_rfl) (by kernel_rfl) (fun _ _ _ h => h) (Or.inl ⟨by rfl, ?_⟩) (by assumption) ?_
      rotate_left
      · (intro w hSw; (try dsimp only at hSw); go_simp; first | done | with_reducible rfl)
      (try simp only [Act.put, List.setIfInBounds_toArray, List.set_cons_zero, List.set_cons_succ])
      refine takeH (i := 4) (v := ?_) rfl (by kernel_rfl) (by kernel_rfl) (by kernel_rfl) (fun _ _ _ h => h) (Or.inl ⟨by rfl, ?_⟩) (by assumption) ?_
      rotate_left
      · (intro w hSw; (try dsimp only at hSw); go_simp; first | done | with_reducible rfl)
      (try simp only [Act.put, List.setIfInBounds_toArray, List.set_cons_zero, List.set_cons_succ])
      refine wpAnyH_ready (rs := [5, 10]) (by kernel_rfl) (by simp) ?_
      refine stepH rfl (fun K hK => ?_) (stepH rfl (fun K hK => ?_) AllReadyH.nil)
      focus
        go_simp
        refine (HD.out wa ha).mono ?_
        rintro e wb ⟨sv, rfl, hos, hq⟩
        have hb := bnext ha hq
        go_wp2_with fail
        refine hK.out _ _ (hb) (fun _ => ?_)
        clear hK K
        (try simp only [Act.put, List.setIfInBounds_toArray, List.set_cons_zero, List.set_cons_succ])
        refine takeH (i := 6) (v := ?_) rfl (by kernel_rfl) (by kernel_rfl) (by kernel_rfl) (fun _ _ _ h => h) (Or.inl ⟨by rfl, ?_⟩) (by assumption) ?_
        rotate_left
        · (intro w hSw; (try dsimp only at hSw); go_simp; first | done | with_reducible rfl)
        (try simp only [Act.put, List.setIfInBounds_toArray, List.set_cons_zero, List.set_cons_succ])
        refine takeH (i := 7) (v := ?_) rfl (by kernel_rfl) (by kernel_rfl) (by kernel_rfl) (fun _ _ _ h => h) (Or.inl ⟨by rfl, ?_⟩) (by assumption) ?_
        rotate_left
        · (intro w hSw; (try dsimp only at hSw); go_simp; first | done | with_reducible rfl)
        (try simp only [Act.put, List.setIfInBounds_toArray, List.set_cons_zero, List.set_cons_succ])
        refine takeH (i := 8) (v := ?_) rfl (by kernel_rfl) (by kernel_rfl) (by kernel_rfl) (fun _ _ _ h => h) (Or.inl ⟨by rfl, ?_⟩) (by assumption) ?_
        rotate_left
        · (intro w hSw; (try dsimp only at hSw); go_simp; first | done | with_reducible rfl)
        (try simp only [Act.put, List.setIfInBounds_toArray, List.set_cons_zero, List.set_cons_succ])
        refine takeH (i := 9) (v := ?_) rfl (by kernel_rfl) (by kernel_rfl) (by kernel_rfl) (fun _ _ _ h => h) (Or.inl ⟨by rfl, ?_⟩) (by assumption) ?_
        rotate_left
        · (intro w hSw; (try dsimp only at hSw); go_simp; first | done | with_reducible rfl)
        (try simp only [Act.put, List.setIfInBounds_toArray, List.set_cons_zero, List.set_cons_succ])
        refine wpAnyH_ready (rs := [10]) (by kernel_rfl) (by simp) ?_
        refine stepH rfl (fun K hK => ?_) AllReadyH.nil
        go_simp
        have hc := bnext hb (below_fresh _ (.cells #[.int .i64 0, .int .i64 0, .int .i64 0, .slice none 0 0] 43))
        have hz := OU.fresh wb 0 0 0 (.slice none 0 0)
        have hos := (hos.mono ha.size).below (below_fresh wb (.cells #[.int .i64 0, .int .i64 0, .int .i64 0, .slice none 0 0] 43))
        refine hK.out _ _ (hc) (fun _ => ?_)
        clear hK K
        (try simp only [Act.put, List.setIfInBounds_toArray, List.set_cons_zero, List.set_cons_succ])
        obtain ⟨wc , hwc ⟩ : ∃ wc , (wb).alloc (.cells #[.int .i64 0, .int .i64 0, .int .i64 0, .slice none 0 0] 43) = wc  := ⟨_, rfl⟩
        rw [hwc ] at hc hz hos ⊢
        clear hwc 
        have hgl := hb.size
        generalize wb.heap.size = g at hz hgl ⊢
        clear hq hb
      rotate_left
      focus
        go_simp
        have hb := bnext ha (below_fresh _ (.cells #[.int .i64 0, .int .i64 0, .int .i64 0, .slice none 0 0] 43))
        have hz := OU.fresh wa 0 0 0 (.slice none 0 0)
        refine hK.out _ _ (hb) (fun _ => ?_)
        clear hK K
        (try simp only [Act.put, List.setIfInBounds_toArray, List.set_cons_zero, List.set_cons_succ])
        obtain ⟨wb , hwb ⟩ : ∃ wb , (wa).alloc (.cells #[.int .i64 0, .int .i64 0, .int .i64 0, .slice none 0 0] 43) = wb  := ⟨_, rfl⟩
        rw [hwb ] at hb hz ⊢
        clear hwb 
        have hgl := ha.size
        refine wpAnyH_ready (rs := [5]) (by kernel_rfl) (by simp) ?_
        refine stepH rfl (fun K hK => ?_) AllReadyH.nil
        go_simp
        refine (HD.out wb hb).mono ?_
        rintro e wc ⟨sv, rfl, hos, hq⟩
        have hc := bnext hb hq
        go_wp2_with fail
        refine hK.out _ _ (hc) (fun _ => ?_)
        clear hK K
        (try simp only [Act.put, List.setIfInBounds_toArray, List.set_cons_zero, List.set_cons_succ])
        refine takeH (i := 6) (v := ?_) rfl (by kernel_rfl) (by kernel_rfl) (by kernel_rfl) (fun _ _ _ h => h) (Or.inl ⟨by rfl, ?_⟩) (by assumption) ?_
        rotate_left
        · (intro w hSw; (try dsimp only at hSw); go_simp; first | done | with_reducible rfl)
        (try simp only [Act.put, List.setIfInBounds_toArray, List.set_cons_zero, List.set_cons_succ])
        refine takeH (i := 7) (v := ?_) rfl (by kernel_rfl) (by kernel_rfl) (by kernel_rfl) (fun _ _ _ h => h) (Or.inl ⟨by rfl, ?_⟩) (by assumption) ?_
        rotate_left
        · (intro w hSw; (try dsimp only at hSw); go_simp; first | done | with_reducible rfl)
        (try simp only [Act.put, List.setIfInBounds_toArray, List.set_cons_zero, List.set_cons_succ])
        refine takeH (i := 8) (v := ?_) rfl (by kernel_rfl) (by kernel_rfl) (by kernel_rfl) (fun _ _ _ h => h) (Or.inl ⟨by rfl, ?_⟩) (by assumption) ?_
        rotate_left
        · (intro w hSw; (try dsimp only at hSw); go_simp; first | done | with_reducible rfl)
        (try simp only [Act.put, List.setIfInBounds_toArray, List.set_cons_zero, List.set_cons_succ])
        refine takeH (i := 9) (v := ?_) rfl (by kernel_rfl) (by kernel_rfl) (by kernel_rfl) (fun _ _ _ h => h) (Or.inl ⟨by rfl, ?_⟩) (by assumption) ?_
        rotate_left
        · (intro w hSw; (try dsimp only at hSw); go_simp; first | done | with_reducible rfl)
        (try simp only [Act.put, List.setIfInBounds_toArray, List.set_cons_zero, List.set_cons_succ])
        replace hz := hz.below hq
        replace hos := hos.mono hb.size
        generalize wa.heap.size = g at hz hgl ⊢
        clear hq hb
      all_goals
        obtain ⟨sa, sc, rfl, _, _⟩ := hos.rd.shape
        obtain ⟨z0, z1, z2, z3, f0, f1, f2, f3⟩ := hz.cells
        have hon := only4 (w := wc) (B := g) (.int .i64 a) (.int .i64 n) (.int .i64 t) (.slice sa cs.length sc)
        have hd := hc.trans (hon.below hgl hc.size)
        have hox := hz.put4 a n t (.slice sa cs.length sc)
        have hosx := ownG_only hos hz (by decide) hon
        refine wpAnyH_ready (rs := [11]) (by kernel_rfl) (by simp) ?_
        refine stepH rfl (fun K hK => ?_) AllReadyH.nil
        go_simp
        skip
        refine hK.out _ _ (hd) (fun _ => ?_)
        clear hK K
        (try simp only [Act.put, List.setIfInBounds_toArray, List.set_cons_zero, List.set_cons_succ])
        generalize (((wc.setCell ⟨g, 0, none⟩ (.int .i64 a)).setCell ⟨g, 1, none⟩ (.int .i64 n)).setCell ⟨g, 2, none⟩ (.int .i64 t)).setCell ⟨g, 3, none⟩ (.slice sa cs.length sc) = wd at hd hox hosx hon ⊢
        clear z0 z1 z2 z3 f0 f1 f2 f3 hz hos hon
        refine takeH (i := 12) (v := ?_) rfl (by kernel_rfl) (by kernel_rfl) (by kernel_rfl) (fun _ _ _ h => h) (Or.inl ⟨by rfl, ?_⟩) (by assumption) ?_
        rotate_left
        · (intro w hSw; (try dsimp only at hSw); go_simp; first | done | with_reducible rfl)
        (try simp only [Act.put, List.setIfInBounds_toArray, List.set_cons_zero, List.set_cons_succ])
        refine takeH (i := 13) (v := ?_) rfl (by kernel_rfl) (by kernel_rfl) (by kernel_rfl) (fun _ _ _ h => h) (Or.inl ⟨by rfl, ?_⟩) (by assumption) ?_
        rotate_left
        · (intro w hSw; (try dsimp only at hSw); go_simp; first | done | with_reducible rfl)
        (try simp only [Act.put, List.setIfInBounds_toArray, List.set_cons_zero, List.set_cons_succ])
        refine wpAnyH_done (by kernel_rfl) ?_ _
        have HOX := Lib.hid (HO0.out wd hd)
        have HTX := Lib.hid (HT0.out wd hd)
        have HKX := Lib.hid (hkb.out.below hd)
        have HBX := Lib.hid (bnext hbl.out hd)
        have HEX := Lib.hid hox
        have HSX := Lib.hid (OwnG.mono hosx hsl)
        clear hd hox hosx hc ha
        by_cases hE : er = 0
        · subst hE
          have E1 := Lib.hid (show R = SM.finL (SM.rest xs (N - (k + 1)) (U ++ [(a, n, t, cs)]) (uu + used)) by rw [HE1.out, if_neg (by simp)])
          have HTY := Lib.hid (TelO.snoc (f := (a, n, t, cs)) (q := (a, n, t, sa, cs.length, sc)) ⟨rfl, rfl, rfl, HSX.out⟩ HTX.out)
          have hsx := HBX.out.size
          have hlq : qs.length ≤ 1073741824 := by have := hul.out; have := HQF.out; omega
          have HUL := Lib.hid (show (U ++ [(a, n, t, cs)]).length ≤ k + 1 by rw [List.length_append]; have := hul.out; simp; omega)
          have HUU := Lib.hid (show uu + used ≤ xs.length by have := HUS.out; have := huu.out; omega)
          have HFU := Lib.hid (show FitN (U ++ [(a, n, t, cs)]) from fun f hf => by
            rcases List.mem_append.1 hf with h1 | h1
            · exact hfu.out f h1
            · rw [List.mem_singleton] at h1; subst h1; exact nm_ok (HOKU.out rfl))
          obtain ⟨p0, p1, p2, p3, _⟩ := HEX.out.cells
          clear HE1 HTX HSX HUS hul HEX HD
          go_wp2_with (at_builtin; refine wp_appG1' setE (a, n, t, sa, cs.length, sc) _ rfl rfl _ _ rfl rfl HOX.out rfl hlq hsx ?_)
          intro v3 w3 ho3 hb3 hk3
          have HO3 := Lib.hid ho3
          have HB3 := Lib.hid (HBX.out.trans hb3)
          have HT3 := Lib.hid (HTY.out.keep hk3)
          have HK3 := Lib.hid (HKX.out.keep hk3)
          clear ho3 hb3 hk3 HOX HTY HKX HBX hsx hlq p0 p1 p2 p3
          go_wp2
          go_roundw
          case rel => exact ⟨k + 1, uu + used, _, _, by omega, by go_num, by go_num, HUU, HUL, HO3, HT3, HK3, HB3, HFU, E1⟩
          case measure => simp [intOf]; omega
        · have E1 := Lib.hid (show R = (er, 0, []) by rw [HE1.out, if_pos hE, SM.finL, if_pos hE])
          have hne : (er != 0) = true := bne_t hE
          clear HE1 hE HOX HTX HKX HEX HSX HD
          go_wp2
          go_ret3
          exact ⟨_, by rw [E1.out]; rfl, by rw [E1.out]; exact RdF.nil _, HBX.out⟩
    · have hq : ¬ ((k : Int) < (N : Int)) := by omega
      obtain rfl : k = N := by omega
      have e1 : R = SM.finL (0, uu, U) := by rw [he.out, Nat.sub_self, SM.rest]
      have e2 : R = if SM.errL (0, 0) U ≠ 0 then (SM.errL (0, 0) U, 0, []) else (0, uu, U) := by rw [e1, SM.finL, if_neg (by simp)]
      have HF := Lib.hid (show RdF wr (.slice c1 qs.length c2) U from ⟨qs, ho.out.rd, ht.out.rd⟩)
      have hV := sValidate _ U wr (HTB.out.below hbl.out) hfu.out HF.out
      obtain ⟨j0, j1, j2, j3, j4, j5, j6, j7, j8⟩ := hkb.out.cells
      generalize SM.errL (0, 0) U = E at hV e2
      have HV := Lib.hid hV
      clear he e1 hV ho ht
      by_cases hE : E = 0
      · subst hE
        have E1 := Lib.hid (show R = (0, uu, U) by rw [e2, if_neg (by simp)])
        clear e2
        go_wp2_with fail
        refine HV.out.mono ?_
        rintro e w2 ⟨rfl, hb2⟩
        have HB2 := Lib.hid (bnext hbl.out hb2)
        have HF2 := Lib.hid (HF.out.below hb2)
        clear HV HF hb2 hbl
        go_wp2
        go_ret3
        exact ⟨_, by rw [E1.out]; rfl, by rw [E1.out]; exact HF2.out, HB2.out⟩
      · have E1 := Lib.hid (show R = (E, 0, []) by rw [e2, if_pos hE])
        have hne : (E != 0) = true := bne_t hE
        clear e2 hE
        go_wp2_with fail
        refine HV.out.mono ?_
        rintro e w2 ⟨rfl, hb2⟩
        have HB2 := Lib.hid (bnext hbl.out hb2)
        clear HV HF hb2 hbl
        go_wp2
        go_ret3
        exact ⟨_, by rw [E1.out]; rfl, by rw [E1.out]; exact RdF.nil _, HB2.out⟩

end Go.Proofs.YtdfablboenfblaaDoor.ST
