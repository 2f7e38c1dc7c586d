/-
  The calls of slices.Grow, slices.Concat of a set's list, of sets.Add. Conditions: what comes in reads; the set is valid. (Written by mk_sets.py.)
-/
import Derived.Lib.AppendZerosOnto
import Derived.Lib.LazyBuf
import Derived.Deep.RegionHeld3
import Derived.Test.YteeegpojfbgkfaaTUni
import Derived.Test.YteeegpojfbgkfaaTVal
import Derived.Test.YteeegpojfbgkfaaTFnd
import Derived.Test.YteeegpojfbgkfaaKH
namespace Go.Proofs.Yteeegpojfbgkfaa
open Go.RowKit
open JM (Chg)
open CM (Fp)

set_option maxRecDepth 100000 in
set_option maxHeartbeats 1000000 in
theorem gGrow (n : Nat) (w : World) (hn : n ≤ 1073741824) :
    Calls Try.prog 106 #[.slice none 0 0, .int .i64 n] w fun e w' => ∃ v', e = .returned v' ∧ OwnQ w.heap.size w' v' [] ∧ Below w.heap.size w w' := by
  obtain ⟨i0, hi, hz0, hz1, hz2⟩ := info_parts infoPro
  by_cases h0 : n = 0
  · subst h0
    clear hn
    go_enter Try.func106, Try.ntmps106
    go_wp2
    go_ret
    exact ⟨_, rfl, OwnG.nil hlQ _ _ _, Below.refl _ _⟩
  · have hpos : (0 : Int) < (n : Int) := by omega
    have hnn : ¬ ((n : Int) < 0) := by omega
    have hold := run_firstCells_none (P := Try.prog) w.drew 3 0 0 0
    have hg := grownCap_ge w n 0 45
    have hm := grownCap_le_maxLen w n 0 45 (by unfold maxLen; omega)
    have hrz := fun ty => Lib.run_append_grow_zeros (P := Try.prog) w 22 3 ty 45 i0 _ .i64 .i64 Try.underlying22 Try.underlying3 hi hz0 none 0 0 [] (by rw [hz1]; exact hold) n (by omega)
      (by rw [hz1]; omega) (by omega) (by omega) (by rw [hz2]; omega) (by rw [hz2]; exact growslice_fits (by omega) (by omega))
    rw [Nat.zero_add] at hrz
    generalize grownCap w n 0 45 = G at hrz hg hm
    obtain ⟨Z, hZ⟩ : ∃ Z : Array Value, Z = (Value.agg #[Value.int IntKind.i64 0, Value.int IntKind.i64 0, Value.slice none 0 0]).cells := ⟨_, rfl⟩
    have hZs : Z.size = 3 := by rw [hZ]; rfl
    rw [← hZ] at hrz
    have hown : (w.drew.alloc (.cells (#[] ++ Builtin.zeroCells Z n ++ Builtin.zeroCells Z (G - n)) 45)).ownsRow w.heap.size 45 3 (.slice (some ⟨w.heap.size, 0, none⟩) 0 G) 0 [] :=
      World.ownsRow_made w.drew _ G (Nat.le_refl _) hm (by
        rw [Array.size_append, Array.size_append, size_zeroCells, size_zeroCells, hZs]
        show 0 + n * 3 + (G - n) * 3 = G * 3
        omega)
    have hbl : Below w.heap.size w (w.drew.alloc (.cells (#[] ++ Builtin.zeroCells Z n ++ Builtin.zeroCells Z (G - n)) 45)) := ((Below.refl _ w).drew).alloc (Nat.le_refl _) _
    have hrz' : ∀ ty, (Builtin.append_ #[22, 3] ty #[.slice none 0 0, .int .i64 n]).run Try.prog w = .ok (.slice (some ⟨w.heap.size, 0, none⟩) n G) (w.drew.alloc (.cells (#[] ++ Builtin.zeroCells Z n ++ Builtin.zeroCells Z (G - n)) 45)) := hrz
    generalize w.drew.alloc (.cells (#[] ++ Builtin.zeroCells Z n ++ Builtin.zeroCells Z (G - n)) 45) = w1 at hrz' hown hbl
    have hG63 : G ≤ 9223372036854775807 := by unfold maxLen at hm; omega
    clear hm hold hi hz0 hz1 hz2 hrz hZ hZs
    go_enter Try.func106, Try.ntmps106
    go_wp2_with (at_builtin; refine Lib.wpList_append_run _ rfl _ _ _ _ rfl _ _ rfl rfl _ _ (hrz' _) ?_)
    all_goals
      go_ret
      exact ⟨_, rfl, ⟨hown, hlQ⟩, hbl⟩

set_option maxRecDepth 100000 in
set_option maxHeartbeats 2000000 in
/-- slices.Concat of three configurations: the call's own list. -/
theorem gConcat (g : Nat) (t u v : Value) (xs ys zs : List Pro) (w : World) (c0 : w.cell? ⟨g, 0, none⟩ = some t) (c1 : w.cell? ⟨g, 1, none⟩ = some u) (c2 : w.cell? ⟨g, 2, none⟩ = some v)
    (ht : RdQ w t xs) (hu : RdQ w u ys) (hv : RdQ w v zs) (hl : xs.length + ys.length + zs.length ≤ 1000000) :
    Calls Try.prog 84 #[.slice (some ⟨g, 0, none⟩) 3 3] w fun e w' => ∃ v', e = .returned v' ∧ OwnQ w.heap.size w' v' (xs ++ ys ++ zs) ∧ Below w.heap.size w w' := by
  have hgrow := gGrow (xs.length + ys.length + zs.length) w (by omega)
  obtain ⟨at_, ct, rfl, hct, _⟩ := ht.shape
  obtain ⟨au, cu, rfl, hcu, _⟩ := hu.shape
  obtain ⟨av, cv, rfl, hcv, _⟩ := hv.shape
  have HT := Lib.hid ht
  have HU := Lib.hid hu
  have HV := Lib.hid hv
  clear ht hu hv
  go_enter Try.func84, Try.ntmps84
  go_wp2
  refine wp_loop_rounds 4 ?_
  rw [rounds_succ]
  go_wp2
  rw [rounds_succ]
  go_wp2
  rw [rounds_succ]
  go_wp2
  rw [rounds_succ]
  go_wp2_with fail
  have hs : ((xs.length : Int) + (ys.length : Int) + (zs.length : Int)) = ((xs.length + ys.length + zs.length : Nat) : Int) := by omega
  rw [hs]
  refine hgrow.mono ?_
  rintro e w1 ⟨v1, rfl, ho1, hb1⟩
  clear hgrow hs
  have d0 := below_cell hb1 c0
  have d1 := below_cell hb1 c1
  have d2 := below_cell hb1 c2
  have HT1 := HT.out.below hb1
  have hs1 := hb1.size
  go_wp2
  refine wp_loop_rounds 4 ?_
  rw [rounds_succ]
  go_wp2_with (at_builtin; refine wp_appGS setE rfl _ _ rfl rfl ho1 rfl HT1 (by simp) (by omega) hs1 ?_)
  intro v2 w2 ho2 hb2 _
  have hb3 := hb1.trans hb2
  have f1 := below_cell hb3 c1
  have f2 := below_cell hb3 c2
  have HU1 := HU.out.below hb3
  have hs2 := hb3.size
  clear ho1 HT1 hb1 hb2 d0 d1 d2 c0 hs1
  go_wp2
  rw [rounds_succ]
  go_wp2_with (at_builtin; refine wp_appGS setE rfl _ _ rfl rfl ho2 rfl HU1 (by first | omega | (simp; omega)) (by omega) hs2 ?_)
  intro v3 w3 ho3 hb4 _
  have hb5 := hb3.trans hb4
  have g2 := below_cell hb5 c2
  have HV1 := HV.out.below hb5
  have hs3 := hb5.size
  clear ho2 HU1 hb3 hb4 f1 f2 c1 hs2
  go_wp2
  rw [rounds_succ]
  go_wp2_with (at_builtin; refine wp_appGS setE rfl _ _ rfl rfl ho3 rfl HV1 (by first | omega | (simp; omega)) (by omega) hs3 ?_)
  intro v4 w4 ho4 hb6 _
  have hb7 := hb5.trans hb6
  clear ho3 HV1 hb5 hb6 g2 c2 hs3
  go_wp2
  rw [rounds_succ]
  go_wp2
  go_ret
  exact ⟨_, rfl, by simpa using ho4, hb7⟩

theorem all_len6 {x m : Int} {cs : List Chg} (h : JM.errP x m cs = 0) : cs.length ≤ 6 := (JM.errP_small h).2.2.1
/-- What Follows answers at the place of an identifier that is not there. -/
theorem fol_ct {fs : List Fp} {x m : Int} {i : Nat} (ho : CM.Ok fs) (ha : AtF fs x m i) (hk : CM.hasK fs x m = false) (hm : 1 ≤ m) (hx : x ≠ 0) : folS (fs.take i) x m = decide (m = CM.ct fs x + 1) := by
  have hnm : ¬ m ≤ CM.ct fs x := fun h => by rw [(ho.has x m hm).2 h] at hk; cases hk
  have hpos := CM.ct_pos fs x
  unfold folS
  rw [pre_take ha.1]
  apply decide_eq_decide.2
  have hp : i ≠ 0 → ∃ g, fs[i - 1]? = some g ∧ pre fs i = (g.1, g.2.1) := fun hi => by
    have hlt : i - 1 < fs.length := by have := ha.1; omega
    have hg := List.getElem?_eq_getElem hlt
    exact ⟨_, hg, by simp [pre, hi, List.getD, hg]⟩
  constructor
  · rintro (h1 | ⟨h1, h2⟩)
    · omega
    · by_cases hi : i = 0
      · rw [hi] at h1
        exact absurd (show (0 : Int) = x from h1).symm hx
      · obtain ⟨g, hg, hpg⟩ := hp hi
        rw [hpg] at h1 h2
        by_cases h3 : m ≤ 1
        · omega
        · have := (ho.has x (m - 1) (by omega)).1 (CM.hasK_iff.2 ⟨g, List.mem_of_getElem? hg, h1, h2⟩)
          omega
  · intro h
    by_cases h1 : m ≤ 1
    · exact .inl h1
    · right
      obtain ⟨g, hg, hg1, hg2⟩ := CM.hasK_iff.1 ((ho.has x (m - 1) (by omega)).2 (by omega))
      obtain ⟨j, hj⟩ := List.getElem?_of_mem hg
      have hji : j < i := by
        rcases Nat.lt_or_ge j i with h2 | h2
        · exact h2
        · have h3 := ha.2.2 j g hj h2
          have h4 : JM.cmpP g.1 g.2.1 x m < 0 := CM.cmpP_lt.2 (.inr ⟨hg1, by omega⟩)
          omega
      obtain ⟨q, hq, hpq⟩ := hp (by omega)
      have hl := ha.2.1 (i - 1) q hq (by omega)
      rw [CM.cmpP_lt] at hl
      rcases Nat.lt_or_ge j (i - 1) with h2 | h2
      · have h3 := ho.srt.get hj hq h2
        unfold CM.lt at h3
        omega
      · obtain rfl : j = i - 1 := by omega
        rw [hj] at hq
        cases hq
        rw [hpq]
        exact ⟨hg1, hg2⟩

set_option maxRecDepth 100000 in
set_option maxHeartbeats 8000000 in
theorem sAdd (v : Value) (fs : List Fp) (x m : Int) (sv : Value) (cs : List Chg) (w : World) (h : RdF w v fs) (hs : RdC w sv cs) (hok : CM.Ok fs) :
    Calls Try.prog 62 #[(.agg #[.func (.func 70) #[] #[], .func (.func 71) #[] #[], .func (.func 72) #[] #[], .func (.func 73) #[] #[], .func (.func 55) #[] #[], .func (.func 74) #[] #[], .func (.func 75) #[] #[], .func (.func 76) #[] #[], .int .i64 9]), v, pv x m sv] w fun e w' => ∃ v', e = .returned (.tuple #[v', .int .i64 (CM.addP fs (x, m, cs)).1]) ∧ OwnD w.heap.size w' v' (CM.addP fs (x, m, cs)).2 ∧ Below w.heap.size w w' := by
  obtain ⟨ad, cp, rfl, hcp, _⟩ := h.shape
  obtain ⟨da, dc, rfl, hdc, _⟩ := hs.shape
  have h9 := hok.nine
  obtain ⟨R, hR⟩ : ∃ R, R = CM.addP fs (x, m, cs) := ⟨_, rfl⟩
  rw [← hR]
  have hR2 : R = if JM.errP x m cs ≠ 0 then (JM.errP x m cs, []) else if CM.hasK fs x m = true then (5, []) else if m ≠ CM.ct fs x + 1 then (8, []) else (0, CM.un fs [(x, m, cs)]) := hR
  obtain ⟨w0, HX⟩ := kbox w x m (.slice da cs.length dc)
  have HW0 := Lib.hid HX.eq
  have HB0 := Lib.hid HX.below
  have HK0 := Lib.hid HX.k
  have HP0 := Lib.hid HX.e
  have H0 := Lib.hid (h.below HX.below)
  have HS0 := Lib.hid (hs.below HX.below)
  obtain ⟨K, hK⟩ : ∃ K, w.heap.size = K := ⟨_, rfl⟩
  rw [hK] at HK0 HP0
  have HKE := Lib.hid hK
  have hV := cValidate x m (.slice da cs.length dc) cs w0 HS0.out
  have HOK := Lib.hid hok
  have HN := Lib.hid (fun h => CM.errF_num (f := (x, m, cs)) h)
  clear h hs HX hR hok hK
  obtain ⟨p0, p1, p2, _⟩ := HP0.out.cells
  obtain ⟨_, _, k2, _⟩ := HK0.out.cells
  by_cases hE : JM.errP x m cs = 0
  · rw [hE] at hV
    rw [if_neg (by rw [hE]; simp)] at hR2
    have HV := Lib.hid hV
    obtain ⟨n1, n2, n3, n4⟩ := HN.out hE
    simp only at n1 n2 n3 n4
    have hc6 : cs.length ≤ 1000 := by have := all_len6 hE; omega
    have HER := Lib.hid hE
    have HR2 := Lib.hid hR2
    clear hV hR2 hE HN
    go_enter Try.func62, Try.ntmps62
    go_upto_region 1 with fail
    rw [HW0.out, HKE.out]
    go_wp2_with fail
    refine HV.out.mono ?_
    rintro e w1 ⟨rfl, hb1⟩
    have HP1 := Lib.hid (HP0.out.below hb1)
    have HK1 := Lib.hid (HK0.out.below hb1)
    have H1 := Lib.hid (H0.out.below hb1)
    have HS1 := Lib.hid (HS0.out.below hb1)
    have HB1 := Lib.hid (bnext HB0.out hb1)
    clear p0 p1 p2 k2 HV HP0 HK0 H0 HS0 HB0 HW0 hb1
    obtain ⟨p0, p1, p2, _⟩ := HP1.out.cells
    obtain ⟨k0, k1, k2, k3, k4, k5, k6, k7, k8⟩ := HK1.out.cells
    have HF := Lib.hid (sFind _ fs x m da cs.length dc w1 H1.out HOK.out.srt (by omega))
    go_wp2_with fail
    refine HF.out.mono ?_
    rintro e w2 ⟨i, rfl, hat, hb2⟩
    have HP2 := Lib.hid (HP1.out.below hb2)
    have HK2 := Lib.hid (HK1.out.below hb2)
    have H2 := Lib.hid (H1.out.below hb2)
    have HS2 := Lib.hid (HS1.out.below hb2)
    have HB2 := Lib.hid (bnext HB1.out hb2)
    have HAT := Lib.hid hat
    have hfh := fnd_has HOK.out.srt hat
    clear p0 p1 p2 k0 k1 k2 k3 k4 k5 k6 k7 k8 HF HP1 HK1 H1 HS1 HB1 hb2 hat
    obtain ⟨F, hF⟩ : ∃ F, F = fndF fs x m i := ⟨_, rfl⟩
    rw [← hF] at hfh ⊢
    have HFN := Lib.hid hF
    clear hF
    cases F
    · have HR3 := Lib.hid (show R = if m ≠ CM.ct fs x + 1 then (8, []) else (0, CM.un fs [(x, m, cs)]) by rw [HR2.out, if_neg (by rw [← hfh]; decide)])
      have hfo := fol_ct HOK.out HAT.out hfh.symm n3 (by omega)
      have HFN2 : Hid (fndF fs x m i = false) := HFN.out.symm
      have hi := HAT.out.1
      obtain ⟨vp, hcut0, hrp⟩ := H2.out.cut0S i hi
      have HFO := Lib.hid (fun w' (hb : Below w2.heap.size w2 w') => sFollows vp (fs.take i) x m da cs.length dc w' (hrp.below hb) ⟨n3, by omega⟩ (by omega))
      rw [hfo] at HFO
      obtain ⟨z0, z1, z2⟩ := lat_e HP2.out
      obtain ⟨l0, l1, l2, l3, l4, l5, l6, l7, l8⟩ := HK2.out.later
      clear HR2 hfh hfo HFN hrp
      by_cases hmn : m = CM.ct fs x + 1
      · have HR4 := Lib.hid (show R = (0, fs.take i ++ ([(x, m, cs)] ++ fs.drop i)) by rw [HR3.out, if_neg (by simpa using hmn), un_at HAT.out HFN2.out])
        rw [decide_eq_true hmn] at HFO
        have HFO2 := Lib.hid (fun q : Later w2 => Calls.later (HFO.out q.val q.h))
        clear HR3 hmn HFO
        go_wp2
        refine wp_region_later (by kernel_rfl) (by kernel_rfl) ?_
        repeat (go_big_quiet_step (first | (go_at_call 69; with_reducible exact HFO2.out _)))
        refine wpQuiet_nil ?_
        rintro _ ⟨p', rfl⟩
        have HP3 := Lib.hid (HP2.out.below p'.h)
        have HK3 := Lib.hid (HK2.out.below p'.h)
        have H3 := Lib.hid (H2.out.below p'.h)
        have HS3 := Lib.hid (HS2.out.below p'.h)
        have HB3 := Lib.hid (bnext HB2.out p'.h)
        clear z0 z1 z2 l0 l1 l2 l3 l4 l5 l6 l7 l8 HFO2 HP2 HK2 H2 HS2 HB2 hcut0
        obtain ⟨w3, hw3⟩ : ∃ w3, w3 = p'.val := ⟨_, rfl⟩
        rw [← hw3] at HP3 HK3 H3 HS3 HB3 ⊢
        clear hw3
        obtain ⟨qs, hq1, hq2⟩ := H3.out
        have hql := hq2.len
        obtain ⟨va, hcut0, hra⟩ := hq1.cut0 setE i (by omega)
        obtain ⟨vb, hcutL, hrb⟩ := hq1.cutL setE i (by omega)
        obtain ⟨a3, l3, c3, rfl⟩ : ∃ a l c, va = .slice a l c := by obtain ⟨a, c, h, _⟩ := hra.shape; exact ⟨a, _, c, h⟩
        obtain ⟨a4, l4, c4, rfl⟩ : ∃ a l c, vb = .slice a l c := by obtain ⟨a, c, h, _⟩ := hrb.shape; exact ⟨a, _, c, h⟩
        have HRA := Lib.hid hra
        have HRB := Lib.hid hrb
        have HT3 := Lib.hid hq2
        have HQL := Lib.hid hql
        have HI := Lib.hid hi
        have HCL := Lib.hid (show ∀ f ∈ fs.take i ++ ([(x, m, cs)] ++ fs.drop i), f.2.2.length ≤ 1073741824 by
          intro f hf
          rcases List.mem_append.1 hf with h1 | h1
          · exact all_len HOK.out.all f (List.mem_of_mem_take h1)
          · rcases List.mem_append.1 h1 with h2 | h2
            · rw [List.mem_singleton] at h2; subst h2; show cs.length ≤ _; omega
            · exact all_len HOK.out.all f (List.mem_of_mem_drop h2))
        have HLL := Lib.hid (show (fs.take i ++ ([(x, m, cs)] ++ fs.drop i)).length ≤ 1073741824 by rw [List.length_append, List.length_append, List.length_take, List.length_drop]; simp; omega)
        clear hq1 hq2 hql hra hrb hi
        go_wp2
        refine wp_region_held_drew (S := fun w' => Below w3.heap.size w3 w') (by kernel_rfl) ((Below.refl _ _).drew) (fun ha => ?_)
        replace ha : Below w3.heap.size w3 w3.drew := (Below.refl _ _).drew
        generalize w3.drew = wa at ha ⊢
        refine takeH (i := 1) (v := ?_) rfl (by kernel_rfl) (by kernel_rfl) (by kernel_rfl) (fun _ _ _ h => h) (Or.inl ⟨by rfl, ?_⟩) (by assumption) ?_
        rotate_left
        · (intro w hSw; (try dsimp only at hSw); go_simp; first | done | with_reducible rfl)
        (try simp only [Act.put, List.setIfInBounds_toArray, List.set_cons_zero, List.set_cons_succ])
        refine takeH (i := 2) (v := ?_) rfl (by kernel_rfl) (by kernel_rfl) (by kernel_rfl) (fun _ _ _ h => h) (Or.inl ⟨by rfl, ?_⟩) (by assumption) ?_
        rotate_left
        · (intro w hSw; (try dsimp only at hSw); go_simp; first | done | with_reducible rfl)
        (try simp only [Act.put, List.setIfInBounds_toArray, List.set_cons_zero, List.set_cons_succ])
        refine takeH (i := 3) (v := ?_) rfl (by kernel_rfl) (by kernel_rfl) (by kernel_rfl) (fun _ _ _ h => h) (Or.inl ⟨by rfl, ?_⟩) (by assumption) ?_
        rotate_left
        · (intro w hSw; (try dsimp only at hSw); go_simp; first | done | with_reducible rfl)
        (try simp only [Act.put, List.setIfInBounds_toArray, List.set_cons_zero, List.set_cons_succ])
        refine takeH (i := 0) (v := ?_) rfl (by kernel_rfl) (by kernel_rfl) (by kernel_rfl) (fun _ _ _ h => h) (Or.inl ⟨by rfl, ?_⟩) (by assumption) ?_
        rotate_left
        · (intro w hSw; (try dsimp only at hSw); obtain ⟨q0, q1, q2, q3, q4, q5, q6, q7, q8⟩ := (HK3.out.below hSw).cells; go_simp; first | done | with_reducible rfl)
        (try simp only [Act.put, List.setIfInBounds_toArray, List.set_cons_zero, List.set_cons_succ])
        refine takeH (i := 4) (v := ?_) rfl (by kernel_rfl) (by kernel_rfl) (by kernel_rfl) (fun _ _ _ h => h) (Or.inl ⟨by rfl, ?_⟩) (by assumption) ?_
        rotate_left
        · (intro w hSw; (try dsimp only at hSw); obtain ⟨p0, p1, p2, _⟩ := (HP3.out.below hSw).cells; go_simp; first | done | with_reducible rfl)
        (try simp only [Act.put, List.setIfInBounds_toArray, List.set_cons_zero, List.set_cons_succ])
        refine takeH (i := 6) (v := ?_) rfl (by kernel_rfl) (by kernel_rfl) (by kernel_rfl) (fun _ _ _ h => h) (Or.inl ⟨by rfl, ?_⟩) (by assumption) ?_
        rotate_left
        · (intro w hSw; (try dsimp only at hSw); go_simp; first | done | with_reducible rfl)
        (try simp only [Act.put, List.setIfInBounds_toArray, List.set_cons_zero, List.set_cons_succ])
        refine takeH (i := 7) (v := ?_) rfl (by kernel_rfl) (by kernel_rfl) (by kernel_rfl) (fun _ _ _ h => h) (Or.inl ⟨by rfl, ?_⟩) (by assumption) ?_
        rotate_left
        · (intro w hSw; (try dsimp only at hSw); go_simp; first | done | with_reducible rfl)
        (try simp only [Act.put, List.setIfInBounds_toArray, List.set_cons_zero, List.set_cons_succ])
        refine takeH (i := 8) (v := ?_) rfl (by kernel_rfl) (by kernel_rfl) (by kernel_rfl) (fun _ _ _ h => h) (Or.inl ⟨by rfl, ?_⟩) (by assumption) ?_
        rotate_left
        · (intro w hSw; (try dsimp only at hSw); go_simp; first | done | with_reducible rfl)
        (try simp only [Act.put, List.setIfInBounds_toArray, List.set_cons_zero, List.set_cons_succ])
        refine wpAnyH_ready (rs := [5]) (by kernel_rfl) (by simp) ?_
        refine stepH rfl (fun K hK => ?_) AllReadyH.nil
        go_simp
        have hb := bnext ha (below_fresh _ (.cells #[.int .i64 x, .int .i64 m, .slice da cs.length dc] 45))
        have hrp : RdQ (wa.alloc (.cells #[.int .i64 x, .int .i64 m, .slice da cs.length dc] 45)) (.slice (some ⟨wa.heap.size, 0, none⟩) 1 1) [(x, m, da, cs.length, dc)] := (ownG_fresh hlQ 45 wa [(x, m, da, cs.length, dc)] (by simp [maxLen])).rd
        refine hK.out _ _ (hb) (fun _ => ?_)
        clear hK K
        (try simp only [Act.put, List.setIfInBounds_toArray, List.set_cons_zero, List.set_cons_succ])
        obtain ⟨wb , hwb ⟩ : ∃ wb , (wa).alloc (.cells #[.int .i64 x, .int .i64 m, .slice da cs.length dc] 45) = wb  := ⟨_, rfl⟩
        rw [hwb ] at hb hrp ⊢
        clear hwb 
        refine wpAnyH_ready (rs := [9]) (by kernel_rfl) (by simp) ?_
        refine stepH rfl (fun K hK => ?_) AllReadyH.nil
        go_simp
        have hc := bnext hb (below_fresh _ (.cells #[.slice a3 l3 c3, .slice (some ⟨wa.heap.size, 0, none⟩) 1 1, .slice a4 l4 c4] 22))
        have c0 : (wb.alloc (.cells #[.slice a3 l3 c3, .slice (some ⟨wa.heap.size, 0, none⟩) 1 1, .slice a4 l4 c4] 22)).cell? ⟨wb.heap.size, 0, none⟩ = some (.slice a3 l3 c3) := by rw [World.cell?_alloc_new]; rfl
        have c1 : (wb.alloc (.cells #[.slice a3 l3 c3, .slice (some ⟨wa.heap.size, 0, none⟩) 1 1, .slice a4 l4 c4] 22)).cell? ⟨wb.heap.size, 1, none⟩ = some (.slice (some ⟨wa.heap.size, 0, none⟩) 1 1) := by rw [World.cell?_alloc_new]; rfl
        have c2 : (wb.alloc (.cells #[.slice a3 l3 c3, .slice (some ⟨wa.heap.size, 0, none⟩) 1 1, .slice a4 l4 c4] 22)).cell? ⟨wb.heap.size, 2, none⟩ = some (.slice a4 l4 c4) := by rw [World.cell?_alloc_new]; rfl
        have hrp := hrp.below (below_fresh wb (.cells #[.slice a3 l3 c3, .slice (some ⟨wa.heap.size, 0, none⟩) 1 1, .slice a4 l4 c4] 22))
        refine hK.out _ _ (hc) (fun _ => ?_)
        clear hK K
        (try simp only [Act.put, List.setIfInBounds_toArray, List.set_cons_zero, List.set_cons_succ])
        obtain ⟨wd , hwd ⟩ : ∃ wd , (wb).alloc (.cells #[.slice a3 l3 c3, .slice (some ⟨wa.heap.size, 0, none⟩) 1 1, .slice a4 l4 c4] 22) = wd  := ⟨_, rfl⟩
        rw [hwd ] at hc c0 c1 c2 hrp ⊢
        clear hwd 
        refine wpAnyH_ready (rs := [10]) (by kernel_rfl) (by simp) ?_
        refine stepH rfl (fun K hK => ?_) AllReadyH.nil
        go_simp
        refine (gConcat wb.heap.size (.slice a3 l3 c3) (.slice (some ⟨wa.heap.size, 0, none⟩) 1 1) (.slice a4 l4 c4) (qs.take i) [(x, m, da, cs.length, dc)] (qs.drop i) wd c0 c1 c2 (HRA.out.below hc) hrp (HRB.out.below hc) (by have := HQL.out; rw [List.length_take, List.length_drop]; simp; omega)).mono ?_
        rintro e we ⟨ve, rfl, hoe, hq⟩
        have hrf : RdF we ve (fs.take i ++ ([(x, m, cs)] ++ fs.drop i)) := ⟨_, hoe.rd, by rw [List.append_assoc]; exact Tel.app ((HT3.out.take i).below (bnext hc hq)) (Tel.app (Tel.one ⟨rfl, rfl, HS3.out.below (bnext hc hq)⟩) ((HT3.out.drop i).below (bnext hc hq)))⟩
        have he := bnext hc hq
        go_wp2_with fail
        refine hK.out _ _ (he) (fun _ => ?_)
        clear hK K
        (try simp only [Act.put, List.setIfInBounds_toArray, List.set_cons_zero, List.set_cons_succ])
        refine wpAnyH_ready (rs := [11]) (by kernel_rfl) (by simp) ?_
        refine stepH rfl (fun K hK => ?_) AllReadyH.nil
        go_simp
        refine (sCopy ve _ we hrf HLL.out HCL.out).mono ?_
        rintro e wf ⟨vf, rfl, hof, hq⟩
        have hf := bnext he hq
        go_wp2_with fail
        refine hK.out _ _ (hf) (fun _ => ?_)
        clear hK K
        (try simp only [Act.put, List.setIfInBounds_toArray, List.set_cons_zero, List.set_cons_succ])
        refine takeH (i := 12) (v := ?_) rfl (by kernel_rfl) (by kernel_rfl) (by kernel_rfl) (fun _ _ _ h => h) (Or.inl ⟨by rfl, ?_⟩) (by assumption) ?_
        rotate_left
        · (intro w hSw; (try dsimp only at hSw); go_simp; first | done | with_reducible rfl)
        (try simp only [Act.put, List.setIfInBounds_toArray, List.set_cons_zero, List.set_cons_succ])
        refine takeH (i := 13) (v := ?_) rfl (by kernel_rfl) (by kernel_rfl) (by kernel_rfl) (fun _ _ _ h => h) (Or.inl ⟨by rfl, ?_⟩) (by assumption) ?_
        rotate_left
        · (intro w hSw; (try dsimp only at hSw); go_simp; first | done | with_reducible rfl)
        (try simp only [Act.put, List.setIfInBounds_toArray, List.set_cons_zero, List.set_cons_succ])
        refine wpAnyH_done (by kernel_rfl) ?_ _
        have HOF := Lib.hid (OwnD.mono hof (bnext HB3.out he).size)
        have HBF := Lib.hid (bnext HB3.out hf)
        clear hof he hf hc hb ha hrf hrp c0 c1 c2 hoe
        go_wp2
        go_ret2
        exact ⟨_, by rw [HR4.out]; rfl, by rw [HR4.out]; exact HOF.out, HBF.out⟩
      · have HR4 := Lib.hid (show R = (8, []) by rw [HR3.out, if_pos (by simpa using hmn)])
        rw [decide_eq_false hmn] at HFO
        have HFO2 := Lib.hid (fun q : Later w2 => Calls.later (HFO.out q.val q.h))
        clear HR3 hmn HFO
        go_wp2
        refine wp_region_later (by kernel_rfl) (by kernel_rfl) ?_
        repeat (go_big_quiet_step (first | (go_at_call 69; with_reducible exact HFO2.out _)))
        refine wpQuiet_nil ?_
        rintro _ ⟨p', rfl⟩
        have HB3 := Lib.hid (bnext HB2.out p'.h)
        generalize p'.val = w3 at HB3 ⊢
        clear z0 z1 z2 l0 l1 l2 l3 l4 l5 l6 l7 l8 HFO2 HP2 HK2 H2 HS2 HB2 hcut0
        go_wp2
        go_ret2
        rw [HKE.out]
        exact ⟨_, by rw [HR4.out]; rfl, by rw [HR4.out]; exact OwnD.nil _ _, by rw [← HKE.out]; exact HB3.out⟩
    · have HR3 := Lib.hid (show R = (5, []) by rw [HR2.out, if_pos hfh.symm])
      clear HR2 hfh
      go_wp2
      go_ret2
      exact ⟨_, by rw [HR3.out]; rfl, by rw [HR3.out]; exact OwnD.nil _ _, HB2.out⟩
  · have HR3 := Lib.hid (show R = (JM.errP x m cs, []) by rw [hR2, if_pos hE])
    have hne : (JM.errP x m cs != 0) = true := bne_t hE
    generalize JM.errP x m cs = E at hV HR3 hne
    have HV := Lib.hid hV
    clear hV hR2 hE HN
    go_enter Try.func62, Try.ntmps62
    go_upto_region 1 with fail
    rw [HW0.out, HKE.out]
    go_wp2_with fail
    refine HV.out.mono ?_
    rintro e w1 ⟨rfl, hb1⟩
    have HB1 := Lib.hid (bnext HB0.out hb1)
    go_wp2
    go_ret2
    exact ⟨_, by rw [HR3.out]; rfl, by rw [HR3.out]; exact OwnD.nil _ _, HB1.out⟩

end Go.Proofs.Yteeegpojfbgkfaa
