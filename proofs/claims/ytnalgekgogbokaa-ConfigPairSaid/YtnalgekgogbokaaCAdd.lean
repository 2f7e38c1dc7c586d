/-
  The calls of slices.Grow, slices.Concat over configurations, config.Add and the reference's AddProposal. Conditions: what comes in reads; the configuration is valid.
-/
import Derived.Lib.AppendZerosOnto
import Derived.Lib.LazyBuf
import Derived.Deep.RegionHeld3
import Derived.Test.YtnalgekgogbokaaKB
import Derived.Test.YtnalgekgogbokaaKH
import Derived.Test.YtnalgekgogbokaaKG
namespace Go.Proofs.Ytnalgekgogbokaa
open Go.RowKit
open JM (Chg)
open CM (Fp)
open VM (Ent)

theorem infoPro : (Try.prog.info? 45).map (fun i => (i.zero, i.size, i.bytes)) = some (some (.agg #[.int .i64 0, .int .i64 0, .slice none 0 0]), 3, 40) := by kernel_rfl

set_option maxRecDepth 100000 in
set_option maxHeartbeats 1000000 in
theorem gGrow (n : Nat) (w : World) (hn : n ≤ 1073741824) :
    Calls Try.prog 84 #[.slice none 0 0, .int .i64 n] w fun e w' => ∃ v', e = .returned v' ∧ OwnQ w.heap.size w' v' [] ∧ Below w.heap.size w w' := by
  obtain ⟨i0, hi, hz0, hz1, hz2⟩ := info_parts infoPro
  by_cases h0 : n = 0
  · subst h0
    clear hn
    go_enter Try.func84, Try.ntmps84
    go_wp2
    go_ret
    exact ⟨_, rfl, OwnG.nil hlQ _ _ _, Below.refl _ _⟩
  · have hpos : (0 : Int) < (n : Int) := by omega
    have hnn : ¬ ((n : Int) < 0) := by omega
    have hold := run_firstCells_none (P := Try.prog) w.drew 3 0 0 0
    have hg := grownCap_ge w n 0 45
    have hm := grownCap_le_maxLen w n 0 45 (by unfold maxLen; omega)
    have hrz := fun ty => Lib.run_append_grow_zeros (P := Try.prog) w 23 3 ty 45 i0 _ .i64 .i64 Try.underlying23 Try.underlying3 hi hz0 none 0 0 [] (by rw [hz1]; exact hold) n (by omega)
      (by rw [hz1]; omega) (by omega) (by omega) (by rw [hz2]; omega) (by rw [hz2]; exact growslice_fits (by omega) (by omega))
    rw [Nat.zero_add] at hrz
    generalize grownCap w n 0 45 = G at hrz hg hm
    obtain ⟨Z, hZ⟩ : ∃ Z : Array Value, Z = (Value.agg #[Value.int IntKind.i64 0, Value.int IntKind.i64 0, Value.slice none 0 0]).cells := ⟨_, rfl⟩
    have hZs : Z.size = 3 := by rw [hZ]; rfl
    rw [← hZ] at hrz
    have hown : (w.drew.alloc (.cells (#[] ++ Builtin.zeroCells Z n ++ Builtin.zeroCells Z (G - n)) 45)).ownsRow w.heap.size 45 3 (.slice (some ⟨w.heap.size, 0, none⟩) 0 G) 0 [] :=
      World.ownsRow_made w.drew _ G (Nat.le_refl _) hm (by
        rw [Array.size_append, Array.size_append, size_zeroCells, size_zeroCells, hZs]
        show 0 + n * 3 + (G - n) * 3 = G * 3
        omega)
    have hbl : Below w.heap.size w (w.drew.alloc (.cells (#[] ++ Builtin.zeroCells Z n ++ Builtin.zeroCells Z (G - n)) 45)) := ((Below.refl _ w).drew).alloc (Nat.le_refl _) _
    have hrz' : ∀ ty, (Builtin.append_ #[23, 3] ty #[.slice none 0 0, .int .i64 n]).run Try.prog w = .ok (.slice (some ⟨w.heap.size, 0, none⟩) n G) (w.drew.alloc (.cells (#[] ++ Builtin.zeroCells Z n ++ Builtin.zeroCells Z (G - n)) 45)) := hrz
    generalize w.drew.alloc (.cells (#[] ++ Builtin.zeroCells Z n ++ Builtin.zeroCells Z (G - n)) 45) = w1 at hrz' hown hbl
    have hG63 : G ≤ 9223372036854775807 := by unfold maxLen at hm; omega
    clear hm hold hi hz0 hz1 hz2 hrz hZ hZs
    go_enter Try.func84, Try.ntmps84
    go_wp2_with (at_builtin; refine Lib.wpList_append_run _ rfl _ _ _ _ rfl _ _ rfl rfl _ _ (hrz' _) ?_)
    all_goals
      go_ret
      exact ⟨_, rfl, ⟨hown, hlQ⟩, hbl⟩

set_option maxRecDepth 100000 in
set_option maxHeartbeats 2000000 in
/-- slices.Concat of three configurations: the call's own list. -/
theorem gConcat (g : Nat) (t u v : Value) (xs ys zs : List Pro) (w : World) (c0 : w.cell? ⟨g, 0, none⟩ = some t) (c1 : w.cell? ⟨g, 1, none⟩ = some u) (c2 : w.cell? ⟨g, 2, none⟩ = some v)
    (ht : RdQ w t xs) (hu : RdQ w u ys) (hv : RdQ w v zs) (hl : xs.length + ys.length + zs.length ≤ 1000000) :
    Calls Try.prog 61 #[.slice (some ⟨g, 0, none⟩) 3 3] w fun e w' => ∃ v', e = .returned v' ∧ OwnQ w.heap.size w' v' (xs ++ ys ++ zs) ∧ Below w.heap.size w w' := by
  have hgrow := gGrow (xs.length + ys.length + zs.length) w (by omega)
  obtain ⟨at_, ct, rfl, hct, _⟩ := ht.shape
  obtain ⟨au, cu, rfl, hcu, _⟩ := hu.shape
  obtain ⟨av, cv, rfl, hcv, _⟩ := hv.shape
  have HT := Lib.hid ht
  have HU := Lib.hid hu
  have HV := Lib.hid hv
  clear ht hu hv
  go_enter Try.func61, Try.ntmps61
  go_wp2
  refine wp_loop_rounds 4 ?_
  rw [rounds_succ]
  go_wp2
  rw [rounds_succ]
  go_wp2
  rw [rounds_succ]
  go_wp2
  rw [rounds_succ]
  go_wp2_with fail
  have hs : ((xs.length : Int) + (ys.length : Int) + (zs.length : Int)) = ((xs.length + ys.length + zs.length : Nat) : Int) := by omega
  rw [hs]
  refine hgrow.mono ?_
  rintro e w1 ⟨v1, rfl, ho1, hb1⟩
  clear hgrow hs
  have d0 := below_cell hb1 c0
  have d1 := below_cell hb1 c1
  have d2 := below_cell hb1 c2
  have HT1 := HT.out.below hb1
  have hs1 := hb1.size
  go_wp2
  refine wp_loop_rounds 4 ?_
  rw [rounds_succ]
  go_wp2_with (at_builtin; refine wp_appGS proE rfl _ _ rfl rfl ho1 rfl HT1 (by simp) (by omega) hs1 ?_)
  intro v2 w2 ho2 hb2 _
  have hb3 := hb1.trans hb2
  have f1 := below_cell hb3 c1
  have f2 := below_cell hb3 c2
  have HU1 := HU.out.below hb3
  have hs2 := hb3.size
  clear ho1 HT1 hb1 hb2 d0 d1 d2 c0 hs1
  go_wp2
  rw [rounds_succ]
  go_wp2_with (at_builtin; refine wp_appGS proE rfl _ _ rfl rfl ho2 rfl HU1 (by first | omega | (simp; omega)) (by omega) hs2 ?_)
  intro v3 w3 ho3 hb4 _
  have hb5 := hb3.trans hb4
  have g2 := below_cell hb5 c2
  have HV1 := HV.out.below hb5
  have hs3 := hb5.size
  clear ho2 HU1 hb3 hb4 f1 f2 c1 hs2
  go_wp2
  rw [rounds_succ]
  go_wp2_with (at_builtin; refine wp_appGS proE rfl _ _ rfl rfl ho3 rfl HV1 (by first | omega | (simp; omega)) (by omega) hs3 ?_)
  intro v4 w4 ho4 hb6 _
  have hb7 := hb5.trans hb6
  clear ho3 HV1 hb5 hb6 g2 c2 hs3
  go_wp2
  rw [rounds_succ]
  go_wp2
  go_ret
  exact ⟨_, rfl, by simpa using ho4, hb7⟩

namespace CM
/-- What Add answers: error and configuration. -/
def addP (c : List Fp) (f : Fp) : Int × List Fp :=
  if errF f ≠ 0 then (errF f, []) else if hasK c f.1 f.2.1 = true then (5, []) else if f.2.1 ≠ ct c f.1 + 1 then (8, []) else (0, un c [f])
end CM
theorem fnd_has {fs : List Fp} {x m : Int} {i : Nat} (hs : CM.Srt fs) (ha : AtF fs x m i) : fndF fs x m i = CM.hasK fs x m := by
  cases h : fndF fs x m i with
  | true =>
    obtain ⟨f, hf, h1, h2⟩ := fnd_true h
    exact (CM.hasK_iff.2 ⟨f, List.mem_of_getElem? hf, h1, h2⟩).symm
  | false =>
    cases h3 : CM.hasK fs x m with
    | false => rfl
    | true =>
      obtain ⟨f, hf, h1, h2⟩ := CM.hasK_iff.1 h3
      exact absurd ⟨h1, h2⟩ (fnd_false hs ha h f hf)
theorem un_at {fs : List Fp} {x m : Int} {cs : List Chg} {i : Nat} (ha : AtF fs x m i) (hf : fndF fs x m i = false) : CM.un fs [(x, m, cs)] = fs.take i ++ ([(x, m, cs)] ++ fs.drop i) :=
  CM.un_one i ha.1 (fun k y hk hki => ha.2.1 k y hk hki) (fun y hy => by
    have h1 := ha.2.2 i y hy (Nat.le_refl _)
    unfold fndF at hf
    rw [hy] at hf
    have h2 := of_decide_eq_false hf
    show 0 < JM.cmpP y.1 y.2.1 x m
    omega)

set_option maxRecDepth 100000 in
set_option maxHeartbeats 8000000 in
theorem gAdd (v : Value) (fs : List Fp) (x m : Int) (sv : Value) (cs : List Chg) (w : World) (h : RdF w v fs) (hs : RdC w sv cs) (hok : CM.Ok fs) :
    Calls Try.prog 34 #[v, pv x m sv] w fun e w' => ∃ v', e = .returned (.tuple #[v', .int .i64 (CM.addP fs (x, m, cs)).1]) ∧ RdF w' v' (CM.addP fs (x, m, cs)).2 ∧ Below w.heap.size w w' := by
  obtain ⟨ad, cp, rfl, hcp, _⟩ := h.shape
  obtain ⟨da, dc, rfl, hdc, _⟩ := hs.shape
  have h9 := hok.nine
  have hb0 := below_fresh w (.cells #[.int .i64 x, .int .i64 m, .slice da cs.length dc] 45)
  have hp0 := PBox.fresh w x m (.slice da cs.length dc)
  obtain ⟨R, hR⟩ : ∃ R, R = CM.addP fs (x, m, cs) := ⟨_, rfl⟩
  rw [← hR]
  have hR2 : R = if JM.errP x m cs ≠ 0 then (JM.errP x m cs, []) else if CM.hasK fs x m = true then (5, []) else if m ≠ CM.ct fs x + 1 then (8, []) else (0, CM.un fs [(x, m, cs)]) := hR
  obtain ⟨w0, hw0⟩ : ∃ w0, w.alloc (.cells #[.int .i64 x, .int .i64 m, .slice da cs.length dc] 45) = w0 := ⟨_, rfl⟩
  rw [hw0] at hb0 hp0
  have HW0 := Lib.hid hw0
  have HP0 := Lib.hid hp0
  have HB0 := Lib.hid hb0
  have H0 := Lib.hid (h.below hb0)
  have HS0 := Lib.hid (hs.below hb0)
  have hV := cValidate x m (.slice da cs.length dc) cs w0 HS0.out
  have HOK := Lib.hid hok
  have HN := Lib.hid (fun h => CM.errF_num (f := (x, m, cs)) h)
  clear h hs hb0 hp0 hw0 hR hok
  obtain ⟨p0, p1, p2⟩ := HP0.out
  by_cases hE : JM.errP x m cs = 0
  · rw [hE] at hV
    rw [if_neg (by rw [hE]; simp)] at hR2
    have HV := Lib.hid hV
    obtain ⟨n1, n2, n3, n4⟩ := HN.out hE
    simp only at n1 n2 n3 n4
    have hc6 : cs.length ≤ 6 := (JM.errP_small hE).2.2.1
    have HCS := Lib.hid hE
    have HR2 := Lib.hid hR2
    clear hV hR2 hE HN
    go_enter Try.func34, Try.ntmps34
    go_wp2_with fail
    rw [HW0.out]
    refine HV.out.mono ?_
    rintro e w1 ⟨rfl, hb1⟩
    have HP1 := Lib.hid (HP0.out.below hb1)
    have H1 := Lib.hid (H0.out.below hb1)
    have HS1 := Lib.hid (HS0.out.below hb1)
    have HB1 := Lib.hid (bnext HB0.out hb1)
    clear p0 p1 p2 HV HP0 H0 HS0 HB0 HW0 hb1
    obtain ⟨p0, p1, p2⟩ := HP1.out
    have HF := Lib.hid (gFind _ fs x m da cs.length dc w1 H1.out HOK.out.srt (by omega))
    go_wp2_with fail
    refine HF.out.mono ?_
    rintro e w2 ⟨i, rfl, hat, hb2⟩
    have HP2 := Lib.hid (HP1.out.below hb2)
    have H2 := Lib.hid (H1.out.below hb2)
    have HS2 := Lib.hid (HS1.out.below hb2)
    have HB2 := Lib.hid (bnext HB1.out hb2)
    have HAT := Lib.hid hat
    have hfh := fnd_has HOK.out.srt hat
    clear p0 p1 p2 HF HP1 H1 HS1 HB1 hb2 hat
    obtain ⟨p0, p1, p2⟩ := HP2.out
    obtain ⟨F, hF⟩ : ∃ F, F = fndF fs x m i := ⟨_, rfl⟩
    rw [← hF] at hfh ⊢
    have HFN := Lib.hid hF
    clear hF
    cases F
    · have HR3 := Lib.hid (show R = if m ≠ CM.ct fs x + 1 then (8, []) else (0, CM.un fs [(x, m, cs)]) by rw [HR2.out, if_neg (by rw [← hfh]; decide)])
      clear HR2 hfh
      have HVEC := Lib.hid (fun w' (hh : Below w2.heap.size w2 w') => gVector _ fs w' (H2.out.below hh) (by omega))
      have hvs := CM.vo_spec HOK.out
      have hvl := CM.vo_len fs
      have HGET := Lib.hid (fun w' v' (ho : VX.RdV w' v' (CM.vo fs)) => VX.wGet v' (CM.vo fs) x w' ho hvs.1 (by omega))
      have hcx := hvs.2 x
      have hcp0 := CM.ct_pos fs x
      have hc3 := HOK.out.ct3 x
      rw [← hcx] at hcp0 hc3 HR3
      generalize VM.cnt (CM.vo fs) x = N at HGET hcp0 hc3 HR3
      clear hcx hvs hvl
      have hw1 : IntKind.i64.wrap (N + 1) = N + 1 := IntWalk.i64_in _ (by omega)
      have HFN2 : Hid (fndF fs x m i = false) := HFN.out.symm
      clear HFN
      go_wp2
      refine wp_region_held_drew (S := fun w' => Below w2.heap.size w2 w') (by kernel_rfl) ((Below.refl _ _).drew) (fun ha => ?_)
      replace ha : Below w2.heap.size w2 w2.drew := (Below.refl _ _).drew
      generalize w2.drew = wa at ha ⊢
      refine takeH (i := 0) (v := ?_) rfl (by kernel_rfl) (by kernel_rfl) (by kernel_rfl) (fun _ _ _ h => h) (Or.inl ⟨by rfl, ?_⟩) (by assumption) ?_
      rotate_left
      · (intro w hSw; (try dsimp only at hSw); go_simp; first | done | with_reducible rfl)
      (try simp only [Act.put, List.setIfInBounds_toArray, List.set_cons_zero, List.set_cons_succ])
      refine takeH (i := 1) (v := ?_) rfl (by kernel_rfl) (by kernel_rfl) (by kernel_rfl) (fun _ _ _ h => h) (Or.inl ⟨by rfl, ?_⟩) (by assumption) ?_
      rotate_left
      · (intro w hSw; (try dsimp only at hSw); obtain ⟨p0, p1, p2⟩ := HP2.out.below hSw; go_simp; first | done | with_reducible rfl)
      (try simp only [Act.put, List.setIfInBounds_toArray, List.set_cons_zero, List.set_cons_succ])
      refine takeH (i := 2) (v := ?_) rfl (by kernel_rfl) (by kernel_rfl) (by kernel_rfl) (fun _ _ _ h => h) (Or.inl ⟨by rfl, ?_⟩) (by assumption) ?_
      rotate_left
      · (intro w hSw; (try dsimp only at hSw); go_simp; first | done | with_reducible rfl)
      (try simp only [Act.put, List.setIfInBounds_toArray, List.set_cons_zero, List.set_cons_succ])
      refine takeH (i := 4) (v := ?_) rfl (by kernel_rfl) (by kernel_rfl) (by kernel_rfl) (fun _ _ _ h => h) (Or.inl ⟨by rfl, ?_⟩) (by assumption) ?_
      rotate_left
      · (intro w hSw; (try dsimp only at hSw); go_simp; first | done | with_reducible rfl)
      (try simp only [Act.put, List.setIfInBounds_toArray, List.set_cons_zero, List.set_cons_succ])
      refine takeH (i := 5) (v := ?_) rfl (by kernel_rfl) (by kernel_rfl) (by kernel_rfl) (fun _ _ _ h => h) (Or.inl ⟨by rfl, ?_⟩) (by assumption) ?_
      rotate_left
      · (intro w hSw; (try dsimp only at hSw); obtain ⟨p0, p1, p2⟩ := HP2.out.below hSw; go_simp; first | done | with_reducible rfl)
      (try simp only [Act.put, List.setIfInBounds_toArray, List.set_cons_zero, List.set_cons_succ])
      refine wpAnyH_ready (rs := [3]) (by kernel_rfl) (by simp) ?_
      refine stepH rfl (fun K hK => ?_) AllReadyH.nil
      go_simp
      refine (HVEC.out wa ha).mono ?_
      rintro e wb ⟨vb, rfl, hob, hq⟩
      have hb := bnext ha hq
      go_wp2_with fail
      refine hK.out _ _ (hb) (fun _ => ?_)
      clear hK K
      (try simp only [Act.put, List.setIfInBounds_toArray, List.set_cons_zero, List.set_cons_succ])
      refine wpAnyH_ready (rs := [6]) (by kernel_rfl) (by simp) ?_
      refine stepH rfl (fun K hK => ?_) AllReadyH.nil
      go_simp
      refine (HGET.out wb vb hob.rdV).mono ?_
      rintro e wc ⟨rfl, hq⟩
      have hc := bnext hb hq
      go_wp2_with fail
      refine hK.out _ _ (hc) (fun _ => ?_)
      clear hK K
      (try simp only [Act.put, List.setIfInBounds_toArray, List.set_cons_zero, List.set_cons_succ])
      refine takeH (i := 7) (v := ?_) rfl (by kernel_rfl) (by kernel_rfl) (by kernel_rfl) (fun _ _ _ h => h) (Or.inl ⟨by rfl, ?_⟩) (by assumption) ?_
      rotate_left
      · (intro w hSw; (try dsimp only at hSw); go_simp; first | done | with_reducible rfl)
      (try simp only [Act.put, List.setIfInBounds_toArray, List.set_cons_zero, List.set_cons_succ])
      refine takeH (i := 8) (v := ?_) rfl (by kernel_rfl) (by kernel_rfl) (by kernel_rfl) (fun _ _ _ h => h) (Or.inl ⟨by rfl, ?_⟩) (by assumption) ?_
      rotate_left
      · (intro w hSw; (try dsimp only at hSw); go_simp; first | done | with_reducible rfl)
      (try simp only [Act.put, List.setIfInBounds_toArray, List.set_cons_zero, List.set_cons_succ])
      refine takeH (i := 9) (v := ?_) rfl (by kernel_rfl) (by kernel_rfl) (by kernel_rfl) (fun _ _ _ h => h) (Or.inl ⟨by rfl, ?_⟩) (by assumption) ?_
      rotate_left
      · (intro w hSw; (try dsimp only at hSw); go_simp; first | done | with_reducible rfl)
      (try simp only [Act.put, List.setIfInBounds_toArray, List.set_cons_zero, List.set_cons_succ])
      refine wpAnyH_done (by kernel_rfl) ?_ _
      have HP3 := Lib.hid (HP2.out.below hc)
      have H3 := Lib.hid (H2.out.below hc)
      have HS3 := Lib.hid (HS2.out.below hc)
      have HB3 := Lib.hid (bnext HB2.out hc)
      clear p0 p1 p2 ha hb hc hob HVEC HGET HP2 H2 HS2 HB2
      obtain ⟨w3, hw3⟩ : ∃ w3, w3 = wc := ⟨_, rfl⟩
      rw [← hw3] at HP3 H3 HS3 HB3 ⊢
      clear hw3
      by_cases hmn : m = N + 1
      · have HR4 := Lib.hid (show R = (0, fs.take i ++ ([(x, m, cs)] ++ fs.drop i)) by rw [HR3.out, if_neg (by simpa using hmn), un_at HAT.out HFN2.out])
        have hne : (m != N + 1) = false := bne_f hmn
        clear HR3 hmn hw1
        have hi := HAT.out.1
        obtain ⟨qs, hq1, hq2⟩ := H3.out
        have hql := hq2.len
        obtain ⟨va, hcut0, hra⟩ := hq1.cut0 proE i (by omega)
        obtain ⟨vb, hcutL, hrb⟩ := hq1.cutL proE i (by omega)
        obtain ⟨a3, l3, c3, rfl⟩ : ∃ a l c, va = .slice a l c := by obtain ⟨a, c, h, _⟩ := hra.shape; exact ⟨a, _, c, h⟩
        obtain ⟨a4, l4, c4, rfl⟩ : ∃ a l c, vb = .slice a l c := by obtain ⟨a, c, h, _⟩ := hrb.shape; exact ⟨a, _, c, h⟩
        have HRA := Lib.hid hra
        have HRB := Lib.hid hrb
        have HT3 := Lib.hid hq2
        have HQL := Lib.hid hql
        have HI := Lib.hid hi
        clear hq1 hq2 hql hra hrb hi
        go_wp2
        refine wp_region_held_drew (S := fun w' => Below w3.heap.size w3 w') (by kernel_rfl) ((Below.refl _ _).drew) (fun ha => ?_)
        replace ha : Below w3.heap.size w3 w3.drew := (Below.refl _ _).drew
        generalize w3.drew = wa at ha ⊢
        refine takeH (i := 0) (v := ?_) rfl (by kernel_rfl) (by kernel_rfl) (by kernel_rfl) (fun _ _ _ h => h) (Or.inl ⟨by rfl, ?_⟩) (by assumption) ?_
        rotate_left
        · (intro w hSw; (try dsimp only at hSw); go_simp; first | done | with_reducible rfl)
        (try simp only [Act.put, List.setIfInBounds_toArray, List.set_cons_zero, List.set_cons_succ])
        refine takeH (i := 1) (v := ?_) rfl (by kernel_rfl) (by kernel_rfl) (by kernel_rfl) (fun _ _ _ h => h) (Or.inl ⟨by rfl, ?_⟩) (by assumption) ?_
        rotate_left
        · (intro w hSw; (try dsimp only at hSw); go_simp; first | done | with_reducible rfl)
        (try simp only [Act.put, List.setIfInBounds_toArray, List.set_cons_zero, List.set_cons_succ])
        refine takeH (i := 2) (v := ?_) rfl (by kernel_rfl) (by kernel_rfl) (by kernel_rfl) (fun _ _ _ h => h) (Or.inl ⟨by rfl, ?_⟩) (by assumption) ?_
        rotate_left
        · (intro w hSw; (try dsimp only at hSw); go_simp; first | done | with_reducible rfl)
        (try simp only [Act.put, List.setIfInBounds_toArray, List.set_cons_zero, List.set_cons_succ])
        refine takeH (i := 3) (v := ?_) rfl (by kernel_rfl) (by kernel_rfl) (by kernel_rfl) (fun _ _ _ h => h) (Or.inl ⟨by rfl, ?_⟩) (by assumption) ?_
        rotate_left
        · (intro w hSw; (try dsimp only at hSw); obtain ⟨p0, p1, p2⟩ := HP3.out.below hSw; go_simp; first | done | with_reducible rfl)
        (try simp only [Act.put, List.setIfInBounds_toArray, List.set_cons_zero, List.set_cons_succ])
        refine takeH (i := 5) (v := ?_) rfl (by kernel_rfl) (by kernel_rfl) (by kernel_rfl) (fun _ _ _ h => h) (Or.inl ⟨by rfl, ?_⟩) (by assumption) ?_
        rotate_left
        · (intro w hSw; (try dsimp only at hSw); go_simp; first | done | with_reducible rfl)
        (try simp only [Act.put, List.setIfInBounds_toArray, List.set_cons_zero, List.set_cons_succ])
        refine takeH (i := 6) (v := ?_) rfl (by kernel_rfl) (by kernel_rfl) (by kernel_rfl) (fun _ _ _ h => h) (Or.inl ⟨by rfl, ?_⟩) (by assumption) ?_
        rotate_left
        · (intro w hSw; (try dsimp only at hSw); go_simp; first | done | with_reducible rfl)
        (try simp only [Act.put, List.setIfInBounds_toArray, List.set_cons_zero, List.set_cons_succ])
        refine takeH (i := 7) (v := ?_) rfl (by kernel_rfl) (by kernel_rfl) (by kernel_rfl) (fun _ _ _ h => h) (Or.inl ⟨by rfl, ?_⟩) (by assumption) ?_
        rotate_left
        · (intro w hSw; (try dsimp only at hSw); go_simp; first | done | with_reducible rfl)
        (try simp only [Act.put, List.setIfInBounds_toArray, List.set_cons_zero, List.set_cons_succ])
        refine wpAnyH_ready (rs := [4]) (by kernel_rfl) (by simp) ?_
        refine stepH rfl (fun K hK => ?_) AllReadyH.nil
        go_simp
        have hb := bnext ha (below_fresh _ (.cells #[.int .i64 x, .int .i64 m, .slice da cs.length dc] 45))
        have hrp : RdQ (wa.alloc (.cells #[.int .i64 x, .int .i64 m, .slice da cs.length dc] 45)) (.slice (some ⟨wa.heap.size, 0, none⟩) 1 1) [(x, m, da, cs.length, dc)] := (ownG_fresh hlQ 45 wa [(x, m, da, cs.length, dc)] (by simp [maxLen])).rd
        refine hK.out _ _ (hb) (fun _ => ?_)
        clear hK K
        (try simp only [Act.put, List.setIfInBounds_toArray, List.set_cons_zero, List.set_cons_succ])
        obtain ⟨wb , hwb ⟩ : ∃ wb , (wa).alloc (.cells #[.int .i64 x, .int .i64 m, .slice da cs.length dc] 45) = wb  := ⟨_, rfl⟩
        rw [hwb ] at hb hrp ⊢
        clear hwb 
        refine wpAnyH_ready (rs := [8]) (by kernel_rfl) (by simp) ?_
        refine stepH rfl (fun K hK => ?_) AllReadyH.nil
        go_simp
        have hc := bnext hb (below_fresh _ (.cells #[.slice a3 l3 c3, .slice (some ⟨wa.heap.size, 0, none⟩) 1 1, .slice a4 l4 c4] 23))
        have c0 : (wb.alloc (.cells #[.slice a3 l3 c3, .slice (some ⟨wa.heap.size, 0, none⟩) 1 1, .slice a4 l4 c4] 23)).cell? ⟨wb.heap.size, 0, none⟩ = some (.slice a3 l3 c3) := by rw [World.cell?_alloc_new]; rfl
        have c1 : (wb.alloc (.cells #[.slice a3 l3 c3, .slice (some ⟨wa.heap.size, 0, none⟩) 1 1, .slice a4 l4 c4] 23)).cell? ⟨wb.heap.size, 1, none⟩ = some (.slice (some ⟨wa.heap.size, 0, none⟩) 1 1) := by rw [World.cell?_alloc_new]; rfl
        have c2 : (wb.alloc (.cells #[.slice a3 l3 c3, .slice (some ⟨wa.heap.size, 0, none⟩) 1 1, .slice a4 l4 c4] 23)).cell? ⟨wb.heap.size, 2, none⟩ = some (.slice a4 l4 c4) := by rw [World.cell?_alloc_new]; rfl
        have hrp := hrp.below (below_fresh wb (.cells #[.slice a3 l3 c3, .slice (some ⟨wa.heap.size, 0, none⟩) 1 1, .slice a4 l4 c4] 23))
        refine hK.out _ _ (hc) (fun _ => ?_)
        clear hK K
        (try simp only [Act.put, List.setIfInBounds_toArray, List.set_cons_zero, List.set_cons_succ])
        obtain ⟨wd , hwd ⟩ : ∃ wd , (wb).alloc (.cells #[.slice a3 l3 c3, .slice (some ⟨wa.heap.size, 0, none⟩) 1 1, .slice a4 l4 c4] 23) = wd  := ⟨_, rfl⟩
        rw [hwd ] at hc c0 c1 c2 hrp ⊢
        clear hwd 
        refine wpAnyH_ready (rs := [9]) (by kernel_rfl) (by simp) ?_
        refine stepH rfl (fun K hK => ?_) AllReadyH.nil
        go_simp
        refine (gConcat wb.heap.size (.slice a3 l3 c3) (.slice (some ⟨wa.heap.size, 0, none⟩) 1 1) (.slice a4 l4 c4) (qs.take i) [(x, m, da, cs.length, dc)] (qs.drop i) wd c0 c1 c2 (HRA.out.below hc) hrp (HRB.out.below hc) (by have := HQL.out; rw [List.length_take, List.length_drop]; simp; omega)).mono ?_
        rintro e we ⟨ve, rfl, hoe, hq⟩
        have hrf : RdF we ve (fs.take i ++ ([(x, m, cs)] ++ fs.drop i)) := ⟨_, hoe.rd, by rw [List.append_assoc]; exact Tel.app ((HT3.out.take i).below (bnext hc hq)) (Tel.app (Tel.one ⟨rfl, rfl, HS3.out.below (bnext hc hq)⟩) ((HT3.out.drop i).below (bnext hc hq)))⟩
        have he := bnext hc hq
        go_wp2_with fail
        refine hK.out _ _ (he) (fun _ => ?_)
        clear hK K
        (try simp only [Act.put, List.setIfInBounds_toArray, List.set_cons_zero, List.set_cons_succ])
        refine wpAnyH_ready (rs := [10]) (by kernel_rfl) (by simp) ?_
        refine stepH rfl (fun K hK => ?_) AllReadyH.nil
        go_simp
        refine (gCopied ve _ we hrf (by simp; omega) (fun g hg => by rcases List.mem_append.1 hg with h1 | h1; exact all_len HOK.out.all g (List.mem_of_mem_take h1); rcases List.mem_append.1 h1 with h2 | h2; (rw [List.mem_singleton] at h2; subst h2; show cs.length ≤ 1073741824; omega); exact all_len HOK.out.all g (List.mem_of_mem_drop h2))).mono ?_
        rintro e wf ⟨vf, rfl, hrr, hq⟩
        have hf := bnext he hq
        go_wp2_with fail
        refine hK.out _ _ (hf) (fun _ => ?_)
        clear hK K
        (try simp only [Act.put, List.setIfInBounds_toArray, List.set_cons_zero, List.set_cons_succ])
        refine takeH (i := 11) (v := ?_) rfl (by kernel_rfl) (by kernel_rfl) (by kernel_rfl) (fun _ _ _ h => h) (Or.inl ⟨by rfl, ?_⟩) (by assumption) ?_
        rotate_left
        · (intro w hSw; (try dsimp only at hSw); go_simp; first | done | with_reducible rfl)
        (try simp only [Act.put, List.setIfInBounds_toArray, List.set_cons_zero, List.set_cons_succ])
        refine takeH (i := 12) (v := ?_) rfl (by kernel_rfl) (by kernel_rfl) (by kernel_rfl) (fun _ _ _ h => h) (Or.inl ⟨by rfl, ?_⟩) (by assumption) ?_
        rotate_left
        · (intro w hSw; (try dsimp only at hSw); go_simp; first | done | with_reducible rfl)
        (try simp only [Act.put, List.setIfInBounds_toArray, List.set_cons_zero, List.set_cons_succ])
        refine wpAnyH_done (by kernel_rfl) ?_ _
        have HF := Lib.hid (bnext HB3.out hf)
        have HRR := Lib.hid hrr
        clear ha hb hc he hf hrr hoe hrf hrp c0 c1 c2 HP3 H3 HS3 HB3 HRA HRB HT3
        go_wp2
        go_ret2
        exact ⟨_, by rw [HR4.out]; rfl, by rw [HR4.out]; exact HRR.out, HF.out⟩
      · have HR4 := Lib.hid (show R = (8, []) by rw [HR3.out, if_pos hmn])
        have hne : (m != N + 1) = true := bne_t hmn
        clear HR3 hmn hw1
        go_wp2
        go_ret2
        exact ⟨_, by rw [HR4.out]; rfl, by rw [HR4.out]; exact RdF.nil _, HB3.out⟩
    · have HR3 := Lib.hid (show R = (5, []) by rw [HR2.out, if_pos hfh.symm])
      clear HR2 hfh
      go_wp2
      go_ret2
      exact ⟨_, by rw [HR3.out]; rfl, by rw [HR3.out]; exact RdF.nil _, HB2.out⟩
  · rw [if_pos hE] at hR2
    generalize JM.errP x m cs = E at hV hR2 hE
    have hne : (E != 0) = true := bne_t hE
    have HV := Lib.hid hV
    have HR2 := Lib.hid hR2
    clear hV hR2 hE HN
    go_enter Try.func34, Try.ntmps34
    go_wp2_with fail
    rw [HW0.out]
    refine HV.out.mono ?_
    rintro e w1 ⟨rfl, hb1⟩
    have HB1 := Lib.hid (bnext HB0.out hb1)
    clear p0 p1 p2 HV HP0 H0 HS0 HB0 HW0 hb1
    go_wp2
    go_ret2
    exact ⟨_, by rw [HR2.out]; rfl, by rw [HR2.out]; exact RdF.nil _, HB1.out⟩

end Go.Proofs.Ytnalgekgogbokaa
