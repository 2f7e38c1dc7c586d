/-
  The calls of slices.BinarySearchFunc over a set, sets.Find and sets.Contains. Conditions: the sets read; the first is sorted. (Written by mk_sets.py.)
-/
import Derived.Test.YteeegpojfbgkfaaTBas
import Derived.Test.YteeegpojfbgkfaaKG
namespace Go.Proofs.Yteeegpojfbgkfaa
open Go.RowKit
open JM (Chg)
open CM (Fp)

set_option maxRecDepth 100000 in
set_option maxHeartbeats 4000000 in
theorem sSearch (v : Value) (fs : List Fp) (x m : Int) (ua : Option Addr) (ul uc : Nat) (w : World) (h : RdF w v fs) (hv : CM.Srt fs) (hl : fs.length ≤ 1000) :
    Calls Try.prog 103 #[v, pv x m (.slice ua ul uc), .func (.func 73) #[] #[]] w
      fun e w' => ∃ i : Nat, e = .returned (.tuple #[.int .i64 i, .bool (fndF fs x m i)]) ∧ AtF fs x m i ∧ Below w.heap.size w w' := by
  obtain ⟨ad, cap, rfl, hc, _⟩ := h.shape
  have hb0 := below_fresh w (.cells #[.int .i64 x, .int .i64 m, .slice ua ul uc] 45)
  have hP0 := OP.fresh w x m (.slice ua ul uc)
  have hB : w.heap.size < (w.alloc (.cells #[.int .i64 x, .int .i64 m, .slice ua ul uc] 45)).heap.size := by rw [World.size_alloc]; exact Nat.lt_succ_self _
  have H := Lib.hid (h.below hb0)
  have HV := Lib.hid hv
  clear h hv
  go_enter Try.func103, Try.ntmps103
  go_wp2
  obtain ⟨w0, hw0⟩ : ∃ w0, w.alloc (.cells #[.int .i64 x, .int .i64 m, .slice ua ul uc] 45) = w0 := ⟨_, rfl⟩
  rw [hw0] at hb0 hP0 H hB ⊢
  obtain ⟨B, hBe⟩ : ∃ B, B = w.heap.size := ⟨_, rfl⟩
  rw [← hBe] at hP0 hB ⊢
  have HP := Lib.hid hP0
  have HB := Lib.hid (show Below B w w0 by rw [hBe]; exact hb0)
  have HBE := Lib.hid hBe
  clear hw0 hb0 hP0 hBe
  go_loopw [9, 10] (fun i j wr => ∃ p q : Nat, p ≤ q ∧ q ≤ fs.length ∧ i = .int .i64 p ∧ j = .int .i64 q ∧ Below w0.heap.size w0 wr ∧ Hid (∀ k f, fs[k]? = some f → k < p → JM.cmpP f.1 f.2.1 x m < 0) ∧ Hid (∀ k f, fs[k]? = some f → q ≤ k → 0 ≤ JM.cmpP f.1 f.2.1 x m)) (fun i j _ => (intOf j - intOf i).toNat)
  case atStart => exact ⟨0, fs.length, Nat.zero_le _, Nat.le_refl _, rfl, rfl, Below.refl _ _, (by show ∀ k e, _; intro k e _ h; omega), (by show ∀ k e, _; intro k e hk h; have := (List.getElem?_eq_some_iff.1 hk).1; omega)⟩
  case round =>
    obtain ⟨p, q, hpq, hq, rfl, rfl, hbl, hlo, hhi⟩ := hrel
    obtain ⟨r0, r1, r2, _⟩ := (HP.out.below hbl).cells
    have z0 : ∀ p : Later wr, p.val.cell? ⟨B, 0, none⟩ = some (.int .i64 x) := fun p => below_cell p.h r0
    have z1 : ∀ p : Later wr, p.val.cell? ⟨B, 1, none⟩ = some (.int .i64 m) := fun p => below_cell p.h r1
    have z2 : ∀ p : Later wr, p.val.cell? ⟨B, 2, none⟩ = some (.slice ua ul uc) := fun p => below_cell p.h r2
    clear r0 r1 r2
    by_cases hlt : p < q
    · have hq1 : (p : Int) < (q : Int) := by omega
      have hmid : (p + q) / 2 < fs.length := by omega
      have hg := List.getElem?_eq_getElem hmid
      generalize fs[(p + q) / 2] = en at hg
      obtain ⟨y, n, cs⟩ := en
      obtain ⟨b, o, da, dl, dc, hi, hb, c0, c1, c2, _⟩ := (H.out.below hbl).atS ((p + q) / 2) y n cs hg
      rw [show (((p + q) / 2 : Nat) : Int) = ((p : Int) + (q : Int)) / 2 by omega] at hi
      have k0 : ∀ p : Later wr, p.val.cell? ⟨b, o, none⟩ = some (.int .i64 y) := fun p => below_cell p.h c0
      have k1 : ∀ p : Later wr, p.val.cell? ⟨b, o + 1, none⟩ = some (.int .i64 n) := fun p => below_cell p.h c1
      have k2 : ∀ p : Later wr, p.val.cell? ⟨b, o + 2, none⟩ = some (.slice da dl dc) := fun p => below_cell p.h c2
      have hC := fun p : Later wr => Calls.later (cCompare y n da dl dc x m ua ul uc p.val)
      by_cases hx : JM.cmpP y n x m < 0
      · have hlo2 := Lib.hid (show ∀ k f, fs[k]? = some f → k < (p + q) / 2 + 1 → JM.cmpP f.1 f.2.1 x m < 0 from fun k e hk hkl => by
          by_cases hkm : k = (p + q) / 2
          · subst hkm
            rw [hg] at hk
            cases hk
            exact hx
          · exact cmp_lt (by have := HV.out.get hk hg (by omega); exact this) hx)
        generalize JM.cmpP y n x m = C at hC hx
        have HC := Lib.hid hC
        clear hlo hg hC c0 c1 c2
        go_wp2
        refine wp_region_later (by kernel_rfl) (by kernel_rfl) ?_
        repeat (go_big_quiet_step (first | (go_at_call 73; with_reducible exact HC.out _)))
        refine wpQuiet_nil ?_
        rintro _ ⟨p', rfl⟩
        have HB2 := Lib.hid (bnext hbl p'.h)
        generalize p'.val = w2 at HB2 ⊢
        clear k0 k1 k2 z0 z1 z2 HC hbl
        go_wp2
        go_roundw
        case rel => exact ⟨(p + q) / 2 + 1, q, by omega, hq, vint (by omega), rfl, HB2.out, hlo2, hhi⟩
        case measure => simp [intOf]; omega
      · have hhi2 := Lib.hid (show ∀ k f, fs[k]? = some f → (p + q) / 2 ≤ k → 0 ≤ JM.cmpP f.1 f.2.1 x m from fun k e hk hkl => by
          by_cases hkm : k = (p + q) / 2
          · subst hkm
            rw [hg] at hk
            cases hk
            show 0 ≤ JM.cmpP y n x m; omega
          · exact cmp_gt (by have := HV.out.get hg hk (by omega); exact this) (show 0 ≤ JM.cmpP y n x m by omega))
        generalize JM.cmpP y n x m = C at hC hx
        have HC := Lib.hid hC
        clear hhi hg hC c0 c1 c2
        go_wp2
        refine wp_region_later (by kernel_rfl) (by kernel_rfl) ?_
        repeat (go_big_quiet_step (first | (go_at_call 73; with_reducible exact HC.out _)))
        refine wpQuiet_nil ?_
        rintro _ ⟨p', rfl⟩
        have HB2 := Lib.hid (bnext hbl p'.h)
        generalize p'.val = w2 at HB2 ⊢
        clear k0 k1 k2 z0 z1 z2 HC hbl
        go_wp2
        go_roundw
        case rel => exact ⟨p, (p + q) / 2, by omega, by omega, rfl, vint (by omega), HB2.out, hlo, hhi2⟩
        case measure => simp [intOf]; omega
    · obtain rfl : p = q := by omega
      have hq1 : ¬ ((p : Int) < (p : Int)) := by omega
      have hat := Lib.hid (show AtF fs x m p from ⟨hq, hlo.out, hhi.out⟩)
      by_cases hpn : p < fs.length
      · have hpi : (p : Int) < (fs.length : Int) := by omega
        have hg := List.getElem?_eq_getElem hpn
        generalize fs[p] = en at hg
        obtain ⟨y, n, cs⟩ := en
        obtain ⟨b, o, da, dl, dc, hi, hb, c0, c1, c2, _⟩ := (H.out.below hbl).atS p y n cs hg
        have k0 : ∀ p : Later wr, p.val.cell? ⟨b, o, none⟩ = some (.int .i64 y) := fun p => below_cell p.h c0
        have k1 : ∀ p : Later wr, p.val.cell? ⟨b, o + 1, none⟩ = some (.int .i64 n) := fun p => below_cell p.h c1
        have k2 : ∀ p : Later wr, p.val.cell? ⟨b, o + 2, none⟩ = some (.slice da dl dc) := fun p => below_cell p.h c2
        have hC := fun p : Later wr => Calls.later (cCompare y n da dl dc x m ua ul uc p.val)
        have hf := Lib.hid (show fndF fs x m p = (JM.cmpP y n x m == 0) by unfold fndF; rw [hg]; by_cases h : JM.cmpP y n x m = 0 <;> simp [h])
        generalize JM.cmpP y n x m = C at hC hf
        have HC := Lib.hid hC
        clear hlo hhi hg hC c0 c1 c2
        go_wp2
        refine wp_region_later (by kernel_rfl) (by kernel_rfl) ?_
        repeat (go_big_quiet_step (first | (go_at_call 73; with_reducible exact HC.out _)))
        refine wpQuiet_nil ?_
        rintro _ ⟨p', rfl⟩
        have HB2 := Lib.hid (bnext hbl p'.h)
        generalize p'.val = w2 at HB2 ⊢
        go_wp2
        go_ret2
        exact ⟨p, by rw [hf.out]; rfl, hat.out, by have := HB.out.trans (HB2.out.mono (Nat.le_of_lt hB)); rw [HBE.out] at this; exact this⟩
      · have hpi : ¬ ((p : Int) < (fs.length : Int)) := by omega
        have hf := Lib.hid (show fndF fs x m p = false by unfold fndF; rw [List.getElem?_eq_none (by omega)])
        clear hlo hhi
        go_wp2
        go_quiet (fail)
        go_wp2
        go_ret2
        exact ⟨p, by rw [hf.out]; rfl, hat.out, by rw [← HBE.out]; exact HB.out.trans ((hbl.trans (below_drewN _ _ _)).mono (Nat.le_of_lt hB))⟩

set_option maxRecDepth 100000 in
set_option maxHeartbeats 1000000 in
theorem sFind (v : Value) (fs : List Fp) (x m : Int) (ua : Option Addr) (ul uc : Nat) (w : World) (h : RdF w v fs) (hv : CM.Srt fs) (hl : fs.length ≤ 1000) :
    Calls Try.prog 79 #[(.agg #[.func (.func 70) #[] #[], .func (.func 71) #[] #[], .func (.func 72) #[] #[], .func (.func 73) #[] #[], .func (.func 55) #[] #[], .func (.func 74) #[] #[], .func (.func 75) #[] #[], .func (.func 76) #[] #[], .int .i64 9]), v, pv x m (.slice ua ul uc)] w fun e w' => ∃ i : Nat, e = .returned (.tuple #[.int .i64 i, .bool (fndF fs x m i)]) ∧ AtF fs x m i ∧ Below w.heap.size w w' := by
  obtain ⟨w2, HX⟩ := kbox w x m (.slice ua ul uc)
  have HW := Lib.hid HX.eq
  have HB := Lib.hid HX.below
  have HK := Lib.hid HX.k
  have HP := Lib.hid HX.e
  have HS := Lib.hid (sSearch v fs x m ua ul uc w2 (h.below HX.below) hv hl)
  clear HX h hv
  obtain ⟨_, _, _, k3, _⟩ := HK.out.cells
  obtain ⟨p0, p1, p2, _⟩ := HP.out.cells
  go_enter Try.func79, Try.ntmps79
  go_upto_region 1 with fail
  rw [HW.out]
  go_wp2_with fail
  refine HS.out.mono ?_
  rintro e w1 ⟨i, rfl, hat, hb⟩
  have HA := Lib.hid hat
  clear hat HS
  obtain ⟨r, hr⟩ : ∃ r, r = fndF fs x m i := ⟨_, rfl⟩
  rw [← hr]
  have HR := Lib.hid hr
  clear hr
  go_wp2
  go_ret2
  exact ⟨i, by rw [← HR.out]; rfl, HA.out, bnext HB.out hb⟩

set_option maxRecDepth 100000 in
set_option maxHeartbeats 2000000 in
theorem sContains (va vb : Value) (xs ys : List Fp) (w : World) (ha : RdF w va xs) (hb : RdF w vb ys) (hs : CM.Srt xs) (hl : xs.length ≤ 1000) :
    Calls Try.prog 52 #[(.agg #[.func (.func 70) #[] #[], .func (.func 71) #[] #[], .func (.func 72) #[] #[], .func (.func 73) #[] #[], .func (.func 55) #[] #[], .func (.func 74) #[] #[], .func (.func 75) #[] #[], .func (.func 76) #[] #[], .int .i64 9]), va, vb] w fun e w' => e = .returned (.bool (CM.cons xs ys)) ∧ Below w.heap.size w w' := by
  obtain ⟨aa, ac, rfl, hac, _⟩ := ha.shape
  obtain ⟨ba, bc, rfl, hbc, _⟩ := hb.shape
  obtain ⟨R, hR⟩ : ∃ R, R = CM.cons xs ys := ⟨_, rfl⟩
  rw [← hR]
  have HA := Lib.hid ha
  have HB := Lib.hid hb
  have HS := Lib.hid hs
  have HR := Lib.hid hR
  clear ha hb hs hR
  obtain ⟨w0, HX⟩ := kone w
  have HW := Lib.hid HX.eq
  have HB0 := Lib.hid HX.below
  have HK0 := Lib.hid HX.k
  obtain ⟨K, hK⟩ : ∃ K, w.heap.size = K := ⟨_, rfl⟩
  rw [hK] at HK0
  have HKE := Lib.hid hK
  clear HX hK
  go_enter Try.func52, Try.ntmps52
  go_upto_region 1 with fail
  rw [HW.out, HKE.out]
  clear HW
  go_wp2
  go_loopw [13] (fun i wr => ∃ k : Nat, k ≤ ys.length ∧ i = .int .i64 k ∧ Below w.heap.size w wr ∧ Hid (KB wr K) ∧ Hid (R = CM.cons xs (ys.drop k))) (fun i _ => ys.length - (intOf i).toNat)
  case atStart => exact ⟨0, Nat.zero_le _, rfl, HB0.out, HK0.out, HR.out⟩
  case round =>
    obtain ⟨k, hk, rfl, hbl, hkb, he⟩ := hrel
    clear HR HB0 HK0
    by_cases hlt : k < ys.length
    · have hq : (k : Int) < (ys.length : Int) := by omega
      have hd := drop_get hlt
      have hk2 := List.getElem?_eq_getElem hlt
      generalize ys[k] = f at hd hk2
      have e1 : Hid (R = (decide (f ∈ xs) && CM.cons xs (ys.drop (k + 1)))) := by show R = _; rw [he.out, hd]; rfl
      obtain ⟨x, m, cs⟩ := f
      obtain ⟨b, o, da, dl, dc, hi, hb, c0, c1, c2, hrd⟩ := (HB.out.below hbl).atS k x m cs hk2
      obtain ⟨wx, HX⟩ := eone wr x m (.slice da dl dc)
      have HWX := Lib.hid HX.eq
      have HBX := Lib.hid (bnext hbl HX.below)
      have HPX := Lib.hid HX.e
      have HKX := Lib.hid (hkb.out.below HX.below)
      have HRD := Lib.hid (hrd.below HX.below)
      have HF := Lib.hid (sFind (.slice aa xs.length ac) xs x m da dl dc wx (HA.out.below HBX.out) HS.out hl)
      obtain ⟨B, hB⟩ : ∃ B, wr.heap.size = B := ⟨_, rfl⟩
      rw [hB] at HPX
      have HBE := Lib.hid hB
      clear HX hk2 hd he hrd hbl hkb hB
      obtain ⟨p0, p1, p2, _⟩ := HPX.out.cells
      obtain ⟨g0, g1, g2, g3, g4, g5, g6, g7, g8⟩ := HKX.out.cells
      go_upto_region 4 with fail
      rw [HWX.out, HBE.out]
      go_wp2_with fail
      refine HF.out.mono ?_
      rintro e w1 ⟨i, rfl, hat, hb1⟩
      have HP1 := Lib.hid (HPX.out.below hb1)
      have HK1 := Lib.hid (HKX.out.below hb1)
      have HRD1 := Lib.hid (HRD.out.below hb1)
      have HB1 := Lib.hid (bnext HBX.out hb1)
      clear c0 c1 c2 hi hb p0 p1 p2 g0 g1 g2 g3 g4 g5 g6 g7 g8 HF HPX HKX HRD HBX HWX hb1
      by_cases hf : fndF xs x m i = true
      · obtain ⟨g, hgi, hg1, hg2⟩ := fnd_true hf
        obtain ⟨y, n, ds⟩ := g
        simp only at hg1 hg2
        subst hg1 hg2
        obtain ⟨b, o, ea, el, ec, hi, hb, c0, c1, c2, hrd⟩ := (HA.out.below HB1.out).atS i y n ds hgi
        have hil : i < xs.length := (List.getElem?_eq_some_iff.1 hgi).1
        have hil2 : (i : Int) < (xs.length : Int) := by omega
        have hmem : ((y, n, cs) ∈ xs) ↔ ds = cs := by
          constructor
          · intro hm
            have := HS.out.key (List.mem_of_getElem? hgi) hm ⟨rfl, rfl⟩
            cases this; rfl
          · rintro rfl; exact List.mem_of_getElem? hgi
        have hE := fun p : Later w1 => Calls.later (cEqual y n (.slice ea el ec) ds y n (.slice da dl dc) cs p.val (hrd.below p.h) (HRD1.out.below p.h))
        have k0 : ∀ p : Later w1, p.val.cell? ⟨b, o, none⟩ = some (.int .i64 y) := fun p => below_cell p.h c0
        have k1 : ∀ p : Later w1, p.val.cell? ⟨b, o + 1, none⟩ = some (.int .i64 n) := fun p => below_cell p.h c1
        have k2 : ∀ p : Later w1, p.val.cell? ⟨b, o + 2, none⟩ = some (.slice ea el ec) := fun p => below_cell p.h c2
        obtain ⟨z0, z1, z2⟩ := lat_e HP1.out
        obtain ⟨_, _, _, _, l4, _⟩ := HK1.out.later
        rw [hf]
        clear hat hf hgi hrd HRD1 c0 c1 c2 hb
        by_cases hds : ds = cs
        · have e2 := Lib.hid (show R = CM.cons xs (ys.drop (k + 1)) by rw [e1.out, decide_eq_true (hmem.2 hds)]; rfl)
          rw [show eqP y n ds y n cs = true from decide_eq_true ⟨rfl, rfl, hds⟩] at hE
          have HE := Lib.hid hE
          clear e1 hE hmem hds
          go_wp2
          refine wp_region_later (by kernel_rfl) (by kernel_rfl) ?_
          repeat (go_big_quiet_step (first | (go_at_call 55; with_reducible exact HE.out _)))
          refine wpQuiet_nil ?_
          rintro _ ⟨p', rfl⟩
          have HB2 := Lib.hid (bnext HB1.out p'.h)
          have HK2 := Lib.hid (HK1.out.below p'.h)
          generalize p'.val = w2 at HB2 HK2 ⊢
          clear k0 k1 k2 z0 z1 z2 l4 HE HB1 HK1 HP1
          go_wp2
          go_roundw
          case rel => exact ⟨k + 1, by omega, by go_num, HB2.out, HK2, e2⟩
          case measure => simp [intOf]; omega
        · have e2 := Lib.hid (show R = false by rw [e1.out, decide_eq_false (fun h => hds (hmem.1 h))]; rfl)
          rw [show eqP y n ds y n cs = false from decide_eq_false (fun h => hds h.2.2)] at hE
          have HE := Lib.hid hE
          clear e1 hE hmem hds
          go_wp2
          refine wp_region_later (by kernel_rfl) (by kernel_rfl) ?_
          repeat (go_big_quiet_step (first | (go_at_call 55; with_reducible exact HE.out _)))
          refine wpQuiet_nil ?_
          rintro _ ⟨p', rfl⟩
          have HB2 := Lib.hid (bnext HB1.out p'.h)
          generalize p'.val = w2 at HB2 ⊢
          clear k0 k1 k2 z0 z1 z2 l4 HE HB1
          go_wp2
          go_ret
          rw [e2.out]
          exact ⟨rfl, HB2.out⟩
      · have hf' : fndF xs x m i = false := by simpa using hf
        have e2 := Lib.hid (show R = false by rw [e1.out, decide_eq_false (fun h => fnd_false HS.out hat hf' _ h ⟨rfl, rfl⟩)]; rfl)
        rw [hf']
        clear e1 hat hf hf'
        go_wp2
        go_quiet (fail)
        go_wp2
        go_ret
        rw [e2.out]
        exact ⟨rfl, HB1.out.trans (below_drewN _ _ _)⟩
    · have hq : ¬ ((k : Int) < (ys.length : Int)) := by omega
      have e2 := Lib.hid (show R = true by rw [he.out, List.drop_of_length_le (by omega)]; rfl)
      clear he
      go_wp2
      go_ret
      rw [e2.out]
      exact ⟨rfl, hbl⟩

end Go.Proofs.Yteeegpojfbgkfaa
