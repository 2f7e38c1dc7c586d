/-
  The calls of slices.BinarySearchFunc over a configuration, config.find, config.Contains. Conditions: the configurations read; the first is sorted.
-/
import Derived.Test.YtacbpphhkkmelaaCBase
namespace Go.Proofs.Ytacbpphhkkmelaa
open Go.RowKit
open JM (Chg)
open CM (Fp)

/-- Place i is where an identifier is, or would be. -/
def AtF (fs : List Fp) (x m : Int) (i : Nat) : Prop := i ≤ fs.length ∧ (∀ k f, fs[k]? = some f → k < i → JM.cmpP f.1 f.2.1 x m < 0) ∧ (∀ k f, fs[k]? = some f → i ≤ k → 0 ≤ JM.cmpP f.1 f.2.1 x m)
def fndF (fs : List Fp) (x m : Int) (i : Nat) : Bool := match fs[i]? with | some f => decide (JM.cmpP f.1 f.2.1 x m = 0) | none => false
theorem cmp_lt {a m b n x k : Int} (h : CM.lt (a, m, ([] : List Chg)) (b, n, [])) (h2 : JM.cmpP b n x k < 0) : JM.cmpP a m x k < 0 := by
  unfold CM.lt at h; rw [CM.cmpP_lt] at *; simp only at h; omega
theorem cmp_gt {a m b n x k : Int} (h : CM.lt (a, m, ([] : List Chg)) (b, n, [])) (h2 : 0 ≤ JM.cmpP a m x k) : 0 ≤ JM.cmpP b n x k := by
  unfold CM.lt at h
  have h3 : ¬ JM.cmpP a m x k < 0 := by omega
  rw [CM.cmpP_lt] at h3
  have h4 : ¬ JM.cmpP b n x k < 0 := by rw [CM.cmpP_lt]; simp only at h; omega
  omega

theorem cCompareL {w : World} (a m : Int) (ua : Option Addr) (ul uc : Nat) (b n : Int) (va : Option Addr) (vl vc : Nat) (p : Later w) :
    Calls Try.prog 45 #[pv a m (.slice ua ul uc), pv b n (.slice va vl vc)] p.val fun e w'' => e = .returned (.int .i64 (JM.cmpP a m b n)) ∧ ∃ q : Later w, w'' = q.val :=
  Calls.later (cCompare a m ua ul uc b n va vl vc p.val)

set_option maxRecDepth 100000 in
set_option maxHeartbeats 4000000 in
theorem gSearch (v : Value) (fs : List Fp) (x m : Int) (ua : Option Addr) (ul uc : Nat) (w : World) (h : RdF w v fs) (hv : CM.Srt fs) (hl : fs.length ≤ 1000) :
    Calls Try.prog 78 #[v, pv x m (.slice ua ul uc), .func (.func 45) #[] #[]] w
      fun e w' => ∃ i : Nat, e = .returned (.tuple #[.int .i64 i, .bool (fndF fs x m i)]) ∧ AtF fs x m i ∧ Below w.heap.size w w' := by
  obtain ⟨ad, cap, rfl, hc, _⟩ := h.shape
  have hb0 := below_fresh w (.cells #[.int .i64 x, .int .i64 m, .slice ua ul uc] 45)
  have hP0 := PBox.fresh w x m (.slice ua ul uc)
  have hB : w.heap.size < (w.alloc (.cells #[.int .i64 x, .int .i64 m, .slice ua ul uc] 45)).heap.size := by rw [World.size_alloc]; exact Nat.lt_succ_self _
  have H := Lib.hid (h.below hb0)
  have HV := Lib.hid hv
  clear h hv
  go_enter Try.func78, Try.ntmps78
  go_wp2
  obtain ⟨w0, hw0⟩ : ∃ w0, w.alloc (.cells #[.int .i64 x, .int .i64 m, .slice ua ul uc] 45) = w0 := ⟨_, rfl⟩
  rw [hw0] at hb0 hP0 H hB ⊢
  obtain ⟨B, hBe⟩ : ∃ B, B = w.heap.size := ⟨_, rfl⟩
  rw [← hBe] at hP0 hB ⊢
  have HP := Lib.hid hP0
  have HB := Lib.hid (show Below B w w0 by rw [hBe]; exact hb0)
  have HBE := Lib.hid hBe
  clear hw0 hb0 hP0 hBe
  go_loopw [9, 10] (fun i j wr => ∃ p q : Nat, p ≤ q ∧ q ≤ fs.length ∧ i = .int .i64 p ∧ j = .int .i64 q ∧ Below w0.heap.size w0 wr ∧ Hid (∀ k f, fs[k]? = some f → k < p → JM.cmpP f.1 f.2.1 x m < 0) ∧ Hid (∀ k f, fs[k]? = some f → q ≤ k → 0 ≤ JM.cmpP f.1 f.2.1 x m)) (fun i j _ => (intOf j - intOf i).toNat)
  case atStart => exact ⟨0, fs.length, Nat.zero_le _, Nat.le_refl _, rfl, rfl, Below.refl _ _, (by show ∀ k e, _; intro k e _ h; omega), (by show ∀ k e, _; intro k e hk h; have := (List.getElem?_eq_some_iff.1 hk).1; omega)⟩
  case round =>
    obtain ⟨p, q, hpq, hq, rfl, rfl, hbl, hlo, hhi⟩ := hrel
    obtain ⟨r0, r1, r2⟩ := HP.out.below hbl
    have z0 : ∀ p : Later wr, p.val.cell? ⟨B, 0, none⟩ = some (.int .i64 x) := fun p => below_cell p.h r0
    have z1 : ∀ p : Later wr, p.val.cell? ⟨B, 1, none⟩ = some (.int .i64 m) := fun p => below_cell p.h r1
    have z2 : ∀ p : Later wr, p.val.cell? ⟨B, 2, none⟩ = some (.slice ua ul uc) := fun p => below_cell p.h r2
    clear r0 r1 r2
    by_cases hlt : p < q
    · have hq1 : (p : Int) < (q : Int) := by omega
      have hmid : (p + q) / 2 < fs.length := by omega
      have hg := List.getElem?_eq_getElem hmid
      generalize fs[(p + q) / 2] = en at hg
      obtain ⟨y, n, cs⟩ := en
      obtain ⟨b, o, da, dl, dc, hi, hb, c0, c1, c2, _⟩ := (H.out.below hbl).at_ ((p + q) / 2) y n cs hg
      rw [show (((p + q) / 2 : Nat) : Int) = ((p : Int) + (q : Int)) / 2 by omega] at hi
      have k0 : ∀ p : Later wr, p.val.cell? ⟨b, o, none⟩ = some (.int .i64 y) := fun p => below_cell p.h c0
      have k1 : ∀ p : Later wr, p.val.cell? ⟨b, o + 1, none⟩ = some (.int .i64 n) := fun p => below_cell p.h c1
      have k2 : ∀ p : Later wr, p.val.cell? ⟨b, o + 2, none⟩ = some (.slice da dl dc) := fun p => below_cell p.h c2
      have hC := fun p : Later wr => cCompareL y n da dl dc x m ua ul uc p
      by_cases hx : JM.cmpP y n x m < 0
      · have hlo2 := Lib.hid (show ∀ k f, fs[k]? = some f → k < (p + q) / 2 + 1 → JM.cmpP f.1 f.2.1 x m < 0 from fun k e hk hkl => by
          by_cases hkm : k = (p + q) / 2
          · subst hkm
            rw [hg] at hk
            cases hk
            exact hx
          · exact cmp_lt (by have := HV.out.get hk hg (by omega); exact this) hx)
        generalize JM.cmpP y n x m = C at hC hx
        have HC := Lib.hid hC
        clear hlo hg hC c0 c1 c2
        go_wp2
        refine wp_region_later (by kernel_rfl) (by kernel_rfl) ?_
        repeat (go_big_quiet_step (first | (go_at_call 45; with_reducible exact HC.out _)))
        refine wpQuiet_nil ?_
        rintro _ ⟨p', rfl⟩
        have HB2 := Lib.hid (bnext hbl p'.h)
        generalize p'.val = w2 at HB2 ⊢
        clear k0 k1 k2 z0 z1 z2 HC hbl
        go_wp2
        go_roundw
        case rel => exact ⟨(p + q) / 2 + 1, q, by omega, hq, vint (by omega), rfl, HB2.out, hlo2, hhi⟩
        case measure => simp [intOf]; omega
      · have hhi2 := Lib.hid (show ∀ k f, fs[k]? = some f → (p + q) / 2 ≤ k → 0 ≤ JM.cmpP f.1 f.2.1 x m from fun k e hk hkl => by
          by_cases hkm : k = (p + q) / 2
          · subst hkm
            rw [hg] at hk
            cases hk
            show 0 ≤ JM.cmpP y n x m; omega
          · exact cmp_gt (by have := HV.out.get hg hk (by omega); exact this) (show 0 ≤ JM.cmpP y n x m by omega))
        generalize JM.cmpP y n x m = C at hC hx
        have HC := Lib.hid hC
        clear hhi hg hC c0 c1 c2
        go_wp2
        refine wp_region_later (by kernel_rfl) (by kernel_rfl) ?_
        repeat (go_big_quiet_step (first | (go_at_call 45; with_reducible exact HC.out _)))
        refine wpQuiet_nil ?_
        rintro _ ⟨p', rfl⟩
        have HB2 := Lib.hid (bnext hbl p'.h)
        generalize p'.val = w2 at HB2 ⊢
        clear k0 k1 k2 z0 z1 z2 HC hbl
        go_wp2
        go_roundw
        case rel => exact ⟨p, (p + q) / 2, by omega, by omega, rfl, vint (by omega), HB2.out, hlo, hhi2⟩
        case measure => simp [intOf]; omega
    · obtain rfl : p = q := by omega
      have hq1 : ¬ ((p : Int) < (p : Int)) := by omega
      have hat := Lib.hid (show AtF fs x m p from ⟨hq, hlo.out, hhi.out⟩)
      by_cases hpn : p < fs.length
      · have hpi : (p : Int) < (fs.length : Int) := by omega
        have hg := List.getElem?_eq_getElem hpn
        generalize fs[p] = en at hg
        obtain ⟨y, n, cs⟩ := en
        obtain ⟨b, o, da, dl, dc, hi, hb, c0, c1, c2, _⟩ := (H.out.below hbl).at_ p y n cs hg
        have k0 : ∀ p : Later wr, p.val.cell? ⟨b, o, none⟩ = some (.int .i64 y) := fun p => below_cell p.h c0
        have k1 : ∀ p : Later wr, p.val.cell? ⟨b, o + 1, none⟩ = some (.int .i64 n) := fun p => below_cell p.h c1
        have k2 : ∀ p : Later wr, p.val.cell? ⟨b, o + 2, none⟩ = some (.slice da dl dc) := fun p => below_cell p.h c2
        have hC := fun p : Later wr => cCompareL y n da dl dc x m ua ul uc p
        have hf := Lib.hid (show fndF fs x m p = (JM.cmpP y n x m == 0) by unfold fndF; rw [hg]; by_cases h : JM.cmpP y n x m = 0 <;> simp [h])
        generalize JM.cmpP y n x m = C at hC hf
        have HC := Lib.hid hC
        clear hlo hhi hg hC c0 c1 c2
        go_wp2
        refine wp_region_later (by kernel_rfl) (by kernel_rfl) ?_
        repeat (go_big_quiet_step (first | (go_at_call 45; with_reducible exact HC.out _)))
        refine wpQuiet_nil ?_
        rintro _ ⟨p', rfl⟩
        have HB2 := Lib.hid (bnext hbl p'.h)
        generalize p'.val = w2 at HB2 ⊢
        go_wp2
        go_ret2
        exact ⟨p, by rw [hf.out]; rfl, hat.out, by have := HB.out.trans (HB2.out.mono (Nat.le_of_lt hB)); rw [HBE.out] at this; exact this⟩
      · have hpi : ¬ ((p : Int) < (fs.length : Int)) := by omega
        have hf := Lib.hid (show fndF fs x m p = false by unfold fndF; rw [List.getElem?_eq_none (by omega)])
        clear hlo hhi
        go_wp2
        go_quiet (fail)
        go_wp2
        go_ret2
        exact ⟨p, by rw [hf.out]; rfl, hat.out, by rw [← HBE.out]; exact HB.out.trans ((hbl.trans (below_drewN _ _ _)).mono (Nat.le_of_lt hB))⟩

set_option maxRecDepth 100000 in
set_option maxHeartbeats 1000000 in
theorem gFind (v : Value) (fs : List Fp) (x m : Int) (ua : Option Addr) (ul uc : Nat) (w : World) (h : RdF w v fs) (hv : CM.Srt fs) (hl : fs.length ≤ 1000) :
    Calls Try.prog 52 #[v, pv x m (.slice ua ul uc)] w fun e w' => ∃ i : Nat, e = .returned (.tuple #[.int .i64 i, .bool (fndF fs x m i)]) ∧ AtF fs x m i ∧ Below w.heap.size w w' := by
  have hb0 := below_fresh w (.cells #[.int .i64 x, .int .i64 m, .slice ua ul uc] 45)
  have HS := Lib.hid (gSearch v fs x m ua ul uc _ (h.below hb0) hv hl)
  have HB := Lib.hid hb0
  clear h hv hb0
  go_enter Try.func52, Try.ntmps52
  go_wp2_with fail
  refine HS.out.mono ?_
  rintro e w1 ⟨i, rfl, hat, hb⟩
  have HA := Lib.hid hat
  clear hat HS
  obtain ⟨r, hr⟩ : ∃ r, r = fndF fs x m i := ⟨_, rfl⟩
  rw [← hr]
  have HR := Lib.hid hr
  clear hr
  go_wp2
  go_ret2
  exact ⟨i, by rw [← HR.out]; rfl, HA.out, bnext HB.out hb⟩

theorem fnd_true {fs : List Fp} {x m : Int} {i : Nat} (h : fndF fs x m i = true) : ∃ f, fs[i]? = some f ∧ f.1 = x ∧ f.2.1 = m := by
  unfold fndF at h
  split at h
  · rename_i f hf
    exact ⟨f, hf, JM.cmpP_zero.1 (of_decide_eq_true h)⟩
  · cases h
theorem fnd_false {fs : List Fp} {x m : Int} {i : Nat} (hs : CM.Srt fs) (ha : AtF fs x m i) (h : fndF fs x m i = false) : ∀ f ∈ fs, ¬ (f.1 = x ∧ f.2.1 = m) := by
  intro f hf hk
  obtain ⟨j, hj, hjf⟩ := List.getElem_of_mem hf
  have h1 : fs[j]? = some f := by rw [List.getElem?_eq_getElem hj, hjf]
  have hz : JM.cmpP f.1 f.2.1 x m = 0 := JM.cmpP_zero.2 hk
  rcases Nat.lt_trichotomy j i with h2 | h2 | h2
  · have := ha.2.1 j f h1 h2; omega
  · subst h2
    unfold fndF at h
    rw [h1] at h
    simp [hz] at h
  · have hi : i < fs.length := by omega
    have h3 := List.getElem?_eq_getElem hi
    have h4 := ha.2.2 i _ h3 (Nat.le_refl _)
    have h5 := hs.get h3 h1 h2
    have h6 : JM.cmpP fs[i].1 fs[i].2.1 x m < 0 := by rw [CM.cmpP_lt]; unfold CM.lt at h5; omega
    omega

set_option maxRecDepth 100000 in
set_option maxHeartbeats 2000000 in
theorem gContains (va vb : Value) (xs ys : List Fp) (w : World) (ha : RdF w va xs) (hb : RdF w vb ys) (hs : CM.Srt xs) (hl : xs.length ≤ 1000) :
    Calls Try.prog 19 #[va, vb] w fun e w' => e = .returned (.bool (CM.cons xs ys)) ∧ Below w.heap.size w w' := by
  obtain ⟨aa, ac, rfl, hac, _⟩ := ha.shape
  obtain ⟨ba, bc, rfl, hbc, _⟩ := hb.shape
  obtain ⟨R, hR⟩ : ∃ R, R = CM.cons xs ys := ⟨_, rfl⟩
  rw [← hR]
  have HA := Lib.hid ha
  have HB := Lib.hid hb
  have HS := Lib.hid hs
  have HR := Lib.hid hR
  clear ha hb hs hR
  go_enter Try.func19, Try.ntmps19
  go_wp2
  go_loopw [11] (fun i wr => ∃ k : Nat, k ≤ ys.length ∧ i = .int .i64 k ∧ Below w.heap.size w wr ∧ Hid (R = CM.cons xs (ys.drop k))) (fun i _ => ys.length - (intOf i).toNat)
  case atStart => exact ⟨0, Nat.zero_le _, rfl, Below.refl _ _, HR.out⟩
  case round =>
    obtain ⟨k, hk, rfl, hbl, he⟩ := hrel
    clear HR
    by_cases hlt : k < ys.length
    · have hq : (k : Int) < (ys.length : Int) := by omega
      have hd := drop_get hlt
      have hk2 := List.getElem?_eq_getElem hlt
      generalize ys[k] = f at hd hk2
      have e1 : Hid (R = (decide (f ∈ xs) && CM.cons xs (ys.drop (k + 1)))) := by show R = _; rw [he.out, hd]; rfl
      obtain ⟨x, m, cs⟩ := f
      obtain ⟨b, o, da, dl, dc, hi, hb, c0, c1, c2, hrd⟩ := (HB.out.below hbl).at_ k x m cs hk2
      have hbx := below_fresh wr (.cells #[.int .i64 x, .int .i64 m, .slice da dl dc] 45)
      have hpx := PBox.fresh wr x m (.slice da dl dc)
      have hlx : wr.heap.size < (wr.alloc (.cells #[.int .i64 x, .int .i64 m, .slice da dl dc] 45)).heap.size := by rw [World.size_alloc]; exact Nat.lt_succ_self _
      have hF := gFind (.slice aa xs.length ac) xs x m da dl dc _ ((HA.out.below hbl).below hbx) HS.out hl
      have hrd1 := hrd.below hbx
      obtain ⟨wx, hwx⟩ : ∃ wx, wr.alloc (.cells #[.int .i64 x, .int .i64 m, .slice da dl dc] 45) = wx := ⟨_, rfl⟩
      rw [hwx] at hbx hpx hF hrd1 hlx
      have HWX := Lib.hid hwx
      have HBX := Lib.hid (bnext hbl hbx)
      have HPX := Lib.hid hpx
      have HRD := Lib.hid hrd1
      have HF := Lib.hid hF
      clear hk2 hd he hbx hpx hF hrd1 hwx hrd hbl
      obtain ⟨p0, p1, p2⟩ := HPX.out
      go_wp2_with fail
      rw [HWX.out]
      refine HF.out.mono ?_
      rintro e w1 ⟨i, rfl, hat, hb1⟩
      obtain ⟨q0, q1, q2⟩ := HPX.out.below hb1
      have HRD1 := Lib.hid (HRD.out.below hb1)
      have HB1 := Lib.hid (bnext HBX.out hb1)
      have hgx : wr.heap.size < w1.heap.size := Nat.lt_of_lt_of_le hlx hb1.size
      clear c0 c1 c2 hi hb p0 p1 p2 HF HPX HRD HBX HWX hb1
      by_cases hf : fndF xs x m i = true
      · obtain ⟨g, hgi, hg1, hg2⟩ := fnd_true hf
        obtain ⟨y, n, ds⟩ := g
        simp only at hg1 hg2
        subst hg1 hg2
        obtain ⟨b, o, ea, el, ec, hi, hb, c0, c1, c2, hrd⟩ := (HA.out.below HB1.out).at_ i y n ds hgi
        have hil : i < xs.length := (List.getElem?_eq_some_iff.1 hgi).1
        have hil2 : (i : Int) < (xs.length : Int) := by omega
        have hmem : ((y, n, cs) ∈ xs) ↔ ds = cs := by
          constructor
          · intro hm
            have := HS.out.key (List.mem_of_getElem? hgi) hm ⟨rfl, rfl⟩
            cases this; rfl
          · rintro rfl; exact List.mem_of_getElem? hgi
        have hE := fun p : Later w1 => Calls.later (cEqual y n (.slice ea el ec) ds y n (.slice da dl dc) cs p.val (hrd.below p.h) (HRD1.out.below p.h))
        have k0 : ∀ p : Later w1, p.val.cell? ⟨b, o, none⟩ = some (.int .i64 y) := fun p => below_cell p.h c0
        have k1 : ∀ p : Later w1, p.val.cell? ⟨b, o + 1, none⟩ = some (.int .i64 n) := fun p => below_cell p.h c1
        have k2 : ∀ p : Later w1, p.val.cell? ⟨b, o + 2, none⟩ = some (.slice ea el ec) := fun p => below_cell p.h c2
        have z0 : ∀ p : Later w1, p.val.cell? ⟨wr.heap.size, 0, none⟩ = some (.int .i64 y) := fun p => below_cell p.h q0
        have z1 : ∀ p : Later w1, p.val.cell? ⟨wr.heap.size, 1, none⟩ = some (.int .i64 n) := fun p => below_cell p.h q1
        have z2 : ∀ p : Later w1, p.val.cell? ⟨wr.heap.size, 2, none⟩ = some (.slice da dl dc) := fun p => below_cell p.h q2
        rw [hf]
        clear hat hf hgi hrd HRD1 c0 c1 c2 q0 q1 q2 hb
        by_cases hds : ds = cs
        · have e2 := Lib.hid (show R = CM.cons xs (ys.drop (k + 1)) by rw [e1.out, decide_eq_true (hmem.2 hds)]; rfl)
          rw [show eqP y n ds y n cs = true from decide_eq_true ⟨rfl, rfl, hds⟩] at hE
          have HE := Lib.hid hE
          clear e1 hE hmem hds
          go_wp2
          refine wp_region_later (by kernel_rfl) (by kernel_rfl) ?_
          repeat (go_big_quiet_step (first | (go_at_call 53; with_reducible exact HE.out _)))
          refine wpQuiet_nil ?_
          rintro _ ⟨p', rfl⟩
          have HB2 := Lib.hid (bnext HB1.out p'.h)
          generalize p'.val = w2 at HB2 ⊢
          clear k0 k1 k2 z0 z1 z2 HE HB1
          go_wp2
          go_roundw
          case rel => exact ⟨k + 1, by omega, by go_num, HB2.out, e2⟩
          case measure => simp [intOf]; omega
        · have e2 := Lib.hid (show R = false by rw [e1.out, decide_eq_false (fun h => hds (hmem.1 h))]; rfl)
          rw [show eqP y n ds y n cs = false from decide_eq_false (fun h => hds h.2.2)] at hE
          have HE := Lib.hid hE
          clear e1 hE hmem hds
          go_wp2
          refine wp_region_later (by kernel_rfl) (by kernel_rfl) ?_
          repeat (go_big_quiet_step (first | (go_at_call 53; with_reducible exact HE.out _)))
          refine wpQuiet_nil ?_
          rintro _ ⟨p', rfl⟩
          have HB2 := Lib.hid (bnext HB1.out p'.h)
          generalize p'.val = w2 at HB2 ⊢
          clear k0 k1 k2 z0 z1 z2 HE HB1
          go_wp2
          go_ret
          rw [e2.out]
          exact ⟨rfl, HB2.out⟩
      · have hf' : fndF xs x m i = false := by simpa using hf
        have e2 := Lib.hid (show R = false by rw [e1.out, decide_eq_false (fun h => fnd_false HS.out hat hf' _ h ⟨rfl, rfl⟩)]; rfl)
        rw [hf']
        clear e1 hat hf hf'
        go_wp2
        go_quiet (fail)
        go_wp2
        go_ret
        rw [e2.out]
        exact ⟨rfl, HB1.out.trans (below_drewN _ _ _)⟩
    · have hq : ¬ ((k : Int) < (ys.length : Int)) := by omega
      have e2 := Lib.hid (show R = true by rw [he.out, List.drop_of_length_le (by omega)]; rfl)
      clear he
      go_wp2
      go_ret
      rw [e2.out]
      exact ⟨rfl, hbl⟩

end Go.Proofs.Ytacbpphhkkmelaa
