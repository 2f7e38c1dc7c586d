/-
  The program's calls graph.hasNode, leaving and its literal, slices.BinarySearchFunc over edges. Conditions: the graph reads; the edges ascend by their first node.
-/
import Derived.Test.YtkgkhofkhjgnbaaGreatGCn
import Derived.Test.YtkgkhofkhjgnbaaGreatGFwd
namespace Go.Proofs.YtkgkhofkhjgnbaaGreat
open Go.RowKit Go.Joins Go.Shelf
open JM (Chg)
open CM (Fp)
open VM (Ent)

/-- 'v[lo:hi]'. -/
theorem cut2 {α : Type} {P : Program} {t e : TypeId} {size bytes : Nat} {enc : α → List Value} (E : IsElem P t e size bytes enc) {w : World} {a : Option Addr} {n c : Nat} {xs : List α} (h : RdG enc size w (.slice a n c) xs) (lo hi : Nat) (h1 : lo ≤ hi) (h2 : hi ≤ xs.length) :
    ∃ v', (∀ w0 : World, (Instr.slice t (.slice a n c) (some (.int .i64 (lo : Int))) (some (.int .i64 (hi : Int))) none).run P w0 = .ok v' w0) ∧ RdG enc size w v' ((xs.take hi).drop lo) := by
  have hT : RdG enc size w (.slice a hi c) (xs.take hi) := by
    obtain ⟨a', c', hv, h3, h4, h5, ⟨hp, hl⟩, h6⟩ := h
    cases hv
    refine ⟨a, c, by rw [List.length_take]; congr 1; omega, by rw [List.length_take]; omega, h4, fun ha => ?_, ⟨hp, hl⟩, fun x hx j u hu => ?_⟩
    · obtain ⟨rfl, rfl⟩ := h5 ha
      simp
    · refine h6 x hx j u ?_
      rw [cellsOf_take hl xs hi h2, List.getElem?_take] at hu
      split at hu
      · exact hu
      · cases hu
  obtain ⟨v', hr, hv'⟩ := hT.cutL E lo (by rw [List.length_take]; omega)
  refine ⟨v', fun w0 => ?_, hv'⟩
  rw [← hr w0]
  obtain ⟨a', c', hv, h3, h4, h5, ⟨hp, hl⟩, h6⟩ := h
  cases hv
  have e1 : (0 : Int) ≤ (lo : Int) := by omega
  have e2 : (lo : Int) ≤ (hi : Int) := by omega
  have e3 : (hi : Int) ≤ (c : Int) := by omega
  have e4 : (0 : Int) ≤ (hi : Int) := by omega
  have hz := E.run_size
  simp [Instr.slice, run_underlying E.ht, Instr.sliceBounds, run_sliceBound, e1, e2, e3, e4, hz, Result.andThen]

set_option maxRecDepth 100000 in
set_option maxHeartbeats 1000000 in
theorem cHas (na xa : Option Addr) (nl nc xl xc : Nat) (x : Int) (w : World) :
    Calls Tryz.prog 52 #[.agg #[.slice na nl nc, .slice xa xl xc], .int .i64 x] w fun e w' => e = .returned (.bool (decide (0 ≤ x) && decide (x < (nl : Int)))) ∧ Below w.heap.size w w' := by
  have hy := heap_alloc_new w (.cells #[.slice na nl nc, .slice xa xl xc] 31)
  have b1 := below_fresh w (.cells #[.slice na nl nc, .slice xa xl xc] 31)
  obtain ⟨w0, hw0⟩ : ∃ z, w.alloc (.cells #[.slice na nl nc, .slice xa xl xc] 31) = z := ⟨_, rfl⟩
  rw [hw0] at hy b1
  have HW := Lib.hid hw0
  have HB := Lib.hid b1
  obtain ⟨⟨c0, c1⟩, _⟩ := row2F hy
  clear hw0 b1 hy c1
  go_enter Tryz.func52, Tryz.ntmps52
  by_cases h0 : 0 ≤ x
  · rw [decide_eq_true h0, Bool.true_and]
    by_cases h1 : x < (nl : Int)
    · rw [decide_eq_true h1]
      go_upto_region 1 with fail
      rw [HW.out]
      go_wp2
      go_ret
      exact ⟨rfl, HB.out⟩
    · rw [decide_eq_false h1]
      go_upto_region 1 with fail
      rw [HW.out]
      go_wp2
      go_ret
      exact ⟨rfl, HB.out⟩
  · rw [decide_eq_false h0, Bool.false_and]
    go_upto_region 1 with fail
    rw [HW.out]
    go_wp2
    go_ret
    exact ⟨rfl, HB.out⟩

set_option maxRecDepth 100000 in
set_option maxHeartbeats 1000000 in
theorem cLvLit (x n a : Int) (w : World) : Calls Tryz.prog 69 #[.agg #[.int .i64 x, .int .i64 n], .int .i64 a] w fun e w' => e = .returned (.int .i64 (VX.cmpi x a)) ∧ Below w.heap.size w w' := by
  have h := fun w => VX.wCmp x a w
  generalize VX.cmpi x a = r at h ⊢
  go_enter Tryz.func69, Tryz.ntmps69
  go_wp2_with fail
  refine (h _).mono ?_
  rintro e w1 ⟨rfl, rfl⟩
  go_wp2
  go_ret
  exact ⟨rfl, below_fresh _ _⟩

/-- The place of a node among edges. -/
def AtE (es : List GM.Ed) (a : Int) (p : Nat) : Prop := p ≤ es.length ∧ (∀ (k : Nat) e, es[k]? = some e → k < p → (e.1 : Int) < a) ∧ (∀ (k : Nat) e, es[k]? = some e → p ≤ k → a ≤ (e.1 : Int))
theorem asc_at {es : List GM.Ed} (h : es.Pairwise fun a b => a.1 ≤ b.1) {j k : Nat} {e f : GM.Ed} (hj : es[j]? = some e) (hk : es[k]? = some f) (hlt : j < k) : e.1 ≤ f.1 := by
  obtain ⟨j1, e1⟩ := List.getElem?_eq_some_iff.1 hj
  obtain ⟨k1, e2⟩ := List.getElem?_eq_some_iff.1 hk
  have := List.pairwise_iff_getElem.1 h j k j1 k1 hlt
  rw [e1, e2] at this
  exact this

set_option maxRecDepth 100000 in
set_option maxHeartbeats 4000000 in
theorem cSrchE (v : Value) (es : List GM.Ed) (a : Int) (w : World) (h : RdE2 w v es) (hv : es.Pairwise fun a b => a.1 ≤ b.1) (hl : es.length ≤ 1000000) :
    Calls Tryz.prog 71 #[v, .int .i64 a, .func (.func 69) #[] #[]] w
      fun e w' => ∃ (i : Nat) (b : Value), e = .returned (.tuple #[.int .i64 i, b]) ∧ AtE es a i ∧ Below w.heap.size w w' := by
  obtain ⟨ad, cap, rfl, hc, _⟩ := h.shape
  have H := Lib.hid h
  have HV := Lib.hid hv
  clear h hv
  go_enter Tryz.func71, Tryz.ntmps71
  go_wp2
  go_loopw [9, 10] (fun i j wr => ∃ p q : Nat, p ≤ q ∧ q ≤ es.length ∧ i = .int .i64 p ∧ j = .int .i64 q ∧ Below w.heap.size w wr ∧ Hid (∀ (k : Nat) e, es[k]? = some e → k < p → (e.1 : Int) < a) ∧ Hid (∀ (k : Nat) e, es[k]? = some e → q ≤ k → a ≤ (e.1 : Int))) (fun i j _ => (intOf j - intOf i).toNat)
  case atStart => exact ⟨0, es.length, Nat.zero_le _, Nat.le_refl _, rfl, rfl, Below.refl _ _, (by show ∀ (k : Nat) e, _; intro k e _ h; omega), (by show ∀ (k : Nat) e, _; intro k e hk h; have := (List.getElem?_eq_some_iff.1 hk).1; omega)⟩
  case round =>
    obtain ⟨p, q, hpq, hq, rfl, rfl, hbl, hlo, hhi⟩ := hrel
    by_cases hlt : p < q
    · have hq1 : (p : Int) < (q : Int) := by omega
      have hmid : (p + q) / 2 < es.length := by omega
      obtain ⟨b, o, hi, hb, hcs⟩ := (H.out.below hbl).at_ edgE ((p + q) / 2) es[(p + q) / 2] (List.getElem?_eq_getElem hmid)
      rw [show (((p + q) / 2 : Nat) : Int) = ((p : Int) + (q : Int)) / 2 by omega] at hi
      have hg := Lib.hid (List.getElem?_eq_getElem hmid)
      generalize es[(p + q) / 2] = en at hcs hg
      obtain ⟨x, n⟩ := en
      have c0 : wr.cell? ⟨b, o, none⟩ = some (.int .i64 (x : Int)) := hcs 0 _ rfl
      have c1 : wr.cell? ⟨b, o + 1, none⟩ = some (.int .i64 (n : Int)) := hcs 1 _ rfl
      have hlit := cLvLit x n a wr
      clear hcs
      by_cases hx : (x : Int) < a
      · rw [show VX.cmpi x a = -1 from if_pos hx] at hlit
        have hlo2 := Lib.hid (show ∀ (k : Nat) e, es[k]? = some e → k < (p + q) / 2 + 1 → (e.1 : Int) < a from fun k e hk hkl => by
          by_cases hkm : k = (p + q) / 2
          · subst hkm
            rw [hg.out] at hk
            cases hk
            exact hx
          · have h2 : e.1 ≤ x := asc_at HV.out hk hg.out (by omega)
            omega)
        clear hlo hg
        go_wp2_with (go_at_call 69; refine hlit.mono ?_; rintro e w1 ⟨rfl, hb1⟩)
        go_roundw
        case rel => exact ⟨(p + q) / 2 + 1, q, by omega, hq, VX.vint (by omega), rfl, hbl.trans (hb1.mono hbl.size), hlo2, hhi⟩
        case measure => simp [intOf]; omega
      · have hc : ¬ VX.cmpi x a < 0 := by unfold VX.cmpi; rw [if_neg hx]; split <;> omega
        have hhi2 := Lib.hid (show ∀ (k : Nat) e, es[k]? = some e → (p + q) / 2 ≤ k → a ≤ (e.1 : Int) from fun k e hk hkl => by
          by_cases hkm : k = (p + q) / 2
          · subst hkm
            rw [hg.out] at hk
            cases hk
            show a ≤ (x : Int); omega
          · have h2 : x ≤ e.1 := asc_at HV.out hg.out hk (by omega)
            omega)
        generalize VX.cmpi x a = r at hlit hc
        clear hhi hg
        go_wp2_with (go_at_call 69; refine hlit.mono ?_; rintro e w1 ⟨rfl, hb1⟩)
        go_roundw
        case rel => exact ⟨p, (p + q) / 2, by omega, by omega, rfl, VX.vint (by omega), hbl.trans (hb1.mono hbl.size), hlo, hhi2⟩
        case measure => simp [intOf]; omega
    · obtain rfl : p = q := by omega
      have hq1 : ¬ ((p : Int) < (p : Int)) := by omega
      have hat := Lib.hid (show AtE es a p from ⟨hq, hlo.out, hhi.out⟩)
      by_cases hpn : p < es.length
      · have hpi : (p : Int) < (es.length : Int) := by omega
        obtain ⟨b, o, hi, hb, hcs⟩ := (H.out.below hbl).at_ edgE p es[p] (List.getElem?_eq_getElem hpn)
        generalize es[p] = en at hcs
        obtain ⟨x, n⟩ := en
        have c0 : wr.cell? ⟨b, o, none⟩ = some (.int .i64 (x : Int)) := hcs 0 _ rfl
        have c1 : wr.cell? ⟨b, o + 1, none⟩ = some (.int .i64 (n : Int)) := hcs 1 _ rfl
        have hlit := cLvLit x n a wr
        clear hcs hlo hhi
        generalize VX.cmpi x a = r at hlit
        obtain ⟨R, hR⟩ : ∃ R, (r == 0) = R := ⟨_, rfl⟩
        go_wp2_with (go_at_call 69; refine hlit.mono ?_; rintro e w1 ⟨rfl, hb1⟩)
        go_ret2
        exact ⟨p, _, rfl, hat.out, hbl.trans (hb1.mono hbl.size)⟩
      · have hpi : ¬ ((p : Int) < (es.length : Int)) := by omega
        clear hlo hhi
        go_wp2
        go_ret2
        exact ⟨p, ⟨_, rfl⟩, hat.out, hbl⟩

set_option maxRecDepth 100000 in
set_option maxHeartbeats 2000000 in
theorem cLeave (na xa : Option Addr) (nl nc xl xc : Nat) (es : List GM.Ed) (n : Nat) (w : World) (h : RdE2 w (.slice xa xl xc) es) (hv : es.Pairwise fun a b => a.1 ≤ b.1) (hl : es.length ≤ 1000000) (hn : n ≤ 1000) :
    Calls Tryz.prog 53 #[.agg #[.slice na nl nc, .slice xa xl xc], .int .i64 (n : Int)] w fun e w' => ∃ v, e = .returned v ∧ RdE2 w' v (es.filter fun e => decide (e.1 = n)) ∧ Below w.heap.size w w' := by
  have hy := heap_alloc_new w (.cells #[.slice na nl nc, .slice xa xl xc] 31)
  have b1 := below_fresh w (.cells #[.slice na nl nc, .slice xa xl xc] 31)
  obtain ⟨w0, hw0⟩ : ∃ z, w.alloc (.cells #[.slice na nl nc, .slice xa xl xc] 31) = z := ⟨_, rfl⟩
  rw [hw0] at hy b1
  have HW := Lib.hid hw0
  have HB := Lib.hid b1
  obtain ⟨⟨_, c1⟩, _⟩ := row2F hy
  have HC := Lib.hid (fun wx (hb : Below w.heap.size w wx) (a : Int) => cSrchE _ es a wx (h.below hb) hv hl)
  have HR := Lib.hid h
  have HC1 := Lib.hid (fun (wx : World) (hb : Below w0.heap.size w0 wx) => below_cell hb c1)
  clear hw0 b1 hy h hv hl
  go_enter Tryz.func53, Tryz.ntmps53
  go_upto_region 2 with fail
  rw [HW.out]
  go_wp2_with fail
  refine (HC.out w0 HB.out (n : Int)).mono ?_
  rintro e w2 ⟨p, bb, rfl, hp, hq⟩
  have HP := Lib.hid hp
  have HB2 := Lib.hid hq
  have d1 := HC1.out w2 hq
  clear c1 hp hq
  go_wp2_with fail
  refine (HC.out w2 (bnext HB.out HB2.out) ((n : Int) + 1)).mono ?_
  rintro e w3 ⟨q, bb2, rfl, hp, hq⟩
  have HQ := Lib.hid hp
  have HB3 := Lib.hid (bnext HB2.out hq)
  have HB4 := Lib.hid (bnext HB.out HB3.out)
  have e1 := HC1.out w3 HB3.out
  clear d1 hp hq HC
  have hpq : p ≤ q := by
    by_cases hh : p ≤ q
    · exact hh
    · have hlt : q < es.length := by have := HP.out.1; omega
      have g := List.getElem?_eq_getElem hlt
      have a1 := HP.out.2.1 q _ g (by omega)
      have a2 := HQ.out.2.2 q _ g (by omega)
      omega
  have hcut := GM.cut_eq (es := es) (n := n) hpq HQ.out.1 (fun k e hk hkl => by have := HP.out.2.1 k e hk hkl; omega) (fun k e hk hkl => by have := HP.out.2.2 k e hk hkl; omega) (fun k e hk hkl => by have := HQ.out.2.1 k e hk hkl; omega) (fun k e hk hkl => by have := HQ.out.2.2 k e hk hkl; omega)
  obtain ⟨v', hrun, hrd⟩ := cut2 edgE (HR.out.below HB4.out) p q hpq HQ.out.1
  rw [hcut] at hrd
  have HRD := Lib.hid hrd
  clear hrd hcut hpq HP HQ
  go_wp2
  go_ret
  exact ⟨_, rfl, HRD.out, HB4.out⟩

end Go.Proofs.YtkgkhofkhjgnbaaGreat
