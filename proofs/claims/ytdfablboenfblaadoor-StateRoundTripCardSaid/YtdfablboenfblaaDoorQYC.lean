/-
  The calls of slices.Clone of a set's list, of sets.Copy: copies in memory of the call's own. Conditions: what comes in reads. (Written by mk_sets.py.)
  The call of sets.Union: the merged list, in memory of the call's own. Conditions: both sets read and are of bounded length. (Written by mk_sets.py.)
  The call of sets.Vector: the number of elements of each author. Conditions: the set reads and is of bounded length. (Written by mk_sets.py.)
-/
import Derived.Test.YtdfablboenfblaaDoorQYA
import Derived.Deep.LoopGhost
import Derived.Deep.RegionHeld3
import Derived.Test.YtdfablboenfblaaDoorQSR1
import Derived.Test.YtdfablboenfblaaDoorQSM1
namespace Go.Proofs.YtdfablboenfblaaDoor.ST
open Go.RowKit
open UM (Ef)
open SM (Fp)

set_option maxRecDepth 100000 in
set_option maxHeartbeats 1000000 in
theorem gCloneQ (v : Value) (xs : List Up) (w : World) (h : RdUp w v xs) (hl : xs.length ≤ 1073741824) :
    Calls Tryd.prog 84 #[v] w fun e w' => ∃ v', e = .returned v' ∧ OwnUp w.heap.size w' v' xs ∧ Below w.heap.size w w' := by
  have hr := h.below (below_fresh w (.cells #[] 43))
  have ho := ownG_empty hlUp 43 w
  have hb0 := below_fresh w (.cells #[] 43)
  obtain ⟨a, c, rfl, _, hcm, hcn, _⟩ := h
  have heq := fun w n c => run_eql_slice_nil (P := Tryd.prog) w 22 43 a n c Tryd.underlying22
  cases a with
  | none =>
    obtain ⟨rfl, rfl⟩ := hcn rfl
    clear hr ho hb0 hcn
    go_enter Tryd.func84, Tryd.ntmps84
    go_wp2
    go_ret
    exact ⟨_, rfl, OwnG.nil hlUp _ _ _, Below.refl _ _⟩
  | some x =>
    have hs0 := hb0.size
    clear hcn
    go_enter Tryd.func84, Tryd.ntmps84
    go_wp2_with (at_builtin; refine wp_appGS setE rfl _ _ rfl rfl ho rfl hr (by simp) hl hs0 ?_)
    intro v1 w1 ho1 hb1 _
    go_wp2
    go_ret
    exact ⟨_, rfl, by simpa using ho1, hb0.trans hb1⟩

set_option maxRecDepth 100000 in
set_option maxHeartbeats 4000000 in
theorem sCopy (v : Value) (fs : List Fp) (w : World) (h : RdF w v fs) (hl : fs.length ≤ 1073741824) (hcl : ∀ f ∈ fs, f.2.2.2.length ≤ 1073741824) :
    Calls Tryd.prog 60 #[(.agg #[.func (.func 71) #[] #[], .func (.func 72) #[] #[], .func (.func 61) #[] #[], .func (.func 73) #[] #[], .func (.func 53) #[] #[], .func (.func 74) #[] #[], .func (.func 75) #[] #[], .func (.func 76) #[] #[], .int .i64 48]), v] w fun e w' => ∃ v', e = .returned v' ∧ OwnD w.heap.size w' v' fs ∧ Below w.heap.size w w' := by
  obtain ⟨w0, HX⟩ := kone w
  have HW := Lib.hid HX.eq
  have HB0 := Lib.hid HX.below
  have HK0 := Lib.hid HX.k
  obtain ⟨qs, hq, ht⟩ := h
  have hlen := ht.len
  have HC := Lib.hid (gCloneQ v qs w0 (hq.below HX.below) (by rw [hlen]; exact hl))
  have HT := Lib.hid ht
  have HCL := Lib.hid hcl
  obtain ⟨a, c, rfl, _, _⟩ := hq.shape
  rw [hlen] at HC ⊢
  have HLEN := Lib.hid hlen
  obtain ⟨K, hK⟩ : ∃ K, w.heap.size = K := ⟨_, rfl⟩
  rw [hK] at HK0
  have HKE := Lib.hid hK
  clear hq ht hcl hlen HX hK
  go_enter Tryd.func60, Tryd.ntmps60
  go_upto_region 1 with fail
  rw [HW.out, HKE.out]
  clear HW
  go_wp2_with fail
  refine HC.out.mono ?_
  rintro e w1 ⟨v1, rfl, ho1, hb1⟩
  obtain ⟨a1, c1, rfl, hc1, _⟩ := ho1.rd.shape
  rw [HLEN.out] at ho1 ⊢
  have HO1 := Lib.hid (ho1.mono HB0.out.size)
  have HB1 := Lib.hid (bnext HB0.out hb1)
  have HK1 := Lib.hid (HK0.out.below hb1)
  clear ho1 hb1 HC HB0 HK0
  go_wp2
  go_loopw [12] (fun i wr => ∃ (k : Nat) (ns : List Up), k ≤ fs.length ∧ i = .int .i64 k ∧ Hid (ns.length = k) ∧ Hid (OwnUp w.heap.size wr (.slice a1 fs.length c1) (ns ++ qs.drop k)) ∧ Hid (TelO w.heap.size wr ns (fs.take k)) ∧ Hid (KB wr K) ∧ Hid (Below w.heap.size w wr)) (fun i _ => fs.length - (intOf i).toNat)
  case atStart => exact ⟨0, [], Nat.zero_le _, rfl, rfl, HO1.out, trivial, HK1.out, HB1.out⟩
  case round =>
    obtain ⟨k, ns, hk, rfl, hns, ho, hn, hkb, hb⟩ := hrel
    clear HO1 HB1 HK1
    by_cases hlt : k < fs.length
    · have hq : (k : Int) < (fs.length : Int) := by omega
      have hk2 := List.getElem?_eq_getElem hlt
      generalize fs[k] = f at hk2
      obtain ⟨x, m, t, cs⟩ := f
      obtain ⟨q, hq2, t1, t2, t4, t3⟩ := HT.out.get hk2
      obtain ⟨x', m', t', da, dl, dc⟩ := q
      simp only at t1 t2 t4
      subst t1 t2 t4
      have t3 : RdEf w (.slice da dl dc) cs := t3
      have hqd := Lib.hid (drop_get (List.getElem?_eq_some_iff.1 hq2).1)
      rw [(List.getElem?_eq_some_iff.1 hq2).2] at hqd
      have hkk : (ns ++ qs.drop k)[k]? = some (x', m', t', da, dl, dc) := by
        rw [hqd.out, List.getElem?_append_right (by rw [hns.out]; exact Nat.le_refl _), hns.out, Nat.sub_self]; rfl
      obtain ⟨g, o, hi, hg1, hg2, hcell, _⟩ := own_put ho.out hkk
      have c0 : wr.cell? ⟨g, o, none⟩ = some (.int .i64 x') := (hcell 0 _ rfl).1
      have c1' := (hcell 1 _ rfl).1
      have c2 := (hcell 2 _ rfl).1
      have c3 := (hcell 3 _ rfl).1
      obtain ⟨wx, HX⟩ := eone wr x' m' t' (.slice da dl dc)
      have HCC := Lib.hid (cCopied x' m' t' (.slice da dl dc) cs wx ((t3.below hb.out).below HX.below) (HCL.out _ (List.mem_of_getElem? hk2)))
      have HWX := Lib.hid HX.eq
      have HBX := Lib.hid (bnext hb.out HX.below)
      have HOX := Lib.hid (ho.out.below HX.below)
      have HNX := Lib.hid (hn.out.below HX.below)
      have HKX := Lib.hid (hkb.out.below HX.below)
      have HPX := Lib.hid HX.e
      obtain ⟨B, hB⟩ : ∃ B, wr.heap.size = B := ⟨_, rfl⟩
      rw [hB] at HPX
      have HBE := Lib.hid hB
      have HTK := Lib.hid (take_snocF hk2)
      obtain ⟨p0, p1, p2, p3, _⟩ := HPX.out.cells
      obtain ⟨_, _, _, _, _, j5, _⟩ := HKX.out.cells
      have HKK := Lib.hid hkk
      have HI := Lib.hid hi
      clear HX ho hn hb hkb hk2 hq2 t3 hkk hcell hB
      go_upto_region 5 with fail
      rw [HWX.out, HBE.out]
      go_wp2_with fail
      refine HCC.out.mono ?_
      rintro e w2 ⟨v2, rfl, ho2, hb2⟩
      obtain ⟨a2, c2', rfl, _, _⟩ := ho2.rd.shape
      obtain ⟨g', o', hi2, hg1', hg2', hcell, hput⟩ := own_put (HOX.out.below hb2) HKK.out
      cases idx_same w2 HI.out hi2
      obtain ⟨d0, f0⟩ : w2.cell? ⟨g, o, none⟩ = some (.int .i64 x') ∧ w2.frozen? ⟨g, o, none⟩ = false := hcell 0 _ rfl
      obtain ⟨d1, f1⟩ := hcell 1 _ rfl
      obtain ⟨d2, f2⟩ := hcell 2 _ rfl
      obtain ⟨d3, f3⟩ := hcell 3 _ rfl
      obtain ⟨ho3, hb3, hk3⟩ := hput x' m' t' a2 cs.length c2'
      rw [hqd.out, set_mid hns.out] at ho3
      have hkb2 := HKX.out.below hb2
      have hn2 := TelO.snoc (q := (x', m', t', a2, cs.length, c2')) (f := (x', m', t', cs)) ⟨rfl, rfl, rfl, ownG_keep (ho2.mono HBX.out.size) hk3 (by decide)⟩ ((HNX.out.below hb2).keep hk3)
      have HNS := Lib.hid (show (ns ++ [(x', m', t', a2, cs.length, c2')]).length = k + 1 by rw [List.length_append, hns.out]; rfl)
      have hkb3 := hkb2.keep hk3
      have hbb := (HBX.out.trans (hb2.mono HBX.out.size)).trans hb3
      rw [← HTK.out] at hn2
      have HO3 := Lib.hid ho3
      have HN3 := Lib.hid hn2
      have HK3 := Lib.hid hkb3
      have HB3 := Lib.hid hbb
      clear hi2 hcell hput ho3 hb3 hk3 hn2 hkb3 hbb HOX HNX HBX HKX HPX HWX HCC p0 p1 p2 p3 j5 c0 c1' c2 c3 ho2 hb2 HI HTK HKK hns hqd hkb2
      go_wp2
      go_roundw
      case rel => exact ⟨k + 1, _, by omega, by go_num, HNS, HO3, HN3, HK3, HB3⟩
      case measure => simp [intOf]; omega
    · have hq : ¬ ((k : Int) < (fs.length : Int)) := by omega
      obtain rfl : k = fs.length := by omega
      have hfin : OwnD w.heap.size wr (.slice a1 fs.length c1) fs := by
        have h1 := ho.out
        have h2 := hn.out
        rw [List.drop_of_length_le (by rw [HLEN.out]; exact Nat.le_refl _), List.append_nil] at h1
        rw [List.take_length] at h2
        exact ⟨ns, h1, h2⟩
      have HF := Lib.hid hfin
      clear ho hn hfin
      go_wp2
      go_ret
      exact ⟨_, rfl, HF.out, hb.out⟩

end Go.Proofs.YtdfablboenfblaaDoor.ST

namespace Go.Proofs.YtdfablboenfblaaDoor.ST
open Go.RowKit
open UM (Ef)
open SM (Fp)

set_option maxRecDepth 100000 in
set_option maxHeartbeats 4000000 in
theorem sUnion (va vb : Value) (xs ys : List Fp) (w : World) (ha : RdF w va xs) (hb : RdF w vb ys) (hlx : xs.length ≤ 1000) (hly : ys.length ≤ 1000) (hcx : ∀ f ∈ xs, f.2.2.2.length ≤ 1073741824) (hcy : ∀ f ∈ ys, f.2.2.2.length ≤ 1073741824) :
    Calls Tryd.prog 55 #[(.agg #[.func (.func 71) #[] #[], .func (.func 72) #[] #[], .func (.func 61) #[] #[], .func (.func 73) #[] #[], .func (.func 53) #[] #[], .func (.func 74) #[] #[], .func (.func 75) #[] #[], .func (.func 76) #[] #[], .int .i64 48]), va, vb] w fun e w' => ∃ v', e = .returned v' ∧ OwnD w.heap.size w' v' (SM.un xs ys) ∧ Below w.heap.size w w' := by
  obtain ⟨aa, ac, rfl, hac, _⟩ := ha.shape
  obtain ⟨ba, bc, rfl, hbc, _⟩ := hb.shape
  obtain ⟨R, hR⟩ : ∃ R, R = SM.un xs ys := ⟨_, rfl⟩
  rw [← hR]
  have HCR := Lib.hid (show ∀ f ∈ R, f.2.2.2.length ≤ 1073741824 from fun f hf => by rw [hR] at hf; exact (SM.un_mem hf).elim (hcx f) (hcy f))
  have HLR := Lib.hid (show R.length ≤ 1073741824 by rw [hR]; have := SM.un_len xs ys; omega)
  have HA := Lib.hid ha
  have HB := Lib.hid hb
  have HR := Lib.hid hR
  have HLX := Lib.hid hlx
  have HLY := Lib.hid hly
  clear ha hb hR hcx hcy hlx hly
  obtain ⟨w0, HX⟩ := kone w
  have HW := Lib.hid HX.eq
  have HB0 := Lib.hid HX.below
  have HK0 := Lib.hid HX.k
  obtain ⟨Kb, hK⟩ : ∃ Kb, w.heap.size = Kb := ⟨_, rfl⟩
  rw [hK] at HK0
  have HKE := Lib.hid hK
  clear HX hK
  go_enter Tryd.func55, Tryd.ntmps55
  go_upto_region 1 with fail
  rw [HW.out, HKE.out]
  clear HW
  go_wp2
  go_step3
  go_wp2
  go_step3
  go_wp2
  go_loopg [1, 7, 13] ys.length (fun g a u i wr => ∃ (k : Nat) (A U : List Fp), k + g = ys.length ∧ i = .int .i64 k ∧ Hid (RdF w a A) ∧ Hid (OwnF w w.heap.size wr u U) ∧ Hid (R = U ++ SM.un A (ys.drop k)) ∧ Hid (A.length + U.length ≤ 1000 + k) ∧ Hid (Below w.heap.size w wr) ∧ Hid (KB wr Kb))
  case atStart => exact ⟨0, xs, [], by omega, rfl, HA.out, OwnF.nil _ _ _, HR.out, (by show xs.length + 0 ≤ 1000 + 0; have := HLX.out; omega), HB0.out, HK0.out⟩
  case round =>
    obtain ⟨k, A, U, hk, rfl, hA, hU, he, hal, hbl, hkb⟩ := hrel
    clear HR HB0 HK0
    obtain ⟨a1, a2, rfl, _, _⟩ := hA.out.shape
    obtain ⟨u1, u2, rfl, _, _⟩ := hU.out.shape
    cases gk with
    | succ g =>
      have hlt : k < ys.length := by omega
      have hq : (k : Int) < (ys.length : Int) := by omega
      have hd := drop_get hlt
      have hk2 := List.getElem?_eq_getElem hlt
      generalize ys[k] = p at hd hk2
      rw [hd] at he
      obtain ⟨x, m, t, cs⟩ := p
      obtain ⟨b, o, da, dl, dc, hi, hbw, c0, c1, c2, c3, hrd⟩ := HB.out.atS k x m t cs hk2
      have HT1 := Lib.hid (show Tell1 w (x, m, t, da, dl, dc) (x, m, t, cs) from ⟨rfl, rfl, rfl, hrd⟩)
      have c0 := below_cell hbl.out c0
      have c1 := below_cell hbl.out c1
      have c2 := below_cell hbl.out c2
      have c3 := below_cell hbl.out c3
      have hbw : b < wr.heap.size := Nat.lt_of_lt_of_le hbw hbl.out.size
      have hbx := below_fresh wr (.cells #[.int .i64 x, .int .i64 m, .int .i64 t, .slice da dl dc] 43)
      have hlx : wr.heap.size < (wr.alloc (.cells #[.int .i64 x, .int .i64 m, .int .i64 t, .slice da dl dc] 43)).heap.size := by rw [World.size_alloc]; exact Nat.lt_succ_self _
      obtain ⟨wx, hwx⟩ : ∃ wx, wr.alloc (.cells #[.int .i64 x, .int .i64 m, .int .i64 t, .slice da dl dc] 43) = wx := ⟨_, rfl⟩
      rw [hwx] at hbx hlx
      have HWX := Lib.hid hwx
      have HUX := Lib.hid (hU.out.below hbx)
      have HBX := Lib.hid (bnext hbl.out hbx)
      have HKX := Lib.hid (hkb.out.below hbx)
      have hopx : OU wx wr.heap.size x m t (.slice da dl dc) := by rw [← hwx]; exact OU.fresh wr x m t _
      have hub : (Value.slice u1 U.length u2).ownBlock ≠ some wr.heap.size := by
        obtain ⟨uq, hu1, _⟩ := hU.out
        intro h
        exact Nat.lt_irrefl _ (World.ownsRow.lt hu1.1 _ h).2
      have HD := Lib.hid hd
      clear hbx hwx hU hbl hkb hd hk2 hrd hlx
      go_wp2
      rw [HWX.out]
      clear c0 c1 c2 c3 hi HWX hbw
      obtain ⟨B, hB⟩ : ∃ B, B = wr.heap.size := ⟨_, rfl⟩
      rw [← hB] at hopx hub ⊢
      clear hB
      have HOPX := Lib.hid hopx
      have HUB := Lib.hid hub
      clear hopx hub
      go_loopg [1, 7] A.length (fun g2 a u wy => ∃ (A U : List Fp), A.length = g2 ∧ Hid (RdF w a A) ∧ Hid (OwnF w w.heap.size wy u U) ∧ Hid (R = U ++ SM.un A ((x, m, t, cs) :: ys.drop (k + 1))) ∧ Hid (A.length + U.length ≤ 1000 + k) ∧ Hid (Below w.heap.size w wy) ∧ Hid (u.ownBlock ≠ some B) ∧ Hid (OU wy B x m t (.slice da dl dc)) ∧ Hid (KB wy Kb))
      case atStart => exact ⟨A, U, rfl, hA.out, HUX.out, he.out, hal.out, HBX.out, HUB.out, HOPX.out, HKX.out⟩
      case round =>
        clear hA he hal HUX HBX HOPX HUB HKX
        obtain ⟨A, U, hg2, hA, hU, he, hal, HBW, hub, hop, hkb⟩ := hrel
        obtain ⟨a1, a2, rfl, _, _⟩ := hA.out.shape
        obtain ⟨u1, u2, rfl, _, _⟩ := hU.out.shape
        have hlB : B < wr.heap.size := hop.out.lt
        cases gk with
        | zero =>
          obtain rfl : A = [] := List.eq_nil_of_length_eq_zero hg2
          have hz : ¬ ((0 : Int) < (([] : List Fp).length : Int)) := by simp
          obtain ⟨uq, hu1, hu2⟩ := hU.out
          have hlu : uq.length ≤ 1073741824 := by have := hu2.len; have := HLY.out; have := hal.out; simp only [List.length_nil] at this; omega
          have HTU := Lib.hid hu2
          have HE := Lib.hid (show R = (U ++ [(x, m, t, cs)]) ++ SM.un [] (ys.drop (k + 1)) by rw [he.out, SM.nil_un, SM.nil_un, List.append_assoc]; rfl)
          have HAL := Lib.hid (show ([] : List Fp).length + (U ++ [(x, m, t, cs)]).length ≤ 1000 + (k + 1) by have := hal.out; simp only [List.length_append, List.length_cons, List.length_nil] at *; omega)
          have hsz := HBW.out.size
          obtain ⟨p0, p1, p2, p3, _⟩ := hop.out.cells
          clear he hal hu2 hU
          go_wp2_with (at_builtin; refine wp_appG1' setE (x, m, t, da, dl, dc) _ rfl rfl _ _ rfl rfl hu1 rfl hlu hsz ?_)
          intro v3 w3 ho3 hb3 hk3
          have HO3 := Lib.hid (OwnF.snoc ho3 HTU.out HT1.out)
          have HB3 := Lib.hid (HBW.out.trans hb3)
          have HK3 := Lib.hid (hkb.out.keep hk3)
          clear ho3 hb3 hk3 hu1 HTU p0 p1 p2 p3 HBW hkb hop
          go_wp2
          go_roundg g
          case measure => omega
          case rel => exact ⟨k + 1, [], _, by omega, by go_num, hA, HO3, HE, HAL, HB3, HK3⟩
        | succ g2 =>
          obtain ⟨⟨y, n, u, ds⟩, A', rfl⟩ : ∃ f A', A = f :: A' := by cases A with | nil => simp at hg2 | cons f A' => exact ⟨_, _, rfl⟩
          have hz : (0 : Int) < ((((y, n, u, ds) :: A' : List Fp).length : Nat) : Int) := by simp
          obtain ⟨b, o, ea, el, ec, hi, hbw, c0, c1, c2, c3, hrd⟩ := hA.out.atS 0 y n u ds rfl
          have HT2 := Lib.hid (show Tell1 w (y, n, u, ea, el, ec) (y, n, u, ds) from ⟨rfl, rfl, rfl, hrd⟩)
          have c0 := below_cell HBW.out c0
          have c1 := below_cell HBW.out c1
          have c2 := below_cell HBW.out c2
          have c3 := below_cell HBW.out c3
          obtain ⟨av, hcut, hA'⟩ := hA.out.cutLS 1 (by simp)
          have HA2 := Lib.hid (show RdF w av A' from hA')
          obtain ⟨N, hN⟩ : ∃ N, N = ((y, n, u, ds) :: A' : List Fp).length := ⟨_, rfl⟩
          have hi0 : ∀ w0 : World, (Instr.indexAt 22 (.slice a1 N a2) (.int .i64 0)).run Tryd.prog w0 = .ok (.pointer (some ⟨b, o, none⟩)) w0 := by rw [hN]; exact hi
          have hcut : ∀ w0 : World, (Instr.slice 22 (.slice a1 N a2) (some (.int .i64 1)) none none).run Tryd.prog w0 = .ok av w0 := by rw [hN]; exact hcut
          rw [← hN] at hz hal ⊢
          have HN := Lib.hid hN
          have hC := fun p : Later wr => Calls.later (pCmp y n u ea el ec x m t da dl dc p.val)
          have hun := Lib.hid (SM.un_cons (y, n, u, ds) A' (x, m, t, cs) (ys.drop (k + 1)))
          have hun2 : Hid (R = U ++ if UM.cmpU y n x m < 0 then (y, n, u, ds) :: SM.un A' ((x, m, t, cs) :: ys.drop (k + 1)) else if UM.cmpU y n x m = 0 then (y, n, u, ds) :: SM.un A' (ys.drop (k + 1)) else (x, m, t, cs) :: SM.un ((y, n, u, ds) :: A') (ys.drop (k + 1))) := by
            show R = _; rw [he.out, hun.out]
          have k0 : ∀ p : Later wr, p.val.cell? ⟨b, o, none⟩ = some (.int .i64 y) := fun p => below_cell p.h c0
          have k1 : ∀ p : Later wr, p.val.cell? ⟨b, o + 1, none⟩ = some (.int .i64 n) := fun p => below_cell p.h c1
          have k2 : ∀ p : Later wr, p.val.cell? ⟨b, o + 2, none⟩ = some (.int .i64 u) := fun p => below_cell p.h c2
          have k3 : ∀ p : Later wr, p.val.cell? ⟨b, o + 3, none⟩ = some (.slice ea el ec) := fun p => below_cell p.h c3
          obtain ⟨z0, z1, z2, z3⟩ := lat_e hop.out
          obtain ⟨_, _, _, l3, _⟩ := hkb.out.later
          generalize UM.cmpU y n x m = C at hC hun2
          have HC := Lib.hid hC
          have HUU := Lib.hid hU.out
          have HAA := Lib.hid hA.out
          clear hN hi hC hun he hrd hU hA hA'
          go_wp2
          refine wp_region_later (by kernel_rfl) (by kernel_rfl) ?_
          repeat (go_big_quiet_step (first | (go_at_call 73; with_reducible exact HC.out _)))
          refine wpQuiet_nil ?_
          rintro _ ⟨p', rfl⟩
          have d0 := below_cell p'.h c0
          have d1 := below_cell p'.h c1
          have d2 := below_cell p'.h c2
          have d3 := below_cell p'.h c3
          have hU2 := HUU.out.below p'.h
          have HB2 := Lib.hid (bnext HBW.out p'.h)
          have hOP2 := hop.out.below p'.h
          have hKB2 := hkb.out.below p'.h
          have hbs : b < p'.val.heap.size := Nat.lt_of_lt_of_le (Nat.lt_of_lt_of_le hbw HBW.out.size) p'.h.size
          have hBs : B < p'.val.heap.size := Nat.lt_of_lt_of_le hlB p'.h.size
          have HOP2 := Lib.hid hOP2
          clear k0 k1 k2 k3 z0 z1 z2 z3 l3 c0 c1 c2 c3 HC HUU HBW hOP2 hop hkb
          obtain ⟨w2, hw2⟩ : ∃ w2, w2 = p'.val := ⟨_, rfl⟩
          rw [← hw2] at d0 d1 d2 d3 hU2 HB2 HOP2 hKB2 hbs hBs ⊢
          clear hw2
          obtain ⟨uq, hu1, hu2⟩ := hU2
          have hlu : uq.length ≤ 1073741824 := by have := hu2.len; have := hal.out; have := HLY.out; omega
          have HTU := Lib.hid hu2
          have hsz := HB2.out.size
          have HKB2 := Lib.hid hKB2
          clear hu2 hKB2
          by_cases hC1 : 0 < C
          · have HE := Lib.hid (show R = (U ++ [(x, m, t, cs)]) ++ SM.un ((y, n, u, ds) :: A') (ys.drop (k + 1)) by rw [hun2.out, if_neg (by omega), if_neg (by omega), List.append_assoc]; rfl)
            have HAL := Lib.hid (show ((y, n, u, ds) :: A' : List Fp).length + (U ++ [(x, m, t, cs)]).length ≤ 1000 + (k + 1) by have := hal.out; rw [HN.out] at this; rw [List.length_append]; simp only [List.length_cons, List.length_nil] at *; omega)
            obtain ⟨p0, p1, p2, p3, _⟩ := HOP2.out.cells
            clear hun2 hal d0 d1 d2 d3 hi0 hcut
            go_wp2_with (at_builtin; refine wp_appG1' setE (x, m, t, da, dl, dc) _ rfl rfl _ _ rfl rfl hu1 rfl hlu hsz ?_)
            intro v3 w3 ho3 hb3 hk3
            have HO3 := Lib.hid (OwnF.snoc ho3 HTU.out HT1.out)
            have HB3 := Lib.hid (HB2.out.trans hb3)
            have HAN := Lib.hid (show RdF w (.slice a1 N a2) ((y, n, u, ds) :: A') by rw [HN.out]; exact HAA.out)
            have HK3 := Lib.hid (HKB2.out.keep hk3)
            clear ho3 hb3 hk3 hu1 HTU p0 p1 p2 p3 HB2 HOP2 HKB2
            go_wp2
            go_roundg g
            case measure => omega
            case rel => exact ⟨k + 1, _, _, by omega, by go_num, HAN, HO3, HE, HAL, HB3, HK3⟩
          · by_cases hC0 : C = 0
            · have HE := Lib.hid (show R = (U ++ [(y, n, u, ds)]) ++ SM.un A' (ys.drop (k + 1)) by rw [hun2.out, if_neg (by omega), if_pos hC0, List.append_assoc]; rfl)
              have HAL := Lib.hid (show A'.length + (U ++ [(y, n, u, ds)]).length ≤ 1000 + (k + 1) by have := hal.out; rw [HN.out] at this; rw [List.length_append]; simp only [List.length_cons, List.length_nil] at *; omega)
              have hCt : (C == 0) = true := beq_t hC0
              clear hun2 hal hC0
              go_wp2_with (at_builtin; refine wp_appG1' setE (y, n, u, ea, el, ec) _ rfl rfl _ _ rfl rfl hu1 rfl hlu hsz ?_)
              intro v3 w3 ho3 hb3 hk3
              have HO3 := Lib.hid (OwnF.snoc ho3 HTU.out HT2.out)
              have HB3 := Lib.hid (HB2.out.trans hb3)
              have HK3 := Lib.hid (HKB2.out.keep hk3)
              clear ho3 hb3 hk3 hu1 HTU d0 d1 d2 d3 HB2 HOP2 HKB2
              go_wp2
              go_roundg g
              case measure => omega
              case rel => exact ⟨k + 1, _, _, by omega, by go_num, HA2, HO3, HE, HAL, HB3, HK3⟩
            · have HE := Lib.hid (show R = (U ++ [(y, n, u, ds)]) ++ SM.un A' ((x, m, t, cs) :: ys.drop (k + 1)) by rw [hun2.out, if_pos (by omega), List.append_assoc]; rfl)
              have HAL := Lib.hid (show A'.length + (U ++ [(y, n, u, ds)]).length ≤ 1000 + k by have := hal.out; rw [HN.out] at this; rw [List.length_append]; simp only [List.length_cons, List.length_nil] at *; omega)
              have hCt : (C == 0) = false := beq_f hC0
              clear hun2 hal hC0
              go_wp2_with (at_builtin; refine wp_appG1C setE (y, n, u, ea, el, ec) B hBs hub.out rfl _ _ rfl rfl hu1 rfl hlu hsz ?_)
              intro v3 w3 ho3 hb3 hk3 hB3 hub3 _
              have HO3 := Lib.hid (OwnF.snoc ho3 HTU.out HT2.out)
              have HB3 := Lib.hid (HB2.out.trans hb3)
              have HOP3 := Lib.hid (show OU w3 B x m t (.slice da dl dc) from hB3.out.trans ((Array.getElem?_eq_getElem hBs).symm.trans HOP2.out))
              have HUB3 := Lib.hid hub3
              have HK3 := Lib.hid (HKB2.out.keep hk3)
              clear ho3 hk3 hu1 HTU d0 d1 d2 d3 HB2 HOP2 hB3 hub3 HKB2
              go_wp2
              go_roundg g2
              case measure => omega
              case rel => exact ⟨A', _, by simpa using hg2, HA2, HO3, HE, HAL, HB3, HUB3, HOP3, HK3⟩
    | zero =>
      have hk' : k = ys.length := by omega
      have hq : ¬ ((k : Int) < (ys.length : Int)) := by omega
      have hfin := he.out
      rw [List.drop_of_length_le (by omega), SM.un_nil] at hfin
      obtain ⟨aq, ha1, ha2⟩ := hA.out
      obtain ⟨uq, hu1, hu2⟩ := hU.out
      have hlu := hu2.len
      have hla := ha2.len
      have hl2 := hal.out
      have hly := HLY.out
      have hs1 := hbl.out.size
      have hra := ha1.below hbl.out
      have HFIN := Lib.hid hfin
      have HTT := Lib.hid (Tel.app hu2 ha2)
      have hlu2 : uq.length ≤ 1073741824 := by omega
      have hla2 : aq.length ≤ 1073741824 := by omega
      have HHB := Lib.hid hbl.out
      clear he hfin hA hU hal hu2 ha2 hl2 hlu hla hbl ha1 hk'
      obtain ⟨j0, j1, j2, j3, j4, j5, j6, j7, j8⟩ := hkb.out.cells
      have hd1 : OwnUp w.heap.size wr.drew (.slice u1 U.length u2) uq := hu1
      have hd2 : RdUp wr.drew (.slice a1 A.length a2) aq := hra
      have hd3 : Below w.heap.size w wr.drew := HHB.out.drew
      have HE1 := Lib.hid hd1
      have HE2 := Lib.hid hd2
      have HE3 := Lib.hid hd3
      clear hu1 hra HHB hd1 hd2 hd3 j0 j1 j2 j3 j4 j5 j6 j7 j8 hs1
      go_wp2
      refine wp_region_held_drew (S := fun w' => KB w' Kb) (by kernel_rfl) ((show KB wr.drew Kb from hkb.out)) (fun ha => ?_)
      replace ha := (show KB wr.drew Kb from hkb.out)
      generalize wr.drew = wa at ha HE1 HE2 HE3 ⊢
      refine takeH (i := 1) (v := ?_) rfl (by kernel_rfl) (by kernel_rfl) (by kernel_rfl) (fun _ _ _ h => h) (Or.inl ⟨by rfl, ?_⟩) (by assumption) ?_
      rotate_left
      · (intro w hSw; (try dsimp only at hSw); go_simp; first | done | with_reducible rfl)
      (try simp only [Act.put, List.setIfInBounds_toArray, List.set_cons_zero, List.set_cons_succ])
      refine takeH (i := 2) (v := ?_) rfl (by kernel_rfl) (by kernel_rfl) (by kernel_rfl) (fun _ _ _ h => h) (Or.inl ⟨by rfl, ?_⟩) (by assumption) ?_
      rotate_left
      · (intro w hSw; (try dsimp only at hSw); go_simp; first | done | with_reducible rfl)
      (try simp only [Act.put, List.setIfInBounds_toArray, List.set_cons_zero, List.set_cons_succ])
      refine takeH (i := 0) (v := ?_) rfl (by kernel_rfl) (by kernel_rfl) (by kernel_rfl) (fun _ _ _ h => h) (Or.inl ⟨by rfl, ?_⟩) (by assumption) ?_
      rotate_left
      · (intro w hSw; (try dsimp only at hSw); obtain ⟨q0, q1, q2, q3, q4, q5, q6, q7, q8⟩ := KB.cells hSw; go_simp; first | done | with_reducible rfl)
      (try simp only [Act.put, List.setIfInBounds_toArray, List.set_cons_zero, List.set_cons_succ])
      refine wpAnyH_ready (rs := [3]) (by kernel_rfl) (by simp) ?_
      refine stepH rfl (fun K hK => ?_) AllReadyH.nil
      refine step_appGK (base := w.heap.size) setE (by rfl) _ _ rfl (by rfl) HE1.out (by rfl) HE2.out hlu2 hla2 HE3.out.size ?_
      intro v2 w2 ho2 hb2 hkx
      have hk2 : KB w2 Kb := KB.keep ha hkx
      have hB2 := HE3.out.trans hb2
      have hrf : RdF w2 v2 R := by rw [HFIN.out]; exact ⟨_, ho2.rd, HTT.out.below hB2⟩
      have HCO := Lib.hid (sCopy v2 R w2 hrf HLR.out HCR.out)
      have HB2 := Lib.hid hB2
      clear ho2 hb2 hkx hB2 hrf
      refine hK.out _ _ (hk2) (fun _ => ?_)
      clear hK K
      (try simp only [Act.put, List.setIfInBounds_toArray, List.set_cons_zero, List.set_cons_succ])
      refine wpAnyH_ready (rs := [4]) (by kernel_rfl) (by simp) ?_
      refine stepH rfl (fun K hK => ?_) AllReadyH.nil
      go_simp
      refine HCO.out.mono ?_
      rintro e w3 ⟨v3, rfl, hr3, hb3⟩
      have hk3 : KB w3 Kb := KB.below hk2 hb3
      go_wp2_with fail
      refine hK.out _ _ (hk3) (fun _ => ?_)
      clear hK K
      (try simp only [Act.put, List.setIfInBounds_toArray, List.set_cons_zero, List.set_cons_succ])
      refine takeH (i := 5) (v := ?_) rfl (by kernel_rfl) (by kernel_rfl) (by kernel_rfl) (fun _ _ _ h => h) (Or.inl ⟨by rfl, ?_⟩) (by assumption) ?_
      rotate_left
      · (intro w hSw; (try dsimp only at hSw); go_simp; first | done | with_reducible rfl)
      (try simp only [Act.put, List.setIfInBounds_toArray, List.set_cons_zero, List.set_cons_succ])
      refine wpAnyH_done (by kernel_rfl) ?_ _
      have HR3 := Lib.hid hr3
      clear hr3 HCO
      go_wp2
      (try rw [Exit.noGoto_ret])
      go_ret
      exact ⟨_, rfl, OwnD.mono HR3.out HB2.out.size, bnext HB2.out hb3⟩

end Go.Proofs.YtdfablboenfblaaDoor.ST

namespace Go.Proofs.YtdfablboenfblaaDoor.ST
open Go.RowKit
open UM (Ef)
open SM (Fp)
open VM (Ent)

theorem KB.keepE {w w' : World} {K : Nat} (h : KB w K) (hk : KeepsX 75 w w') : KB w' K := hk.at h (by decide)

set_option maxRecDepth 100000 in
set_option maxHeartbeats 4000000 in
theorem sVector (v : Value) (fs : List Fp) (w : World) (h : RdF w v fs) (hl : fs.length ≤ 1000) :
    Calls Tryd.prog 47 #[(.agg #[.func (.func 71) #[] #[], .func (.func 72) #[] #[], .func (.func 61) #[] #[], .func (.func 73) #[] #[], .func (.func 53) #[] #[], .func (.func 74) #[] #[], .func (.func 75) #[] #[], .func (.func 76) #[] #[], .int .i64 48]), v] w fun e w' => ∃ v', e = .returned v' ∧ OwnE w.heap.size w' v' (SM.vo fs) ∧ Below w.heap.size w w' := by
  obtain ⟨ad, cp, rfl, hc, _⟩ := h.shape
  have H := Lib.hid h
  have HL := Lib.hid hl
  clear h hl
  obtain ⟨w0, HX⟩ := kone w
  have HW := Lib.hid HX.eq
  have HB0 := Lib.hid HX.below
  have HK0 := Lib.hid HX.k
  obtain ⟨K, hK⟩ : ∃ K, w.heap.size = K := ⟨_, rfl⟩
  rw [hK] at HK0
  have HKE := Lib.hid hK
  clear HX hK
  go_enter Tryd.func47, Tryd.ntmps47
  go_upto_region 1 with fail
  rw [HW.out, HKE.out]
  clear HW
  go_wp2
  go_loopw [5, 11] (fun u i wr => ∃ k : Nat, k ≤ fs.length ∧ i = .int .i64 k ∧ Hid (OwnE w.heap.size wr u (SM.vo (fs.take k))) ∧ Hid (KB wr K) ∧ Hid (Below w.heap.size w wr)) (fun _ i _ => fs.length - (intOf i).toNat)
  case atStart => exact ⟨0, Nat.zero_le _, rfl, OwnG.nil hlE _ _ _, HK0.out, HB0.out⟩
  case round =>
    obtain ⟨k, hk, rfl, ho, hkb, hbl⟩ := hrel
    clear HB0 HK0
    by_cases hlt : k < fs.length
    · have hq : (k : Int) < (fs.length : Int) := by omega
      have hk2 := List.getElem?_eq_getElem hlt
      generalize fs[k] = f at hk2
      have hsm := SM.vo_small (fs.take k)
      have hvl := SM.vo_len (fs.take k)
      rw [List.length_take] at hsm hvl
      have hnext := SM.vo_snoc (fs.take k) f
      rw [← take_snocF hk2] at hnext
      obtain ⟨x, m, t, cs⟩ := f
      obtain ⟨b, o, da, dl, dc, hi, hbw, c0, c1, c2, c3, _⟩ := (H.out.below hbl.out).atS k x m t cs hk2
      obtain ⟨wx, HX⟩ := eone wr x m t (.slice da dl dc)
      have HWX := Lib.hid HX.eq
      have HBX := Lib.hid (bnext hbl.out HX.below)
      have HKX := Lib.hid (hkb.out.below HX.below)
      have HPX := Lib.hid HX.e
      have hox := ho.out.below HX.below
      have HAU := Lib.hid (cAuth x m t da dl dc wx)
      obtain ⟨B, hB⟩ : ∃ B, wr.heap.size = B := ⟨_, rfl⟩
      rw [hB] at HPX
      have HBE := Lib.hid hB
      generalize SM.vo (fs.take k) = V at hsm hvl hnext hox
      have HOX := Lib.hid hox
      have HSM := Lib.hid hsm
      have HNX := Lib.hid hnext
      clear HX hB hk2 hbl hkb ho hsm hnext hox
      obtain ⟨p0, p1, p2, p3, _⟩ := HPX.out.cells
      obtain ⟨j0, _⟩ := HKX.out.cells
      obtain ⟨u1, u2, rfl, hu2, hu3⟩ := HOX.out.rd.shape
      go_upto_region 5 with fail
      rw [HWX.out, HBE.out]
      clear c0 c1 c2 c3 hi hbw HWX
      go_wp2_with fail
      refine HAU.out.mono ?_
      rintro e wy ⟨rfl, hby⟩
      have hox := HOX.out.below hby
      have HBY := Lib.hid (bnext HBX.out hby)
      have HKY := Lib.hid (HKX.out.below hby)
      clear HOX HBX HKX HPX HAU hby p0 p1 p2 p3 j0
      have hvl : V.length ≤ 1000 := by have := HL.out; omega
      by_cases h0 : V.length = 0
      · have hNX2 : Hid (SM.vo (fs.take (k + 1)) = V ++ [(x, 1)]) := by
          show _ = _
          rw [HNX.out]; unfold SM.vput; rw [if_neg (fun h => h.1 h0)]
        have hz : ((V.length : Int) == 0) = true := beq_t (by omega)
        clear HNX HSM h0
        have ho5 := hox
        have HB5 := HBY
        have HK5 := HKY
        clear HBY HKY hox
        have hs5 := HB5.out.size
        have hvq : V.length ≤ 1073741824 := by omega
        go_wp2_with (at_builtin; refine wp_appG1' entE (x, 0) _ rfl rfl _ _ rfl rfl ho5 rfl hvq hs5 ?_)
        intro v6 w6 ho6 hb6 hk6
        have HK6 := Lib.hid (HK5.out.keepE hk6)
        have HB6 := Lib.hid (HB5.out.trans hb6)
        clear ho5 HB5 HK5 hb6 hk6 hs5
        obtain ⟨a6, c6, rfl, hc6, _⟩ := ho6.rd.shape
        have hlast : (V ++ [(x, (0 : Int))])[V.length]? = some (x, 0) := by simp
        obtain ⟨g, oe, aa, cc, hv, hi3, _, hg3, hcell, hput⟩ := ho6.at_put entE hlast
        cases hv
        obtain ⟨LN, hLN⟩ : ∃ LN, LN = (V ++ [(x, (0 : Int))]).length := ⟨_, rfl⟩
        have hLN2 : LN = V.length + 1 := by rw [hLN, List.length_append]; rfl
        rw [← hLN] at hi3 hput ⊢
        rw [show ((V.length : Nat) : Int) = (LN : Int) - 1 by omega] at hi3
        obtain ⟨d1, f1⟩ := hcell 1 _ rfl
        obtain ⟨hp1, hp2, hp3⟩ := hput 1 (x, 0 + 1) (.int .i64 1) (by decide) rfl
        have hset : (V ++ [(x, (0 : Int))]).set V.length (x, 0 + 1) = V ++ [(x, 1)] := by rw [List.set_append_right _ _ (Nat.le_refl _), Nat.sub_self]; rfl
        rw [hset] at hp1
        have HP1 := Lib.hid hp1
        have HP2 := Lib.hid (HB6.out.trans hp2)
        have HP3 := Lib.hid (HK6.out.keepE hp3)
        have hLN3 : 0 < (LN : Int) := by omega
        have hLN4 : (LN : Int) ≤ 2000 := by omega
        clear hcell hput hp1 hp2 hp3 hset hlast hLN hLN2 ho6 hvl hu2 hu3
        go_wp2
        go_roundw
        case rel => exact ⟨k + 1, by omega, by go_num, by rw [hNX2.out]; exact HP1, HP3, HP2⟩
        case measure => simp [intOf]; omega
      · by_cases hA : (V.getD (V.length - 1) (0, 0)).1 = x
        · have hlast : V[V.length - 1]? = some (V.getD (V.length - 1) (0, 0)) := by rw [List.getD, List.getElem?_eq_getElem (show V.length - 1 < V.length by omega)]; rfl
          have hmem := List.mem_of_getElem? hlast
          have hNX2 : Hid (SM.vo (fs.take (k + 1)) = V.set (V.length - 1) (x, (V.getD (V.length - 1) (0, 0)).2 + 1)) := by
            show _ = _
            rw [HNX.out]; unfold SM.vput; rw [if_pos ⟨h0, hA⟩]
          obtain ⟨s1, s2⟩ := HSM.out _ hmem
          generalize V.getD (V.length - 1) (0, 0) = e at hlast hA hNX2 s1 s2
          obtain ⟨y, n⟩ := e
          simp only at hA hNX2 s1 s2
          subst hA
          have hn : n ≤ 1000 := by have := HL.out; omega
          obtain ⟨g, oe, aa, cc, hv, hi2, hg1, hg2, hcell, hput⟩ := hox.at_put entE hlast
          cases hv
          rw [show ((V.length - 1 : Nat) : Int) = (V.length : Int) - 1 by omega] at hi2
          have d0 : wy.cell? ⟨g, oe, none⟩ = some (.int .i64 y) := (hcell 0 _ rfl).1
          have hz : ((V.length : Int) == 0) = false := beq_f (by omega)
          have hyy : (y != y) = false := bne_f rfl
          have hw1 : 0 < (V.length : Int) := by omega
          clear HNX HSM s2 hput hcell
          have ho5 := hox
          have HB5 := HBY
          have HK5 := HKY
          clear HBY HKY hox
          obtain ⟨g', oe', aa, cc, hv, hi3, _, hg3, hcell, hput⟩ := ho5.at_put entE hlast
          cases hv
          rw [show ((V.length - 1 : Nat) : Int) = (V.length : Int) - 1 by omega] at hi3
          cases idx_same wy hi2 hi3
          obtain ⟨d1, f1⟩ := hcell 1 _ rfl
          obtain ⟨hp1, hp2, hp3⟩ := hput 1 (y, n + 1) (.int .i64 (n + 1)) (by decide) rfl
          have HP1 := Lib.hid hp1
          have HP2 := Lib.hid (HB5.out.trans hp2)
          have HP3 := Lib.hid (HK5.out.keepE hp3)
          have HLS := Lib.hid (show (V.set (V.length - 1) (y, n + 1)).length = V.length from List.length_set)
          clear hcell hput hi3 hp1 hp2 hp3
          go_wp2
          go_roundw
          case rel => exact ⟨k + 1, by omega, by go_num, by rw [hNX2.out]; exact HP1, HP3, HP2⟩
          case measure => simp [intOf]; omega
        · have hNX2 : Hid (SM.vo (fs.take (k + 1)) = V ++ [(x, 1)]) := by
            show _ = _
            rw [HNX.out]; unfold SM.vput; rw [if_neg (fun h => hA h.2)]
          have hlast : V[V.length - 1]? = some (V.getD (V.length - 1) (0, 0)) := by rw [List.getD, List.getElem?_eq_getElem (show V.length - 1 < V.length by omega)]; rfl
          generalize V.getD (V.length - 1) (0, 0) = e at hlast hA
          obtain ⟨y, n⟩ := e
          simp only at hA
          obtain ⟨g, oe, aa, cc, hv, hi2, hg1, hg2, hcell, hput⟩ := hox.at_put entE hlast
          cases hv
          rw [show ((V.length - 1 : Nat) : Int) = (V.length : Int) - 1 by omega] at hi2
          have d0 : wy.cell? ⟨g, oe, none⟩ = some (.int .i64 y) := (hcell 0 _ rfl).1
          have hz : ((V.length : Int) == 0) = false := beq_f (by omega)
          have hyy : (y != x) = true := bne_t hA
          have hw1 : 0 < (V.length : Int) := by omega
          clear HNX HSM hput hcell
          have ho5 := hox
          have HB5 := HBY
          have HK5 := HKY
          clear HBY HKY hox
          have hs5 := HB5.out.size
          have hvq : V.length ≤ 1073741824 := by omega
          go_wp2_with (at_builtin; refine wp_appG1' entE (x, 0) _ rfl rfl _ _ rfl rfl ho5 rfl hvq hs5 ?_)
          intro v6 w6 ho6 hb6 hk6
          have HK6 := Lib.hid (HK5.out.keepE hk6)
          have HB6 := Lib.hid (HB5.out.trans hb6)
          clear ho5 HB5 HK5 hb6 hk6 hs5
          obtain ⟨a6, c6, rfl, hc6, _⟩ := ho6.rd.shape
          have hlast : (V ++ [(x, (0 : Int))])[V.length]? = some (x, 0) := by simp
          obtain ⟨g', oe', aa, cc, hv, hi3, _, hg3, hcell, hput⟩ := ho6.at_put entE hlast
          cases hv
          obtain ⟨LN, hLN⟩ : ∃ LN, LN = (V ++ [(x, (0 : Int))]).length := ⟨_, rfl⟩
          have hLN2 : LN = V.length + 1 := by rw [hLN, List.length_append]; rfl
          rw [← hLN] at hi3 hput ⊢
          rw [show ((V.length : Nat) : Int) = (LN : Int) - 1 by omega] at hi3
          obtain ⟨d1, f1⟩ := hcell 1 _ rfl
          obtain ⟨hp1, hp2, hp3⟩ := hput 1 (x, 0 + 1) (.int .i64 1) (by decide) rfl
          have hset : (V ++ [(x, (0 : Int))]).set V.length (x, 0 + 1) = V ++ [(x, 1)] := by rw [List.set_append_right _ _ (Nat.le_refl _), Nat.sub_self]; rfl
          rw [hset] at hp1
          have HP1 := Lib.hid hp1
          have HP2 := Lib.hid (HB6.out.trans hp2)
          have HP3 := Lib.hid (HK6.out.keepE hp3)
          have hLN3 : 0 < (LN : Int) := by omega
          have hLN4 : (LN : Int) ≤ 2000 := by omega
          clear hcell hput hp1 hp2 hp3 hset hlast hLN hLN2 ho6 hvl hu2 hu3
          go_wp2
          go_roundw
          case rel => exact ⟨k + 1, by omega, by go_num, by rw [hNX2.out]; exact HP1, HP3, HP2⟩
          case measure => simp [intOf]; omega
    · have hq : ¬ ((k : Int) < (fs.length : Int)) := by omega
      obtain rfl : k = fs.length := by omega
      rw [List.take_length] at ho
      go_wp2
      go_ret
      exact ⟨_, rfl, ho.out, hbl.out⟩

end Go.Proofs.YtdfablboenfblaaDoor.ST
