/-
  The program's call graph.Paths: the number of paths between two nodes. Conditions: the graph reads, and its nodes are parts of one configuration, in ascending order.
-/
import Derived.Maps.OwnSet
import Derived.Maps.OwnOps
import Derived.Maps.Views
import Derived.Test.YtkgkhofkhjgnbaaGreatGPs
namespace Go.Proofs.YtkgkhofkhjgnbaaGreat
open Go.RowKit Go.Joins Go.Shelf Go.Maps
open JM (Chg)
open CM (Fp)
open VM (Ent)

/-- 'map[K]V{k: v}' at the operation: the store of one entry. -/
theorem wpList_insert_own {H : Type} {P : Program} (w : World) {ops : Array Oper} {rest : List Oper} {o : Oper} {a : Act} {Q : Exit → Act → World → Prop}
    (hg : o.guard = none) (m x v : Operand) (t : TypeId) (hop : o.op = Op.insert t m x v)
    (k e : TypeId) (K : Keyed P k) (ht : P.underlying t = some (.map k e)) (R : Value → Option (DataW H × List MemPlace)) (b n : Nat) (D : DataW H)
    (hm : a.eval m = .map (some b)) (hown : w.ownsMap P k R b n D) (hn : n < maxLen) (key val : Value) (kl : Lit) (hx : a.eval x = key) (hv : a.eval v = val) (hkey : keyOf P k key = some kl)
    (d : DataW H) (ps : List MemPlace) (hval : R val = some (d, ps))
    (hK : ∀ w', w'.ownsMap P k R b (n + 1) (D.put kl d) → w.grownBy w' (some b) → wpList P ops Q rest (a.put o.dst undef) w') :
    wpList P ops Q (o :: rest) a w := by
  refine wpList_plain hg fun K' hK' => ?_
  obtain ⟨w', hrun, r1, r2⟩ := hown.update K ht hn hkey hval
  unfold Oper.wp
  simp [execOp, hop, hm, hx, hv, hrun, Result.andThen]
  exact hK' _ _ (hK w' r1 r2)

theorem lawK : Keyed Tryz.prog 3 := int_keyed Tryz.underlying3
theorem zeroI (w : World) : (zeroValue 3).run Tryz.prog w = .ok (.int .i64 0) w := by kernel_rfl
theorem keyN (n : Nat) (h : n ≤ 1000000) : keyOf Tryz.prog 3 (.int .i64 (n : Int)) = some (.int .i64 (n : Int)) := keyOf_int_mk Tryz.underlying3 (WalkArith.wf_i64 (by omega))

/-- The map D holds A, 0 where there is no entry. -/
structure ArrD (D : DataW Unit) (A : Nat → Int) : Prop where
  map : Maps.IsMap D
  at_ : ∀ v : Nat, D.atKey (.int .i64 (v : Int)) (.lit (.int .i64 0)) = .lit (.int .i64 (A v))
theorem key_ne {a b : Nat} (h : a ≠ b) : (Lit.int .i64 (a : Int)) ≠ .int .i64 (b : Int) := by intro e; injection e with _ e; omega
theorem ArrD.put {D : DataW Unit} {A : Nat → Int} (h : ArrD D A) (v0 : Nat) (c : Int) : ArrD (D.put (.int .i64 (v0 : Int)) (.lit (.int .i64 c))) (fun v => if v = v0 then c else A v) := by
  refine ⟨h.map.put _ _, fun v => ?_⟩
  by_cases hv : v = v0
  · subst hv
    rw [Maps.atKey_put_same h.map (show WideAt.IsKeyLit (.int _ _) from trivial)]; simp
  · rw [Maps.atKey_put_other (key_ne hv), h.at_]; simp [hv]
theorem ArrD.del {D : DataW Unit} {A : Nat → Int} (h : ArrD D A) (v0 : Nat) : ArrD (D.del (.int .i64 (v0 : Int))) (fun v => if v = v0 then 0 else A v) := by
  refine ⟨h.map.del _, fun v => ?_⟩
  by_cases hv : v = v0
  · subst hv
    rw [Maps.atKey_del_same]; simp
  · rw [Maps.atKey_del_other (key_ne hv), h.at_]; simp [hv]
theorem ArrD.start (f : Nat) : ArrD ((DataW.map []).put (.int .i64 (f : Int)) (.lit (.int .i64 1))) (fun v => if v = f then 1 else 0) := by
  have h0 : ArrD (.map []) (fun _ => 0) := ⟨⟨[], rfl⟩, fun _ => rfl⟩
  exact h0.put f 1
theorem lit_inj {c d : Int} (h : (DataW.lit (.int .i64 c) : DataW Unit) = .lit (.int .i64 d)) : c = d := by
  injection h with h
  injection h
theorem wf_range {c : Int} (h : (Lit.int .i64 c).wf = true) : -9223372036854775808 ≤ c ∧ c < 9223372036854775808 := by
  simp only [Lit.wf, IntKind.min, IntKind.max, IntKind.signed, IntKind.bits, Bool.and_eq_true, decide_eq_true_eq, if_true] at h
  omega
theorem wrap64_mod (n : Int) : ∃ q : Int, wrap64 n = n + q * 18446744073709551616 := by
  unfold wrap64
  exact ⟨-((n + 9223372036854775808) / 18446744073709551616), by omega⟩
theorem map_below {H : Type} {P : Program} {k : TypeId} {w w' : World} {R : Value → Option (DataW H × List MemPlace)} {b n : Nat} {D : DataW H} (h : w.ownsMap P k R b n D) (hb : Below w.heap.size w w') : w'.ownsMap P k R b n D := by
  have hlt := h.lt
  obtain ⟨es, clock, hh, F, hs, hD⟩ := h
  exact ⟨es, clock, (hb.block b hlt).trans hh, F, hs, hD⟩
theorem OnlyB.grown {g : Nat} {a b c : World} (h : OnlyB g a b) (k : b.grownBy c (some g)) : OnlyB g a c := by
  obtain ⟨h1, h2, h3, h4, h5⟩ := h
  refine ⟨k.os.trans h1, k.tape.trans h2, k.output.trans h3, Nat.le_trans h4 k.size, fun i hi hne => ?_⟩
  rw [k.block i (by omega) (by intro e; cases e; exact hne rfl), h5 i hi hne]
theorem OnlyB.cell {g : Nat} {a b : World} (h : OnlyB g a b) {es : Array MapEntry} {clock : Nat} (hm : a.heap[g]? = some (.map es clock)) {p : Addr} {v : Value} (hc : a.cell? p = some v) : b.cell? p = some v := by
  have hlt := World.block_lt_of_cell? a _ hc
  have hne : p.block ≠ g := by
    intro e
    unfold World.cell? at hc
    rw [e, hm] at hc
    cases hc
  unfold World.cell? at hc ⊢
  rw [h.2.2.2.2 p.block hlt hne]
  exact hc
namespace IM
theorem ways_bd {L : List (List Fp)} (hl : L.length ≤ 64) (h9 : ∀ f ∈ L, f.length ≤ 9) {f t : Nat} (ht : t < L.length) : (GM.ways (lnL L) (edgK L) t f : Int) < 9223372036854775808 := by
  have hD : lnL L t ≤ 9 := by rw [lnL_of (List.getElem?_eq_getElem ht)]; exact h9 _ (List.getElem_mem ht)
  unfold GM.ways
  split
  · omega
  · split
    · have h1 := GM.pth_le (es := edgK L) (tgt := t) (c := 64) (fun i => Nat.le_trans (edg_deg L i) hl) (by omega) (lnL L t - lnL L f) f
      have h2 : 64 ^ (lnL L t - lnL L f) ≤ 64 ^ 9 := Nat.pow_le_pow_right (by omega) (by omega)
      have h3 : (64 : Nat) ^ 9 = 18014398509481984 := by decide
      omega
    · omega
/-- The edges that leave a node, weighted, give its own weight. -/
theorem row_w {L : List (List Fp)} {t n : Nat} (hn : n ≠ t) : GM.ew (GM.ways (lnL L) (edgK L) t) ((edgK L).filter fun e => decide (e.1 = n)) = (GM.ways (lnL L) (edgK L) t n : Int) := by
  rw [GM.ew_nat, GM.ways_rec (edg_ok L) hn]
end IM

set_option maxRecDepth 100000 in
set_option maxHeartbeats 8000000 in
theorem pPaths (p : List Fp) (gv : Value) (L : List (List Fp)) (fr tg : Int) (w : World) (gd : IM.Gd p L) (h : RdGr w gv L) :
    Calls Tryz.prog 25 #[gv, .int .i64 fr, .int .i64 tg] w fun e w' => e = .returned (.int .i64 (IM.pv L (IM.edgK L) fr tg)) ∧ Below w.heap.size w w' := by
  obtain ⟨R, hR⟩ : ∃ R, R = IM.pv L (IM.edgK L) fr tg := ⟨_, rfl⟩
  rw [← hR]
  have HR := Lib.hid hR
  clear hR
  obtain ⟨mv, ev, rfl, hm, he⟩ := h
  obtain ⟨na, nc, rfl, _, _⟩ := hm.shape
  obtain ⟨xa, xc, rfl, _, _⟩ := he.shape
  clear hm
  have hl := gd.len
  have hel : (IM.edgK L).length ≤ 1000000 := by
    have h1 := IM.edgT_len L L.length
    have h2 : L.length * L.length ≤ 64 * 64 := Nat.mul_le_mul hl hl
    exact Nat.le_trans h1 (by omega)
  have HGD := Lib.hid gd
  have HE := Lib.hid he
  have HEL := Lib.hid hel
  generalize hxn : (IM.edgK L).length = xn at *
  have HXN := Lib.hid hxn
  have hy := heap_alloc_new w (.cells #[.slice na L.length nc, .slice xa xn xc] 31)
  have b1 := below_fresh w (.cells #[.slice na L.length nc, .slice xa xn xc] 31)
  obtain ⟨w0, hw0⟩ : ∃ z, w.alloc (.cells #[.slice na L.length nc, .slice xa xn xc] 31) = z := ⟨_, rfl⟩
  rw [hw0] at hy b1
  have HB := Lib.hid b1
  have HW := Lib.hid hw0
  obtain ⟨⟨c0, c1⟩, _⟩ := row2F hy
  have HKA := Lib.hid (fun (wx : World) (hb : Below w0.heap.size w0 wx) => (⟨below_cell hb c0, below_cell hb c1⟩ : wx.cell? ⟨w.heap.size, 0, none⟩ = some (.slice na L.length nc) ∧ wx.cell? ⟨w.heap.size, 1, none⟩ = some (.slice xa xn xc)))
  have HH := Lib.hid (fun (wx : World) (x : Int) => cHas na xa L.length nc xn xc x wx)
  clear gd he hel hxn hw0 b1 hy
  go_enter Tryz.func25, Tryz.ntmps25
  go_upto_region 1 with fail
  rw [HW.out]
  clear HW
  go_wp2_with fail
  refine (HH.out w0 fr).mono ?_
  rintro e w1 ⟨rfl, hb⟩
  have HB1 := Lib.hid hb
  obtain ⟨c0, c1⟩ := HKA.out w1 hb
  clear hb
  by_cases hf : 0 ≤ fr ∧ fr < (L.length : Int)
  case neg =>
    have hb0 : (decide (0 ≤ fr) && decide (fr < (L.length : Int))) = false := by
      rw [Bool.and_eq_false_iff, decide_eq_false_iff_not, decide_eq_false_iff_not]; omega
    have HPV := Lib.hid (show R = 0 by rw [HR.out]; unfold IM.pv; rw [if_pos (by omega)])
    rw [hb0]
    have HBE := Lib.hid (bnext HB.out HB1.out)
    clear hb0 hf HH HKA HE HGD HR
    go_wp2
    go_ret
    exact ⟨by rw [HPV.out]; rfl, HBE.out⟩
  have hb0 : (decide (0 ≤ fr) && decide (fr < (L.length : Int))) = true := by rw [decide_eq_true hf.1, decide_eq_true hf.2]; rfl
  rw [hb0]
  clear hb0
  go_wp2_with fail
  refine (HH.out w1 tg).mono ?_
  rintro e w2 ⟨rfl, hb⟩
  have HB2 := Lib.hid (bnext HB1.out hb)
  clear hb c0 c1
  by_cases ht : 0 ≤ tg ∧ tg < (L.length : Int)
  case neg =>
    have hb0 : (decide (0 ≤ tg) && decide (tg < (L.length : Int))) = false := by
      rw [Bool.and_eq_false_iff, decide_eq_false_iff_not, decide_eq_false_iff_not]; omega
    have HPV := Lib.hid (show R = 0 by rw [HR.out]; unfold IM.pv; rw [if_pos (by omega)])
    rw [hb0]
    have HBE := Lib.hid (bnext HB.out HB2.out)
    clear hb0 hf ht HH HKA HE HGD HR
    go_wp2
    go_ret
    exact ⟨by rw [HPV.out]; rfl, HBE.out⟩
  have hb0 : (decide (0 ≤ tg) && decide (tg < (L.length : Int))) = true := by rw [decide_eq_true ht.1, decide_eq_true ht.2]; rfl
  rw [hb0]
  clear hb0 HH
  obtain ⟨f, rfl⟩ : ∃ f : Nat, fr = (f : Int) := ⟨fr.toNat, by omega⟩
  obtain ⟨t, rfl⟩ : ∃ t : Nat, tg = (t : Int) := ⟨tg.toNat, by omega⟩
  have hf : f < L.length := by omega
  have ht : t < L.length := by omega
  have hR := HR.out
  rw [IM.pv_ways hf ht] at hR
  clear HR
  have HWB := Lib.hid (IM.ways_bd hl HGD.out.nine (f := f) ht)
  have HRW := Lib.hid (fun n (hn : n ≠ t) => IM.row_w (L := L) (t := t) (n := n) hn)
  have HUP := Lib.hid (fun v (hv : t < v) => GM.ways_up (ln := IM.lnL L) (IM.edg_up HGD.out) hv)
  have hW1 : GM.ways (IM.lnL L) (IM.edgK L) t t = 1 := GM.ways_tgt
  have HW1 := Lib.hid hW1
  generalize GM.ways (IM.lnL L) (IM.edgK L) t = W at *
  have HR := Lib.hid hR
  clear hR hW1
  have hmade := World.ownsMap_made (H := Unit) w2 Tryz.prog 3 (plainElem Tryz.prog 3)
  have hkf := keyN f (by omega)
  have hmm := @run_makeMap Tryz.prog
  go_wp2_with (first
    | (refine wpList_insert_own _ rfl _ _ _ 85 rfl 3 3 lawK Tryz.underlying85 _ _ 0 _ rfl hmade (by unfold maxLen; decide) _ _ _ rfl rfl hkf _ [] (plainElem_int Tryz.underlying3 (by decide)) ?_; intro w4 hown4 hgrow4; clear hmade hmm hkf; obtain ⟨B, hB⟩ : ∃ B, B = w2.heap.size := ⟨_, rfl⟩; have HBB := Lib.hid hB; rw [← hB] at hown4 hgrow4 ⊢; clear hB; have HO4 := Lib.hid hown4; have HG4 := Lib.hid hgrow4; clear hown4 hgrow4)
    | go_in)
  have HB4 := Lib.hid ((below_fresh w2 (.map #[] 0)).grown HG4.out (by simp) (fun j hj => by cases hj; rw [HBB.out]; exact Nat.le_refl _))
  clear c0 c1 HG4
  go_loopw [8] (fun nx wr => ∃ (n m : Nat) (D : DataW Unit) (A : Nat → Int), nx = .int .i64 n ∧ f ≤ n ∧ (n ≤ t ∨ n = f) ∧ n < 64 ∧ Hid (ArrD D A) ∧ Hid (GM.Arr W L.length (W f : Int) n A) ∧ m ≤ 100 * n + 1 ∧ Hid (wr.ownsMap Tryz.prog 3 (plainElem Tryz.prog 3) B m D) ∧ Hid (Below w2.heap.size w2 wr)) (fun nx _ => t - (intOf nx).toNat)
  case atStart => exact ⟨f, 1, _, _, rfl, Nat.le_refl _, Or.inr rfl, by omega, Lib.hid (ArrD.start f), Lib.hid (GM.Arr.start hf), by omega, HO4, HB4⟩
  case round =>
    obtain ⟨n, m, D, A, rfl, hfn, hnt, hn64, hD, hA, hm, hown, hbw⟩ := hrel
    by_cases hlt : n < t
    case neg =>
      have hq2 : ¬ ((n : Int) < (t : Int)) := by omega
      have hkt := keyN t (by omega)
      have HBE := Lib.hid (bnext HB.out (bnext HB2.out hbw.out))
      have HAT := Lib.hid (fun c (hat : D.atKey (.int .i64 (t : Int)) (.lit (.int .i64 0)) = .lit (.int .i64 c)) (hwc : (Lit.int .i64 c).wf = true) => (show c = R by
        have hc : A t = c := lit_inj ((hD.out.at_ t).symm.trans hat)
        have hr := wf_range hwc
        rw [HR.out]
        by_cases hnn : n = t
        · subst hnn
          rw [← hc] at hr ⊢
          exact hA.out.fin ht HW1.out HUP.out ⟨by omega, HWB.out⟩ hr
        · have hfe : n = f := by omega
          rw [← hc, hA.out.1 t (by omega), HUP.out f (by omega)]; rfl))
      clear hbw HKA HE hD hA
      go_wp2_with (first
        | (at_lookup; refine wpList_lookup_own_int _ rfl _ _ 85 rfl 3 3 .i64 lawK Tryz.underlying85 Tryz.underlying3 (zeroI _) B m D rfl hown.out _ _ rfl hkt ?_; intro c hat hwc; have HC := Lib.hid (HAT.out c hat hwc); clear hat hwc)
        | go_in)
      go_ret
      exact ⟨by rw [← HC.out]; rfl, HBE.out⟩
    have hq2 : (n : Int) < (t : Int) := by omega
    have hb2 := bnext HB2.out hbw.out
    have hbE := bnext HB.out hb2
    obtain ⟨c0, c1⟩ := HKA.out wr hb2
    have HLV := Lib.hid (cLeave na xa L.length nc xn xc (IM.edgK L) n wr (HE.out.below hbE) (IM.edg_asc L) (by rw [HXN.out]; exact HEL.out) (by omega))
    clear hb2 hbE
    go_wp2_with fail
    refine HLV.out.mono ?_
    rintro e w5 ⟨v5, rfl, hrd, hb5⟩
    obtain ⟨ra, rc, rfl, _, _⟩ := hrd.shape
    have HMI := Lib.hid (hA.out.mid (HRW.out n (by omega)))
    have HRE := Lib.hid (show ∀ e ∈ (IM.edgK L).filter (fun e => decide (e.1 = n)), e.1 = n ∧ n < e.2 ∧ e.2 < L.length from fun e he => by
      obtain ⟨h1, h2⟩ := List.mem_filter.1 he
      have h2 := of_decide_eq_true h2
      have h3 := IM.edg_up HGD.out e h1
      have h4 := (IM.edg_ok L e h1).2.1
      exact ⟨h2, by omega, h4⟩)
    have hrl : ((IM.edgK L).filter (fun e => decide (e.1 = n))).length ≤ 64 := Nat.le_trans (IM.edg_deg L n) hl
    generalize (IM.edgK L).filter (fun e => decide (e.1 = n)) = row at *
    have HRD := Lib.hid hrd
    have hown5 := Lib.hid (map_below hown.out hb5)
    have HB5 := Lib.hid (bnext hbw.out hb5)
    clear hrd hb5 hown hbw hA HLV c0 c1
    generalize hrn : row.length = rn at *
    have HRN := Lib.hid hrn
    clear hrn
    go_wp2
    obtain ⟨es5, ck5, hm5, _⟩ := hown5.out
    have HM5 := Lib.hid hm5
    have HN2 := Lib.hid (show B ≤ B from Nat.le_refl _)
    clear hm5
    go_loopw [34] (fun kx wq => ∃ (k m2 : Nat) (D2 : DataW Unit) (A2 : Nat → Int), kx = .int .i64 k ∧ k ≤ rn ∧ Hid (ArrD D2 A2) ∧ Hid (GM.Mid W L.length (W f : Int) n (row.drop k) A2) ∧ m2 ≤ m + k ∧ Hid (wq.ownsMap Tryz.prog 3 (plainElem Tryz.prog 3) B m2 D2) ∧ Hid (OnlyB B w5 wq)) (fun kx _ => rn - (intOf kx).toNat)
    case atStart => exact ⟨0, m, D, A, rfl, Nat.zero_le _, hD, HMI, Nat.le_refl _, hown5, Lib.hid (OnlyB.refl _ _)⟩
    case round =>
      obtain ⟨k, m2, D2, A2, rfl, hkr, hD2, hA2, hm2, hown2, hob⟩ := hrel
      have hkn := keyN n (by omega)
      by_cases hlk : k < rn
      case neg =>
        have hq3 : ¬ ((k : Int) < (rn : Int)) := by omega
        have HAN := Lib.hid (show GM.Arr W L.length (W f : Int) (n + 1) (fun v => if v = n then 0 else A2 v) by
          have h := hA2.out
          rw [List.drop_of_length_le (by rw [HRN.out]; omega)] at h
          exact h.done (by omega) (fun v hv => by simp [hv]) (by simp))
        have HDN := Lib.hid (hD2.out.del n)
        have hs5 := HB5.out.size
        go_wp2_with (first
          | (at_delete; refine wpList_delete_own _ rfl _ _ 85 3 rfl 3 lawK Tryz.underlying85 _ B m2 D2 rfl hown2.out _ _ rfl hkn ?_; intro w8 hown8 hturn8; have HO8 := Lib.hid hown8; have HON := Lib.hid (hob.out.grown hturn8.grown); clear hown8 hturn8)
          | go_in)
        have HB8 := Lib.hid (HB5.out.trans (HON.out.below (B := w2.heap.size) (by rw [HBB.out]; exact Nat.le_refl _) hs5))
        go_roundw
        case rel => exact ⟨n + 1, m2, _, _, by go_num, by omega, by omega, by omega, HDN, HAN, by omega, HO8, HB8⟩
        case measure => simp [intOf]; omega
      have hq3 : (k : Int) < (rn : Int) := by omega
      have hatk := List.getElem?_eq_getElem (show k < row.length by rw [HRN.out]; exact hlk)
      have hdk := drop_get (show k < row.length by rw [HRN.out]; exact hlk)
      generalize row[k]'(by rw [HRN.out]; exact hlk) = e at hatk hdk
      obtain ⟨re1, re2, re3⟩ := HRE.out e (List.mem_of_getElem? hatk)
      obtain ⟨eb, eo, hie, heb, hec⟩ := HRD.out.at_ edgE k e hatk
      obtain ⟨x, y⟩ := e
      simp only at re1 re2 re3
      have re1 := re1.symm
      subst re1
      have m0 : wr.cell? ⟨eb, eo, none⟩ = some (.int .i64 (n : Int)) := hob.out.cell HM5.out (hec 0 _ rfl)
      have m1 : wr.cell? ⟨eb, eo + 1, none⟩ = some (.int .i64 (y : Int)) := hob.out.cell HM5.out (hec 1 _ rfl)
      have hky := keyN y (by omega)
      have hmx : m2 < maxLen := by unfold maxLen; omega
      clear hec heb hatk
      have HDK := Lib.hid hdk
      have hx6 := heap_alloc_new wr (.cells #[.int .i64 (n : Int), .int .i64 (y : Int)] 69)
      have b6 := below_fresh wr (.cells #[.int .i64 (n : Int), .int .i64 (y : Int)] 69)
      obtain ⟨w6, hw6⟩ : ∃ z, wr.alloc (.cells #[.int .i64 (n : Int), .int .i64 (y : Int)] 69) = z := ⟨_, rfl⟩
      rw [hw6] at hx6 b6
      obtain ⟨⟨_, q1⟩, _⟩ := row2F hx6
      have hown6 := Lib.hid (map_below hown2.out b6)
      have HO6 := Lib.hid (hob.out.app (b6.mono hob.out.2.2.2.1))
      have HW6 := Lib.hid hw6
      clear hdk hx6 b6 hw6 hown2 hob
      go_upto_region 10 with fail
      rw [HW6.out]
      clear HW6 m0 m1 hie
      have tok1 : True := trivial
      go_wp2_with (first
        | (at_lookup; have _t := tok1; refine wpList_lookup_own_int _ rfl _ _ 85 rfl 3 3 .i64 lawK Tryz.underlying85 Tryz.underlying3 (zeroI _) B m2 D2 rfl hown6.out _ _ rfl hky ?_; intro c1 hat1 hwc1; clear tok1 _t)
        | (at_lookup; refine wpList_lookup_own_int _ rfl _ _ 85 rfl 3 3 .i64 lawK Tryz.underlying85 Tryz.underlying3 (zeroI _) B m2 D2 rfl hown6.out _ _ rfl hkn ?_; intro c2 hat2 hwc2)
        | (at_mapUpdate; refine wpList_mapUpdate_own _ rfl _ _ _ 85 rfl 3 3 lawK Tryz.underlying85 _ B m2 D2 rfl hown6.out hmx _ _ _ rfl rfl hky _ [] (plainElem_int Tryz.underlying3 (wrap64_wf _)) ?_; intro w7 hown7 hgrow7)
        | go_in)
      have HO7 := Lib.hid hown7
      have HON := Lib.hid (HO6.out.grown hgrow7)
      have HC1 := Lib.hid (lit_inj ((hD2.out.at_ y).symm.trans hat1))
      have HC2 := Lib.hid (lit_inj ((hD2.out.at_ n).symm.trans hat2))
      have HD7 := Lib.hid (hD2.out.put y (wrap64 (c1 + c2)))
      have HM7 := Lib.hid (show GM.Mid W L.length (W f : Int) n (row.drop (k + 1)) (fun v => if v = y then wrap64 (c1 + c2) else A2 v) by
        have h := hA2.out
        rw [HDK.out] at h
        obtain ⟨q, hq⟩ := wrap64_mod (c1 + c2)
        exact h.step re2 re3 (fun v hv => by simp [show v ≠ y from hv]) (q' := q) (by
          show (if y = y then wrap64 (c1 + c2) else A2 y) = _
          rw [if_pos rfl, hq, ← HC1.out, ← HC2.out]))
      clear hown7 hgrow7 hat1 hat2 hwc1 hwc2 HO6 hown6
      go_roundw
      case rel => exact ⟨k + 1, m2 + 1, _, _, by go_num, by omega, HD7, HM7, by omega, HO7, HON⟩
      case measure => simp [intOf]; omega

end Go.Proofs.YtkgkhofkhjgnbaaGreat
