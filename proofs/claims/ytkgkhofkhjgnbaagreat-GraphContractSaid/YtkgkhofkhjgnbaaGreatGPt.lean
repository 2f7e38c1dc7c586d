/-
  The program's call graph.Path: the smallest path between two nodes. Conditions: the graph reads, and its nodes are parts of one configuration, in ascending order.
-/
import Derived.Test.YtkgkhofkhjgnbaaGreatGBk
namespace Go.Proofs.YtkgkhofkhjgnbaaGreat
open Go.RowKit Go.Joins Go.Shelf Go.Maps
open JM (Chg)
open CM (Fp)
open VM (Ent)

theorem own_map {α : Type} {enc : α → List Value} {e : TypeId} {size base : Nat} {w w' : World} {v : Value} {xs : List α} (h : OwnG enc e size base w v xs) {H : Type} {P : Program} {k : TypeId} {R : Value → Option (DataW H × List MemPlace)} {b n : Nat} {D : DataW H} (hm : w.ownsMap P k R b n D) (hg : w.grownBy w' (some b)) : OwnG enc e size base w' v xs := by
  refine ⟨World.ownsRow.kept h.1 hg ?_, h.2⟩
  obtain ⟨es, ck, hb, _⟩ := hm
  rcases h.1.2 with ⟨rfl, _⟩ | ⟨g, cap, cur, rfl, _, hh, _⟩
  · exact .inl rfl
  · refine .inr fun e => ?_
    simp only [Value.ownBlock] at e
    cases e
    rw [hb] at hh
    cases hh
theorem map_keepX {H : Type} {P : Program} {k e : TypeId} {w w' : World} {R : Value → Option (DataW H × List MemPlace)} {b n : Nat} {D : DataW H} (h : w.ownsMap P k R b n D) (hk : KeepsX e w w') : w'.ownsMap P k R b n D := by
  have hlt := h.lt
  obtain ⟨es, clock, hh, F, hs, hD⟩ := h
  exact ⟨es, clock, (hk b hlt (by intro cur fr h2; rw [hh] at h2; cases h2)).trans hh, F, hs, hD⟩
theorem find_congr {α : Type} {p q : α → Bool} : ∀ {l : List α}, (∀ x ∈ l, p x = q x) → l.find? p = l.find? q
  | [], _ => rfl
  | x :: l, h => by
    rw [List.find?_cons, List.find?_cons, h x (by simp), find_congr (fun y hy => h y (by simp [hy]))]
namespace IM
theorem find_ok {L : List (List Fp)} {t : Nat} (ht : t < L.length) (a : Nat) : (edgK L).find? (okE L (edgK L) (t : Int) (a : Int)) = (edgK L).find? (GM.ok (GM.ways (lnL L) (edgK L) t) a) := by
  refine find_congr fun e he => ?_
  obtain ⟨_, h2, _⟩ := edg_ok L e he
  unfold okE GM.ok
  rw [pv_ways h2 ht]
  congr 1
  · by_cases h : e.1 = a
    · rw [h]; simp
    · rw [decide_eq_false h]; exact beq_eq_false_iff_ne.2 (by omega)
  · by_cases h : 0 < GM.ways (lnL L) (edgK L) t e.2
    · rw [decide_eq_true h, decide_eq_true (by omega)]
    · rw [decide_eq_false h, decide_eq_false (by omega)]
end IM

set_option maxRecDepth 100000 in
set_option maxHeartbeats 8000000 in
theorem pPath (p : List Fp) (gv : Value) (L : List (List Fp)) (fr tg : Int) (w : World) (gd : IM.Gd p L) (h : RdGr w gv L) :
    Calls Tryz.prog 28 #[gv, .int .i64 fr, .int .i64 tg] w fun e w' => ∃ v, e = .returned v ∧ RdI w' v (IM.pathV L (IM.edgK L) fr tg) ∧ Below w.heap.size w w' := by
  obtain ⟨R, hR⟩ : ∃ R, R = IM.pathV L (IM.edgK L) fr tg := ⟨_, rfl⟩
  rw [← hR]
  have HR := Lib.hid hR
  clear hR
  obtain ⟨mv, ev, rfl, hm, he⟩ := h
  obtain ⟨na, nc, rfl, _, _⟩ := hm.shape
  obtain ⟨xa, xc, rfl, _, _⟩ := he.shape
  clear hm
  have hl := gd.len
  have hel : (IM.edgK L).length ≤ 1000000 := by
    have h1 := IM.edgT_len L L.length
    have h2 : L.length * L.length ≤ 64 * 64 := Nat.mul_le_mul hl hl
    exact Nat.le_trans h1 (by omega)
  have HGD := Lib.hid gd
  have HE := Lib.hid he
  have HEL := Lib.hid hel
  generalize hxn : (IM.edgK L).length = xn at *
  have HXN := Lib.hid hxn
  have hy := heap_alloc_new w (.cells #[.slice na L.length nc, .slice xa xn xc] 31)
  have b1 := below_fresh w (.cells #[.slice na L.length nc, .slice xa xn xc] 31)
  obtain ⟨w0, hw0⟩ : ∃ z, w.alloc (.cells #[.slice na L.length nc, .slice xa xn xc] 31) = z := ⟨_, rfl⟩
  rw [hw0] at hy b1
  have HB := Lib.hid b1
  have HW := Lib.hid hw0
  obtain ⟨⟨c0, c1⟩, _⟩ := row2F hy
  have HKA := Lib.hid (fun (wx : World) (hb : Below w0.heap.size w0 wx) => (⟨below_cell hb c0, below_cell hb c1⟩ : wx.cell? ⟨w.heap.size, 0, none⟩ = some (.slice na L.length nc) ∧ wx.cell? ⟨w.heap.size, 1, none⟩ = some (.slice xa xn xc)))
  have HH := Lib.hid (fun (wx : World) (x : Int) => cHas na xa L.length nc xn xc x wx)
  clear gd he hel hxn hw0 b1 hy
  go_enter Tryz.func28, Tryz.ntmps28
  go_upto_region 1 with fail
  rw [HW.out]
  clear HW
  go_wp2_with fail
  refine (HH.out w0 fr).mono ?_
  rintro e w1 ⟨rfl, hb⟩
  have HB1 := Lib.hid hb
  obtain ⟨c0, c1⟩ := HKA.out w1 hb
  clear hb
  by_cases hf : 0 ≤ fr ∧ fr < (L.length : Int)
  case neg =>
    have hb0 : (decide (0 ≤ fr) && decide (fr < (L.length : Int))) = false := by
      rw [Bool.and_eq_false_iff, decide_eq_false_iff_not, decide_eq_false_iff_not]; omega
    have HPV := Lib.hid (show R = [] by rw [HR.out]; unfold IM.pathV; rw [if_pos (by unfold IM.pv; rw [if_pos (by omega)])])
    rw [hb0]
    have HBE := Lib.hid (bnext HB.out HB1.out)
    clear hb0 hf HH HKA HE HGD HR
    go_wp2
    go_ret
    exact ⟨_, rfl, by rw [HPV.out]; exact RdG.nil hlI _, HBE.out⟩
  have hb0 : (decide (0 ≤ fr) && decide (fr < (L.length : Int))) = true := by rw [decide_eq_true hf.1, decide_eq_true hf.2]; rfl
  rw [hb0]
  clear hb0
  go_wp2_with fail
  refine (HH.out w1 tg).mono ?_
  rintro e w2 ⟨rfl, hb⟩
  have HB2 := Lib.hid (bnext HB1.out hb)
  clear hb c0 c1
  by_cases ht : 0 ≤ tg ∧ tg < (L.length : Int)
  case neg =>
    have hb0 : (decide (0 ≤ tg) && decide (tg < (L.length : Int))) = false := by
      rw [Bool.and_eq_false_iff, decide_eq_false_iff_not, decide_eq_false_iff_not]; omega
    have HPV := Lib.hid (show R = [] by rw [HR.out]; unfold IM.pathV; rw [if_pos (by unfold IM.pv; rw [if_pos (by omega)])])
    rw [hb0]
    have HBE := Lib.hid (bnext HB.out HB2.out)
    clear hb0 hf ht HH HKA HE HGD HR
    go_wp2
    go_ret
    exact ⟨_, rfl, by rw [HPV.out]; exact RdG.nil hlI _, HBE.out⟩
  have hb0 : (decide (0 ≤ tg) && decide (tg < (L.length : Int))) = true := by rw [decide_eq_true ht.1, decide_eq_true ht.2]; rfl
  rw [hb0]
  clear hb0 HH
  obtain ⟨f, rfl⟩ : ∃ f : Nat, fr = (f : Int) := ⟨fr.toNat, by omega⟩
  obtain ⟨t, rfl⟩ : ∃ t : Nat, tg = (t : Int) := ⟨tg.toNat, by omega⟩
  have hf : f < L.length := by omega
  have ht : t < L.length := by omega
  have hR := HR.out
  unfold IM.pathV at hR
  rw [IM.pv_ways hf ht] at hR
  clear HR
  have HFO := Lib.hid (fun a => IM.find_ok (L := L) ht a)
  have HUPE := Lib.hid (IM.edg_up HGD.out)
  have HOKE := Lib.hid (IM.edg_ok L)
  have HWR := Lib.hid (fun v (hv : v ≠ t) => GM.ways_rec (n := L.length) (tgt := t) (IM.edg_ok L) hv)
  have HUP := Lib.hid (fun v (hv : t < v) => GM.ways_up (ln := IM.lnL L) (IM.edg_up HGD.out) hv)
  have hW1 : GM.ways (IM.lnL L) (IM.edgK L) t t = 1 := GM.ways_tgt
  have HW1 := Lib.hid hW1
  generalize GM.ways (IM.lnL L) (IM.edgK L) t = W at *
  have HR := Lib.hid hR
  clear hR hW1
  have hb0 := bnext HB.out HB2.out
  obtain ⟨c0, c1⟩ := HKA.out w2 HB2.out
  have HFS := Lib.hid ((callsIn_wide (n := 9)).1 (cFirst na xa L.length nc xn xc (IM.edgK L) t w2 (HE.out.below hb0) (fun e he => by have := HOKE.out e he; omega) (by rw [HXN.out]; exact HEL.out) (by omega)))
  rw [GM.stf_all HW1.out HWR.out HUPE.out HUP.out (IM.edg_asc L)] at HFS
  clear hb0
  go_wp2_with fail
  refine HFS.out.mono ?_
  rintro e w3 ⟨B, m, D0, rfl, hown3, hst3, hm3, hB3, hb3⟩
  have HO3 := Lib.hid hown3
  have HST3 := Lib.hid hst3
  have HB3 := Lib.hid (bnext (bnext HB.out HB2.out) hb3)
  clear hown3 hst3 hb3 HFS c0 c1 HKA HE
  have hpo := ownG_fresh hlI 3 w3 [(f : Int)] (by unfold maxLen; simp)
  have b4 := below_fresh w3 (.cells #[.int .i64 (f : Int)] 3)
  rw [show (cellsOf encI [(f : Int)]).toArray = #[.int .i64 (f : Int)] from rfl] at hpo
  obtain ⟨w4, hw4⟩ : ∃ z, w3.alloc (.cells #[.int .i64 (f : Int)] 3) = z := ⟨_, rfl⟩
  rw [hw4] at hpo b4
  have hs4 : w4.heap.size = w3.heap.size + 1 := by rw [← hw4]; simp
  have HP4 := Lib.hid hpo
  have HO4 := Lib.hid (map_below HO3.out b4)
  have HB4 := Lib.hid (bnext HB3.out b4)
  have HW4 := Lib.hid hw4
  have HS4 := Lib.hid hs4
  clear hpo b4 hw4 hs4
  go_upto_region 5 with fail
  rw [HW4.out]
  go_wp2
  clear HW4
  go_loopw [8, 9] (fun v nx wr => ∃ (a k : Nat) (D : DataW Unit) (s : Nat → Option Nat) (out : List Int), nx = .int .i64 a ∧ a < L.length ∧ L.length ≤ k + a ∧ Hid (StD D s) ∧ Hid (∀ u, a ≤ u → s u = GM.sq W t (IM.edgK L) u) ∧ Hid (wr.ownsMap Tryz.prog 3 (plainElem Tryz.prog 3) B m D) ∧ Hid (OwnI w3.heap.size wr v out) ∧ Hid (R = if (W f : Int) = 0 then [] else IM.pgo L (IM.edgK L) (t : Int) k (a : Int) out) ∧ (a = f ∨ 0 < W f) ∧ out.length ≤ a + 1 ∧ Hid (Below w.heap.size w wr) ∧ w3.heap.size ≤ wr.heap.size) (fun _ nx _ => L.length - (intOf nx).toNat)
  case atStart => exact ⟨f, L.length, D0, _, [(f : Int)], rfl, hf, by omega, HST3, Lib.hid (fun u _ => rfl), HO4, HP4, HR, Or.inl rfl, by simp, HB4, by have := HS4.out; omega⟩
  case round =>
    obtain ⟨a, k, D, s, out, rfl, ha, hka, hst, hsq, hown, hpth, hpgo, haf, hol, hbw, hws⟩ := hrel
    obtain ⟨pa, pc, rfl, _, _⟩ := hpth.out.rd.shape
    obtain ⟨on, hon⟩ : ∃ on, on = out.length := ⟨_, rfl⟩
    have HON := Lib.hid hon
    rw [← hon] at hol ⊢
    clear hon
    by_cases hat : a = t
    · have hne : ((a : Int) != (t : Int)) = false := by rw [hat]; simp
      have HRO := Lib.hid (show R = out by
        rw [hpgo.out, if_neg (by
          rcases haf with h | h
          · rw [← h, hat, HW1.out]; decide
          · omega), IM.pgo_at k out (by rw [hat])])
      clear hst hsq hown hpgo hat
      go_wp2
      go_ret
      exact ⟨_, rfl, by rw [HRO.out, HON.out]; exact hpth.out.rd, hbw.out⟩
    have hne : ((a : Int) != (t : Int)) = true := by simp; omega
    have hka1 := keyN a (by omega)
    have hhas := hst.out.has a
    have hsa := hsq.out a (Nat.le_refl _)
    rw [hsa] at hhas
    unfold GM.sq at hhas hsa
    rw [if_neg hat] at hhas hsa
    obtain ⟨k, rfl⟩ : ∃ q, k = q + 1 := ⟨k - 1, by omega⟩
    have hfo := HFO.out a
    have HNT := Lib.hid (show (a : Int) ≠ (t : Int) by omega)
    cases hfd : (IM.edgK L).find? (GM.ok W a) with
    | none =>
      rw [hfd] at hhas hfo
      have HRO := Lib.hid (show R = [] by
        rw [hpgo.out]
        split
        · rfl
        · exact IM.pgo_none out HNT.out hfo)
      have HHS := Lib.hid hhas
      clear hst hsq hpgo hat hhas hsa hfo hfd hpth
      go_wp2_with (first
        | (at_lookup; refine wpList_lookup_own_ok_int _ rfl _ _ 85 rfl 3 3 .i64 lawK Tryz.underlying85 Tryz.underlying3 (zeroI _) B m D rfl hown.out _ _ rfl hka1 ?_; intro c hatc hwc; rw [HHS.out]; clear hatc hwc)
        | go_in)
      go_ret
      exact ⟨_, rfl, by rw [HRO.out]; exact RdG.nil hlI _, hbw.out⟩
    | some e =>
      rw [hfd] at hhas hfo hsa
      have hem := List.mem_of_find?_eq_some hfd
      have hok := List.find?_some hfd
      unfold GM.ok at hok
      rw [Bool.and_eq_true, decide_eq_true_eq, decide_eq_true_eq] at hok
      obtain ⟨he1, he2⟩ := hok
      have hue := HUPE.out e hem
      have hne2 := (HOKE.out e hem).2.1
      obtain ⟨b, hb⟩ : ∃ b, b = e.2 := ⟨_, rfl⟩
      have hab : a < b := by omega
      have hbl : b < L.length := by omega
      have HHS := Lib.hid (show Maps.has D (.int .i64 (a : Int)) = true from hhas)
      have hsa2 : s a = some b := by rw [hsa, hb]; rfl
      have HCV := Lib.hid (hst.out.at_ a b hsa2)
      have HST2 := Lib.hid (hst.out.del a)
      have HSQ2 := Lib.hid (show ∀ u, b ≤ u → (fun v => if v = a then none else s v) u = GM.sq W t (IM.edgK L) u from fun u hu => by
        show (if u = a then none else s u) = _
        rw [if_neg (by omega)]; exact hsq.out u (by omega))
      have HPG2 := Lib.hid (show R = if (W f : Int) = 0 then [] else IM.pgo L (IM.edgK L) (t : Int) k (b : Int) (out ++ [(b : Int)]) by
        rw [hpgo.out, hb, IM.pgo_some out HNT.out hfo])
      have HAF := Lib.hid (show 0 < W f by
        rcases haf with h | h
        · rw [← h]
          exact (GM.w_pos HWR.out (by omega)).2 ⟨e, hem, he1, he2⟩
        · exact h)
      clear hst hsq hpgo hhas hsa hsa2 hfo hfd hem hue hne2 he1 he2 hb haf hat
      have hown0 := hown.out
      have hpth0 : OwnI w3.heap.size wr (.slice pa on pc) out := by rw [HON.out]; exact hpth.out
      have hol2 : out.length ≤ 1073741824 := by rw [← HON.out]; omega
      have hwB : w.heap.size ≤ B := by have h1 := (bnext HB.out HB2.out).size; omega
      go_wp2_with (first
        | (at_lookup; refine wpList_lookup_own_ok_int _ rfl _ _ 85 rfl 3 3 .i64 lawK Tryz.underlying85 Tryz.underlying3 (zeroI _) B m D rfl hown.out _ _ rfl hka1 ?_; intro c hatc hwc; rw [HHS.out]; obtain rfl : (b : Int) = c := lit_inj (HCV.out.symm.trans hatc); clear hatc hwc)
        | (at_delete; refine wpList_delete_own _ rfl _ _ 85 3 rfl 3 lawK Tryz.underlying85 _ B m D rfl hown.out _ _ rfl hka1 ?_; intro w8 hown8 hturn8; have hp8 := own_map hpth0 hown0 hturn8.grown; have hws8 := Nat.le_trans hws hturn8.grown.size; have HB8 := Lib.hid (hbw.out.grown hturn8.grown hbw.out.size (fun j hj => by cases hj; exact hwB)); have HO8 := Lib.hid hown8; clear hown8 hturn8)
        | (at_builtin; refine wp_appG1 intE (b : Int) rfl _ _ rfl rfl hp8 rfl hol2 hws8 ?_; intro v9 w9 ho9 hb9 hk9 _)
        | go_in)
      have HO9 := Lib.hid (map_keepX HO8.out hk9)
      have HB9 := Lib.hid (HB8.out.trans (hb9.mono HB3.out.size))
      have HP9 := Lib.hid ho9
      have hws9 := Nat.le_trans hws8 hb9.size
      have hol9 : (out ++ [(b : Int)]).length ≤ b + 1 := by rw [List.length_append, ← HON.out]; simp; omega
      go_roundw
      case rel => exact ⟨b, k, _, _, _, rfl, hbl, by omega, HST2, HSQ2, HO9, HP9, HPG2, Or.inr HAF.out, hol9, HB9, hws9⟩
      case measure => simp [intOf]; omega

end Go.Proofs.YtkgkhofkhjgnbaaGreat
