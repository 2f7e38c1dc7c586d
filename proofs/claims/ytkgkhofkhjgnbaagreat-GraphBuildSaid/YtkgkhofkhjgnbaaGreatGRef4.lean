/-
  The call of the reference's Path: from the first node the first edge to a node from which the goal can be reached, again and again. Conditions: those of Paths.
-/
import Derived.Test.YtkgkhofkhjgnbaaGreatGRef3
namespace Go.Proofs.YtkgkhofkhjgnbaaGreat
open Go.RowKit Go.Joins Go.Shelf
open JM (Chg)
open CM (Fp)
open VM (Ent)

namespace IM
/-- Whether an edge goes from a node to one from which the goal can be reached. -/
def okE (L : List (List Fp)) (es : List GM.Ed) (tg a : Int) (e : GM.Ed) : Bool := ((e.1 : Int) == a) && decide (0 < pv L es e.2 tg)
def pgo (L : List (List Fp)) (es : List GM.Ed) (tg : Int) : Nat → Int → List Int → List Int
  | 0, _, out => out
  | k + 1, a, out => if a = tg then out else match es.find? (okE L es tg a) with | none => [] | some e => pgo L es tg k e.2 (out ++ [(e.2 : Int)])
def pathV (L : List (List Fp)) (es : List GM.Ed) (fr tg : Int) : List Int := if pv L es fr tg = 0 then [] else pgo L es tg L.length fr [fr]
theorem pgo_at {L : List (List Fp)} {es : List GM.Ed} {tg a : Int} (k : Nat) (out : List Int) (h : a = tg) : pgo L es tg k a out = out := by
  cases k with
  | zero => rfl
  | succ k => unfold pgo; rw [if_pos h]
theorem pgo_none {L : List (List Fp)} {es : List GM.Ed} {tg a : Int} {k : Nat} (out : List Int) (h : a ≠ tg) (hf : es.find? (okE L es tg a) = none) : pgo L es tg (k + 1) a out = [] := by
  unfold pgo; rw [if_neg h, hf]
theorem pgo_some {L : List (List Fp)} {es : List GM.Ed} {tg a : Int} {k : Nat} {e : GM.Ed} (out : List Int) (h : a ≠ tg) (hf : es.find? (okE L es tg a) = some e) : pgo L es tg (k + 1) a out = pgo L es tg k e.2 (out ++ [(e.2 : Int)]) := by
  conv => lhs; unfold pgo
  rw [if_neg h, hf]
end IM
theorem find_miss {α : Type} {l : List α} {p : α → Bool} {i : Nat} {x : α} (h0 : (l.take i).find? p = none) (h : l[i]? = some x) (hp : p x = false) : (l.take (i + 1)).find? p = none := by
  rw [List.take_add_one, h, List.find?_append, h0]; simp [hp]
theorem find_hit {α : Type} {l : List α} {p : α → Bool} {i : Nat} {x : α} (h0 : (l.take i).find? p = none) (h : l[i]? = some x) (hp : p x = true) : l.find? p = some x := by
  rw [← List.take_append_drop i l, List.find?_append, h0]
  obtain ⟨hi, hx⟩ := List.getElem?_eq_some_iff.1 h
  rw [List.drop_eq_getElem_cons hi, hx]; simp [hp]
def slLen : Value → Nat
  | .slice _ n _ => n
  | _ => 0

set_option maxRecDepth 100000 in
set_option maxHeartbeats 8000000 in
theorem rPath (nv ev : Value) (L : List (List Fp)) (es : List GM.Ed) (fr tg : Int) (w : World) (h : RdLs RdF w nv L) (he : RdE2 w ev es) (hl : L.length ≤ 1000) (hls : ∀ f ∈ L, f.length ≤ 1000) (hel : es.length ≤ 1000000)
    (hes : ∀ e ∈ es, e.1 < L.length ∧ e.2 < L.length)
    (hbd : ∀ t, t < L.length → ∀ d, d < IM.lnL L t → ∀ k, k ≤ es.length → ∀ i, i < L.length → 0 ≤ (GM.prt (IM.lnL L) es t (IM.lnL L t - 1 - d) (GM.run (IM.lnL L) es t L.length d) k).getD i 0 ∧ (GM.prt (IM.lnL L) es t (IM.lnL L t - 1 - d) (GM.run (IM.lnL L) es t L.length d) k).getD i 0 ≤ 1152921504606846976) :
    Calls Tryz.prog 29 #[nv, ev, .int .i64 fr, .int .i64 tg] w fun e w' => ∃ v, e = .returned v ∧ OwnI w.heap.size w' v (IM.pathV L es fr tg) ∧ Below w.heap.size w w' := by
  obtain ⟨na, nc, rfl, _, _⟩ := h.shape
  obtain ⟨xa, xc, rfl, _, _⟩ := he.shape
  have HPT := Lib.hid (fun (wx : World) (hb : Below w.heap.size w wx) (b : Int) => rPaths _ _ L es b tg wx (h.below hb (fun _ _ q => q.below hb)) (he.below hb) hl hls hel hes hbd)
  have HE := Lib.hid he
  have HES := Lib.hid hes
  clear h he hes hbd hls
  obtain ⟨z0, hz0⟩ : ∃ z, z = IM.pv L es fr tg := ⟨_, rfl⟩
  have HP0 := HPT.out w (Below.refl _ _) fr
  rw [← hz0] at HP0
  replace HP0 := Lib.hid HP0
  by_cases hc : z0 = 0
  case pos =>
    subst hc
    have HV := Lib.hid (show IM.pathV L es fr tg = [] by unfold IM.pathV; rw [if_pos hz0.symm])
    clear hz0 HPT
    go_enter Tryz.func29, Tryz.ntmps29
    go_wp2_with fail
    refine HP0.out.mono ?_
    rintro e w1 ⟨rfl, hb1⟩
    have HB1 := Lib.hid hb1
    clear HP0 hb1
    go_wp2
    go_ret
    refine ⟨_, rfl, ?_, HB1.out⟩
    rw [HV.out]; exact OwnG.nil hlI _ _ _
  have hq0 : (z0 == 0) = false := beq_eq_false_iff_ne.2 hc
  have HV := Lib.hid (show IM.pathV L es fr tg = IM.pgo L es tg L.length fr [fr] by unfold IM.pathV; rw [if_neg (by rw [← hz0]; exact hc)])
  generalize IM.pathV L es fr tg = PV at HV ⊢
  clear hz0 hc
  go_enter Tryz.func29, Tryz.ntmps29
  go_wp2_with fail
  refine HP0.out.mono ?_
  rintro e w1 ⟨rfl, hb1⟩
  have HB1 := Lib.hid hb1
  clear HP0 hb1
  go_wp2
  have HO2 := Lib.hid (show OwnI w.heap.size (w1.alloc (.cells #[.int .i64 fr] 3)) (.slice (some ⟨w1.heap.size, 0, none⟩) 1 1) [fr] from (ownG_fresh hlI 3 w1 [fr] (by simp [maxLen])).mono HB1.out.size)
  have HB2 := Lib.hid (HB1.out.trans ((below_fresh w1 (.cells #[.int .i64 fr] 3)).mono HB1.out.size))
  generalize w1.alloc (.cells #[.int .i64 fr] 3) = w2 at HO2 HB2 ⊢
  clear HB1
  go_loopw [9, 10] (fun v ax wr => ∃ (k : Nat) (out : List Int) (a : Int), out.length + k = L.length + 1 ∧ ax = .int .i64 a ∧ slLen v = out.length ∧ Hid (IM.pgo L es tg k a out = PV) ∧ Hid (OwnI w.heap.size wr v out) ∧ Hid (Below w.heap.size w wr)) (fun v _ _ => L.length + 1 - slLen v)
  case atStart => exact ⟨L.length, [fr], fr, by simp; omega, rfl, rfl, Lib.hid HV.out.symm, HO2, HB2⟩
  case round =>
    obtain ⟨k, out, a, hk, rfl, hsl, hpv, hoe, hbw⟩ := hrel
    clear HO2 HB2 HV
    obtain ⟨ga, gc, hgv, _, _⟩ := hoe.out.rd.shape
    subst hgv
    obtain ⟨gn, hgn⟩ : ∃ gn, gn = out.length := ⟨_, rfl⟩
    rw [← hgn] at hk hsl hoe ⊢
    have HGN := Lib.hid hgn
    clear hgn hsl
    have hgl : gn ≤ 1001 := by omega
    by_cases hat : a = tg
    · have hq1 : (a != tg) = false := by rw [hat]; simp
      have HRS := Lib.hid ((IM.pgo_at k out hat).symm.trans hpv.out)
      clear hat hpv
      go_wp2
      go_ret
      exact ⟨_, rfl, by rw [← HRS.out]; exact hoe.out, hbw.out⟩
    have hq1 : (a != tg) = true := by simpa [bne_iff_ne] using hat
    by_cases hk0 : gn ≤ L.length
    case neg =>
      have hq2 : ¬ ((gn : Int) ≤ (L.length : Int)) := by omega
      obtain rfl : k = 0 := by omega
      have HRS := Lib.hid (show out = PV from hpv.out)
      clear hat hpv
      go_wp2
      go_ret
      exact ⟨_, rfl, by rw [← HRS.out]; exact hoe.out, hbw.out⟩
    have hq2 : (gn : Int) ≤ (L.length : Int) := by omega
    obtain ⟨k, rfl⟩ : ∃ k2, k = k2 + 1 := ⟨k - 1, by omega⟩
    have HAT := Lib.hid hat
    obtain ⟨wo, hwo⟩ : ∃ wo, wo = wr := ⟨_, rfl⟩
    rw [← hwo] at hoe hbw ⊢
    clear hwo hat
    go_wp2
    go_loopw [11, 12] (fun nx ix wr => ∃ i : Nat, i ≤ es.length ∧ ix = .int .i64 i ∧ ((nx = .int .i64 (-1) ∧ Hid ((es.take i).find? (IM.okE L es tg a) = none)) ∨ (∃ e : GM.Ed, nx = .int .i64 (e.2 : Int) ∧ Hid (es.find? (IM.okE L es tg a) = some e))) ∧ Hid (Below wo.heap.size wo wr)) (fun _ ix _ => es.length - (intOf ix).toNat)
    case atStart => exact ⟨0, Nat.zero_le _, rfl, .inl ⟨rfl, Lib.hid (by rw [List.take_zero]; rfl)⟩, Lib.hid (Below.refl _ _)⟩
    case round =>
      obtain ⟨i, hii, rfl, hdis, hbi⟩ := hrel
      rcases hdis with ⟨rfl, hno⟩ | ⟨ed, rfl, hye⟩
      case inr =>
        obtain ⟨e1, e2⟩ := ed
        have hq4 : ¬ ((e2 : Int) < 0) := by omega
        have HPN := Lib.hid ((IM.pgo_some out HAT.out hye.out).symm.trans hpv.out)
        have HGO := Lib.hid (hoe.out.below hbi.out)
        have HB4 := Lib.hid (bnext hbw.out hbi.out)
        have hs2 := HB4.out.size
        have hgl2 : out.length ≤ 1073741824 := by rw [← HGN.out]; omega
        clear hye hpv hoe hbi hbw HPT HE HES
        by_cases hil : i < es.length
        · have hq3 : (i : Int) < (es.length : Int) := by omega
          go_wp2_with (at_builtin; refine wp_appG1 intE (e2 : Int) rfl _ _ rfl rfl HGO.out rfl hgl2 hs2 ?_)
          intro v8 w8 ho8 hb8 _ _
          obtain ⟨a8, c8, hv8, _, _⟩ := ho8.rd.shape
          have hll : (out ++ [(e2 : Int)]).length = gn + 1 := by rw [List.length_append, ← HGN.out]; rfl
          rw [hll] at hv8
          subst hv8
          have HO8 := Lib.hid ho8
          have HB8 := Lib.hid (HB4.out.trans hb8)
          have HLL := Lib.hid hll
          clear ho8 hb8 HB4 hs2 hgl2 HGO hll
          go_wp2
          go_roundw
          case rel => exact ⟨k, out ++ [(e2 : Int)], (e2 : Int), by rw [HLL.out]; omega, rfl, HLL.out.symm, HPN, HO8, HB8⟩
          case measure => simp [slLen]; omega
        · have hq3 : ¬ ((i : Int) < (es.length : Int)) := by omega
          go_wp2_with (at_builtin; refine wp_appG1 intE (e2 : Int) rfl _ _ rfl rfl HGO.out rfl hgl2 hs2 ?_)
          intro v8 w8 ho8 hb8 _ _
          obtain ⟨a8, c8, hv8, _, _⟩ := ho8.rd.shape
          have hll : (out ++ [(e2 : Int)]).length = gn + 1 := by rw [List.length_append, ← HGN.out]; rfl
          rw [hll] at hv8
          subst hv8
          have HO8 := Lib.hid ho8
          have HB8 := Lib.hid (HB4.out.trans hb8)
          have HLL := Lib.hid hll
          clear ho8 hb8 HB4 hs2 hgl2 HGO hll
          go_wp2
          go_roundw
          case rel => exact ⟨k, out ++ [(e2 : Int)], (e2 : Int), by rw [HLL.out]; omega, rfl, HLL.out.symm, HPN, HO8, HB8⟩
          case measure => simp [slLen]; omega
      by_cases hil : i < es.length
      case neg =>
        have hq3 : ¬ ((i : Int) < (es.length : Int)) := by omega
        have hff := hno.out
        rw [List.take_of_length_le (by omega)] at hff
        have HPN := Lib.hid ((IM.pgo_none (k := k) out HAT.out hff).symm.trans hpv.out)
        have HB4 := Lib.hid (bnext hbw.out hbi.out)
        clear hff hno hpv hoe hbi hbw HPT HE HES
        go_wp2
        go_ret
        exact ⟨_, rfl, by rw [← HPN.out]; exact OwnG.nil hlI _ _ _, HB4.out⟩
      have hq3 : (i : Int) < (es.length : Int) := by omega
      have hek := List.getElem?_eq_getElem hil
      generalize es[i] = ed at hek
      obtain ⟨e1, e2⟩ := ed
      obtain ⟨eb, eo, hie, heb, hec⟩ := HE.out.at_ edgE i _ hek
      have c0 : w.cell? ⟨eb, eo, none⟩ = some (.int .i64 (e1 : Int)) := hec 0 _ rfl
      have c1 : w.cell? ⟨eb, eo + 1, none⟩ = some (.int .i64 (e2 : Int)) := hec 1 _ rfl
      have HC := Lib.hid (show ∀ w', Below w.heap.size w w' → w'.cell? ⟨eb, eo, none⟩ = some (.int .i64 (e1 : Int)) ∧ w'.cell? ⟨eb, eo + 1, none⟩ = some (.int .i64 (e2 : Int)) from fun w' hb => ⟨below_cell hb c0, below_cell hb c1⟩)
      obtain ⟨c0, c1⟩ := HC.out wr (bnext hbw.out hbi.out)
      clear hec heb
      have HOK := Lib.hid (show IM.okE L es tg a (e1, e2) = (((e1 : Int) == a) && decide (0 < IM.pv L es (e2 : Int) tg)) from rfl)
      by_cases hea : (e1 : Int) = a
      · have hq5 : ((e1 : Int) == a) = true := by rw [hea]; exact beq_self_eq_true a
        obtain ⟨z1, hz1⟩ : ∃ z, z = IM.pv L es (e2 : Int) tg := ⟨_, rfl⟩
        have HG := Lib.hid (HPT.out wr (bnext hbw.out hbi.out) (e2 : Int))
        rw [hq5, Bool.true_and] at HOK
        rw [← hz1] at HOK HG
        clear hz1
        by_cases hzp : 0 < z1
        · have HHT := Lib.hid (find_hit hno.out hek (HOK.out.trans (decide_eq_true hzp)))
          clear hno hek HOK hea
          go_wp2_with fail
          refine HG.out.mono ?_
          rintro e w3 ⟨rfl, hb3⟩
          have hbx := Lib.hid (bnext hbi.out hb3)
          obtain ⟨c0, c1⟩ := HC.out w3 (bnext hbw.out hbx.out)
          clear hb3 HG hbi
          go_wp2
          go_roundw
          case rel => exact ⟨i + 1, by omega, by go_num, .inr ⟨(e1, e2), rfl, HHT⟩, hbx⟩
          case measure => simp [intOf]; omega
        · have HMS := Lib.hid (find_miss hno.out hek (HOK.out.trans (decide_eq_false hzp)))
          clear hno hek HOK hea
          go_wp2_with fail
          refine HG.out.mono ?_
          rintro e w3 ⟨rfl, hb3⟩
          have hbx := Lib.hid (bnext hbi.out hb3)
          obtain ⟨c0, c1⟩ := HC.out w3 (bnext hbw.out hbx.out)
          clear hb3 HG hbi
          go_wp2
          go_roundw
          case rel => exact ⟨i + 1, by omega, by go_num, .inl ⟨rfl, HMS⟩, hbx⟩
          case measure => simp [intOf]; omega
      · have hq5 : ((e1 : Int) == a) = false := beq_eq_false_iff_ne.2 hea
        rw [hq5, Bool.false_and] at HOK
        have HMS := Lib.hid (find_miss hno.out hek HOK.out)
        clear hno hek HOK hea
        go_wp2
        go_roundw
        case rel => exact ⟨i + 1, by omega, by go_num, .inl ⟨rfl, HMS⟩, hbi⟩
        case measure => simp [intOf]; omega

end Go.Proofs.YtkgkhofkhjgnbaaGreat
