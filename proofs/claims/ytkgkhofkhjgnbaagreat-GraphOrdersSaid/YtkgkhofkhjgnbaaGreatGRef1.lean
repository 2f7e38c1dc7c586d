/-
  The calls of the reference's ContractNodes, PruneNodes and Edges: what they keep, the edges. Conditions: the nodes read.
-/
import Derived.Test.YtkgkhofkhjgnbaaGreatGPath
import Derived.Test.YtkgkhofkhjgnbaaGreatIKv
namespace Go.Proofs.YtkgkhofkhjgnbaaGreat
open Go.RowKit Go.Joins Go.Shelf
open JM (Chg)
open CM (Fp)
open VM (Ent)

theorem filter_hit {α : Type} {L : List α} {p : α → Bool} {i : Nat} {x : α} (h : L[i]? = some x) (hp : p x = true) : (L.take (i + 1)).filter p = (L.take i).filter p ++ [x] := by
  rw [List.take_add_one, h, List.filter_append]; simp [hp]
theorem filter_miss {α : Type} {L : List α} {p : α → Bool} {i : Nat} {x : α} (h : L[i]? = some x) (hp : p x = false) : (L.take (i + 1)).filter p = (L.take i).filter p := by
  rw [List.take_add_one, h, List.filter_append]; simp [hp]

set_option maxRecDepth 100000 in
set_option maxHeartbeats 4000000 in
theorem rContractN (nv bv : Value) (L : List (List Fp)) (fb : List Fp) (w : World) (h : RdLs RdF w nv L) (hb : RdF w bv fb) (hl : L.length ≤ 1000000) :
    Calls Tryz.prog 16 #[nv, bv] w fun e w' => ∃ v, e = .returned v ∧ OwnLs (fun _ u x => RdF w u x) 24 w.heap.size w' v (L.filter fun x => CM.conk x fb) ∧ Below w.heap.size w w' := by
  obtain ⟨na, nc, rfl, _, _⟩ := h.shape
  obtain ⟨ba, bc, rfl, _, _⟩ := hb.shape
  have HN := Lib.hid h
  have HBF := Lib.hid hb
  obtain ⟨lb, hlb⟩ : ∃ lb, lb = fb.length := ⟨_, rfl⟩
  rw [← hlb] at HBF ⊢
  have HLB := Lib.hid hlb
  clear h hb hlb
  go_enter Tryz.func16, Tryz.ntmps16
  go_wp2
  go_loopw [5, 6] (fun v ix wr => ∃ i : Nat, i ≤ L.length ∧ ix = .int .i64 i ∧ Hid (OwnLs (fun _ u x => RdF w u x) 24 w.heap.size wr v ((L.take i).filter fun x => CM.conk x fb)) ∧ Hid (Below w.heap.size w wr)) (fun _ ix _ => L.length - (intOf ix).toNat)
  case atStart => exact ⟨0, Nat.zero_le _, rfl, Lib.hid (by rw [List.take_zero]; exact OwnLs.nil _ _ _), Lib.hid (Below.refl _ _)⟩
  case round =>
    obtain ⟨i, hii, rfl, hoe, hbw⟩ := hrel
    obtain ⟨ea, ec, hev, _, _⟩ := hoe.out.rd.shape
    obtain ⟨en, hen⟩ : ∃ en, en = ((L.take i).filter fun x => CM.conk x fb).length := ⟨_, rfl⟩
    rw [← hen] at hev
    subst hev
    have HEN := Lib.hid hen
    clear hen
    by_cases hlt : i < L.length
    case neg =>
      have hq2 : ¬ ((i : Int) < (L.length : Int)) := by omega
      have hfo := hoe.out
      rw [List.take_of_length_le (by omega)] at hfo
      have HFO := Lib.hid hfo
      have HFB := Lib.hid hbw.out
      clear hoe hbw hfo
      go_wp2
      go_ret
      exact ⟨_, rfl, HFO.out, HFB.out⟩
    have hq2 : (i : Int) < (L.length : Int) := by omega
    have hat := List.getElem?_eq_getElem hlt
    generalize L[i] = x at hat
    obtain ⟨xb, xo, xad, xl, xcp, hix, hxb, hxc, hxo⟩ := HN.out.at_ cfgE i x hat
    have HXC := Lib.hid (show ∀ w', Below w.heap.size w w' → w'.cell? ⟨xb, xo, none⟩ = some (.slice xad xl xcp) from fun w' hb => below_cell hb hxc)
    have hxc := HXC.out wr hbw.out
    have HK := Lib.hid (rContains _ _ x fb wr (hxo.below hbw.out) (HBF.out.below hbw.out))
    have HXO := Lib.hid hxo
    cases hp : CM.conk x fb with
    | false =>
      have HNX := Lib.hid (filter_miss (p := fun x => CM.conk x fb) hat hp)
      rw [hp] at HK
      clear hat hxo hp
      go_wp2_with fail
      refine HK.out.mono ?_
      rintro e w2 ⟨rfl, hb2⟩
      have HB2 := Lib.hid (bnext hbw.out hb2)
      have HO2 := Lib.hid (show OwnLs (fun _ u x => RdF w u x) 24 w.heap.size w2 (.slice ea en ec) ((L.take (i + 1)).filter fun x => CM.conk x fb) by rw [HNX.out]; exact hoe.out.below hb2 (fun _ _ h => h))
      clear hb2 HK hoe hbw hxc
      go_wp2
      go_roundw
      case rel => exact ⟨i + 1, by omega, by go_num, HO2, HB2⟩
      case measure => simp [intOf]; omega
    | true =>
      have HNX := Lib.hid (filter_hit (p := fun x => CM.conk x fb) hat hp)
      rw [hp] at HK
      clear hat hxo hp
      go_wp2_with fail
      refine HK.out.mono ?_
      rintro e w2 ⟨rfl, hb2⟩
      have HB2 := Lib.hid (bnext hbw.out hb2)
      have hxc := HXC.out w2 HB2.out
      obtain ⟨ps, hp1, hp2, hp3⟩ := hoe.out.below hb2 (fun _ _ h => h)
      have hpl : ps.length ≤ 1073741824 := by
        have e1 := congrArg List.length hp3
        rw [List.length_map] at e1
        have e2 := List.length_filter_le (fun x => CM.conk x fb) (L.take i)
        rw [List.length_take] at e2
        omega
      have HP2 := Lib.hid hp2
      have HP3 := Lib.hid hp3
      have hs2 := HB2.out.size
      clear hb2 HK hoe hbw hp2 hp3
      go_wp2_with (at_builtin; refine wp_appG1 cfgE ((xad, xl, xcp), x) rfl _ _ rfl rfl hp1 rfl hpl hs2 ?_)
      intro v8 w8 ho8 hb8 _ _
      obtain ⟨a8, l8, c8, hv8⟩ : ∃ a l c, v8 = .slice a l c := by obtain ⟨a, c, h, _⟩ := ho8.rd.shape; exact ⟨a, _, c, h⟩
      subst hv8
      have HFO := Lib.hid (show OwnLs (fun _ u x => RdF w u x) 24 w.heap.size w8 (.slice a8 l8 c8) ((L.take (i + 1)).filter fun x => CM.conk x fb) by
        rw [HNX.out]
        exact OwnLs.snoc (R := fun _ u x => RdF w u x) (w := w) HP2.out HP3.out ho8 (fun _ _ h => h) HXO.out)
      have HB8 := Lib.hid (HB2.out.trans hb8)
      clear ho8 hb8 hp1 HP2 HP3 HB2 hs2 hpl hxc
      go_wp2
      go_roundw
      case rel => exact ⟨i + 1, by omega, by go_num, HFO, HB8⟩
      case measure => simp [intOf]; omega

set_option maxRecDepth 100000 in
set_option maxHeartbeats 4000000 in
theorem rPruneN (nv bv : Value) (L : List (List Fp)) (fb : List Fp) (w : World) (h : RdLs RdF w nv L) (hb : RdF w bv fb) (hl : L.length ≤ 1000000) :
    Calls Tryz.prog 21 #[nv, bv] w fun e w' => ∃ v, e = .returned v ∧ OwnLs (fun _ u x => RdF w u x) 24 w.heap.size w' v (L.filter fun x => CM.conk x fb || CM.conk fb x) ∧ Below w.heap.size w w' := by
  obtain ⟨na, nc, rfl, _, _⟩ := h.shape
  obtain ⟨ba, bc, rfl, _, _⟩ := hb.shape
  have HN := Lib.hid h
  have HBF := Lib.hid hb
  obtain ⟨lb, hlb⟩ : ∃ lb, lb = fb.length := ⟨_, rfl⟩
  rw [← hlb] at HBF ⊢
  have HLB := Lib.hid hlb
  clear h hb hlb
  go_enter Tryz.func21, Tryz.ntmps21
  go_wp2
  go_loopw [5, 6] (fun v ix wr => ∃ i : Nat, i ≤ L.length ∧ ix = .int .i64 i ∧ Hid (OwnLs (fun _ u x => RdF w u x) 24 w.heap.size wr v ((L.take i).filter fun x => CM.conk x fb || CM.conk fb x)) ∧ Hid (Below w.heap.size w wr)) (fun _ ix _ => L.length - (intOf ix).toNat)
  case atStart => exact ⟨0, Nat.zero_le _, rfl, Lib.hid (by rw [List.take_zero]; exact OwnLs.nil _ _ _), Lib.hid (Below.refl _ _)⟩
  case round =>
    obtain ⟨i, hii, rfl, hoe, hbw⟩ := hrel
    obtain ⟨ea, ec, hev, _, _⟩ := hoe.out.rd.shape
    obtain ⟨en, hen⟩ : ∃ en, en = ((L.take i).filter fun x => CM.conk x fb || CM.conk fb x).length := ⟨_, rfl⟩
    rw [← hen] at hev
    subst hev
    have HEN := Lib.hid hen
    clear hen
    by_cases hlt : i < L.length
    case neg =>
      have hq2 : ¬ ((i : Int) < (L.length : Int)) := by omega
      have hfo := hoe.out
      rw [List.take_of_length_le (by omega)] at hfo
      have HFO := Lib.hid hfo
      have HFB := Lib.hid hbw.out
      clear hoe hbw hfo
      go_wp2
      go_ret
      exact ⟨_, rfl, HFO.out, HFB.out⟩
    have hq2 : (i : Int) < (L.length : Int) := by omega
    have hat := List.getElem?_eq_getElem hlt
    generalize L[i] = x at hat
    obtain ⟨xb, xo, xad, xl, xcp, hix, hxb, hxc, hxo⟩ := HN.out.at_ cfgE i x hat
    have HXC := Lib.hid (show ∀ w', Below w.heap.size w w' → w'.cell? ⟨xb, xo, none⟩ = some (.slice xad xl xcp) from fun w' hb => below_cell hb hxc)
    have hxc := HXC.out wr hbw.out
    have HK := Lib.hid (rContains _ _ x fb wr (hxo.below hbw.out) (HBF.out.below hbw.out))
    have HKB := Lib.hid (fun w' (hb : Below wr.heap.size wr w') => rContains _ _ fb x w' (HBF.out.below (bnext hbw.out hb)) (hxo.below (bnext hbw.out hb)))
    have HXO := Lib.hid hxo
    cases hp : CM.conk x fb with
    | true =>
      have HNX := Lib.hid (filter_hit (p := fun x => CM.conk x fb || CM.conk fb x) hat (by rw [hp]; rfl))
      rw [hp] at HK
      clear hat hxo hp HKB
      go_wp2_with fail
      refine HK.out.mono ?_
      rintro e w2 ⟨rfl, hb2⟩
      have HB2 := Lib.hid (bnext hbw.out hb2)
      have hxc := HXC.out w2 HB2.out
      obtain ⟨ps, hp1, hp2, hp3⟩ := hoe.out.below hb2 (fun _ _ h => h)
      have hpl : ps.length ≤ 1073741824 := by
        have e1 := congrArg List.length hp3
        rw [List.length_map] at e1
        have e2 := List.length_filter_le (fun x => CM.conk x fb || CM.conk fb x) (L.take i)
        rw [List.length_take] at e2
        omega
      have HP2 := Lib.hid hp2
      have HP3 := Lib.hid hp3
      have hs2 := HB2.out.size
      clear hb2 HK hoe hbw hp2 hp3
      go_wp2_with (at_builtin; refine wp_appG1 cfgE ((xad, xl, xcp), x) rfl _ _ rfl rfl hp1 rfl hpl hs2 ?_)
      intro v8 w8 ho8 hb8 _ _
      obtain ⟨a8, l8, c8, hv8⟩ : ∃ a l c, v8 = .slice a l c := by obtain ⟨a, c, h, _⟩ := ho8.rd.shape; exact ⟨a, _, c, h⟩
      subst hv8
      have HFO := Lib.hid (show OwnLs (fun _ u x => RdF w u x) 24 w.heap.size w8 (.slice a8 l8 c8) ((L.take (i + 1)).filter fun x => CM.conk x fb || CM.conk fb x) by
        rw [HNX.out]
        exact OwnLs.snoc (R := fun _ u x => RdF w u x) (w := w) HP2.out HP3.out ho8 (fun _ _ h => h) HXO.out)
      have HB8 := Lib.hid (HB2.out.trans hb8)
      clear ho8 hb8 hp1 HP2 HP3 HB2 hs2 hpl hxc
      go_wp2
      go_roundw
      case rel => exact ⟨i + 1, by omega, by go_num, HFO, HB8⟩
      case measure => simp [intOf]; omega
    | false =>
      cases hp2 : CM.conk fb x with
      | false =>
        have HNX := Lib.hid (filter_miss (p := fun x => CM.conk x fb || CM.conk fb x) hat (by rw [hp, hp2]; rfl))
        rw [hp] at HK
        rw [hp2] at HKB
        clear hat hxo hp hp2
        go_wp2_with fail
        refine HK.out.mono ?_
        rintro e w1 ⟨rfl, hb1⟩
        have hxc := HXC.out w1 (bnext hbw.out hb1)
        have HB1 := Lib.hid hb1
        clear hb1 HK
        go_wp2_with fail
        refine (HKB.out w1 HB1.out).mono ?_
        rintro e w2 ⟨rfl, hb2'⟩
        have hb2 := bnext HB1.out hb2'
        clear hb2' HB1
        have HB2 := Lib.hid (bnext hbw.out hb2)
        have HO2 := Lib.hid (show OwnLs (fun _ u x => RdF w u x) 24 w.heap.size w2 (.slice ea en ec) ((L.take (i + 1)).filter fun x => CM.conk x fb || CM.conk fb x) by rw [HNX.out]; exact hoe.out.below hb2 (fun _ _ h => h))
        clear hb2 HKB hoe hbw hxc
        go_wp2
        go_roundw
        case rel => exact ⟨i + 1, by omega, by go_num, HO2, HB2⟩
        case measure => simp [intOf]; omega
      | true =>
        have HNX := Lib.hid (filter_hit (p := fun x => CM.conk x fb || CM.conk fb x) hat (by rw [hp, hp2]; rfl))
        rw [hp] at HK
        rw [hp2] at HKB
        clear hat hxo hp hp2
        go_wp2_with fail
        refine HK.out.mono ?_
        rintro e w1 ⟨rfl, hb1⟩
        have hxc := HXC.out w1 (bnext hbw.out hb1)
        have HB1 := Lib.hid hb1
        clear hb1 HK
        go_wp2_with fail
        refine (HKB.out w1 HB1.out).mono ?_
        rintro e w2 ⟨rfl, hb2'⟩
        have hb2 := bnext HB1.out hb2'
        clear hb2' HB1
        have HB2 := Lib.hid (bnext hbw.out hb2)
        have hxc := HXC.out w2 HB2.out
        obtain ⟨ps, hp1, hp2, hp3⟩ := hoe.out.below hb2 (fun _ _ h => h)
        have hpl : ps.length ≤ 1073741824 := by
          have e1 := congrArg List.length hp3
          rw [List.length_map] at e1
          have e2 := List.length_filter_le (fun x => CM.conk x fb || CM.conk fb x) (L.take i)
          rw [List.length_take] at e2
          omega
        have HP2 := Lib.hid hp2
        have HP3 := Lib.hid hp3
        have hs2 := HB2.out.size
        clear hb2 HKB hoe hbw hp2 hp3
        go_wp2_with (at_builtin; refine wp_appG1 cfgE ((xad, xl, xcp), x) rfl _ _ rfl rfl hp1 rfl hpl hs2 ?_)
        intro v8 w8 ho8 hb8 _ _
        obtain ⟨a8, l8, c8, hv8⟩ : ∃ a l c, v8 = .slice a l c := by obtain ⟨a, c, h, _⟩ := ho8.rd.shape; exact ⟨a, _, c, h⟩
        subst hv8
        have HFO := Lib.hid (show OwnLs (fun _ u x => RdF w u x) 24 w.heap.size w8 (.slice a8 l8 c8) ((L.take (i + 1)).filter fun x => CM.conk x fb || CM.conk fb x) by
          rw [HNX.out]
          exact OwnLs.snoc (R := fun _ u x => RdF w u x) (w := w) HP2.out HP3.out ho8 (fun _ _ h => h) HXO.out)
        have HB8 := Lib.hid (HB2.out.trans hb8)
        clear ho8 hb8 hp1 HP2 HP3 HB2 hs2 hpl hxc
        go_wp2
        go_roundw
        case rel => exact ⟨i + 1, by omega, by go_num, HFO, HB8⟩
        case measure => simp [intOf]; omega

/-! ### Edges -/
def encE2 (e : GM.Ed) : List Value := [.int .i64 e.1, .int .i64 e.2]
theorem hlE2 : 0 < 2 ∧ ∀ x, (encE2 x).length = 2 := ⟨by decide, fun _ => rfl⟩
theorem edgE : IsElem Tryz.prog 29 69 2 16 encE2 where
  ht := Tryz.underlying29
  info := by
    obtain ⟨i0, hi, hz0, hz1, hz2⟩ := info_parts (show (Tryz.prog.info? 69).map (fun i => (i.zero, i.size, i.bytes)) = some (some (.agg #[.int .i64 0, .int .i64 0]), 2, 16) by kernel_rfl)
    exact ⟨i0, _, hi, hz0, hz1, hz2, rfl⟩
  len := fun _ => rfl
  one := by intro x u hu; simp [encE2] at hu; rcases hu with rfl | rfl <;> rfl
  pos := by decide
  fits := by decide
abbrev RdE2 := RdG encE2 2
abbrev OwnE2 := OwnG encE2 69 2
namespace IM
/-- Node j is node i with one proposal more. -/
def isE (L : List (List Fp)) (i j : Nat) : Bool := decide ((L.getD j []).length = (L.getD i []).length + 1) && CM.conk (L.getD j []) (L.getD i [])
def row2 (L : List (List Fp)) (i m : Nat) : List GM.Ed := ((List.range m).filter fun j => isE L i j).map fun j => (i, j)
def edgT (L : List (List Fp)) (m : Nat) : List GM.Ed := (List.range m).flatMap fun i => row2 L i L.length
/-- The edges, as the reference gives them. -/
def edgK (L : List (List Fp)) : List GM.Ed := edgT L L.length
theorem row2_hit {L : List (List Fp)} {i m : Nat} (h : isE L i m = true) : row2 L i (m + 1) = row2 L i m ++ [(i, m)] := by unfold row2; rw [List.range_succ, List.filter_append]; simp [h]
theorem row2_miss {L : List (List Fp)} {i m : Nat} (h : isE L i m = false) : row2 L i (m + 1) = row2 L i m := by unfold row2; rw [List.range_succ, List.filter_append]; simp [h]
theorem edgT_snoc (L : List (List Fp)) (m : Nat) : edgT L (m + 1) = edgT L m ++ row2 L m L.length := by unfold edgT; rw [List.range_succ, List.flatMap_append]; simp
theorem row2_len (L : List (List Fp)) (i m : Nat) : (row2 L i m).length ≤ m := by unfold row2; rw [List.length_map]; exact Nat.le_trans (List.length_filter_le _ _) (by simp)
theorem edgT_len (L : List (List Fp)) (m : Nat) : (edgT L m).length ≤ m * L.length := by
  induction m with
  | zero => simp [edgT]
  | succ m ih => rw [edgT_snoc, List.length_append, Nat.add_mul, Nat.one_mul]; have := row2_len L m L.length; omega
theorem isE_of {L : List (List Fp)} {i j : Nat} {f g : List Fp} (hi : L[i]? = some f) (hj : L[j]? = some g) : isE L i j = (decide (g.length = f.length + 1) && CM.conk g f) := by
  unfold isE
  rw [List.getD_eq_getElem?_getD, List.getD_eq_getElem?_getD, hi, hj]; rfl
end IM

set_option maxRecDepth 100000 in
set_option maxHeartbeats 4000000 in
theorem rEdges (nv : Value) (L : List (List Fp)) (w : World) (h : RdLs RdF w nv L) (hl : L.length ≤ 1000) (hls : ∀ f ∈ L, f.length ≤ 1000) :
    Calls Tryz.prog 27 #[nv] w fun e w' => ∃ v, e = .returned v ∧ OwnE2 w.heap.size w' v (IM.edgK L) ∧ Below w.heap.size w w' := by
  obtain ⟨na, nc, rfl, _, _⟩ := h.shape
  have HN := Lib.hid h
  clear h
  have hKK : IM.edgK L = IM.edgT L L.length := rfl
  rw [hKK]
  clear hKK
  go_enter Tryz.func27, Tryz.ntmps27
  go_wp2
  go_loopw [3, 4] (fun v ix wr => ∃ i : Nat, i ≤ L.length ∧ ix = .int .i64 i ∧ Hid (OwnE2 w.heap.size wr v (IM.edgT L i)) ∧ Hid (Below w.heap.size w wr)) (fun _ ix _ => L.length - (intOf ix).toNat)
  case atStart => exact ⟨0, Nat.zero_le _, rfl, Lib.hid (OwnG.nil hlE2 _ _ _), Lib.hid (Below.refl _ _)⟩
  case round =>
    obtain ⟨i, hii, rfl, hoe, hbw⟩ := hrel
    obtain ⟨ea, ec, hev, _, _⟩ := hoe.out.rd.shape
    obtain ⟨en, hen⟩ : ∃ en, en = (IM.edgT L i).length := ⟨_, rfl⟩
    rw [← hen] at hev
    subst hev
    have HEN := Lib.hid hen
    clear hen
    by_cases hlt : i < L.length
    case neg =>
      have hq2 : ¬ ((i : Int) < (L.length : Int)) := by omega
      obtain rfl : i = L.length := by omega
      clear hlt hii
      go_wp2
      go_ret
      exact ⟨_, rfl, hoe.out, hbw.out⟩
    have hq2 : (i : Int) < (L.length : Int) := by omega
    have hat := List.getElem?_eq_getElem hlt
    generalize L[i] = f at hat
    have HAT := Lib.hid hat
    obtain ⟨xb, xo, xad, xl, xcp, hix, hxb, hxc, hxo⟩ := HN.out.at_ cfgE i f hat
    obtain ⟨fa', fc', hfs, _, _⟩ := hxo.shape
    obtain rfl : xl = f.length := by cases hfs; rfl
    have HFL := Lib.hid (show (IM.edgT L i).length ≤ 1000000 by
      have h1 := IM.edgT_len L i
      have h2 : i * L.length ≤ 1000 * 1000 := Nat.mul_le_mul (by omega) hl
      omega)
    have hfl : f.length ≤ 1000 := hls f (List.mem_of_getElem? hat)
    have HXC := Lib.hid (show ∀ w', Below w.heap.size w w' → w'.cell? ⟨xb, xo, none⟩ = some (.slice xad f.length xcp) from fun w' hb => below_cell hb hxc)
    have HIX := Lib.hid hix
    have HXO := Lib.hid hxo
    have HO3 := Lib.hid (show OwnE2 w.heap.size wr (.slice ea en ec) (IM.edgT L i ++ IM.row2 L i 0) by rw [show IM.row2 L i 0 = [] from rfl, List.append_nil]; exact hoe.out)
    have HB3 := hbw
    clear hat hxo hxc hix hxb hfs hoe hbw
    go_wp2
    go_loopw [3, 5] (fun v jx wr => ∃ j : Nat, j ≤ L.length ∧ jx = .int .i64 j ∧ Hid (OwnE2 w.heap.size wr v (IM.edgT L i ++ IM.row2 L i j)) ∧ Hid (Below w.heap.size w wr)) (fun _ jx _ => L.length - (intOf jx).toNat)
    case atStart => exact ⟨0, Nat.zero_le _, rfl, HO3, HB3⟩
    case round =>
      obtain ⟨j, hjj, rfl, hoi, hbv⟩ := hrel
      clear HO3 HB3
      obtain ⟨ga, gc, hgv, _, _⟩ := hoi.out.rd.shape
      obtain ⟨gn, hgn⟩ : ∃ gn, gn = (IM.edgT L i ++ IM.row2 L i j).length := ⟨_, rfl⟩
      rw [← hgn] at hgv
      subst hgv
      have HGN := Lib.hid hgn
      clear hgn
      by_cases hlj : j < L.length
      case neg =>
        have hq3 : ¬ ((j : Int) < (L.length : Int)) := by omega
        obtain rfl : j = L.length := by omega
        have HO := Lib.hid (show OwnE2 w.heap.size wr (.slice ga gn gc) (IM.edgT L (i + 1)) by rw [IM.edgT_snoc]; exact hoi.out)
        clear hoi hlj hjj
        go_wp2
        go_roundw
        case rel => exact ⟨i + 1, by omega, by go_num, HO, hbv⟩
        case measure => simp [intOf]; omega
      have hq3 : (j : Int) < (L.length : Int) := by omega
      have hatj := List.getElem?_eq_getElem hlj
      generalize L[j] = g at hatj
      obtain ⟨yb, yo, yad, yl, ycp, hiy, hyb, hyc, hyo⟩ := HN.out.at_ cfgE j g hatj
      obtain ⟨fb', fd', hgs, _, _⟩ := hyo.shape
      obtain rfl : yl = g.length := by cases hgs; rfl
      have hgl : g.length ≤ 1000 := hls g (List.mem_of_getElem? hatj)
      have hE := IM.isE_of HAT.out hatj
      have kx : ∀ p : Later wr, p.val.cell? ⟨xb, xo, none⟩ = some (.slice xad f.length xcp) := fun p => HXC.out _ (bnext hbv.out p.h)
      have ky : ∀ p : Later wr, p.val.cell? ⟨yb, yo, none⟩ = some (.slice yad g.length ycp) := fun p => below_cell (bnext hbv.out p.h) hyc
      have HG := Lib.hid (fun p : Later wr => Calls.later (rContains _ _ g f p.val (hyo.below (bnext hbv.out p.h)) (HXO.out.below (bnext hbv.out p.h))))
      have hix := HIX.out
      clear hatj hyc hyo hgs hyb
      by_cases hle : g.length = f.length + 1
      · have hl1 : ((g.length : Int) == (f.length : Int) + 1) = true := by simpa using (show (g.length : Int) = (f.length : Int) + 1 by omega)
        rw [decide_eq_true hle, Bool.true_and] at hE
        cases hp : CM.conk g f with
        | true =>
          rw [hp] at hE HG
          have HNX := Lib.hid (IM.row2_hit hE)
          clear hE hp hle
          go_wp2
          refine wp_region_later (by kernel_rfl) (by kernel_rfl) ?_
          repeat (go_big_quiet_step (first | (go_at_call 31; with_reducible exact HG.out _)))
          refine wpQuiet_nil ?_
          rintro _ ⟨p', rfl⟩
          have hox := Lib.hid (hoi.out.below p'.h)
          have hbx := Lib.hid (bnext hbv.out p'.h)
          generalize p'.val = wr2 at hox hbx ⊢
          clear kx ky hoi hbv hix hiy
          clear HG hl1
          obtain ⟨wz, hwz⟩ : ∃ wz, wz = wr2 := ⟨_, rfl⟩
          rw [← hwz] at hox hbx ⊢
          clear hwz
          have hyl : (IM.edgT L i ++ IM.row2 L i j).length ≤ 1073741824 := by
            have h1 := HFL.out
            have h2 := IM.row2_len L i j
            rw [List.length_append]; omega
          have hsz := hbx.out.size
          have ho := hox.out
          clear hox
          go_wp2_with (at_builtin; refine wp_appG1 edgE (i, j) rfl _ _ rfl rfl ho rfl hyl hsz ?_)
          intro v8 w8 ho8 hb8 _ _
          obtain ⟨a8, l8, c8, hv8⟩ : ∃ a l c, v8 = .slice a l c := by obtain ⟨a, c, h, _⟩ := ho8.rd.shape; exact ⟨a, _, c, h⟩
          subst hv8
          have HO8 := Lib.hid (show OwnE2 w.heap.size w8 (.slice a8 l8 c8) (IM.edgT L i ++ IM.row2 L i (j + 1)) by rw [HNX.out]; simpa only [List.append_assoc] using ho8)
          have HB8 := Lib.hid (hbx.out.trans hb8)
          clear ho8 hb8 ho hyl hsz hbx
          go_wp2
          go_roundw
          case rel => exact ⟨j + 1, by omega, by go_num, HO8, HB8⟩
          case measure => simp [intOf]; omega
        | false =>
          rw [hp] at hE HG
          have HNX := Lib.hid (IM.row2_miss hE)
          clear hE hp hle
          go_wp2
          refine wp_region_later (by kernel_rfl) (by kernel_rfl) ?_
          repeat (go_big_quiet_step (first | (go_at_call 31; with_reducible exact HG.out _)))
          refine wpQuiet_nil ?_
          rintro _ ⟨p', rfl⟩
          have hox := Lib.hid (hoi.out.below p'.h)
          have hbx := Lib.hid (bnext hbv.out p'.h)
          generalize p'.val = wr2 at hox hbx ⊢
          clear kx ky hoi hbv hix hiy
          clear HG hl1
          have HO8 := Lib.hid (show OwnE2 w.heap.size wr2 (.slice ga gn gc) (IM.edgT L i ++ IM.row2 L i (j + 1)) by rw [HNX.out]; exact hox.out)
          clear hox
          go_wp2
          go_roundw
          case rel => exact ⟨j + 1, by omega, by go_num, HO8, hbx⟩
          case measure => simp [intOf]; omega
      · have hl1 : ((g.length : Int) == (f.length : Int) + 1) = false := beq_eq_false_iff_ne.2 (by omega)
        rw [decide_eq_false hle, Bool.false_and] at hE
        have HNX := Lib.hid (IM.row2_miss hE)
        clear hE HG hle
        go_wp2
        refine wp_region_later (by kernel_rfl) (by kernel_rfl) ?_
        repeat (go_big_quiet_step (fail))
        refine wpQuiet_nil ?_
        rintro _ ⟨p', rfl⟩
        have hox := Lib.hid (hoi.out.below p'.h)
        have hbx := Lib.hid (bnext hbv.out p'.h)
        generalize p'.val = wr2 at hox hbx ⊢
        clear kx ky hoi hbv hix hiy
        clear hl1
        have HO8 := Lib.hid (show OwnE2 w.heap.size wr2 (.slice ga gn gc) (IM.edgT L i ++ IM.row2 L i (j + 1)) by rw [HNX.out]; exact hox.out)
        clear hox
        go_wp2
        go_roundw
        case rel => exact ⟨j + 1, by omega, by go_num, HO8, hbx⟩
        case measure => simp [intOf]; omega

end Go.Proofs.YtkgkhofkhjgnbaaGreat
