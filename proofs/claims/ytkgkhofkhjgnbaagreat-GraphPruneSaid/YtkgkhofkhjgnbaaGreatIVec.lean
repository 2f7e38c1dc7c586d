/-
  The call of interval.vectors at valid configurations: the vectors between the two, in their order.
-/
import Derived.Test.YtkgkhofkhjgnbaaGreatIWit
namespace Go.Proofs.YtkgkhofkhjgnbaaGreat
open Go.RowKit Go.Joins Go.Shelf
open JM (Chg)
open CM (Fp)
open VM (Ent)

namespace IM
/-- A vector with m counts of the author a, from lo on. -/
def row (v : List Ent) (a lo : Int) (m : Nat) : List (List Ent) := (List.range m).map fun i : Nat => VM.wi v a (lo + (i : Int))
def num (lo hi : Int) : Nat := (hi - lo + 1).toNat
def step (L : List (List Ent)) (a lo hi : Int) : List (List Ent) := L.flatMap fun v => row v a lo (num lo hi)
/-- The vectors when j authors are done. -/
def vs (lo hi : Int → Int) : Nat → List (List Ent)
  | 0 => [[]]
  | j + 1 => step (vs lo hi j) (201 + (j : Int)) (lo (201 + (j : Int))) (hi (201 + (j : Int)))
theorem row_snoc (v : List Ent) (a lo : Int) (m : Nat) : row v a lo (m + 1) = row v a lo m ++ [VM.wi v a (lo + (m : Int))] := by simp [row, List.range_succ]
end IM

set_option maxRecDepth 100000 in
set_option maxHeartbeats 4000000 in
theorem cVectors (va vb : Value) (fa fb : List Fp) (w : World) (h1 : RdF w va fa) (h2 : RdF w vb fb) (o1 : CM.Ok fa) (o2 : CM.Ok fb) (hc : CM.cons fb fa = true)
    (hval : ∀ j, j ≤ 3 → ∀ x ∈ IM.vs (VM.cnt (CM.vo fa)) (VM.cnt (CM.vo fb)) j, VM.Val 0 x ∧ x.length ≤ 1000) (hlen : ∀ j, j ≤ 3 → (IM.vs (VM.cnt (CM.vo fa)) (VM.cnt (CM.vo fb)) j).length ≤ 1000)
    (hA : VM.Val 0 (CM.vo fa)) (hB : VM.Val 0 (CM.vo fb)) (hla : (CM.vo fa).length ≤ 1000) (hlb : (CM.vo fb).length ≤ 1000) (hlo : ∀ a, 0 ≤ VM.cnt (CM.vo fa) a) (hhi : ∀ a, VM.cnt (CM.vo fb) a ≤ 1000) (hab : ∀ a, VM.cnt (CM.vo fa) a ≤ VM.cnt (CM.vo fb) a) (hself : CM.cons fa fa = true) :
    Calls Tryz.prog 59 #[va, vb] w fun e w' => ∃ v, e = .returned v ∧ RdLs (fun w u x => VX.RdV w u x) w' v (IM.vs (VM.cnt (CM.vo fa)) (VM.cnt (CM.vo fb)) 3) ∧ Below w.heap.size w w' := by
  have HWI := Lib.hid (cWithin va vb va fa fb fa w h1 h2 h1 o1 o2 o1)
  rw [hc, hself] at HWI
  have HV1 := Lib.hid (fun w' (hb : Below w.heap.size w w') => gVector va fa w' (h1.below hb) (by have := o1.nine; omega))
  have HV2 := Lib.hid (fun w' (hb : Below w.heap.size w w') => gVector vb fb w' (h2.below hb) (by have := o2.nine; omega))
  obtain ⟨a, ca, rfl, _, _⟩ := h1.shape
  obtain ⟨b, cb, rfl, _, _⟩ := h2.shape
  generalize fa.length = lla at *
  generalize fb.length = llb at *
  generalize CM.vo fa = VA at *
  generalize CM.vo fb = VB at *
  have HVAL := Lib.hid hval
  have HLEN := Lib.hid hlen
  have HGA := Lib.hid (fun u x w' (h : VX.RdV w' u VA) => VX.wGet u VA x w' h hA hla)
  have HGB := Lib.hid (fun u x w' (h : VX.RdV w' u VB) => VX.wGet u VB x w' h hB hlb)
  obtain ⟨lo, hlo'⟩ : ∃ lo, lo = VM.cnt VA := ⟨_, rfl⟩
  obtain ⟨hi, hhi'⟩ : ∃ hi, hi = VM.cnt VB := ⟨_, rfl⟩
  rw [← hlo'] at HGA
  rw [← hhi'] at HGB
  rw [← hlo', ← hhi'] at HVAL HLEN ⊢
  rw [← hlo'] at hlo hab
  rw [← hhi'] at hhi hab
  clear h1 h2 o1 o2 hc hval hlen hA hB hla hlb hself hlo' hhi'
  go_enter Tryz.func59, Tryz.ntmps59
  go_wp2_with fail
  refine HWI.out.mono ?_
  rintro e w1 ⟨rfl, hb1⟩
  go_wp2_with fail
  refine (HV1.out _ hb1).mono ?_
  rintro e w2 ⟨u2, rfl, hu2, hb2⟩
  replace hb2 := bnext hb1 hb2
  obtain ⟨a2, c2, rfl, _, _⟩ := hu2.rd.shape
  have HU2 := Lib.hid hu2.rdV
  clear hu2 HV1 HWI hb1
  go_wp2_with fail
  refine (HV2.out _ hb2).mono ?_
  rintro e w3 ⟨u3, rfl, hu3, hb3⟩
  obtain ⟨a3, c3, rfl, _, _⟩ := hu3.rd.shape
  have HU3 := Lib.hid hu3.rdV
  have HB3 := Lib.hid (bnext hb2 hb3)
  have HU2' := Lib.hid (show VX.RdV w3 (.slice a2 VA.length c2) VA from HU2.out.below hb3)
  clear hu3 HV2 hb2 hb3 HU2
  have hz0 := World.size_alloc w3 (.cells #[.slice none 0 0] 65)
  have HL0 := Lib.hid (show OwnLs (fun w u x => OwnE w3.heap.size w u x) 65 w3.heap.size (w3.alloc (.cells #[.slice none 0 0] 65)) (.slice (some ⟨w3.heap.size, 0, none⟩) 1 1) (IM.vs lo hi 0) from
    ⟨[((none, 0, 0), [])], ownG_fresh hlL 65 w3 [((none, 0, 0), ([] : List Ent))] (by unfold maxLen; simp), by intro p hp; rw [List.mem_singleton] at hp; subst hp; exact OwnG.nil hlE _ _ _, rfl⟩)
  have HBL := Lib.hid (below_fresh w3 (.cells #[.slice none 0 0] 65))
  obtain ⟨w4, hw4⟩ : ∃ w4, w3.alloc (.cells #[.slice none 0 0] 65) = w4 := ⟨_, rfl⟩
  have HW4 := Lib.hid hw4
  rw [hw4] at HL0 HBL
  clear hz0 hw4
  go_wp2
  rw [HW4.out]
  clear HW4
  go_loopw [7, 8] (fun v ad wr => ∃ j : Nat, j ≤ 3 ∧ ad = .int .i64 (201 + (j : Int)) ∧ Hid (OwnLs (fun w u x => OwnE w3.heap.size w u x) 65 w3.heap.size wr v (IM.vs lo hi j)) ∧ Hid (Below w3.heap.size w3 wr)) (fun _ ad _ => 204 - (intOf ad).toNat)
  case atStart => exact ⟨0, Nat.zero_le _, rfl, HL0, HBL⟩
  case round =>
    obtain ⟨j, hj, rfl, hol, hbl⟩ := hrel
    clear HL0 HBL
    obtain ⟨la, lc, rfl, hcl, hll⟩ := hol.out.rd.shape
    have hjl := HLEN.out j hj
    by_cases hlt : j < 3
    case neg =>
      obtain rfl : j = 3 := by omega
      have hq : ¬ ((201 : Int) + ((3 : Nat) : Int) < 204) := by omega
      have HR := Lib.hid (hol.out.rd.imp (fun u x h => h.rdV))
      have HBF := Lib.hid (bnext HB3.out hbl.out)
      clear hol hbl hlt HVAL HLEN
      go_wp2
      go_ret
      exact ⟨_, rfl, HR.out, HBF.out⟩
    have hq : (201 : Int) + (j : Int) < 204 := by omega
    obtain ⟨wo, hwo⟩ : ∃ wo, wo = wr := ⟨_, rfl⟩
    rw [← hwo] at hol hbl ⊢
    clear hwo
    have hvs : IM.vs lo hi (j + 1) = (IM.vs lo hi j).flatMap fun v => IM.row v (201 + (j : Int)) (lo (201 + (j : Int))) (IM.num (lo (201 + (j : Int))) (hi (201 + (j : Int)))) := rfl
    have HVS := Lib.hid hvs
    have HVJ := Lib.hid (HVAL.out j hj)
    have HLJ := Lib.hid (HLEN.out (j + 1) (by omega))
    generalize hA : (201 : Int) + (j : Int) = A at *
    have hA1 : 1 ≤ A := by omega
    obtain ⟨l0, hl0⟩ : ∃ l0, l0 = lo A := ⟨_, rfl⟩
    obtain ⟨h0, hh0⟩ : ∃ h0, h0 = hi A := ⟨_, rfl⟩
    have b1 := hlo A
    have b2 := hhi A
    have b3 := hab A
    have HG1 := Lib.hid (fun w' (h : Below w3.heap.size w3 w') => HGA.out _ A w' (HU2'.out.below h))
    have HG2 := Lib.hid (fun w' (h : Below w3.heap.size w3 w') => HGB.out _ A w' (HU3.out.below h))
    rw [← hl0] at HG1 HVS b1 b3
    rw [← hh0] at HG2 HVS b2 b3
    obtain ⟨M, hM⟩ : ∃ M, M = IM.num l0 h0 := ⟨_, rfl⟩
    rw [← hM] at HVS
    have hMe : (M : Int) = h0 - l0 + 1 := by rw [hM]; unfold IM.num; omega
    clear hvs hl0 hh0 hM
    have HOL := Lib.hid hol.out.rd
    have HBO := Lib.hid hbl.out
    have hszo := hbl.out.size
    clear hol hbl
    go_wp2
    go_loopw [9, 29] (fun v ix wr => ∃ i : Nat, i ≤ (IM.vs lo hi j).length ∧ ix = .int .i64 i ∧ Hid (OwnLs (fun w u x => OwnE w3.heap.size w u x) 65 wo.heap.size wr v (((IM.vs lo hi j).take i).flatMap fun v => IM.row v A l0 M)) ∧ Hid (Below wo.heap.size wo wr)) (fun _ ix _ => (IM.vs lo hi j).length - (intOf ix).toNat)
    case atStart => exact ⟨0, Nat.zero_le _, rfl, Lib.hid (by rw [List.take_zero]; exact OwnLs.nil _ _ _), Lib.hid (Below.refl _ _)⟩
    case round =>
      obtain ⟨i, hii, rfl, hoe, hbw⟩ := hrel
      obtain ⟨ea, ec, hev, hec, hel⟩ := hoe.out.rd.shape
      obtain ⟨en, hen⟩ : ∃ en, en = (((IM.vs lo hi j).take i).flatMap fun v => IM.row v A l0 M).length := ⟨_, rfl⟩
      rw [← hen] at hev hel
      subst hev
      have HEN := Lib.hid hen
      clear hen
      by_cases hlt2 : i < (IM.vs lo hi j).length
      case neg =>
        have hq2 : ¬ ((i : Int) < ((IM.vs lo hi j).length : Int)) := by omega
        have HFO := Lib.hid (show OwnLs (fun w u x => OwnE w3.heap.size w u x) 65 w3.heap.size wr (.slice ea en ec) (IM.vs lo hi (j + 1)) by
          rw [HVS.out, ← List.take_of_length_le (l := IM.vs lo hi j) (i := i) (by omega)]
          exact hoe.out.mono hszo)
        have HFB := Lib.hid (show Below w3.heap.size w3 wr from bnext HBO.out hbw.out)
        clear hoe hbw HEN hec hel HG1 HG2
        go_wp2
        go_roundw
        case rel => exact ⟨j + 1, by omega, vint (by omega), HFO, HFB⟩
        case measure => simp [intOf]; omega
      have hq2 : (i : Int) < ((IM.vs lo hi j).length : Int) := by omega
      have hat := List.getElem?_eq_getElem hlt2
      have htk : (IM.vs lo hi j).take (i + 1) = (IM.vs lo hi j).take i ++ [(IM.vs lo hi j)[i]] := List.take_succ_eq_append_getElem hlt2
      generalize (IM.vs lo hi j)[i] = x at hat htk
      obtain ⟨xb, xo, xad, xl, xcp, hix, hxb, hxc, hxo⟩ := HOL.out.at_ vecE i x hat
      have hxc := below_cell hbw.out hxc
      have HTK := Lib.hid (show (((IM.vs lo hi j).take (i + 1)).flatMap fun v => IM.row v A l0 M) = (((IM.vs lo hi j).take i).flatMap fun v => IM.row v A l0 M) ++ IM.row x A l0 M by rw [htk, List.flatMap_append]; simp)
      have HXV := Lib.hid (HVJ.out x (List.mem_of_getElem? hat))
      have HXO := Lib.hid hxo
      have HPL := Lib.hid (show (((IM.vs lo hi j).take i).flatMap fun v => IM.row v A l0 M).length + (IM.row x A l0 M).length ≤ 1000 by
        have e1 : (IM.vs lo hi (j + 1)).length = _ := congrArg List.length HVS.out
        have e2 := HLJ.out
        rw [e1, ← List.take_append_drop (i + 1) (IM.vs lo hi j), List.flatMap_append, List.length_append, HTK.out, List.length_append] at e2
        omega)
      obtain ⟨wi, hwi⟩ : ∃ wi, wi = wr := ⟨_, rfl⟩
      rw [← hwi] at hoe hbw hxc ⊢
      clear hwi hat htk hxo
      go_wp2_with fail
      refine (HG1.out wi (bnext HBO.out hbw.out)).mono ?_
      rintro e w5 ⟨rfl, hb5⟩
      have HE5 := Lib.hid (hoe.out.below hb5 (fun u x h => h.below hb5))
      have HB5 := Lib.hid (show Below wo.heap.size wo w5 from bnext hbw.out hb5)
      clear hoe hbw hb5 hxc hxb hix
      obtain ⟨PRE, hPRE⟩ : ∃ PRE, PRE = ((IM.vs lo hi j).take i).flatMap fun v => IM.row v A l0 M := ⟨_, rfl⟩
      rw [← hPRE] at HTK HE5 HPL HEN
      clear hPRE
      go_wp2
      go_loopw [9, 12] (fun v nn wr => ∃ m : Nat, m ≤ M ∧ nn = .int .i64 (l0 + (m : Int)) ∧ Hid (OwnLs (fun w u x => OwnE w3.heap.size w u x) 65 wo.heap.size wr v (PRE ++ IM.row x A l0 m)) ∧ Hid (Below wo.heap.size wo wr)) (fun _ nn _ => (h0 + 1 - intOf nn).toNat)
      case atStart => exact ⟨0, Nat.zero_le _, vint (by omega), Lib.hid (by rw [show IM.row x A l0 0 = [] from rfl, List.append_nil]; first | exact HE5.out | (have h9 := HE5.out; rw [HEN.out] at h9; exact h9)), HB5⟩
      case round =>
        obtain ⟨m, hm, rfl, hoe, hbw⟩ := hrel
        clear HE5 HB5
        obtain ⟨fa2, fc2, hev, hec2, hel2⟩ := hoe.out.rd.shape
        obtain ⟨fn, hfn⟩ : ∃ fn, fn = (PRE ++ IM.row x A l0 m).length := ⟨_, rfl⟩
        rw [← hfn] at hev hel2
        subst hev
        have HFN := Lib.hid hfn
        clear hfn
        go_wp2_with fail
        refine (HG2.out wr (bnext HBO.out hbw.out)).mono ?_
        rintro e w6 ⟨rfl, hb6⟩
        have HE6 := Lib.hid (hoe.out.below hb6 (fun u x h => h.below hb6))
        have HB6 := Lib.hid (show Below wo.heap.size wo w6 from bnext hbw.out hb6)
        clear hoe hbw hb6
        by_cases hmM : m < M
        case neg =>
          obtain rfl : m = M := by omega
          have hq3 : ¬ (l0 + (m : Int) ≤ h0) := by omega
          have HFO := Lib.hid (show OwnLs (fun w u x => OwnE w3.heap.size w u x) 65 wo.heap.size w6 (.slice fa2 fn fc2) (((IM.vs lo hi j).take (i + 1)).flatMap fun v => IM.row v A l0 m) by rw [HTK.out]; exact HE6.out)
          clear HE6 HTK HFN HG1 HG2 hmM hm
          go_wp2
          go_roundw
          case rel => exact ⟨i + 1, by omega, by go_num, HFO, HB6⟩
          case measure => simp [intOf]; omega
        have hq3 : l0 + (m : Int) ≤ h0 := by omega
        have HXR := Lib.hid (show VX.RdV w6 (.slice xad xl xcp) x from OwnE.rdV (HXO.out.below HB6.out))
        have HWT := Lib.hid (VX.wWith _ x A (l0 + (m : Int)) w6 HXR.out HXV.out.1 hA1 (by omega) (by omega) HXV.out.2)
        go_wp2_with fail
        refine HWT.out.mono ?_
        rintro e w7 ⟨v7, rfl, ho7, hb7⟩
        obtain ⟨a7, c7, hv7, _, _⟩ := (vx_ownE ho7).rd.shape
        obtain ⟨n7, hn7⟩ : ∃ n7, n7 = (VM.wi x A (l0 + (m : Int))).length := ⟨_, rfl⟩
        rw [← hn7] at hv7
        subst hv7
        have HO7 := Lib.hid (vx_ownE ho7)
        have HSZ := Lib.hid (show w3.heap.size ≤ w6.heap.size from (bnext HBO.out HB6.out).size)
        have HB7 := Lib.hid (show Below wo.heap.size wo w7 from bnext HB6.out hb7)
        obtain ⟨ps, hp1, hp2, hp3⟩ := HE6.out.below hb7 (fun u x h => h.below hb7)
        have hpl : ps.length ≤ 1073741824 := by
          have e1 := congrArg List.length hp3
          rw [List.length_map, List.length_append] at e1
          have e2 := HPL.out
          have e3 : (IM.row x A l0 m).length = m := by simp [IM.row]
          have e4 : (IM.row x A l0 M).length = M := by simp [IM.row]
          omega
        have HP2 := Lib.hid hp2
        have HP3 := Lib.hid hp3
        have hs7 := HB7.out.size
        clear ho7 hb7 hn7 HWT HE6 HXR hp2 hp3
        go_wp2_with (at_builtin; refine wp_appG1 vecE ((a7, n7, c7), VM.wi x A (l0 + (m : Int))) rfl _ _ rfl rfl hp1 rfl hpl hs7 ?_)
        intro v8 w8 ho8 hb8 hk8 _
        obtain ⟨a8, l8, c8, hv8⟩ : ∃ a l c, v8 = .slice a l c := by obtain ⟨a, c, h, _⟩ := ho8.rd.shape; exact ⟨a, _, c, h⟩
        subst hv8
        have HFO := Lib.hid (show OwnLs (fun w u x => OwnE w3.heap.size w u x) 65 wo.heap.size w8 (.slice a8 l8 c8) (PRE ++ IM.row x A l0 (m + 1)) by
          rw [IM.row_snoc, ← List.append_assoc]
          exact OwnLs.snoc HP2.out HP3.out ho8 (fun u y h => ownG_keep h hk8 (by decide)) (ownG_keep (HO7.out.mono HSZ.out) hk8 (by decide)))
        have HB8 := Lib.hid (HB7.out.trans hb8)
        clear ho8 hb8 hk8 hp1 HP2 HP3 HB7 HO7 HSZ hs7 hpl
        go_wp2
        go_roundw
        case rel => exact ⟨m + 1, by omega, vint (by omega), HFO, HB8⟩
        case measure => simp [intOf]; omega

namespace IM
theorem mem_row {v x : List Ent} {a lo : Int} {m : Nat} (h : x ∈ row v a lo m) : ∃ i : Nat, i < m ∧ x = VM.wi v a (lo + (i : Int)) := by
  obtain ⟨i, hi, rfl⟩ := List.mem_map.1 h
  exact ⟨i, List.mem_range.1 hi, rfl⟩
theorem vs_ok (lo hi : Int → Int) (h0 : ∀ a, 0 ≤ lo a) (h1 : ∀ a, hi a ≤ 3) (hab : ∀ a, lo a ≤ hi a) : ∀ j, (∀ x ∈ vs lo hi j, VM.Val 0 x ∧ x.length ≤ j) ∧ (vs lo hi j).length ≤ 4 ^ j
  | 0 => ⟨fun x hx => by rw [List.mem_singleton.1 hx]; exact ⟨VM.Val.nil 0, Nat.zero_le _⟩, Nat.le_refl _⟩
  | j + 1 => by
    obtain ⟨g1, g2⟩ := vs_ok lo hi h0 h1 hab j
    refine ⟨fun x hx => ?_, ?_⟩
    · obtain ⟨v, hv, hr⟩ := List.mem_flatMap.1 hx
      obtain ⟨i, hi', rfl⟩ := mem_row hr
      have k0 := h0 (201 + (j : Int))
      have k1 := h1 (201 + (j : Int))
      have k2 := hab (201 + (j : Int))
      unfold num at hi'
      refine ⟨(VM.wi_spec (by omega) (by omega) (by omega) (g1 v hv).1).1, Nat.le_trans (VM.wi_length _ _ _) (by have := (g1 v hv).2; omega)⟩
    · have hl : ∀ v, (row v (201 + (j : Int)) (lo (201 + (j : Int))) (num (lo (201 + (j : Int))) (hi (201 + (j : Int))))).length ≤ 4 := fun v => by
        have k0 := h0 (201 + (j : Int))
        have k1 := h1 (201 + (j : Int))
        simp [row, num]; omega
      have hf : ∀ (L : List (List Ent)) (f : List Ent → List (List Ent)), (∀ v, (f v).length ≤ 4) → (L.flatMap f).length ≤ L.length * 4 := fun L f h => by
        induction L with
        | nil => simp
        | cons v L ih => rw [List.flatMap_cons, List.length_append, List.length_cons]; have := h v; omega
      have := hf (vs lo hi j) _ hl
      show (List.flatMap _ _).length ≤ _
      rw [Nat.pow_succ]
      omega
/-- The vectors of an interval. -/
def iv (fa fb : List Fp) : List (List Ent) := if CM.cons fb fa = true then vs (VM.cnt (CM.vo fa)) (VM.cnt (CM.vo fb)) 3 else []
def all (fa fb : List Fp) : List (List Fp) := (iv fa fb).map fun v => CM.rs fb (VM.cnt v)
end IM

set_option maxRecDepth 100000 in
set_option maxHeartbeats 2000000 in
theorem cVecs (va vb : Value) (fa fb : List Fp) (w : World) (h1 : RdF w va fa) (h2 : RdF w vb fb) (o1 : CM.Ok fa) (o2 : CM.Ok fb) :
    Calls Tryz.prog 59 #[va, vb] w fun e w' => ∃ v, e = .returned v ∧ RdLs (fun w u x => VX.RdV w u x) w' v (IM.iv fa fb) ∧ Below w.heap.size w w' := by
  have hself : CM.cons fa fa = true := CM.cons_iff.2 fun f hf => hf
  by_cases hc : CM.cons fb fa = true
  · have e : IM.iv fa fb = IM.vs (VM.cnt (CM.vo fa)) (VM.cnt (CM.vo fb)) 3 := if_pos hc
    rw [e]
    have s1 := CM.vo_spec o1
    have s2 := CM.vo_spec o2
    have hlo : ∀ a, 0 ≤ VM.cnt (CM.vo fa) a := fun a => by rw [s1.2]; exact CM.ct_pos _ _
    have hhi : ∀ a, VM.cnt (CM.vo fb) a ≤ 3 := fun a => by rw [s2.2]; exact o2.ct3 a
    have hab : ∀ a, VM.cnt (CM.vo fa) a ≤ VM.cnt (CM.vo fb) a := fun a => by
      rw [s1.2, s2.2]
      by_cases hz : CM.ct fa a < 1
      · have := CM.ct_pos fb a; omega
      · have h3 := (o1.has a (CM.ct fa a) (by omega)).2 (Int.le_refl _)
        obtain ⟨f, hf, e1, e2⟩ := CM.hasK_iff.1 h3
        exact (o2.has a (CM.ct fa a) (by omega)).1 (CM.hasK_iff.2 ⟨f, CM.cons_iff.1 hc f hf, e1, e2⟩)
    have hv := IM.vs_ok _ _ hlo hhi hab
    exact cVectors va vb fa fb w h1 h2 o1 o2 hc (fun j hj x hx => ⟨((hv j).1 x hx).1, by have := ((hv j).1 x hx).2; omega⟩)
      (fun j hj => Nat.le_trans (hv j).2 (Nat.le_trans (Nat.pow_le_pow_right (by decide) hj) (by decide)))
      s1.1 s2.1 (by have := CM.vo_len fa; have := o1.nine; omega) (by have := CM.vo_len fb; have := o2.nine; omega) hlo (fun a => by have := hhi a; omega) hab hself
  · have hcf : CM.cons fb fa = false := by simpa using hc
    have e : IM.iv fa fb = [] := if_neg hc
    rw [e]
    have hw := cWithin va vb va fa fb fa w h1 h2 h1 o1 o2 o1
    rw [hcf, hself] at hw
    have HW := Lib.hid hw
    obtain ⟨a, ca, rfl, _, _⟩ := h1.shape
    obtain ⟨b, cb, rfl, _, _⟩ := h2.shape
    clear h1 h2 o1 o2 hc hcf hself e hw
    go_enter Tryz.func59, Tryz.ntmps59
    go_wp2_with fail
    refine HW.out.mono ?_
    rintro e w1 ⟨rfl, hb⟩
    go_wp2
    go_ret
    exact ⟨_, rfl, ⟨[], RdG.nil hlL _, (fun _ h => by cases h), rfl⟩, hb⟩

end Go.Proofs.YtkgkhofkhjgnbaaGreat
