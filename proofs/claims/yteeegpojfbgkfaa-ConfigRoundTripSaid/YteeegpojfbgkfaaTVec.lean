/-
  The call of sets.Vector: the number of elements of each author. Conditions: the set reads and is of bounded length. (Written by mk_sets.py.)
-/
import Derived.Test.YteeegpojfbgkfaaTBas
import Derived.Test.YteeegpojfbgkfaaKH
namespace Go.Proofs.Yteeegpojfbgkfaa
open Go.RowKit
open JM (Chg)
open CM (Fp)
open VM (Ent)

theorem KB.keepE {w w' : World} {K : Nat} (h : KB w K) (hk : KeepsX 76 w w') : KB w' K := hk.at h (by decide)

set_option maxRecDepth 100000 in
set_option maxHeartbeats 4000000 in
theorem sVector (v : Value) (fs : List Fp) (w : World) (h : RdF w v fs) (hl : fs.length ≤ 1000) :
    Calls Try.prog 49 #[(.agg #[.func (.func 70) #[] #[], .func (.func 71) #[] #[], .func (.func 72) #[] #[], .func (.func 73) #[] #[], .func (.func 55) #[] #[], .func (.func 74) #[] #[], .func (.func 75) #[] #[], .func (.func 76) #[] #[], .int .i64 9]), v] w fun e w' => ∃ v', e = .returned v' ∧ OwnE w.heap.size w' v' (CM.vo fs) ∧ Below w.heap.size w w' := by
  obtain ⟨ad, cp, rfl, hc, _⟩ := h.shape
  have H := Lib.hid h
  have HL := Lib.hid hl
  clear h hl
  obtain ⟨w0, HX⟩ := kone w
  have HW := Lib.hid HX.eq
  have HB0 := Lib.hid HX.below
  have HK0 := Lib.hid HX.k
  obtain ⟨K, hK⟩ : ∃ K, w.heap.size = K := ⟨_, rfl⟩
  rw [hK] at HK0
  have HKE := Lib.hid hK
  clear HX hK
  go_enter Try.func49, Try.ntmps49
  go_upto_region 1 with fail
  rw [HW.out, HKE.out]
  clear HW
  go_wp2
  go_loopw [5, 11] (fun u i wr => ∃ k : Nat, k ≤ fs.length ∧ i = .int .i64 k ∧ Hid (OwnE w.heap.size wr u (CM.vo (fs.take k))) ∧ Hid (KB wr K) ∧ Hid (Below w.heap.size w wr)) (fun _ i _ => fs.length - (intOf i).toNat)
  case atStart => exact ⟨0, Nat.zero_le _, rfl, OwnG.nil hlE _ _ _, HK0.out, HB0.out⟩
  case round =>
    obtain ⟨k, hk, rfl, ho, hkb, hbl⟩ := hrel
    clear HB0 HK0
    by_cases hlt : k < fs.length
    · have hq : (k : Int) < (fs.length : Int) := by omega
      have hk2 := List.getElem?_eq_getElem hlt
      generalize fs[k] = f at hk2
      have hsm := CM.vo_small (fs.take k)
      have hvl := CM.vo_len (fs.take k)
      rw [List.length_take] at hsm hvl
      have hnext := CM.vo_snoc (fs.take k) f
      rw [← take_snocF hk2] at hnext
      obtain ⟨x, m, cs⟩ := f
      obtain ⟨b, o, da, dl, dc, hi, hbw, c0, c1, c2, _⟩ := (H.out.below hbl.out).atS k x m cs hk2
      obtain ⟨wx, HX⟩ := eone wr x m (.slice da dl dc)
      have HWX := Lib.hid HX.eq
      have HBX := Lib.hid (bnext hbl.out HX.below)
      have HKX := Lib.hid (hkb.out.below HX.below)
      have HPX := Lib.hid HX.e
      have hox := ho.out.below HX.below
      have HAU := Lib.hid (cAuth x m da dl dc wx)
      obtain ⟨B, hB⟩ : ∃ B, wr.heap.size = B := ⟨_, rfl⟩
      rw [hB] at HPX
      have HBE := Lib.hid hB
      generalize CM.vo (fs.take k) = V at hsm hvl hnext hox
      have HOX := Lib.hid hox
      have HSM := Lib.hid hsm
      have HNX := Lib.hid hnext
      clear HX hB hk2 hbl hkb ho hsm hnext hox
      obtain ⟨p0, p1, p2, _⟩ := HPX.out.cells
      obtain ⟨j0, _⟩ := HKX.out.cells
      obtain ⟨u1, u2, rfl, hu2, hu3⟩ := HOX.out.rd.shape
      go_upto_region 5 with fail
      rw [HWX.out, HBE.out]
      clear c0 c1 c2 hi hbw HWX
      go_wp2_with fail
      refine HAU.out.mono ?_
      rintro e wy ⟨rfl, hby⟩
      have hox := HOX.out.below hby
      have HBY := Lib.hid (bnext HBX.out hby)
      have HKY := Lib.hid (HKX.out.below hby)
      clear HOX HBX HKX HPX HAU hby p0 p1 p2 j0
      have hvl : V.length ≤ 1000 := by have := HL.out; omega
      by_cases h0 : V.length = 0
      · have hNX2 : Hid (CM.vo (fs.take (k + 1)) = V ++ [(x, 1)]) := by
          show _ = _
          rw [HNX.out]; unfold CM.vput; rw [if_neg (fun h => h.1 h0)]
        have hz : ((V.length : Int) == 0) = true := beq_t (by omega)
        clear HNX HSM h0
        have ho5 := hox
        have HB5 := HBY
        have HK5 := HKY
        clear HBY HKY hox
        have hs5 := HB5.out.size
        have hvq : V.length ≤ 1073741824 := by omega
        go_wp2_with (at_builtin; refine wp_appG1' entE (x, 0) _ rfl rfl _ _ rfl rfl ho5 rfl hvq hs5 ?_)
        intro v6 w6 ho6 hb6 hk6
        have HK6 := Lib.hid (HK5.out.keepE hk6)
        have HB6 := Lib.hid (HB5.out.trans hb6)
        clear ho5 HB5 HK5 hb6 hk6 hs5
        obtain ⟨a6, c6, rfl, hc6, _⟩ := ho6.rd.shape
        have hlast : (V ++ [(x, (0 : Int))])[V.length]? = some (x, 0) := by simp
        obtain ⟨g, oe, aa, cc, hv, hi3, _, hg3, hcell, hput⟩ := ho6.at_put entE hlast
        cases hv
        obtain ⟨LN, hLN⟩ : ∃ LN, LN = (V ++ [(x, (0 : Int))]).length := ⟨_, rfl⟩
        have hLN2 : LN = V.length + 1 := by rw [hLN, List.length_append]; rfl
        rw [← hLN] at hi3 hput ⊢
        rw [show ((V.length : Nat) : Int) = (LN : Int) - 1 by omega] at hi3
        obtain ⟨d1, f1⟩ := hcell 1 _ rfl
        obtain ⟨hp1, hp2, hp3⟩ := hput 1 (x, 0 + 1) (.int .i64 1) (by decide) rfl
        have hset : (V ++ [(x, (0 : Int))]).set V.length (x, 0 + 1) = V ++ [(x, 1)] := by rw [List.set_append_right _ _ (Nat.le_refl _), Nat.sub_self]; rfl
        rw [hset] at hp1
        have HP1 := Lib.hid hp1
        have HP2 := Lib.hid (HB6.out.trans hp2)
        have HP3 := Lib.hid (HK6.out.keepE hp3)
        have hLN3 : 0 < (LN : Int) := by omega
        have hLN4 : (LN : Int) ≤ 2000 := by omega
        clear hcell hput hp1 hp2 hp3 hset hlast hLN hLN2 ho6 hvl hu2 hu3
        go_wp2
        go_roundw
        case rel => exact ⟨k + 1, by omega, by go_num, by rw [hNX2.out]; exact HP1, HP3, HP2⟩
        case measure => simp [intOf]; omega
      · by_cases hA : (V.getD (V.length - 1) (0, 0)).1 = x
        · have hlast : V[V.length - 1]? = some (V.getD (V.length - 1) (0, 0)) := by rw [List.getD, List.getElem?_eq_getElem (show V.length - 1 < V.length by omega)]; rfl
          have hmem := List.mem_of_getElem? hlast
          have hNX2 : Hid (CM.vo (fs.take (k + 1)) = V.set (V.length - 1) (x, (V.getD (V.length - 1) (0, 0)).2 + 1)) := by
            show _ = _
            rw [HNX.out]; unfold CM.vput; rw [if_pos ⟨h0, hA⟩]
          obtain ⟨s1, s2⟩ := HSM.out _ hmem
          generalize V.getD (V.length - 1) (0, 0) = e at hlast hA hNX2 s1 s2
          obtain ⟨y, n⟩ := e
          simp only at hA hNX2 s1 s2
          subst hA
          have hn : n ≤ 1000 := by have := HL.out; omega
          obtain ⟨g, oe, aa, cc, hv, hi2, hg1, hg2, hcell, hput⟩ := hox.at_put entE hlast
          cases hv
          rw [show ((V.length - 1 : Nat) : Int) = (V.length : Int) - 1 by omega] at hi2
          have d0 : wy.cell? ⟨g, oe, none⟩ = some (.int .i64 y) := (hcell 0 _ rfl).1
          have hz : ((V.length : Int) == 0) = false := beq_f (by omega)
          have hyy : (y != y) = false := bne_f rfl
          have hw1 : 0 < (V.length : Int) := by omega
          clear HNX HSM s2 hput hcell
          have ho5 := hox
          have HB5 := HBY
          have HK5 := HKY
          clear HBY HKY hox
          obtain ⟨g', oe', aa, cc, hv, hi3, _, hg3, hcell, hput⟩ := ho5.at_put entE hlast
          cases hv
          rw [show ((V.length - 1 : Nat) : Int) = (V.length : Int) - 1 by omega] at hi3
          cases idx_same wy hi2 hi3
          obtain ⟨d1, f1⟩ := hcell 1 _ rfl
          obtain ⟨hp1, hp2, hp3⟩ := hput 1 (y, n + 1) (.int .i64 (n + 1)) (by decide) rfl
          have HP1 := Lib.hid hp1
          have HP2 := Lib.hid (HB5.out.trans hp2)
          have HP3 := Lib.hid (HK5.out.keepE hp3)
          have HLS := Lib.hid (show (V.set (V.length - 1) (y, n + 1)).length = V.length from List.length_set)
          clear hcell hput hi3 hp1 hp2 hp3
          go_wp2
          go_roundw
          case rel => exact ⟨k + 1, by omega, by go_num, by rw [hNX2.out]; exact HP1, HP3, HP2⟩
          case measure => simp [intOf]; omega
        · have hNX2 : Hid (CM.vo (fs.take (k + 1)) = V ++ [(x, 1)]) := by
            show _ = _
            rw [HNX.out]; unfold CM.vput; rw [if_neg (fun h => hA h.2)]
          have hlast : V[V.length - 1]? = some (V.getD (V.length - 1) (0, 0)) := by rw [List.getD, List.getElem?_eq_getElem (show V.length - 1 < V.length by omega)]; rfl
          generalize V.getD (V.length - 1) (0, 0) = e at hlast hA
          obtain ⟨y, n⟩ := e
          simp only at hA
          obtain ⟨g, oe, aa, cc, hv, hi2, hg1, hg2, hcell, hput⟩ := hox.at_put entE hlast
          cases hv
          rw [show ((V.length - 1 : Nat) : Int) = (V.length : Int) - 1 by omega] at hi2
          have d0 : wy.cell? ⟨g, oe, none⟩ = some (.int .i64 y) := (hcell 0 _ rfl).1
          have hz : ((V.length : Int) == 0) = false := beq_f (by omega)
          have hyy : (y != x) = true := bne_t hA
          have hw1 : 0 < (V.length : Int) := by omega
          clear HNX HSM hput hcell
          have ho5 := hox
          have HB5 := HBY
          have HK5 := HKY
          clear HBY HKY hox
          have hs5 := HB5.out.size
          have hvq : V.length ≤ 1073741824 := by omega
          go_wp2_with (at_builtin; refine wp_appG1' entE (x, 0) _ rfl rfl _ _ rfl rfl ho5 rfl hvq hs5 ?_)
          intro v6 w6 ho6 hb6 hk6
          have HK6 := Lib.hid (HK5.out.keepE hk6)
          have HB6 := Lib.hid (HB5.out.trans hb6)
          clear ho5 HB5 HK5 hb6 hk6 hs5
          obtain ⟨a6, c6, rfl, hc6, _⟩ := ho6.rd.shape
          have hlast : (V ++ [(x, (0 : Int))])[V.length]? = some (x, 0) := by simp
          obtain ⟨g', oe', aa, cc, hv, hi3, _, hg3, hcell, hput⟩ := ho6.at_put entE hlast
          cases hv
          obtain ⟨LN, hLN⟩ : ∃ LN, LN = (V ++ [(x, (0 : Int))]).length := ⟨_, rfl⟩
          have hLN2 : LN = V.length + 1 := by rw [hLN, List.length_append]; rfl
          rw [← hLN] at hi3 hput ⊢
          rw [show ((V.length : Nat) : Int) = (LN : Int) - 1 by omega] at hi3
          obtain ⟨d1, f1⟩ := hcell 1 _ rfl
          obtain ⟨hp1, hp2, hp3⟩ := hput 1 (x, 0 + 1) (.int .i64 1) (by decide) rfl
          have hset : (V ++ [(x, (0 : Int))]).set V.length (x, 0 + 1) = V ++ [(x, 1)] := by rw [List.set_append_right _ _ (Nat.le_refl _), Nat.sub_self]; rfl
          rw [hset] at hp1
          have HP1 := Lib.hid hp1
          have HP2 := Lib.hid (HB6.out.trans hp2)
          have HP3 := Lib.hid (HK6.out.keepE hp3)
          have hLN3 : 0 < (LN : Int) := by omega
          have hLN4 : (LN : Int) ≤ 2000 := by omega
          clear hcell hput hp1 hp2 hp3 hset hlast hLN hLN2 ho6 hvl hu2 hu3
          go_wp2
          go_roundw
          case rel => exact ⟨k + 1, by omega, by go_num, by rw [hNX2.out]; exact HP1, HP3, HP2⟩
          case measure => simp [intOf]; omega
    · have hq : ¬ ((k : Int) < (fs.length : Int)) := by omega
      obtain rfl : k = fs.length := by omega
      rw [List.take_length] at ho
      go_wp2
      go_ret
      exact ⟨_, rfl, ho.out, hbl.out⟩

end Go.Proofs.Yteeegpojfbgkfaa
