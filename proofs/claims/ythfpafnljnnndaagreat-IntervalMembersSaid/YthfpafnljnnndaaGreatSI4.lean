/-
  The calls of the reference's count and All: the same parts in the same order. Conditions: valid configurations that agree.
  The calls of the kit's Valid at a list of configurations, of the law's same, and of the reference's All. Conditions: what comes in reads.
-/
import Derived.Test.YthfpafnljnnndaaGreatSI1
import Derived.Test.YthfpafnljnnndaaGreatSKI
namespace Go.Proofs.YthfpafnljnnndaaGreat
open Go.RowKit Go.Joins Go.Shelf
open JM (Chg)
open CM (Fp)
open VM (Ent)

set_option maxHeartbeats 1000000 in
theorem rCnt (v : Value) (fs : List Fp) (x : Int) (w : World) (h : RdF w v fs) (ho : CM.Ok fs) :
    Calls Tryz.prog 38 #[v, .int .i64 x] w fun e w' => e = .returned (.int .i64 (CM.ct fs x)) ∧ Below w.heap.size w w' := by
  have HV := Lib.hid (rVectorOf v fs w h ho.all (by have := ho.nine; omega))
  have hct : VM.cnt (CM.vr fs) x = CM.ct fs x := by
    have := (vo_take ho.all (by have := ho.nine; omega) fs.length).2.1 x
    rwa [List.take_length] at this
  have HCT := Lib.hid hct
  obtain ⟨a, ca, rfl, _, _⟩ := h.shape
  clear h ho hct
  go_enter Tryz.func38, Tryz.ntmps38
  go_wp2_with fail
  refine HV.out.mono ?_
  rintro e w1 ⟨v1, rfl, ho1, hb1⟩
  have HC := Lib.hid (VX.rCount v1 (CM.vr fs) x w1 ho1.rdV)
  obtain ⟨c, cc, rfl, _, _⟩ := ho1.rd.shape
  rw [HCT.out] at HC
  clear HCT ho1 HV
  go_wp2_with fail
  refine HC.out.mono ?_
  rintro e w2 ⟨rfl, rfl⟩
  go_wp2
  go_ret
  exact ⟨rfl, hb1⟩

namespace IM
def X (fb : List Fp) (a b c : Int) : List Fp := CM.rs fb (VM.cnt (VM.wi (VM.wi (VM.wi [] 201 a) 202 b) 203 c))
def F2 (fb : List Fp) (a b lo : Int) (m : Nat) : List (List Fp) := (List.range m).map fun k : Nat => X fb a b (lo + (k : Int))
def F1 (fb : List Fp) (a lo2 lo3 : Int) (M3 m : Nat) : List (List Fp) := (List.range m).flatMap fun j : Nat => F2 fb a (lo2 + (j : Int)) lo3 M3
def F0 (fb : List Fp) (lo1 lo2 lo3 : Int) (M2 M3 m : Nat) : List (List Fp) := (List.range m).flatMap fun i : Nat => F1 fb (lo1 + (i : Int)) lo2 lo3 M3 M2
theorem F2_snoc (fb : List Fp) (a b lo : Int) (m : Nat) : F2 fb a b lo (m + 1) = F2 fb a b lo m ++ [X fb a b (lo + (m : Int))] := by simp [F2, List.range_succ]
theorem F1_snoc (fb : List Fp) (a lo2 lo3 : Int) (M3 m : Nat) : F1 fb a lo2 lo3 M3 (m + 1) = F1 fb a lo2 lo3 M3 m ++ F2 fb a (lo2 + (m : Int)) lo3 M3 := by simp [F1, List.range_succ]
theorem F0_snoc (fb : List Fp) (lo1 lo2 lo3 : Int) (M2 M3 m : Nat) : F0 fb lo1 lo2 lo3 M2 M3 (m + 1) = F0 fb lo1 lo2 lo3 M2 M3 m ++ F1 fb (lo1 + (m : Int)) lo2 lo3 M3 M2 := by simp [F0, List.range_succ]
theorem len_flat {α β : Type} {f : α → List β} {c : Nat} : ∀ {L : List α}, (∀ x, (f x).length = c) → (L.flatMap f).length = L.length * c
  | [], _ => by simp
  | x :: L, h => by rw [List.flatMap_cons, List.length_append, List.length_cons, len_flat h, h x, Nat.add_mul]; omega
theorem F2_len (fb : List Fp) (a b lo : Int) (m : Nat) : (F2 fb a b lo m).length = m := by simp [F2]
theorem F1_len (fb : List Fp) (a lo2 lo3 : Int) (M3 m : Nat) : (F1 fb a lo2 lo3 M3 m).length = m * M3 := by
  rw [F1, len_flat (fun j => F2_len fb a _ lo3 M3), List.length_range]
theorem F0_len (fb : List Fp) (lo1 lo2 lo3 : Int) (M2 M3 m : Nat) : (F0 fb lo1 lo2 lo3 M2 M3 m).length = m * (M2 * M3) := by
  rw [F0, len_flat (fun j => F1_len fb _ lo2 lo3 M3 M2), List.length_range]
theorem vs3 (lo hi : Int → Int) : vs lo hi 3 = (List.range (num (lo 201) (hi 201))).flatMap fun i : Nat => (List.range (num (lo 202) (hi 202))).flatMap fun j : Nat => (List.range (num (lo 203) (hi 203))).map fun k : Nat => VM.wi (VM.wi (VM.wi [] 201 (lo 201 + (i : Int))) 202 (lo 202 + (j : Int))) 203 (lo 203 + (k : Int)) := by
  have e : vs lo hi 3 = step (step (step [[]] 201 (lo 201) (hi 201)) 202 (lo 202) (hi 202)) 203 (lo 203) (hi 203) := rfl
  rw [e]
  unfold step row
  rw [List.flatMap_assoc, List.flatMap_assoc]
  simp only [List.flatMap_cons, List.flatMap_nil, List.append_nil, List.flatMap_map]
theorem all_F0 {fa fb : List Fp} (hc : CM.cons fb fa = true) : all fa fb = F0 fb (VM.cnt (CM.vo fa) 201) (VM.cnt (CM.vo fa) 202) (VM.cnt (CM.vo fa) 203) (num (VM.cnt (CM.vo fa) 202) (VM.cnt (CM.vo fb) 202)) (num (VM.cnt (CM.vo fa) 203) (VM.cnt (CM.vo fb) 203)) (num (VM.cnt (CM.vo fa) 201) (VM.cnt (CM.vo fb) 201)) := by
  unfold all iv
  rw [if_pos hc, vs3]
  unfold F0 F1 F2 X
  simp only [List.map_flatMap, List.map_map, Function.comp_def]
end IM

set_option maxRecDepth 100000 in
set_option maxHeartbeats 4000000 in
theorem rAllIn (va vb : Value) (fa fb : List Fp) (w : World) (h1 : RdF w va fa) (h2 : RdF w vb fb) (o1 : CM.Ok fa) (o2 : CM.Ok fb) (hk : CM.conk fb fa = true) (M1 M2 M3 : Nat)
    (hM1 : (M1 : Int) = CM.ct fb 201 - CM.ct fa 201 + 1) (hM2 : (M2 : Int) = CM.ct fb 202 - CM.ct fa 202 + 1) (hM3 : (M3 : Int) = CM.ct fb 203 - CM.ct fa 203 + 1) (b1 : M1 ≤ 4) (b2 : M2 ≤ 4) (b3 : M3 ≤ 4) :
    Calls Tryz.prog 11 #[va, vb] w fun e w' => ∃ v, e = .returned v ∧ OwnLs (fun w' u x => OwnF w w.heap.size w' u x) 23 w.heap.size w' v (IM.F0 fb (CM.ct fa 201) (CM.ct fa 202) (CM.ct fa 203) M2 M3 M1) ∧ Below w.heap.size w w' := by
  have HCT := Lib.hid (rContains vb va fb fa w h2 h1)
  rw [hk] at HCT
  have HA := Lib.hid (fun x w' (hb : Below w.heap.size w w') => rCnt va fa x w' (h1.below hb) o1)
  have HB := Lib.hid (fun x w' (hb : Below w.heap.size w w') => rCnt vb fb x w' (h2.below hb) o2)
  have HR := Lib.hid (fun u vs w' (hu : VX.RdV w' u vs) (hb : Below w.heap.size w w') => rRestrictO vb u fb vs w w' h2 hb hu (by have := o2.nine; omega))
  obtain ⟨a, ca, rfl, _, _⟩ := h1.shape
  obtain ⟨b, cb, rfl, _, _⟩ := h2.shape
  have n1 := CM.ct_pos fa 201
  have n2 := CM.ct_pos fa 202
  have n3 := CM.ct_pos fa 203
  have m1 := o1.ct3 201
  have m2 := o1.ct3 202
  have m3 := o1.ct3 203
  have HA1 := Lib.hid (HA.out 201)
  have HA2 := Lib.hid (HA.out 202)
  have HA3 := Lib.hid (HA.out 203)
  have HB1 := Lib.hid (HB.out 201)
  have HB2 := Lib.hid (HB.out 202)
  have HB3 := Lib.hid (HB.out 203)
  generalize CM.ct fa 201 = l1 at *
  generalize CM.ct fa 202 = l2 at *
  generalize CM.ct fa 203 = l3 at *
  generalize CM.ct fb 201 = u1 at *
  generalize CM.ct fb 202 = u2 at *
  generalize CM.ct fb 203 = u3 at *
  generalize fa.length = lla at *
  generalize fb.length = llb at *
  have L2 := fun a b lo m => IM.F2_len fb a b lo m
  have L1 := fun a lo2 lo3 M3 m => IM.F1_len fb a lo2 lo3 M3 m
  have L0 := fun lo1 lo2 lo3 M2 M3 m => IM.F0_len fb lo1 lo2 lo3 M2 M3 m
  have HL := Lib.hid (fun (p q r : Nat) (hp : p ≤ M1) (hq : q ≤ M2) (hr : r ≤ M3) (A B : Int) => show (IM.F0 fb l1 l2 l3 M2 M3 p ++ IM.F1 fb A l2 l3 M3 q ++ IM.F2 fb A B l3 r).length ≤ 1000 by
    rw [List.length_append, List.length_append, L0, L1, L2]
    have e1 : M2 * M3 ≤ 16 := Nat.mul_le_mul b2 b3
    have e2 : p * (M2 * M3) ≤ 4 * 16 := Nat.mul_le_mul (by omega) e1
    have e3 : q * M3 ≤ 4 * 4 := Nat.mul_le_mul (by omega) b3
    omega)
  clear h1 h2 o1 o2 hk L2 L1 L0 HA HB
  go_enter Tryz.func11, Tryz.ntmps11
  go_wp2_with fail
  refine HCT.out.mono ?_
  rintro e w1 ⟨rfl, hb1⟩
  go_wp2_with fail
  refine (HA1.out _ hb1).mono ?_
  rintro e w2 ⟨rfl, hb2⟩
  have HBW := Lib.hid (bnext hb1 hb2)
  clear hb1 hb2 HCT HA1
  go_wp2
  go_loopw [5, 7] (fun v ii wr => ∃ p : Nat, p ≤ M1 ∧ ii = .int .i64 (l1 + (p : Int)) ∧ Hid (OwnLs (fun w' u x => OwnF w w.heap.size w' u x) 23 w.heap.size wr v (IM.F0 fb l1 l2 l3 M2 M3 p)) ∧ Hid (Below w.heap.size w wr)) (fun _ ii _ => (u1 + 1 - intOf ii).toNat)
  case atStart => exact ⟨0, Nat.zero_le _, vint (by omega), Lib.hid (OwnLs.nil _ _ _), HBW⟩
  case round =>
    obtain ⟨p, hp, rfl, hol, hbl⟩ := hrel
    clear HBW
    obtain ⟨oa, oc, hov, _, _⟩ := hol.out.rd.shape
    obtain ⟨on, hon⟩ : ∃ on, on = (IM.F0 fb l1 l2 l3 M2 M3 p).length := ⟨_, rfl⟩
    rw [← hon] at hov
    subst hov
    have HON := Lib.hid hon
    clear hon
    go_wp2_with fail
    refine (HB1.out wr hbl.out).mono ?_
    rintro e w3 ⟨rfl, hb3⟩
    have HOL := Lib.hid (hol.out.below hb3 (fun u x h => h.below hb3))
    have HBL := Lib.hid (bnext hbl.out hb3)
    clear hol hbl hb3
    by_cases hpM : p < M1
    case neg =>
      obtain rfl : p = M1 := by omega
      have hq : ¬ (l1 + (p : Int) ≤ u1) := by omega
      clear hpM hp HON HL HA2 HA3 HB1 HB2 HB3 HR
      go_wp2
      go_ret
      exact ⟨_, rfl, HOL.out, HBL.out⟩
    have hq : l1 + (p : Int) ≤ u1 := by omega
    obtain ⟨A, hA⟩ : ∃ A, A = l1 + (p : Int) := ⟨_, rfl⟩
    have HAE := Lib.hid hA
    have hA0 : 0 ≤ A ∧ A ≤ 1000 := by omega
    rw [← hA] at hq ⊢
    clear hA
    go_wp2_with fail
    refine (HA2.out _ HBL.out).mono ?_
    rintro e w4 ⟨rfl, hb4⟩
    have HO4 := Lib.hid (show OwnLs (fun w' u x => OwnF w w.heap.size w' u x) 23 w.heap.size w4 (.slice oa on oc) (IM.F0 fb l1 l2 l3 M2 M3 p ++ IM.F1 fb A l2 l3 M3 0) by
      rw [show IM.F1 fb A l2 l3 M3 0 = [] from rfl, List.append_nil]; exact HOL.out.below hb4 (fun u x h => h.below hb4))
    have HB4 := Lib.hid (bnext HBL.out hb4)
    clear hb4 HOL HBL HON
    go_wp2
    go_loopw [5, 8] (fun v jj wr => ∃ q : Nat, q ≤ M2 ∧ jj = .int .i64 (l2 + (q : Int)) ∧ Hid (OwnLs (fun w' u x => OwnF w w.heap.size w' u x) 23 w.heap.size wr v (IM.F0 fb l1 l2 l3 M2 M3 p ++ IM.F1 fb A l2 l3 M3 q)) ∧ Hid (Below w.heap.size w wr)) (fun _ jj _ => (u2 + 1 - intOf jj).toNat)
    case atStart => exact ⟨0, Nat.zero_le _, vint (by omega), HO4, HB4⟩
    case round =>
      obtain ⟨q, hq', rfl, hol, hbl⟩ := hrel
      clear HO4 HB4
      obtain ⟨pa, pc, hov, _, _⟩ := hol.out.rd.shape
      obtain ⟨pn, hon⟩ : ∃ pn, pn = (IM.F0 fb l1 l2 l3 M2 M3 p ++ IM.F1 fb A l2 l3 M3 q).length := ⟨_, rfl⟩
      rw [← hon] at hov
      subst hov
      have HON := Lib.hid hon
      clear hon
      go_wp2_with fail
      refine (HB2.out wr hbl.out).mono ?_
      rintro e w5 ⟨rfl, hb5⟩
      have HOL := Lib.hid (hol.out.below hb5 (fun u x h => h.below hb5))
      have HBL := Lib.hid (bnext hbl.out hb5)
      clear hol hbl hb5
      by_cases hqM : q < M2
      case neg =>
        obtain rfl : q = M2 := by omega
        have hq2 : ¬ (l2 + (q : Int) ≤ u2) := by omega
        have HF := Lib.hid (show OwnLs (fun w' u x => OwnF w w.heap.size w' u x) 23 w.heap.size w5 (.slice pa pn pc) (IM.F0 fb l1 l2 l3 q M3 (p + 1)) by rw [IM.F0_snoc, ← HAE.out]; exact HOL.out)
        clear hqM hq' HON HA3 HB2 HB3 HR HL HOL
        go_wp2
        go_roundw
        case rel => exact ⟨p + 1, by omega, vint (by have := HAE.out; omega), HF, HBL⟩
        case measure => have := HAE.out; simp [intOf]; omega
      have hq2 : l2 + (q : Int) ≤ u2 := by omega
      obtain ⟨B, hB⟩ : ∃ B, B = l2 + (q : Int) := ⟨_, rfl⟩
      have HBE := Lib.hid hB
      have hB0 : 0 ≤ B ∧ B ≤ 1000 := by omega
      rw [← hB] at hq2 ⊢
      clear hB
      go_wp2_with fail
      refine (HA3.out _ HBL.out).mono ?_
      rintro e w6 ⟨rfl, hb6⟩
      have HO6 := Lib.hid (show OwnLs (fun w' u x => OwnF w w.heap.size w' u x) 23 w.heap.size w6 (.slice pa pn pc) (IM.F0 fb l1 l2 l3 M2 M3 p ++ IM.F1 fb A l2 l3 M3 q ++ IM.F2 fb A B l3 0) by
        rw [show IM.F2 fb A B l3 0 = [] from rfl, List.append_nil]; exact HOL.out.below hb6 (fun u x h => h.below hb6))
      have HB6 := Lib.hid (bnext HBL.out hb6)
      clear hb6 HOL HBL HON
      go_wp2
      go_loopw [5, 9] (fun v kk wr => ∃ r : Nat, r ≤ M3 ∧ kk = .int .i64 (l3 + (r : Int)) ∧ Hid (OwnLs (fun w' u x => OwnF w w.heap.size w' u x) 23 w.heap.size wr v (IM.F0 fb l1 l2 l3 M2 M3 p ++ IM.F1 fb A l2 l3 M3 q ++ IM.F2 fb A B l3 r)) ∧ Hid (Below w.heap.size w wr)) (fun _ kk _ => (u3 + 1 - intOf kk).toNat)
      case atStart => exact ⟨0, Nat.zero_le _, vint (by omega), HO6, HB6⟩
      case round =>
        obtain ⟨r, hr', rfl, hol, hbl⟩ := hrel
        clear HO6 HB6
        obtain ⟨ra, rc, hov, _, _⟩ := hol.out.rd.shape
        obtain ⟨rn, hon⟩ : ∃ rn, rn = (IM.F0 fb l1 l2 l3 M2 M3 p ++ IM.F1 fb A l2 l3 M3 q ++ IM.F2 fb A B l3 r).length := ⟨_, rfl⟩
        rw [← hon] at hov
        subst hov
        have HON := Lib.hid hon
        clear hon
        go_wp2_with fail
        refine (HB3.out wr hbl.out).mono ?_
        rintro e w7 ⟨rfl, hb7⟩
        have HOL := Lib.hid (hol.out.below hb7 (fun u x h => h.below hb7))
        have HBL := Lib.hid (bnext hbl.out hb7)
        clear hol hbl hb7
        by_cases hrM : r < M3
        case neg =>
          obtain rfl : r = M3 := by omega
          have hq3 : ¬ (l3 + (r : Int) ≤ u3) := by omega
          have HF := Lib.hid (show OwnLs (fun w' u x => OwnF w w.heap.size w' u x) 23 w.heap.size w7 (.slice ra rn rc) (IM.F0 fb l1 l2 l3 M2 r p ++ IM.F1 fb A l2 l3 r (q + 1)) by rw [IM.F1_snoc, ← HBE.out, ← List.append_assoc]; exact HOL.out)
          clear hrM hr' HON HB3 HR HL HOL
          go_wp2
          go_roundw
          case rel => exact ⟨q + 1, by omega, vint (by have := HBE.out; omega), HF, HBL⟩
          case measure => have := HBE.out; simp [intOf]; omega
        have hq3 : l3 + (r : Int) ≤ u3 := by omega
        obtain ⟨Cc, hC⟩ : ∃ Cc, Cc = l3 + (r : Int) := ⟨_, rfl⟩
        have HCE := Lib.hid hC
        have hC0 : 0 ≤ Cc ∧ Cc ≤ 1000 := by omega
        rw [← hC] at hq3 ⊢
        clear hC
        have HW1 := Lib.hid (VX.rWith (.slice none 0 0) [] 201 A w7 (OwnE.rdV (OwnG.nil hlE 89 0 w7)) (by omega) hA0.1 (by omega) (by simp))
        go_wp2_with fail
        refine HW1.out.mono ?_
        rintro e w8 ⟨v8, rfl, ho8, hb8⟩
        have HB8 := Lib.hid (bnext HBL.out hb8)
        have HO8 := Lib.hid (HOL.out.below hb8 (fun u x h => h.below hb8))
        have hw1 := VM.wi_spec (a := 201) (c := A) (by omega) hA0.1 (by omega) (VM.Val.nil 0)
        have hl1 := VM.wi_length [] 201 A
        have HW2 := Lib.hid (VX.rWith v8 _ 202 B w8 (OwnE.rdV (vx_ownE ho8)) (by omega) hB0.1 (by omega) (by simp at hl1; omega))
        obtain ⟨a8, c8, hv8, _, _⟩ := (vx_ownE ho8).rd.shape
        have hl2 := VM.wi_length (VM.wi [] 201 A) 202 B
        obtain ⟨V1, hV1⟩ : ∃ V1, V1 = VM.wi [] 201 A := ⟨_, rfl⟩
        rw [← hV1] at hv8 HW2 hl1 hl2
        have HV1 := Lib.hid hV1
        subst hv8
        clear ho8 hb8 HW1 HOL HBL hw1 hV1
        generalize V1.length = n8 at *
        go_wp2_with fail
        refine HW2.out.mono ?_
        rintro e w9 ⟨v9, rfl, ho9, hb9⟩
        have HB9 := Lib.hid (bnext HB8.out hb9)
        have HO9 := Lib.hid (HO8.out.below hb9 (fun u x h => h.below hb9))
        have HW3 := Lib.hid (VX.rWith v9 _ 203 Cc w9 (OwnE.rdV (vx_ownE ho9)) (by omega) hC0.1 (by omega) (by simp at hl1; omega))
        obtain ⟨a9, c9, hv9, _, _⟩ := (vx_ownE ho9).rd.shape
        obtain ⟨V2, hV2⟩ : ∃ V2, V2 = VM.wi V1 202 B := ⟨_, rfl⟩
        rw [← hV2] at hv9 HW3 hl2
        have HV2 := Lib.hid (hV2.trans (by rw [HV1.out]))
        subst hv9
        clear ho9 hb9 HW2 HB8 HO8 hV2 hl2 hl1
        generalize V2.length = n9 at *
        go_wp2_with fail
        refine HW3.out.mono ?_
        rintro e w10 ⟨v10, rfl, ho10, hb10⟩
        have HB10 := Lib.hid (bnext HB9.out hb10)
        have HO10 := Lib.hid (HO9.out.below hb10 (fun u x h => h.below hb10))
        obtain ⟨V3, hV3⟩ : ∃ V3, V3 = VM.wi V2 203 Cc := ⟨_, rfl⟩
        have HV3 := Lib.hid (show V3 = VM.wi (VM.wi (VM.wi [] 201 A) 202 B) 203 Cc by rw [hV3, HV2.out])
        rw [← hV3] at ho10
        obtain ⟨a10, c10, hv10, _, _⟩ := (vx_ownE ho10).rd.shape
        have HRR := Lib.hid (HR.out v10 V3 w10 (OwnE.rdV (vx_ownE ho10)) HB10.out)
        subst hv10
        clear ho10 hb10 HW3 HB9 HO9 hV3 HV2 HV1
        generalize V3.length = n10 at *
        go_wp2_with fail
        refine HRR.out.mono ?_
        rintro e w11 ⟨v11, rfl, ho11, hb11⟩
        obtain ⟨a11, c11, hv11, _, _⟩ := ho11.shape
        have HXE := Lib.hid (show CM.rs fb (VM.cnt V3) = IM.X fb A B (l3 + (r : Int)) by rw [HV3.out, ← HCE.out]; rfl)
        obtain ⟨XX, hXX⟩ : ∃ XX, XX = CM.rs fb (VM.cnt V3) := ⟨_, rfl⟩
        rw [← hXX] at ho11 hv11 HXE
        subst hv11
        obtain ⟨ps, hp1, hp2, hp3⟩ := HO10.out.below hb11 (fun u x h => h.below hb11)
        have hpl : ps.length ≤ 1073741824 := by
          have e1 := congrArg List.length hp3
          rw [List.length_map] at e1
          have e2 := HL.out p q r (by omega) (by omega) (by omega) A B
          omega
        have HO11 := Lib.hid (show OwnF w w.heap.size w11 (.slice a11 XX.length c11) XX by obtain ⟨qs, g1, g2⟩ := ho11; exact ⟨qs, g1.mono HB10.out.size, g2⟩)
        have HB11 := Lib.hid (bnext HB10.out hb11)
        have HP2 := Lib.hid hp2
        have HP3 := Lib.hid hp3
        have hs11 := HB11.out.size
        clear ho11 hb11 hXX HRR HO10 HB10 hp2 hp3 HV3 HL
        generalize hnx : XX.length = nx at *
        have HNX := Lib.hid hnx
        clear hnx
        go_wp2_with (at_builtin; refine wp_appG1 cfgE ((a11, nx, c11), XX) rfl _ _ rfl rfl hp1 rfl hpl hs11 ?_)
        intro v12 w12 ho12 hb12 hk12 _
        obtain ⟨a12, l12, c12, hv12⟩ : ∃ a l c, v12 = .slice a l c := by obtain ⟨a, c, h, _⟩ := ho12.rd.shape; exact ⟨a, _, c, h⟩
        subst hv12
        have HFO := Lib.hid (show OwnLs (fun w' u x => OwnF w w.heap.size w' u x) 23 w.heap.size w12 (.slice a12 l12 c12) (IM.F0 fb l1 l2 l3 M2 M3 p ++ IM.F1 fb A l2 l3 M3 q ++ IM.F2 fb A B l3 (r + 1)) by
          rw [IM.F2_snoc, ← List.append_assoc, ← HXE.out]
          exact OwnLs.snoc HP2.out HP3.out ho12 (fun u y h => h.keep hk12 (by decide)) (HO11.out.keep hk12 (by decide)))
        have HB12 := Lib.hid (HB11.out.trans hb12)
        clear ho12 hb12 hk12 hp1 HP2 HP3 HB11 HO11 hs11 hpl
        go_wp2
        go_roundw
        case rel => exact ⟨r + 1, by omega, vint (by have := HCE.out; omega), HFO, HB12⟩
        case measure => have := HCE.out; simp [intOf]; omega

end Go.Proofs.YthfpafnljnnndaaGreat

namespace Go.Proofs.YthfpafnljnnndaaGreat
open Go.RowKit Go.Joins Go.Shelf
open JM (Chg)
open CM (Fp)
open VM (Ent)

/-- All are valid, and agree with those ahead of them. -/
def VldK (ls : List (List Fp)) (i k : Nat) : Prop := (∀ j f, ls[j]? = some f → j < i → CM.Ok f) ∧ (∀ (a b : Nat) (f g : List Fp), ls[a]? = some f → ls[b]? = some g → b < a → a < i ∨ (a = i ∧ b < k) → CM.Agr f g)
def VPost (ls : List (List Fp)) (w : World) (e : Ending) (w' : World) : Prop := ∃ B : Bool, e = .returned (.bool B) ∧ (B = true → (∀ f ∈ ls, CM.Ok f) ∧ ∀ (a b : Nat) (f g : List Fp), ls[a]? = some f → ls[b]? = some g → b < a → CM.Agr f g) ∧ Below w.heap.size w w'
set_option maxRecDepth 100000 in
set_option maxHeartbeats 4000000 in
theorem kValidL (v : Value) (ls : List (List Fp)) (w : World) (h : RdLs RdF w v ls) :
    Calls Tryz.prog 9 #[v] w (VPost ls w) := by
  obtain ⟨ad, c, rfl, hc, hll⟩ := h.shape
  have HX := Lib.hid h
  clear h
  go_enter Tryz.func9, Tryz.ntmps9
  go_wp2
  go_loopw [3] (fun i wr => ∃ j : Nat, j ≤ ls.length ∧ i = .int .i64 j ∧ Below w.heap.size w wr ∧ Hid (VldK ls j 0)) (fun i _ => ls.length - (intOf i).toNat)
  case atStart => exact ⟨0, Nat.zero_le _, rfl, Below.refl _ _, Lib.hid ⟨fun j f _ h => by omega, fun a b f g _ _ h1 h2 => by omega⟩⟩
  case round =>
    obtain ⟨i, hi', rfl, hbl, he⟩ := hrel
    by_cases hlt : i < ls.length
    case neg =>
      have hq : ¬ ((i : Int) < (ls.length : Int)) := by omega
      have HF := Lib.hid (show (∀ f ∈ ls, CM.Ok f) ∧ ∀ (a b : Nat) (f g : List Fp), ls[a]? = some f → ls[b]? = some g → b < a → CM.Agr f g from by
        obtain ⟨h1, h2⟩ := he.out
        refine ⟨fun f hf => ?_, fun a b f g ha hb hba => h2 a b f g ha hb hba (.inl ?_)⟩
        · obtain ⟨j, hj, rfl⟩ := List.getElem_of_mem hf
          exact h1 j _ (List.getElem?_eq_getElem hj) (by omega)
        · have := (List.getElem?_eq_some_iff.1 ha).1; omega)
      clear he
      go_wp2
      go_ret
      exact ⟨true, rfl, fun _ => HF.out, hbl⟩
    have hq : (i : Int) < (ls.length : Int) := by omega
    have hat := List.getElem?_eq_getElem hlt
    generalize ls[i] = f at hat
    obtain ⟨b, o, ad2, l2, c2, hix, hb, d0, hrd⟩ := HX.out.at_ cfgE i f hat
    have d0 := below_cell hbl d0
    have HV := Lib.hid (rValidateC _ f wr (hrd.below hbl))
    obtain ⟨E, hE⟩ : ∃ E, E = CM.errL (0, 0) f := ⟨_, rfl⟩
    rw [← hE] at HV
    have HRD := Lib.hid hrd
    have HAT := Lib.hid hat
    have HEE := Lib.hid hE
    clear hrd hat hE
    go_wp2_with fail
    refine HV.out.mono ?_
    rintro e w2 ⟨rfl, hb2⟩
    have HB2 := Lib.hid (bnext hbl hb2)
    clear hbl hb2 HV d0
    by_cases hz : E = 0
    case neg =>
      have hne : (E != 0) = true := by simpa using hz
      clear hz he HEE
      go_wp2
      go_ret
      exact ⟨false, rfl, fun h => by simp at h, HB2.out⟩
    subst hz
    have HE1 := Lib.hid (show VldK ls i 0 ∧ CM.Ok f from ⟨he.out, HEE.out.symm⟩)
    clear he HEE
    go_wp2
    go_loopw [4] (fun i2 wr => ∃ k : Nat, k ≤ i ∧ i2 = .int .i64 k ∧ Below w.heap.size w wr ∧ Hid (VldK ls i k)) (fun i2 _ => i - (intOf i2).toNat)
    case atStart => exact ⟨0, Nat.zero_le _, rfl, HB2.out, Lib.hid HE1.out.1⟩
    case round =>
      obtain ⟨k, hk', rfl, hbl, he⟩ := hrel
      by_cases hlk : k < i
      case neg =>
        have hq2 : ¬ ((k : Int) < (i : Int)) := by omega
        have HN := Lib.hid (show VldK ls (i + 1) 0 from by
          obtain ⟨h1, h2⟩ := he.out
          refine ⟨fun j g hj hji => ?_, fun a b x y ha hb hba hor => ?_⟩
          · by_cases hji2 : j = i
            · subst hji2
              obtain rfl : f = g := Option.some.inj (HAT.out.symm.trans hj)
              exact HE1.out.2
            · exact h1 j g hj (by omega)
          · exact h2 a b x y ha hb hba (by omega))
        clear he HE1
        go_wp2
        go_roundw
        case rel => exact ⟨i + 1, by omega, by go_num, hbl, HN⟩
        case measure => simp [intOf]; omega
      have hq2 : (k : Int) < (i : Int) := by omega
      have hat := List.getElem?_eq_getElem (show k < ls.length by omega)
      generalize ls[k]'(by omega) = g at hat
      obtain ⟨b3, o3, ad3, l3, c3, hix3, hb3, e0, hrd3⟩ := HX.out.at_ cfgE k g hat
      obtain ⟨b4, o4, ad4, l4, c4, hix4, hb4, d0, hrd4⟩ := HX.out.at_ cfgE i f HAT.out
      have k0 : ∀ p : Later wr, p.val.cell? ⟨b4, o4, none⟩ = some (.slice ad4 l4 c4) := fun p => below_cell (bnext hbl p.h) d0
      have k1 : ∀ p : Later wr, p.val.cell? ⟨b3, o3, none⟩ = some (.slice ad3 l3 c3) := fun p => below_cell (bnext hbl p.h) e0
      have HG := Lib.hid (fun p : Later wr => Calls.later (rAgree _ _ f g p.val (hrd4.below (bnext hbl p.h)) (hrd3.below (bnext hbl p.h))))
      obtain ⟨AG, hAG⟩ : ∃ AG, AG = CM.agr f g := ⟨_, rfl⟩
      rw [← hAG] at HG
      have HAG := Lib.hid hAG
      have HATK := Lib.hid hat
      have HBL := Lib.hid hbl
      clear hat e0 d0 hrd3 hrd4 hAG hix hb hbl
      go_wp2
      refine wp_region_later (by kernel_rfl) (by kernel_rfl) ?_
      repeat (go_big_quiet_step (first | (go_at_call 37; with_reducible exact HG.out _)))
      refine wpQuiet_nil ?_
      rintro _ ⟨p', rfl⟩
      have HB3 := Lib.hid (bnext HBL.out p'.h)
      generalize p'.val = w3 at HB3 ⊢
      clear HG k0 k1 HBL
      cases AG
      · clear he HE1
        go_wp2
        go_ret
        exact ⟨false, rfl, fun h => by simp at h, HB3.out⟩
      · have HN := Lib.hid (show VldK ls i (k + 1) from by
          obtain ⟨h1, h2⟩ := he.out
          refine ⟨h1, fun a b x y ha hb hba hor => ?_⟩
          by_cases hh : a = i ∧ b = k
          · obtain ⟨rfl, rfl⟩ := hh
            obtain rfl : f = x := Option.some.inj (HAT.out.symm.trans ha)
            obtain rfl : g = y := Option.some.inj (HATK.out.symm.trans hb)
            exact CM.agr_iff HAG.out.symm
          · exact h2 a b x y ha hb hba (by omega))
        clear he
        go_wp2
        go_roundw
        case rel => exact ⟨k + 1, by omega, by go_num, HB3.out, HN⟩
        case measure => simp [intOf]; omega

set_option maxRecDepth 100000 in
set_option maxHeartbeats 2000000 in
theorem rAll (va vb : Value) (fa fb : List Fp) (w : World) (h1 : RdF w va fa) (h2 : RdF w vb fb) (o1 : CM.Ok fa) (o2 : CM.Ok fb) (hag : CM.Agr fb fa) :
    Calls Tryz.prog 11 #[va, vb] w fun e w' => ∃ v, e = .returned v ∧ OwnLs (fun w' u x => OwnF w w.heap.size w' u x) 23 w.heap.size w' v (IM.all fa fb) ∧ Below w.heap.size w w' := by
  by_cases hc : CM.cons fb fa = true
  · have s1 := CM.vo_spec o1
    have s2 := CM.vo_spec o2
    have hab : ∀ a, CM.ct fa a ≤ CM.ct fb a := fun a => by
      by_cases hz : CM.ct fa a < 1
      · have := CM.ct_pos fb a; omega
      · have h3 := (o1.has a (CM.ct fa a) (by omega)).2 (Int.le_refl _)
        obtain ⟨f, hf, e1, e2⟩ := CM.hasK_iff.1 h3
        exact (o2.has a (CM.ct fa a) (by omega)).1 (CM.hasK_iff.2 ⟨f, CM.cons_iff.1 hc f hf, e1, e2⟩)
    have hM : ∀ a, ((IM.num (CM.ct fa a) (CM.ct fb a) : Nat) : Int) = CM.ct fb a - CM.ct fa a + 1 ∧ IM.num (CM.ct fa a) (CM.ct fb a) ≤ 4 := fun a => by
      have k1 := hab a
      have k2 := o2.ct3 a
      have k3 := CM.ct_pos fa a
      unfold IM.num; omega
    have e := IM.all_F0 hc
    rw [s1.2, s1.2, s1.2, s2.2, s2.2, s2.2] at e
    rw [e]
    exact rAllIn va vb fa fb w h1 h2 o1 o2 (by rw [CM.conk_cons hag]; exact hc) _ _ _ (hM 201).1 (hM 202).1 (hM 203).1 (hM 201).2 (hM 202).2 (hM 203).2
  · have e : IM.all fa fb = [] := by unfold IM.all IM.iv; rw [if_neg hc]; rfl
    have hcf : CM.conk fb fa = false := by rw [CM.conk_cons hag]; simpa using hc
    rw [e]
    have hct := rContains vb va fb fa w h2 h1
    rw [hcf] at hct
    have HCT := Lib.hid hct
    obtain ⟨a, ca, rfl, _, _⟩ := h1.shape
    obtain ⟨b, cb, rfl, _, _⟩ := h2.shape
    clear h1 h2 o1 o2 hc hcf e hag hct
    go_enter Tryz.func11, Tryz.ntmps11
    go_wp2_with fail
    refine HCT.out.mono ?_
    rintro e w1 ⟨rfl, hb⟩
    go_wp2
    go_ret
    exact ⟨_, rfl, OwnLs.nil _ _ _, hb⟩

set_option maxRecDepth 100000 in
set_option maxHeartbeats 2000000 in
theorem lSame9 (u v : Value) (xs ys : List (List Fp)) (w : World) (hx : RdLs RdF w u xs) (hy : RdLs RdF w v ys) (he0 : xs = ys) :
    Calls Tryz.prog 12 #[u, v] w fun e w' => e = .returned (.bool true) ∧ Below w.heap.size w w' := by
  subst he0
  obtain ⟨ad, c, rfl, hc, hl⟩ := hx.shape
  obtain ⟨bd, d, rfl, hd, hld⟩ := hy.shape
  have HA := Lib.hid hx
  have HBB := Lib.hid hy
  have hq0 : ((xs.length : Int) != (xs.length : Int)) = false := by simp
  clear hx hy
  go_enter Tryz.func12, Tryz.ntmps12
  go_wp2
  go_loopw [5] (fun i wr => ∃ k : Nat, k ≤ xs.length ∧ i = .int .i64 k ∧ Below w.heap.size w wr) (fun i _ => xs.length - (intOf i).toNat)
  case atStart => exact ⟨0, Nat.zero_le _, rfl, Below.refl _ _⟩
  case round =>
    obtain ⟨k, hk, rfl, hbl⟩ := hrel
    by_cases hlt : k < xs.length
    · have hq : (k : Int) < (xs.length : Int) := by omega
      have hat := List.getElem?_eq_getElem hlt
      generalize xs[k] = f at hat
      obtain ⟨b3, o3, ad3, l3, c3, hix3, hb3, e0, hrd3⟩ := HA.out.at_ cfgE k f hat
      obtain ⟨b4, o4, ad4, l4, c4, hix4, hb4, d0, hrd4⟩ := HBB.out.at_ cfgE k f hat
      have k0 : ∀ p : Later wr, p.val.cell? ⟨b3, o3, none⟩ = some (.slice ad3 l3 c3) := fun p => below_cell (bnext hbl p.h) e0
      have k1 : ∀ p : Later wr, p.val.cell? ⟨b4, o4, none⟩ = some (.slice ad4 l4 c4) := fun p => below_cell (bnext hbl p.h) d0
      have HG := Lib.hid (fun p : Later wr => Calls.later (by have := rEqualConfig _ _ f f p.val (hrd3.below (bnext hbl p.h)) (hrd4.below (bnext hbl p.h)); rw [decide_eq_true rfl] at this; exact this))
      have HBL := Lib.hid hbl
      clear hat e0 d0 hrd3 hrd4 hbl
      go_wp2
      refine wp_region_later (by kernel_rfl) (by kernel_rfl) ?_
      repeat (go_big_quiet_step (first | (go_at_call 26; with_reducible exact HG.out _)))
      refine wpQuiet_nil ?_
      rintro _ ⟨p', rfl⟩
      have HB3 := Lib.hid (bnext HBL.out p'.h)
      generalize p'.val = w3 at HB3 ⊢
      clear HG k0 k1 HBL
      go_wp2
      go_roundw
      case rel => exact ⟨k + 1, by omega, by go_num, HB3.out⟩
      case measure => simp [intOf]; omega
    · have hq : ¬ ((k : Int) < (xs.length : Int)) := by omega
      go_wp2
      go_ret
      exact ⟨rfl, hbl⟩

end Go.Proofs.YthfpafnljnnndaaGreat
