/-
  The call of the reference's CompileCommands: what DM.cmpl gives. Conditions: the summary reads, its versions lie in their bounds; the text has at most a million bytes.
-/
import Derived.Test.YteiicflodobpnaaGreatDoorDRPc
import Derived.Test.YteiicflodobpnaaGreatDoorDRef5
import Derived.Test.YteiicflodobpnaaGreatDoorDComp
namespace Go.Proofs.YteiicflodobpnaaGreatDoor
open Go.RowKit Go.Joins Go.Shelf
open JM (Chg)
open MM (Mem Ent Sm Tri)

/-- What is so ahead of byte k, the line having begun at p. -/
def Jc (l : List UInt8) (s : Sm) (C : List Chg × Int × Int) (p k : Nat) (acc : List Chg) (n : Int) : Prop :=
  (k ≤ l.length ∧ (10 : UInt8) ∉ (l.drop p).take (k - p) ∧ C = DM.comp s (DM.sp 10 (l.drop p)) acc n) ∨ (k = l.length + 1 ∧ C = DM.comp s [] acc n)
theorem jc_end {l : List UInt8} {s : Sm} {C : List Chg × Int × Int} {p k : Nat} {acc : List Chg} {n : Int} (hpk : p ≤ k) (h : Jc l s C p k acc n) (hk : k = l.length) :
    ∃ rest, C = DM.comp s ((l.drop p).take (k - p) :: rest) acc n ∧ ∀ acc' n', C = DM.comp s rest acc' n' → Jc l s C (k + 1) (k + 1) acc' n' := by
  rcases h with ⟨_, h2, h3⟩ | ⟨h1, _⟩
  · refine ⟨[], ?_, fun acc' n' h => .inr ⟨by omega, h⟩⟩
    have e : (l.drop p).take (k - p) = l.drop p := List.take_of_length_le (by rw [List.length_drop]; omega)
    rw [e] at h2 ⊢
    rw [h3, DM.sp_none h2]
  · omega
theorem jc_cut {l : List UInt8} {s : Sm} {C : List Chg × Int × Int} {p k : Nat} {acc : List Chg} {n : Int} (hpk : p ≤ k) (h : Jc l s C p k acc n) (hk : k < l.length) (h10 : l[k] = 10) :
    ∃ rest, C = DM.comp s ((l.drop p).take (k - p) :: rest) acc n ∧ ∀ acc' n', C = DM.comp s rest acc' n' → Jc l s C (k + 1) (k + 1) acc' n' := by
  rcases h with ⟨_, h2, h3⟩ | ⟨h1, _⟩
  · refine ⟨DM.sp 10 (l.drop (k + 1)), ?_, fun acc' n' h => .inl ⟨by omega, by simp, h⟩⟩
    have e : l.drop p = (l.drop p).take (k - p) ++ 10 :: l.drop (k + 1) := by
      have e1 := List.take_append_drop (k - p) (l.drop p)
      rw [List.drop_drop, show p + (k - p) = k by omega, List.drop_eq_getElem_cons hk, h10] at e1
      exact e1.symm
    rw [h3, e, DM.sp_hit h2, ← e]
  · omega
theorem jc_on {l : List UInt8} {s : Sm} {C : List Chg × Int × Int} {p k : Nat} {acc : List Chg} {n : Int} (hpk : p ≤ k) (h : Jc l s C p k acc n) (hk : k < l.length) (h10 : l[k] ≠ 10) : Jc l s C p (k + 1) acc n := by
  rcases h with ⟨_, h2, h3⟩ | ⟨h1, _⟩
  · refine .inl ⟨by omega, ?_, h3⟩
    rw [show k + 1 - p = (k - p) + 1 by omega, List.take_succ_eq_append_getElem (by rw [List.length_drop]; omega), List.mem_append]
    rintro (h | h)
    · exact h2 h
    · rw [List.mem_singleton, List.getElem_drop] at h
      simp only [show p + (k - p) = k by omega] at h
      exact h10 h.symm
  · omega

set_option maxRecDepth 100000 in
set_option maxHeartbeats 8000000 in
theorem rCompile (text : ByteArray) (x y z : Value) (s : Sm) (w : World) (ht : text.size ≤ 1000000) (hx : RdI w x s.J) (hy : RdI w y s.R) (hz : RdW w z s.W) (hsv : 0 ≤ s.v) (hwv : ∀ u, 0 ≤ DM.wv s.W u) (hlW : s.W.length ≤ 1000000) :
    Calls Tryz.prog 8 #[.string text, Go.Proofs.YteiicflodobpnaaGreatDoor.sv x y z s.k s.c s.f s.v s.a s.n] w (Cpost text s w) := by
  have hb0 := below_fresh w (.cells (s9 x y z s.k s.c s.f s.v s.a s.n) 27)
  have hx0 := heap_alloc_new w (.cells (s9 x y z s.k s.c s.f s.v s.a s.n) 27)
  obtain ⟨w1, hw1⟩ : ∃ w1, w.alloc (.cells (s9 x y z s.k s.c s.f s.v s.a s.n) 27) = w1 := ⟨_, rfl⟩
  rw [hw1] at hb0 hx0
  have HPC := Lib.hid (fun (X : ByteArray) w' (h : X.size ≤ 1000000) => rParse X w' h)
  have HPL := Lib.hid (fun k sv t a b c acc va w' (hk : k = 1 ∨ k = 2 ∨ k = 3 ∨ k = 4) (hacc : RdC w' va acc) (h6 : acc.length ≤ 6) (hb : Below w.heap.size w w') =>
    rPlaced k sv t a b c x y z acc va s w' hk hacc h6 (hx.below hb) (hy.below hb) (hz.below hb) hsv (hwv sv) hlW)
  obtain ⟨xa, xc, rfl, _, _⟩ := hx.shape
  obtain ⟨ya, yc, rfl, _, _⟩ := hy.shape
  obtain ⟨za, zc, rfl, _, _⟩ := hz.shape
  obtain ⟨C, hC⟩ : ∃ C, C = DM.cmpl text.data.toList s := ⟨_, rfl⟩
  have hgoal : Cpost text s w = fun e w' => ∃ v, e = .returned (.tuple #[v, .int .i64 C.2.1, .int .i64 C.2.2]) ∧ RdC w' v C.1 ∧ Below w.heap.size w w' := by rw [hC]; rfl
  rw [hgoal]
  have HJ0 := Lib.hid (show Jc text.data.toList s C 0 0 [] 0 from .inl ⟨Nat.zero_le _, by simp, by rw [hC]; rfl⟩)
  have HTL := Lib.hid (b_len text)
  have HX0 := Lib.hid hx0
  have HB0 := Lib.hid hb0
  have HW := Lib.hid hw1
  clear hb0 hx0 hw1 hgoal hC hx hy hz hsv hwv hlW
  generalize s.J.length = lJ at *
  generalize s.R.length = lR at *
  generalize s.W.length = lW at *
  go_enter Tryz.func8, Tryz.ntmps8
  go_upto_region 1 with fail
  rw [HW.out]
  go_wp2
  go_loopw [7, 8, 9, 10] (fun v p ln i wr => ∃ (acc : List Chg) (p' k n : Nat), i = .int .i64 k ∧ p = .int .i64 p' ∧ ln = .int .i64 n ∧ k ≤ text.size + 1 ∧ p' ≤ k ∧ n ≤ k ∧ acc.length ≤ 6 ∧ Hid (OwnC w1.heap.size wr v acc) ∧ Hid (Below w1.heap.size w1 wr) ∧ Hid (Jc text.data.toList s C p' k acc n))
    (fun _ _ _ i _ => text.size + 1 - (intOf i).toNat)
  case atStart => exact ⟨[], 0, 0, 0, rfl, rfl, rfl, Nat.zero_le _, Nat.le_refl _, Nat.le_refl _, Nat.zero_le _, Lib.hid (OwnG.nil hlC _ _ _), Lib.hid (Below.refl _ _), HJ0⟩
  case round =>
    obtain ⟨acc, p, k, n, rfl, rfl, rfl, hk, hpk, hnk, hal, ho, hb, he⟩ := hrel
    clear HJ0
    by_cases hlt : k ≤ text.size
    case neg =>
      have hq : ¬ (k : Int) ≤ (text.size : Int) := by omega
      have hCE : C = if acc = [] then ([], 0, 2) else (acc, 0, 0) := by
        rcases he.out with h | h
        · have := HTL.out; omega
        · exact h.2
      have HBF := Lib.hid (bnext HB0.out hb.out)
      have HO := ho
      obtain ⟨oa, oc, rfl, _, _⟩ := ho.out.rd.shape
      by_cases ha : acc = []
      · have HC := Lib.hid (hCE.trans (if_pos ha))
        have g1 : ((acc.length : Int) == 0) = true := by rw [ha]; rfl
        clear hCE ha he ho hb HPC HPL
        go_wp2
        go_ret3
        rw [HC.out]
        exact ⟨_, rfl, RdG.nil hlC _, HBF.out⟩
      · have HC := Lib.hid (hCE.trans (if_neg ha))
        have g1 : ((acc.length : Int) == 0) = false := beq_eq_false_iff_ne.2 (fun e => ha (List.eq_nil_of_length_eq_zero (by omega)))
        clear hCE ha he ho hb HPC HPL
        go_wp2
        go_ret3
        rw [HC.out]
        exact ⟨_, rfl, HO.out.rd, HBF.out⟩
    have hq : (k : Int) ≤ (text.size : Int) := by omega
    have hk6 : k ≤ 1000000 := by omega
    have hn6 : n ≤ 1000000 := by omega
    have hend : (k = text.size ∨ ∃ h : k < text.size, text[k] = 10) ∨ ∃ h : k < text.size, text[k] ≠ 10 := by
      by_cases h1 : k = text.size
      · exact .inl (.inl h1)
      by_cases h2 : text[k]'(by omega) = 10
      · exact .inl (.inr ⟨by omega, h2⟩)
      · exact .inr ⟨by omega, h2⟩
    rcases hend with hend | ⟨hks, h10⟩
    case inr =>
      have hq2 : (k : Int) < (text.size : Int) := by omega
      have hkl : k < text.data.toList.length := by rw [HTL.out]; exact hks
      have hget : text.data.toList[k] = text[k] := by simp [ByteArray.getElem_eq_getElem_data]
      have HJ := Lib.hid (jc_on hpk he.out hkl (by rw [hget]; exact h10))
      obtain ⟨u, hu⟩ : ∃ u : Nat, text[k].toNat = u := ⟨_, rfl⟩
      have g1 : ((u : Int) != 10) = true := by
        have : u ≠ 10 := fun e => h10 (UInt8.toNat_inj.1 (by rw [hu, e]; rfl))
        simpa [bne_iff_ne] using (show (u : Int) ≠ 10 by omega)
      clear hget he h10 HPC HPL
      go_wp2
      go_roundw
      case rel => exact ⟨acc, p, k + 1, n, by go_num, rfl, rfl, by omega, by omega, by omega, hal, ho, hb, HJ⟩
      case measure => simp [intOf]; omega
    obtain ⟨rest, h1, h2⟩ : ∃ rest, C = DM.comp s ((text.data.toList.drop p).take (k - p) :: rest) acc n ∧ ∀ acc' n', C = DM.comp s rest acc' n' → Jc text.data.toList s C (k + 1) (k + 1) acc' n' := by
      rcases hend with h | ⟨h, h'⟩
      · exact jc_end hpk he.out (by rw [HTL.out]; exact h)
      · have hkl : k < text.data.toList.length := by rw [HTL.out]; exact h
        have hget : text.data.toList[k] = text[k] := by simp [ByteArray.getElem_eq_getElem_data]
        exact jc_cut hpk he.out hkl (by rw [hget]; exact h')
    rw [← ext_data] at h1
    have hxs : (text.extract p k).size ≤ 1000000 := by rw [ByteArray.size_extract]; omega
    have HC1 := Lib.hid h1
    have HNX := Lib.hid h2
    have HXS := Lib.hid hxs
    clear h1 h2 hxs he
    obtain ⟨oa, oc, rfl, _, _⟩ := ho.out.rd.shape
    rcases hend with hke | ⟨hks, h10⟩
    case' inl =>
      have hq2 : ¬ (k : Int) < (text.size : Int) := by omega
      clear hke
    case' inr =>
      have hq2 : (k : Int) < (text.size : Int) := by omega
      obtain ⟨u, hu⟩ : ∃ u : Nat, text[k].toNat = u := ⟨_, rfl⟩
      have g1 : ((u : Int) != 10) = false := by
        have : u = 10 := by rw [← hu, h10]; rfl
        rw [this]; rfl
      clear h10
    all_goals
      go_upto_region 10 with fail
      obtain ⟨X, hX⟩ : ∃ X, X = text.extract p k := ⟨_, rfl⟩
      rw [← hX] at HC1 HXS ⊢
      clear hX hq2
      have hskip : Hid (∀ (h : DM.skip X.data.toList = true), C = DM.comp s rest acc ((n : Int) + 1)) := Lib.hid (fun h => by rw [HC1.out, DM.comp_skip h])
      by_cases h0 : X.size = 0
      · have e1 : X.toList.isEmpty = true := by
          rw [ByteArray.toList_eq]
          have : X.data.toList.length = 0 := (b_len X).trans h0
          rw [List.eq_nil_of_length_eq_zero this]; rfl
        have HJ := Lib.hid (HNX.out acc _ (hskip.out (by unfold DM.skip; rw [← ByteArray.toList_eq, e1]; rfl)))
        clear h0 HC1 HNX hskip HPC HPL
        go_wp2
        go_roundw
        case rel => exact ⟨acc, k + 1, k + 1, n + 1, by go_num, by go_num, by go_num, by omega, Nat.le_refl _, by omega, hal, ho, hb, HJ⟩
        case measure => simp [intOf]; omega
      have h0' : 0 < X.size := by omega
      have hne : X.data.toList ≠ [] := fun e => by have := b_len X; rw [e] at this; simp at this; omega
      have hhd : X.data.toList.head? = some X[0] := by
        rw [List.head?_eq_getElem?, List.getElem?_eq_getElem (by rw [b_len]; exact h0')]
        simp [ByteArray.getElem_eq_getElem_data]
      have e1 : X.toList.isEmpty = false := by
        rw [ByteArray.toList_eq]
        cases hl : X.data.toList with
        | nil => exact absurd hl hne
        | cons y r => rfl
      obtain ⟨v0, hv0⟩ : ∃ v0 : Nat, X[0].toNat = v0 := ⟨_, rfl⟩
      have hv8 : X[0] = 35 ↔ v0 = 35 := by rw [← hv0]; exact ⟨fun h => by rw [h]; rfl, fun h => UInt8.toNat_inj.1 h⟩
      have hsk : DM.skip X.data.toList = decide (v0 = 35) := by
        unfold DM.skip
        rw [← ByteArray.toList_eq, e1, ByteArray.toList_eq, hhd]
        by_cases h : v0 = 35
        · rw [hv8.2 h, decide_eq_true h]; rfl
        · rw [decide_eq_false h]
          have : X[0] ≠ 35 := fun e => h (hv8.1 e)
          simpa using this
      have HSK := Lib.hid hsk
      clear hne hhd hv8 hsk h0
      by_cases h35 : v0 = 35
      · have e2 : ((v0 : Int) == 35) = true := by rw [h35]; rfl
        have HJ := Lib.hid (HNX.out acc _ (hskip.out (by rw [HSK.out, decide_eq_true h35])))
        clear h35 HC1 HNX hskip HPC HPL HSK
        go_wp2
        go_roundw
        case rel => exact ⟨acc, k + 1, k + 1, n + 1, by go_num, by go_num, by go_num, by omega, Nat.le_refl _, by omega, hal, ho, hb, HJ⟩
        case measure => simp [intOf]; omega
      have e2 : ((v0 : Int) == 35) = false := beq_eq_false_iff_ne.2 (by omega)
      have HS0 := Lib.hid (show DM.skip X.data.toList = false by rw [HSK.out, decide_eq_false h35])
      obtain ⟨k', sv', t', a', b', c', er, hp, hk4⟩ := prs_shape X.data.toList
      have HPX := Lib.hid (fun w' => by
        have := HPC.out X w' HXS.out
        unfold Ppost at this
        rw [hp] at this
        exact (show Calls Tryz.prog 26 #[.string X] w' fun e w'' => e = .returned (.tuple #[cv k' sv' t' 0 a' b' c', .int .i64 er]) ∧ Below w'.heap.size w' w'' from this))
      have HPP := Lib.hid hp
      have HK4 := Lib.hid hk4
      clear h35 hskip HSK HPC hp hk4
      go_wp2_with fail
      refine (HPX.out _).mono ?_
      rintro e w2 ⟨rfl, hb2⟩
      have HO2 := Lib.hid (ho.out.below hb2)
      have HB2 := Lib.hid (bnext hb.out hb2)
      have hx3 := heap_alloc_new w2 (cBox k' sv' t' 0 a' b' c')
      have hb3 := below_fresh w2 (cBox k' sv' t' 0 a' b' c')
      clear hb2 ho hb HPX
      go_upto_region 12 with fail
      obtain ⟨w3, hw3⟩ : ∃ w3, w2.alloc (cBox k' sv' t' 0 a' b' c') = w3 := ⟨_, rfl⟩
      rw [hw3] at hx3 hb3 ⊢
      obtain ⟨g, hg⟩ : ∃ g, g = w2.heap.size := ⟨_, rfl⟩
      rw [← hg] at hx3 ⊢
      have HGE := Lib.hid hg
      have HO3 := Lib.hid (HO2.out.below hb3)
      have HB3 := Lib.hid (bnext HB2.out hb3)
      have HC3 := Lib.hid hx3
      have HB23 := Lib.hid hb3
      clear hw3 hg hx3 hb3
      by_cases he : er = 0
      case neg =>
        have h1 : (er != 0) = true := by simpa using he
        have HC := Lib.hid (show C = ([], (n : Int) + 1, er) by
          rw [HC1.out, DM.comp_bad HS0.out (by unfold DM.step; rw [HPP.out, if_neg he]; exact he)]
          unfold DM.step; rw [HPP.out, if_neg he])
        have HBF := Lib.hid (bnext HB0.out HB3.out)
        clear he HC1 HNX HPL HPP HK4 HC3
        go_wp2
        go_ret3
        rw [HC.out]
        exact ⟨_, rfl, RdG.nil hlC _, HBF.out⟩
      subst he
      have hk4 := HK4.out (by first | rfl | trivial)
      have HST := Lib.hid (show DM.step s acc X.data.toList = DM.plc (k', sv', t', 0, a', b', c') acc s by unfold DM.step; rw [HPP.out, if_pos rfl])
      obtain ⟨P, hP⟩ : ∃ P, P = DM.plc (k', sv', t', 0, a', b', c') acc s := ⟨_, rfl⟩
      have HPX := Lib.hid (HPL.out k' sv' t' a' b' c' acc _ w3 hk4 HO3.out.rd hal (bnext HB0.out HB3.out))
      rw [← hP] at HPX HST
      obtain ⟨⟨x0, x1, x2, x3, x4, x5, x6⟩, er2⟩ := P
      have HS3 := Lib.hid (below_block HX0.out HB3.out)
      clear hP HPP HK4 hk4 HPL
      obtain ⟨⟨c0, c1, c2, c3, c4, c5, c6⟩, _⟩ := row7_atF HC3.out
      obtain ⟨⟨s0, s1, s2, s3, s4, s5, s6, s7, s8⟩, _⟩ := row9_at HS3.out
      go_wp2_with fail
      refine HPX.out.mono ?_
      rintro e w4 ⟨⟨k2, sv2, t2, v2, a2, b2, c2', rfl, hpl⟩, hb4⟩
      have HPL2 := Lib.hid hpl
      have HC4 := Lib.hid (below_block HC3.out hb4)
      have HB4 := Lib.hid (bnext HB3.out hb4)
      have HB24 := Lib.hid (bnext HB23.out hb4)
      clear c0 c1 c2 c3 c4 c5 c6 s0 s1 s2 s3 s4 s5 s6 s7 s8 hpl hb4 HPX HS3 HC3 HB23
      have hput := row7_putO HC4.out (.int .i64 k2) (.int .i64 sv2) (.int .i64 t2) (.int .i64 v2) (.int .i64 a2) (.int .i64 b2) (.int .i64 c2')
      obtain ⟨⟨c0, c1, c2, c3, c4, c5, c6⟩, f0, f1, f2, f3, f4, f5, f6⟩ := row7_atF HC4.out
      go_upto_region 15 with fail
      clear c0 c1 c2 c3 c4 c5 c6 f0 f1 f2 f3 f4 f5 f6
      obtain ⟨w5, hw5⟩ : ∃ w5, (((((((w4.setCell ⟨g, 0, none⟩ (.int .i64 k2)).setCell ⟨g, 1, none⟩ (.int .i64 sv2)).setCell ⟨g, 2, none⟩ (.int .i64 t2)).setCell ⟨g, 3, none⟩ (.int .i64 v2)).setCell ⟨g, 4, none⟩ (.int .i64 a2)).setCell ⟨g, 5, none⟩ (.int .i64 b2)).setCell ⟨g, 6, none⟩ (.int .i64 c2')) = w5 := ⟨_, rfl⟩
      rw [hw5] at hput ⊢
      have HC5 := Lib.hid hput.1
      have HB25 := Lib.hid (show Below w2.heap.size w2 w5 from HB24.out.trans (hput.2.below (by have := HGE.out; omega) HB24.out.size))
      have HO5 := Lib.hid (HO2.out.below HB25.out)
      have HB5 := Lib.hid (bnext HB2.out HB25.out)
      clear hw5 hput HC4 HB4 HB24 HO2 HO3 HB3
      by_cases he2 : er2 = 0
      case neg =>
        have h1 : (er2 != 0) = true := by simpa using he2
        have HC := Lib.hid (show C = ([], (n : Int) + 1, er2) by
          rw [HC1.out, DM.comp_bad HS0.out (by rw [HST.out]; exact he2), HST.out])
        have HBF := Lib.hid (bnext HB0.out HB5.out)
        clear he2 HC1 HNX HPL2 HC5
        go_wp2
        go_ret3
        rw [HC.out]
        exact ⟨_, rfl, RdG.nil hlC _, HBF.out⟩
      subst he2
      have hx : (x0, x1, x2, x3, x4, x5, x6) = (k2, sv2, t2, v2, a2, b2, c2') := HPL2.out (by first | rfl | trivial)
      have hJ5 := HNX.out (acc ++ [(k2, sv2, t2, v2, a2, b2, c2')]) ((n : Int) + 1) (by rw [HC1.out, DM.comp_ok HS0.out (by rw [HST.out]), HST.out, hx])
      have hal5 : acc.length < 6 := by
        have := HST.out
        unfold DM.step at this
        by_cases hz : (DM.prs X.data.toList).2 = 0
        · rw [if_pos hz] at this
          exact plc_len (x := (DM.prs X.data.toList).1) (s := s) (by rw [this])
        · rw [if_neg hz] at this
          exact absurd (congrArg Prod.snd this) hz
      have HJ5 := Lib.hid hJ5
      have hsz5 : w1.heap.size ≤ w5.heap.size := HB5.out.size
      obtain ⟨⟨c0, c1, c2, c3, c4, c5, c6⟩, _⟩ := row7_atF HC5.out
      clear hx hJ5 HPL2 HNX HC1 HST HC5
      have hyl : acc.length ≤ 1073741824 := by omega
      go_wp2_with (at_builtin; refine wp_appG1 chgE (k2, sv2, t2, v2, a2, b2, c2') rfl _ _ rfl rfl HO5.out rfl hyl hsz5 ?_)
      intro v6 w6 ho6 hb6 _ _
      obtain ⟨a6, l6, c6', hv6⟩ : ∃ a l c, v6 = .slice a l c := by obtain ⟨a, c, h, _⟩ := ho6.rd.shape; exact ⟨a, _, c, h⟩
      subst hv6
      have HO6 := Lib.hid ho6
      have HB6 := Lib.hid (HB5.out.trans hb6)
      clear c0 c1 c2 c3 c4 c5 c6 ho6 hb6
      go_wp2
      go_roundw
      case rel => exact ⟨acc ++ [(k2, sv2, t2, v2, a2, b2, c2')], k + 1, k + 1, n + 1, by go_num, by go_num, by go_num, by omega, Nat.le_refl _, by omega, by simp; omega, HO6, HB6, HJ5⟩
      case measure => simp [intOf]; omega

end Go.Proofs.YteiicflodobpnaaGreatDoor
