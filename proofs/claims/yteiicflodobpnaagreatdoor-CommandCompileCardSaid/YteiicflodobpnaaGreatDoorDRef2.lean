/-
  The calls of the reference's number and words: what DM.num and DM.sp 32 give. Conditions: the line has at most a million bytes.
-/
import Derived.Test.YteiicflodobpnaaGreatDoorDForm
import Derived.Test.YteiicflodobpnaaGreatDoorDRep
namespace Go.Proofs.YteiicflodobpnaaGreatDoor
open Go.RowKit Go.Joins
open JM (Chg)

namespace DM
theorem val_snoc (l : List UInt8) (b : UInt8) : val (l ++ [b]) = 10 * val l + (b.toNat - 48) := by unfold val; rw [List.foldl_append]; rfl
theorem val_pow (l : List UInt8) : ∀ k, k ≤ l.length → (l.take k).all isD = true → val (l.take k) < 10 ^ k
  | 0, _, _ => by simp [val]
  | k + 1, hk, h => by
    rw [List.take_succ_eq_append_getElem hk] at h ⊢
    rw [List.all_append, Bool.and_eq_true] at h
    have h1 := val_pow l k (by omega) h.1
    obtain ⟨d, hd, hd1, hd2⟩ := isD_is (b := l[k]) (by simpa using h.2)
    rw [val_snoc, hd2, Nat.pow_succ]
    omega
theorem isN_all {l : List UInt8} (h1 : l ≠ []) (h2 : l.length ≤ 4) (h3 : ¬ (1 < l.length ∧ l.head? = some 48)) : num l = if l.all isD = true then (val l : Int) else -1 := by
  unfold num
  by_cases h : l.all isD = true
  · rw [if_pos h, if_pos (isN_mk h1 h2 h3 h)]
  · rw [if_neg h, if_neg]
    unfold isN
    intro e
    rw [Bool.and_eq_true] at e
    exact h e.2
theorem not_all {l : List UInt8} {k : Nat} (hk : k < l.length) (h : isD l[k] = false) : ¬ l.all isD = true := fun e => by
  have := List.all_eq_true.1 e _ (List.getElem_mem hk)
  rw [h] at this; cases this
end DM

theorem b_len (s : ByteArray) : s.data.toList.length = s.size := by simp
theorem b_take {s : ByteArray} {k : Nat} (h : k < s.size) : s.data.toList.take (k + 1) = s.data.toList.take k ++ [s[k]] := by
  have hkl : k < s.data.toList.length := by simpa using h
  have hget : s.data.toList[k] = s[k] := by simp [ByteArray.getElem_eq_getElem_data]
  rw [List.take_succ_eq_append_getElem hkl, hget]

set_option maxRecDepth 100000 in
set_option maxHeartbeats 1000000 in
theorem rNumber (s : ByteArray) (w : World) :
    Calls Tryz.prog 68 #[.string s] w fun e w' => e = .returned (.int .i64 (DM.num s.data.toList)) ∧ w' = w := by
  obtain ⟨R, hR⟩ : ∃ R, R = DM.num s.data.toList := ⟨_, rfl⟩
  rw [← hR]
  have hl := b_len s
  by_cases h0 : s.size = 0
  · have e0 : ((s.size : Int) == 0) = true := by simp [h0]
    have HR := Lib.hid (show R = -1 by rw [hR]; unfold DM.num; rw [if_neg]; unfold DM.isN; rw [List.length_eq_zero_iff.1 (hl.trans h0)]; decide)
    clear hR hl h0
    go_enter Tryz.func68, Tryz.ntmps68
    go_wp2
    go_ret
    rw [HR.out]
    exact ⟨rfl, rfl⟩
  have e0 : ((s.size : Int) == 0) = false := beq_eq_false_iff_ne.2 (by omega)
  by_cases h4 : 4 < s.size
  · have e1 : (4 : Int) < (s.size : Int) := by omega
    have HR := Lib.hid (show R = -1 by rw [hR]; unfold DM.num; rw [if_neg]; unfold DM.isN; intro e; simp only [Bool.and_eq_true, decide_eq_true_eq] at e; have := e.1.2.1; omega)
    clear hR hl h0 h4
    go_enter Tryz.func68, Tryz.ntmps68
    go_wp2
    go_ret
    rw [HR.out]
    exact ⟨rfl, rfl⟩
  have e1 : ¬ (4 : Int) < (s.size : Int) := by omega
  have hp : 0 < s.size := by omega
  have hne : s.data.toList ≠ [] := fun e => by rw [e] at hl; simp at hl; omega
  have hhd : s.data.toList.head? = some s[0] := by
    rw [List.head?_eq_getElem?, List.getElem?_eq_getElem (by omega)]
    simp [ByteArray.getElem_eq_getElem_data]
  obtain ⟨u0, hu0⟩ : ∃ u : Nat, s[0].toNat = u := ⟨_, rfl⟩
  have hu8 : s[0] = 48 ↔ u0 = 48 := by rw [← hu0]; exact ⟨fun h => by rw [h]; rfl, fun h => UInt8.toNat_inj.1 h⟩
  by_cases h1 : 1 < s.size ∧ u0 = 48
  · have e2 : (1 : Int) < (s.size : Int) := by omega
    have e3 : ((u0 : Int) == 48) = true := by simp [h1.2]
    have HR := Lib.hid (show R = -1 by
      rw [hR]; unfold DM.num; rw [if_neg]; unfold DM.isN; intro e
      simp only [Bool.and_eq_true, decide_eq_true_eq] at e
      exact e.1.2.2 ⟨by omega, by rw [hhd, hu8.2 h1.2]⟩)
    clear hR hl h0 h4 h1 hne hhd hu8
    go_enter Tryz.func68, Tryz.ntmps68
    go_wp2
    go_ret
    rw [HR.out]
    exact ⟨rfl, rfl⟩
  have hR2 : R = if s.data.toList.all DM.isD = true then (DM.val s.data.toList : Int) else -1 := by
    rw [hR, DM.isN_all hne (by omega) (fun h => h1 ⟨by omega, hu8.1 (by rw [hhd] at h; exact Option.some.inj h.2)⟩)]
  have HR := Lib.hid hR2
  have HL := Lib.hid hl
  have e3 : (1 : Int) < (s.size : Int) → ((u0 : Int) == 48) = false := fun h => by simp; omega
  have h4' : s.size ≤ 4 := by omega
  clear hR hl h0 h1 hne hhd hu8 hR2 h4
  have main : ∀ Q : Prop, Q → Q := fun _ h => h
  by_cases h2 : 1 < s.size
  case' pos =>
    have e2 : (1 : Int) < (s.size : Int) := by omega
    have e4 := e3 e2
  case' neg =>
    have e2 : ¬ (1 : Int) < (s.size : Int) := by omega
  all_goals
    clear h2 e3 main
    go_enter Tryz.func68, Tryz.ntmps68
    go_wp2
    go_loopw [3, 4] (fun n i wr => ∃ k : Nat, k ≤ s.size ∧ i = .int .i64 k ∧ n = .int .i64 (DM.val (s.data.toList.take k) : Int) ∧ wr = w ∧ Hid ((s.data.toList.take k).all DM.isD = true)) (fun _ i _ => s.size - (intOf i).toNat)
    case atStart => exact ⟨0, Nat.zero_le _, rfl, rfl, rfl, Lib.hid (by simp)⟩
    case round =>
      obtain ⟨k, hk, rfl, rfl, rfl, hn⟩ := hrel
      by_cases hlt : k < s.size
      · have hq : (k : Int) < (s.size : Int) := by omega
        have hkl : k < s.data.toList.length := by simpa using hlt
        have hget : s.data.toList[k] = s[k] := by simp [ByteArray.getElem_eq_getElem_data]
        have htk := b_take hlt
        have hpw := DM.val_pow s.data.toList k (by omega) hn.out
        have hp3 : 10 ^ k ≤ 10 ^ 3 := Nat.pow_le_pow_right (by decide) (by omega)
        have hvs := DM.val_snoc (s.data.toList.take k) s[k]
        rw [← htk] at hvs
        obtain ⟨V, hV⟩ : ∃ V, V = DM.val (s.data.toList.take k) := ⟨_, rfl⟩
        rw [← hV] at hpw hvs ⊢
        have hV3 : V < 1000 := by omega
        have hDb : DM.isD s[k] = decide (48 ≤ s[k].toNat ∧ s[k].toNat ≤ 57) := rfl
        obtain ⟨u, hu⟩ : ∃ u : Nat, s[k].toNat = u := ⟨_, rfl⟩
        rw [hu] at hvs hDb
        have HVS := Lib.hid hvs
        have HTK := Lib.hid htk
        have HDB := Lib.hid hDb
        have HNA := Lib.hid (fun h : DM.isD s[k] = false => DM.not_all hkl (by rw [hget]; exact h))
        clear hget htk hpw hp3 hvs hV hDb
        by_cases hlo : u < 48
        · have g1 : (u : Int) < 48 := by omega
          have HE := Lib.hid (show R = -1 by rw [HR.out, if_neg (HNA.out (by rw [HDB.out, decide_eq_false (by omega)]))])
          clear HNA HDB HTK HVS HR
          go_wp2
          go_ret
          rw [HE.out]
          exact ⟨rfl, rfl⟩
        · have g1 : ¬ (u : Int) < 48 := by omega
          by_cases hhi : 57 < u
          · have g2 : (57 : Int) < (u : Int) := by omega
            have HE := Lib.hid (show R = -1 by rw [HR.out, if_neg (HNA.out (by rw [HDB.out, decide_eq_false (by omega)]))])
            clear HNA HDB HTK HVS HR
            go_wp2
            go_ret
            rw [HE.out]
            exact ⟨rfl, rfl⟩
          · have g2 : ¬ (57 : Int) < (u : Int) := by omega
            have HAL := Lib.hid (show (s.data.toList.take (k + 1)).all DM.isD = true by
              rw [HTK.out, List.all_append, hn.out, Bool.true_and]
              simp only [List.all_cons, List.all_nil, Bool.and_true]
              rw [HDB.out]; exact decide_eq_true ⟨by omega, by omega⟩)
            have HV2 := Lib.hid (show (DM.val (s.data.toList.take (k + 1)) : Int) = 10 * (V : Int) + ((u : Int) - 48) by rw [HVS.out]; omega)
            clear HNA HDB HTK HVS HR
            go_wp2
            go_roundw
            case rel => exact ⟨k + 1, by omega, by go_num, by rw [HV2.out], by first | rfl | trivial, HAL⟩
            case measure => simp [intOf]; omega
      · have hq : ¬ (k : Int) < (s.size : Int) := by omega
        have hkk : k = s.size := by omega
        have HE := Lib.hid (show R = (DM.val (s.data.toList.take k) : Int) by
          have e : s.data.toList.take k = s.data.toList := List.take_of_length_le (by rw [HL.out, hkk]; exact Nat.le_refl _)
          have := hn.out
          rw [e] at this ⊢
          rw [HR.out, if_pos this])
        clear HR hn hkk
        go_wp2
        go_ret
        rw [HE.out]
        exact ⟨rfl, rfl⟩


/-! ### Words -/
def encT (b : ByteArray) : List Value := [.string b]
theorem strE : IsElem Tryz.prog 37 9 1 16 encT where
  ht := Tryz.underlying37
  info := by
    obtain ⟨i0, hi, hz0, hz1, hz2⟩ := info_parts (show (Tryz.prog.info? 9).map (fun i => (i.zero, i.size, i.bytes)) = some (some (.string ⟨#[]⟩), 1, 16) by kernel_rfl)
    exact ⟨i0, _, hi, hz0, hz1, hz2, rfl⟩
  len := fun _ => rfl
  one := by intro x u hu; simp [encT] at hu; subst hu; rfl
  pos := by decide
  fits := by decide
abbrev RdT := RdG encT 1
abbrev OwnT := OwnG encT 9 1

theorem ext_data (s : ByteArray) (a b : Nat) : (s.extract a b).data.toList = (s.data.toList.drop a).take (b - a) := by
  simp [ByteArray.data_extract]

set_option maxRecDepth 100000 in
set_option maxHeartbeats 1000000 in
theorem rWords (s : ByteArray) (w : World) (hs : s.size ≤ 1000000) :
    Calls Tryz.prog 66 #[.string s] w fun e w' => ∃ v ys, e = .returned v ∧ RdT w' v ys ∧ ys.map (·.data.toList) = DM.sp 32 s.data.toList ∧ Below w.heap.size w w' := by
  have HL := Lib.hid (b_len s)
  go_enter Tryz.func66, Tryz.ntmps66
  go_wp2
  go_loopw [3, 4, 5] (fun v p i wr => ∃ (ys : List ByteArray) (p' k : Nat), i = .int .i64 k ∧ p = .int .i64 p' ∧ k ≤ s.size + 1 ∧ p' ≤ k ∧ ys.length ≤ k ∧ OwnT w.heap.size wr v ys ∧ Below w.heap.size w wr ∧
    Hid ((k ≤ s.size ∧ (32 : UInt8) ∉ (s.data.toList.drop p').take (k - p') ∧ DM.sp 32 s.data.toList = ys.map (·.data.toList) ++ DM.sp 32 (s.data.toList.drop p')) ∨ (k = s.size + 1 ∧ DM.sp 32 s.data.toList = ys.map (·.data.toList)))) (fun _ _ i _ => s.size + 1 - (intOf i).toNat)
  case atStart => exact ⟨[], 0, 0, rfl, rfl, Nat.zero_le _, Nat.le_refl _, Nat.le_refl _, OwnG.nil strE.hl _ _ _, Below.refl _ _, Lib.hid (.inl ⟨Nat.zero_le _, by simp, by simp⟩)⟩
  case round =>
    obtain ⟨ys, p, k, rfl, rfl, hk, hpk, hyl, hown, hbl, he⟩ := hrel
    obtain ⟨a, c, rfl, hac, hyc⟩ := hown.rd.shape
    by_cases hlt : k ≤ s.size
    · have hq : (k : Int) ≤ (s.size : Int) := by omega
      have HI := Lib.hid (show (32 : UInt8) ∉ (s.data.toList.drop p).take (k - p) ∧ DM.sp 32 s.data.toList = ys.map (·.data.toList) ++ DM.sp 32 (s.data.toList.drop p) by
        rcases he.out with h | h
        · exact h.2
        · omega)
      clear he
      by_cases heq : k = s.size
      · have g1 : ((k : Int) == (s.size : Int)) = true := by simp [heq]
        have HN := Lib.hid (show DM.sp 32 s.data.toList = (ys ++ [s.extract p k]).map (·.data.toList) by
          rw [HI.out.2, List.map_append, List.map_singleton, ext_data, DM.sp_none]
          · rw [List.take_of_length_le (by rw [List.length_drop, HL.out, heq]; exact Nat.le_refl _)]
          · have := HI.out.1
            rw [List.take_of_length_le (by rw [List.length_drop, HL.out, heq]; exact Nat.le_refl _)] at this
            exact this)
        have HK := Lib.hid heq
        have hk6 : k ≤ 1000000 := by omega
        clear HI heq
        go_wp2_with (at_builtin; refine wp_appG1 strE (s.extract p k) rfl _ _ rfl rfl hown rfl (by omega) hbl.size ?_)
        intro v1 w1 ho1 hb1 _ _
        obtain ⟨a1, l1, c1, hv1⟩ : ∃ a l c, v1 = .slice a l c := by obtain ⟨a, c, h, _⟩ := ho1.rd.shape; exact ⟨a, _, c, h⟩
        subst hv1
        have HB1 := Lib.hid (hbl.trans hb1)
        have HO1 := Lib.hid ho1
        clear ho1 hb1 hown hbl
        go_wp2
        go_roundw
        case rel => exact ⟨ys ++ [s.extract p k], k + 1, k + 1, by go_num, by go_num, by omega, Nat.le_refl _, by simp; omega, HO1.out, HB1.out, Lib.hid (.inr ⟨by rw [HK.out], HN.out⟩)⟩
        case measure => simp [intOf]; omega
      have g1 : ((k : Int) == (s.size : Int)) = false := beq_eq_false_iff_ne.2 (by omega)
      have hks : k < s.size := by omega
      have htk := b_take hks
      have hkl : k < s.data.toList.length := by simpa using hks
      have hdr : s.data.toList.drop k = s[k] :: s.data.toList.drop (k + 1) := by
        rw [List.drop_eq_getElem_cons hkl]
        simp [ByteArray.getElem_eq_getElem_data]
      have hcut : s.data.toList.drop p = (s.data.toList.drop p).take (k - p) ++ s[k] :: s.data.toList.drop (k + 1) := by
        rw [← hdr]
        have := List.take_append_drop (k - p) (s.data.toList.drop p)
        rw [List.drop_drop, show p + (k - p) = k by omega] at this
        exact this.symm
      have htk2 : (s.data.toList.drop p).take (k + 1 - p) = (s.data.toList.drop p).take (k - p) ++ [s[k]] := by
        rw [show k + 1 - p = (k - p) + 1 by omega, List.take_succ_eq_append_getElem (by rw [List.length_drop]; omega)]
        congr 2
        rw [List.getElem_drop]
        simp [ByteArray.getElem_eq_getElem_data, show p + (k - p) = k by omega]
      obtain ⟨u, hu⟩ : ∃ u : Nat, s[k].toNat = u := ⟨_, rfl⟩
      have hu8 : s[k] = 32 ↔ u = 32 := by rw [← hu]; exact ⟨fun h => by rw [h]; rfl, fun h => UInt8.toNat_inj.1 h⟩
      have HC := Lib.hid hcut
      have HT2 := Lib.hid htk2
      have HU8 := Lib.hid hu8
      have hk6 : k ≤ 1000000 := by omega
      clear htk hdr hcut htk2 hu8 heq
      by_cases h32 : u = 32
      · have g2 : ((u : Int) == 32) = true := by simp [h32]
        have HN := Lib.hid (show DM.sp 32 s.data.toList = (ys ++ [s.extract p k]).map (·.data.toList) ++ DM.sp 32 (s.data.toList.drop (k + 1)) by
          rw [HI.out.2, HC.out, List.map_append, List.map_singleton, ext_data, HU8.out.2 h32, DM.sp_hit HI.out.1, List.append_assoc]
          rfl)
        clear HI HC HT2 HU8 h32
        go_wp2_with (at_builtin; refine wp_appG1 strE (s.extract p k) rfl _ _ rfl rfl hown rfl (by omega) hbl.size ?_)
        intro v1 w1 ho1 hb1 _ _
        obtain ⟨a1, l1, c1, hv1⟩ : ∃ a l c, v1 = .slice a l c := by obtain ⟨a, c, h, _⟩ := ho1.rd.shape; exact ⟨a, _, c, h⟩
        subst hv1
        have HB1 := Lib.hid (hbl.trans hb1)
        have HO1 := Lib.hid ho1
        clear ho1 hb1 hown hbl
        go_wp2
        go_roundw
        case rel => exact ⟨ys ++ [s.extract p k], k + 1, k + 1, by go_num, by go_num, by omega, Nat.le_refl _, by simp; omega, HO1.out, HB1.out, Lib.hid (.inl ⟨by omega, by simp, HN.out⟩)⟩
        case measure => simp [intOf]; omega
      · have g2 : ((u : Int) == 32) = false := by simp; omega
        have HN := Lib.hid (show (32 : UInt8) ∉ (s.data.toList.drop p).take (k + 1 - p) by
          rw [HT2.out, List.mem_append]
          rintro (h | h)
          · exact HI.out.1 h
          · exact h32 (HU8.out.1 (List.mem_singleton.1 h).symm))
        have HI2 := Lib.hid HI.out.2
        clear HI HC HT2 HU8 h32
        go_wp2
        go_roundw
        case rel => exact ⟨ys, p, k + 1, by go_num, rfl, by omega, by omega, by omega, hown, hbl, Lib.hid (.inl ⟨by omega, HN.out, HI2.out⟩)⟩
        case measure => simp [intOf]; omega
    · have hq : ¬ (k : Int) ≤ (s.size : Int) := by omega
      have HE := Lib.hid (show ys.map (·.data.toList) = DM.sp 32 s.data.toList by
        rcases he.out with h | h
        · omega
        · exact h.2.symm)
      clear he
      go_wp2
      go_ret
      exact ⟨_, rfl, ys, hown.rd, HE.out, hbl⟩

end Go.Proofs.YteiicflodobpnaaGreatDoor
