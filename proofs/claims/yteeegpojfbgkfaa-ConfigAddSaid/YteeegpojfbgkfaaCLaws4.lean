/-
  The calls of the laws ConfigAdd and ConfigRoundTrip: each returns true. Conditions: what comes in reads.
-/
import Derived.Deep.RegionHeld3
import Derived.Test.YteeegpojfbgkfaaKB
import Derived.Test.YteeegpojfbgkfaaCAwake
namespace Go.Proofs.Yteeegpojfbgkfaa
open Go.RowKit
open JM (Chg)
open CM (Fp)
open VM (Ent)

set_option maxRecDepth 100000 in
set_option maxHeartbeats 4000000 in
theorem lConfigAdd (v sv : Value) (fs : List Fp) (x m : Int) (cs : List Chg) (w : World) (h : RdF w v fs) (hs : RdC w sv cs) :
    Calls Try.prog 7 #[v, pv x m sv] w fun e w' => e = .returned (.bool true) ∧ Below w.heap.size w w' := by
  obtain ⟨ad, cp, rfl, hcp, _⟩ := h.shape
  obtain ⟨da, dc, rfl, hdc, _⟩ := hs.shape
  have hb0 := below_fresh w (.cells #[.int .i64 x, .int .i64 m, .slice da cs.length dc] 45)
  have hp0 := PBox.fresh w x m (.slice da cs.length dc)
  by_cases hl : 30 < fs.length
  · have hq : (30 : Int) < (fs.length : Int) := by omega
    have HB := Lib.hid hb0
    clear h hs hp0 hb0
    go_enter Try.func7, Try.ntmps7
    go_wp2_with fail
    refine (cAwake _).mono ?_
    rintro e w1 ⟨rfl, hb⟩
    go_wp2
    go_ret
    exact ⟨rfl, bnext HB.out hb⟩
  have hq : ¬ (30 : Int) < (fs.length : Int) := by omega
  by_cases hl2 : 60 < cs.length
  · have hq2 : (60 : Int) < (cs.length : Int) := by omega
    have HB := Lib.hid hb0
    clear h hs hp0 hb0
    go_enter Try.func7, Try.ntmps7
    go_wp2_with fail
    refine (cAwake _).mono ?_
    rintro e w1 ⟨rfl, hb⟩
    go_wp2
    go_ret
    exact ⟨rfl, bnext HB.out hb⟩
  have hq2 : ¬ (60 : Int) < (cs.length : Int) := by omega
  obtain ⟨w0, hw0⟩ : ∃ w0, w.alloc (.cells #[.int .i64 x, .int .i64 m, .slice da cs.length dc] 45) = w0 := ⟨_, rfl⟩
  rw [hw0] at hb0 hp0
  have hlt0 : w.heap.size < w0.heap.size := by rw [← hw0, World.size_alloc]; exact Nat.lt_succ_self _
  have HW0 := Lib.hid hw0
  have HB := Lib.hid hb0
  have HP := Lib.hid hp0
  have HF := Lib.hid (h.below hb0)
  have HS := Lib.hid (hs.below hb0)
  have hC := rValidateC _ fs w0 HF.out
  obtain ⟨E, hE⟩ : ∃ E, E = CM.errL (0, 0) fs := ⟨_, rfl⟩
  rw [← hE] at hC
  have HC := Lib.hid hC
  clear h hs hb0 hp0 hw0 hC
  obtain ⟨p0, p1, p2⟩ := HP.out
  by_cases h1 : E = 0
  · subst h1
    have hok : CM.Ok fs := hE.symm
    have HOK := Lib.hid hok
    clear hE hok
    go_enter Try.func7, Try.ntmps7
    go_wp2_with fail
    rw [HW0.out]
    refine HC.out.mono ?_
    rintro e w1 ⟨rfl, hb⟩
    replace HP := Lib.hid (HP.out.below hb)
    replace HF := Lib.hid (HF.out.below hb)
    replace HS := Lib.hid (HS.out.below hb)
    replace HB := Lib.hid (bnext HB.out hb)
    have hlt1 : w.heap.size < w1.heap.size := Nat.lt_of_lt_of_le hlt0 hb.size
    clear hb HC HW0 p0 p1 p2 hlt0
    have hbe := below_fresh w1 (.cells #[] 45)
    have hoe := ownG_empty hlQ 45 w1
    obtain ⟨qs, hq1, hq3⟩ := HF.out
    have hre : RdQ (w1.alloc (.cells #[] 45)) (.slice ad fs.length cp) qs := RdG.below hq1 hbe
    have HT := Lib.hid hq3
    have hlq : qs.length ≤ 1073741824 := by have := hq3.len; omega
    have hse := hbe.size
    have HBE := Lib.hid hbe
    clear hq1 hq3 hbe
    go_wp2_with (at_builtin; refine wp_appGS proE rfl _ _ rfl rfl hoe rfl hre (by simp) hlq hse ?_)
    intro v2 w2 ho2 hb2 _
    have hb := HBE.out.trans hb2
    have HWAS := Lib.hid (show RdF w2 v2 fs from ⟨qs, by simpa using ho2.rd, HT.out.below hb⟩)
    replace HP := Lib.hid (HP.out.below hb)
    replace HF := Lib.hid (HF.out.below hb)
    replace HS := Lib.hid (HS.out.below hb)
    replace HB := Lib.hid (bnext HB.out hb)
    have hlt2 : w.heap.size < w2.heap.size := Nat.lt_of_lt_of_le hlt1 hb.size
    clear ho2 hb2 hb hoe hre hlq hse HT HBE hlt1
    obtain ⟨p0, p1, p2⟩ := HP.out
    have H1 := gAdd _ fs x m _ cs w2 HF.out HS.out HOK.out
    have H2 := fun w' (hh : RdF w' (.slice ad fs.length cp) fs) (hs : RdC w' (.slice da cs.length dc) cs) => rAdd _ fs x m _ cs w' hh hs HOK.out
    generalize CM.addP fs (x, m, cs) = R at H1 H2
    obtain ⟨er, gs⟩ := R
    have HC := Lib.hid H1
    have HC2 := Lib.hid H2
    have he : (er == er) = true := beq_t rfl
    clear H1 H2
    go_wp2_with fail
    refine HC.out.mono ?_
    rintro e w3 ⟨v3, rfl, hr, hb⟩
    replace HP := Lib.hid (HP.out.below hb)
    replace HF := Lib.hid (HF.out.below hb)
    replace HS := Lib.hid (HS.out.below hb)
    replace HWAS := Lib.hid (HWAS.out.below hb)
    replace HB := Lib.hid (bnext HB.out hb)
    have HR1 := Lib.hid hr
    have hlt3 : w.heap.size < w3.heap.size := Nat.lt_of_lt_of_le hlt2 hb.size
    clear p0 p1 p2 hb hr HC hlt2
    obtain ⟨p0, p1, p2⟩ := HP.out
    have HC := Lib.hid (HC2.out w3 HF.out HS.out)
    go_wp2_with fail
    refine HC.out.mono ?_
    rintro e w4 ⟨v4, rfl, hr, hb⟩
    replace HF := Lib.hid (HF.out.below hb)
    replace HWAS := Lib.hid (HWAS.out.below hb)
    replace HR1 := Lib.hid (HR1.out.below hb)
    replace HB := Lib.hid (bnext HB.out hb)
    have hC := rEqualConfig _ _ _ _ w4 HR1.out hr
    rw [decide_eq_true rfl] at hC
    clear p0 p1 p2 hb hr HC HC2 HP HS hlt3
    have HC := Lib.hid hC
    clear hC
    go_wp2_with fail
    refine HC.out.mono ?_
    rintro e w5 ⟨rfl, hb⟩
    replace HF := Lib.hid (HF.out.below hb)
    replace HWAS := Lib.hid (HWAS.out.below hb)
    replace HB := Lib.hid (bnext HB.out hb)
    have hC := rEqualConfig _ _ _ _ w5 HF.out HWAS.out
    rw [decide_eq_true rfl] at hC
    replace HC := Lib.hid hC
    clear hb hC HR1
    go_wp2_with fail
    refine HC.out.mono ?_
    rintro e w6 ⟨rfl, hb⟩
    replace HB := Lib.hid (bnext HB.out hb)
    clear hb HC HF HWAS
    go_wp2_with fail
    refine (cAwake w6).mono ?_
    rintro e w7 ⟨rfl, hb⟩
    go_wp2
    go_ret
    exact ⟨rfl, bnext HB.out hb⟩
  · have hne : (E != 0) = true := bne_t h1
    clear hE h1
    go_enter Try.func7, Try.ntmps7
    go_wp2_with fail
    rw [HW0.out]
    refine HC.out.mono ?_
    rintro e w1 ⟨rfl, hb⟩
    replace HB := Lib.hid (bnext HB.out hb)
    clear hb HC HP HF HS HW0 p0 p1 p2
    go_wp2_with fail
    refine (cAwake w1).mono ?_
    rintro e w2 ⟨rfl, hb⟩
    go_wp2
    go_ret
    exact ⟨rfl, bnext HB.out hb⟩

set_option maxRecDepth 100000 in
set_option maxHeartbeats 8000000 in
theorem lConfigRoundTrip (v u : Value) (fs : List Fp) (ts : List Int) (w : World) (h : RdF w v fs) (ht : Rd w u ts) :
    Calls Try.prog 10 #[v, u] w fun e w' => e = .returned (.bool true) ∧ Below w.heap.size w w' := by
  obtain ⟨ad, cp, rfl, hcp, _⟩ := h.shape
  obtain ⟨bd, bp, rfl, hbp⟩ := ht.shape
  by_cases hl : 30 < fs.length
  · have hq : (30 : Int) < (fs.length : Int) := by omega
    clear h ht
    go_enter Try.func10, Try.ntmps10
    go_wp2_with fail
    refine (cAwake _).mono ?_
    rintro e w1 ⟨rfl, hb⟩
    go_wp2
    go_ret
    exact ⟨rfl, hb⟩
  have hq : ¬ (30 : Int) < (fs.length : Int) := by omega
  by_cases hl2 : 300 < ts.length
  · have hq2 : (300 : Int) < (ts.length : Int) := by omega
    clear h ht
    go_enter Try.func10, Try.ntmps10
    go_wp2_with fail
    refine (cAwake _).mono ?_
    rintro e w1 ⟨rfl, hb⟩
    go_wp2
    go_ret
    exact ⟨rfl, hb⟩
  have hq2 : ¬ (300 : Int) < (ts.length : Int) := by omega
  have hC := rValidateC _ fs w h
  obtain ⟨E, hE⟩ : ∃ E, E = CM.errL (0, 0) fs := ⟨_, rfl⟩
  rw [← hE] at hC
  have HC := Lib.hid hC
  have HF := Lib.hid h
  have HTL := Lib.hid ht
  clear h ht hC
  by_cases h1 : E = 0
  · subst h1
    have hok : CM.Ok fs := hE.symm
    have HOK := Lib.hid hok
    have HL := Lib.hid (enc_le hok)
    have HDL := Lib.hid (CM.decL_enc hok ts)
    clear hE hok
    go_enter Try.func10, Try.ntmps10
    go_wp2_with fail
    refine HC.out.mono ?_
    rintro e w1 ⟨rfl, hb⟩
    replace HF := Lib.hid (HF.out.below hb)
    replace HTL := Lib.hid (HTL.out.below hb)
    have HB := Lib.hid hb
    have hC := gAppendC (.slice none 0 0) [] _ fs w1 (Rd.nil _) HF.out HOK.out (by simp)
    rw [List.nil_append] at hC
    replace HC := Lib.hid hC
    clear hb hC
    go_wp2_with fail
    refine HC.out.mono ?_
    rintro e w2 ⟨v2, rfl, ho, hb⟩
    replace HF := Lib.hid (HF.out.below hb)
    replace HTL := Lib.hid (HTL.out.below hb)
    replace HB := Lib.hid (bnext HB.out hb)
    have hr2 := ho.rd
    obtain ⟨a2, c2, rfl, hc2⟩ := hr2.shape
    have hbe := below_empty w2
    have hoe := own_empty w2
    have hre := hr2.below hbe
    have hlE : (CM.encL fs).length ≤ 35184372088832 := by have := HL.out; omega
    have hse := hbe.size
    have HV := Lib.hid hr2
    have HBE := Lib.hid hbe
    clear ho hb HC hr2 hbe
    go_wp2_with (at_builtin; refine wp_appS rfl _ _ rfl rfl hoe rfl hre (by simp) hlE hse ?_)
    intro v3 w3 ho3 hb3
    have hb := HBE.out.trans hb3
    have htl := HTL.out.below hb
    have hs3 := hb.size
    have hlT : ts.length ≤ 35184372088832 := by omega
    have HB3 := Lib.hid hb
    clear hb3 hoe hre hse hb HBE
    go_wp2_with (at_builtin; refine wp_appS rfl _ _ rfl rfl ho3 rfl htl hlE hlT hs3 ?_)
    intro v4 w4 ho4 hb4
    have hb := HB3.out.trans hb4
    replace HF := Lib.hid (HF.out.below hb)
    replace HV := Lib.hid (HV.out.below hb)
    replace HB := Lib.hid (bnext HB.out hb)
    have hC := gDecodeC v4 _ w4 ho4.rd
    rw [HDL.out] at hC
    have HC := Lib.hid hC
    clear hb hb4 ho3 ho4 htl hs3 hlE hlT HB3 HTL hC HDL
    go_wp2_with fail
    refine HC.out.mono ?_
    rintro e w5 ⟨v5, rfl, hr, hb⟩
    replace HF := Lib.hid (HF.out.below hb)
    replace HV := Lib.hid (HV.out.below hb)
    replace HB := Lib.hid (bnext HB.out hb)
    have HR := Lib.hid hr
    have hnn : ∀ n : Nat, ((n : Int) == (n : Int)) = true := fun n => beq_t rfl
    have hNN := hnn (CM.encL fs).length
    have HAP := Lib.hid (fun w' (hh : RdF w' (.slice ad fs.length cp) fs) => rAppendC (.slice none 0 0) [] _ fs w' (Rd.nil _) hh HOK.out (by simp))
    have HEQ := Lib.hid (fun w' (hh : RdF w' (.slice ad fs.length cp) fs) (hk : RdF w' v5 fs) => (show Calls Try.prog 23 #[.slice ad fs.length cp, v5] w' fun e w'' => e = .returned (.bool true) ∧ Below w'.heap.size w' w'' from by
      have := rEqualConfig _ _ _ _ w' hh hk
      rw [decide_eq_true rfl] at this
      exact this))
    obtain ⟨L, hL⟩ : ∃ L, L = (CM.encL fs).length := ⟨_, rfl⟩
    rw [← hL] at hNN ⊢
    have HLL := Lib.hid hL
    obtain ⟨X, hX⟩ : ∃ X, X = CM.encL fs := ⟨_, rfl⟩
    have HV2 := Lib.hid (show Rd w5 (.slice a2 L c2) X by rw [hX, hL]; exact HV.out)
    have HAP2 := Lib.hid (show ∀ w', RdF w' (.slice ad fs.length cp) fs → Calls Try.prog 42 #[.slice none 0 0, .slice ad fs.length cp] w' fun e w'' => ∃ v', e = .returned v' ∧ Rd w'' v' X ∧ Below w'.heap.size w' w'' from fun w' hh => by
      have := HAP.out w' hh
      rw [List.nil_append] at this
      rw [hX]; exact this)
    clear hb hr HC hL hX HV HAP HL hnn
    go_wp2
    refine wp_region_held_drew (S := fun w' => Below w5.heap.size w5 w') (by kernel_rfl) ((Below.refl _ _).drew) (fun ha => ?_)
    replace ha : Below w5.heap.size w5 w5.drew := (Below.refl _ _).drew
    generalize w5.drew = wa at ha ⊢
    refine takeH (i := 0) (v := ?_) rfl (by kernel_rfl) (by kernel_rfl) (by kernel_rfl) (fun _ _ _ h => h) (Or.inl ⟨by rfl, ?_⟩) (by assumption) ?_
    rotate_left
    · (intro w hSw; (try dsimp only at hSw); go_simp; first | done | with_reducible rfl)
    (try simp only [Act.put, List.setIfInBounds_toArray, List.set_cons_zero, List.set_cons_succ])
    refine takeH (i := 1) (v := ?_) rfl (by kernel_rfl) (by kernel_rfl) (by kernel_rfl) (fun _ _ _ h => h) (Or.inl ⟨by rfl, ?_⟩) (by assumption) ?_
    rotate_left
    · (intro w hSw; (try dsimp only at hSw); have hst := Rd.str (HV2.out.below hSw); go_simp; first | done | with_reducible rfl)
    (try simp only [Act.put, List.setIfInBounds_toArray, List.set_cons_zero, List.set_cons_succ])
    refine takeH (i := 2) (v := ?_) rfl (by kernel_rfl) (by kernel_rfl) (by kernel_rfl) (fun _ _ _ h => h) (Or.inl ⟨by rfl, ?_⟩) (by assumption) ?_
    rotate_left
    · (intro w hSw; (try dsimp only at hSw); go_simp; first | done | with_reducible rfl)
    (try simp only [Act.put, List.setIfInBounds_toArray, List.set_cons_zero, List.set_cons_succ])
    refine wpAnyH_ready (rs := [3]) (by kernel_rfl) (by simp) ?_
    refine stepH rfl (fun K hK => ?_) AllReadyH.nil
    go_simp
    refine (HAP2.out wa (HF.out.below ha)).mono ?_
    rintro e wb ⟨vb, rfl, hrb, hq⟩
    obtain ⟨ab, cb, rfl, _⟩ := hrb.shape
    have hb := bnext ha hq
    go_wp2_with fail
    refine hK.out _ _ (hb) (fun _ => ?_)
    clear hK K
    (try simp only [Act.put, List.setIfInBounds_toArray, List.set_cons_zero, List.set_cons_succ])
    refine wpAnyH_ready (rs := [4]) (by kernel_rfl) (by simp) ?_
    refine stepH rfl (fun K hK => ?_) AllReadyH.nil
    have hst := Rd.str hrb
    go_simp
    refine hK.out _ _ (hb) (fun _ => ?_)
    clear hK K
    (try simp only [Act.put, List.setIfInBounds_toArray, List.set_cons_zero, List.set_cons_succ])
    refine takeH (i := 5) (v := ?_) rfl (by kernel_rfl) (by kernel_rfl) (by kernel_rfl) (fun _ _ _ h => h) (Or.inl ⟨by rfl, ?_⟩) (by assumption) ?_
    rotate_left
    · (intro w hSw; (try dsimp only at hSw); go_simp; first | done | with_reducible rfl)
    (try simp only [Act.put, List.setIfInBounds_toArray, List.set_cons_zero, List.set_cons_succ])
    refine takeH (i := 6) (v := ?_) rfl (by kernel_rfl) (by kernel_rfl) (by kernel_rfl) (fun _ _ _ h => h) (Or.inl ⟨by rfl, ?_⟩) (by assumption) ?_
    rotate_left
    · (intro w hSw; (try dsimp only at hSw); go_simp; first | done | with_reducible rfl)
    (try simp only [Act.put, List.setIfInBounds_toArray, List.set_cons_zero, List.set_cons_succ])
    refine takeH (i := 7) (v := ?_) rfl (by kernel_rfl) (by kernel_rfl) (by kernel_rfl) (fun _ _ _ h => h) (Or.inl ⟨by rfl, ?_⟩) (by assumption) ?_
    rotate_left
    · (intro w hSw; (try dsimp only at hSw); go_simp; first | done | with_reducible rfl)
    (try simp only [Act.put, List.setIfInBounds_toArray, List.set_cons_zero, List.set_cons_succ])
    refine takeH (i := 8) (v := ?_) rfl (by kernel_rfl) (by kernel_rfl) (by kernel_rfl) (fun _ _ _ h => h) (Or.inl ⟨by rfl, ?_⟩) (by assumption) ?_
    rotate_left
    · (intro w hSw; (try dsimp only at hSw); go_simp; first | done | with_reducible rfl)
    (try simp only [Act.put, List.setIfInBounds_toArray, List.set_cons_zero, List.set_cons_succ])
    refine takeH (i := 9) (v := ?_) rfl (by kernel_rfl) (by kernel_rfl) (by kernel_rfl) (fun _ _ _ h => h) (Or.inl ⟨by rfl, ?_⟩) (by assumption) ?_
    rotate_left
    · (intro w hSw; (try dsimp only at hSw); go_simp; first | done | with_reducible rfl)
    (try simp only [Act.put, List.setIfInBounds_toArray, List.set_cons_zero, List.set_cons_succ])
    refine takeH (i := 10) (v := ?_) rfl (by kernel_rfl) (by kernel_rfl) (by kernel_rfl) (fun _ _ _ h => h) (Or.inl ⟨by rfl, ?_⟩) (by assumption) ?_
    rotate_left
    · (intro w hSw; (try dsimp only at hSw); go_simp; first | done | with_reducible rfl)
    (try simp only [Act.put, List.setIfInBounds_toArray, List.set_cons_zero, List.set_cons_succ])
    refine takeH (i := 11) (v := ?_) rfl (by kernel_rfl) (by kernel_rfl) (by kernel_rfl) (fun _ _ _ h => h) (Or.inl ⟨by rfl, ?_⟩) (by assumption) ?_
    rotate_left
    · (intro w hSw; (try dsimp only at hSw); go_simp; first | done | with_reducible rfl)
    (try simp only [Act.put, List.setIfInBounds_toArray, List.set_cons_zero, List.set_cons_succ])
    refine takeH (i := 12) (v := ?_) rfl (by kernel_rfl) (by kernel_rfl) (by kernel_rfl) (fun _ _ _ h => h) (Or.inl ⟨by rfl, ?_⟩) (by assumption) ?_
    rotate_left
    · (intro w hSw; (try dsimp only at hSw); go_simp; first | done | with_reducible rfl)
    (try simp only [Act.put, List.setIfInBounds_toArray, List.set_cons_zero, List.set_cons_succ])
    refine takeH (i := 13) (v := ?_) rfl (by kernel_rfl) (by kernel_rfl) (by kernel_rfl) (fun _ _ _ h => h) (Or.inl ⟨by rfl, ?_⟩) (by assumption) ?_
    rotate_left
    · (intro w hSw; (try dsimp only at hSw); go_simp; first | done | with_reducible rfl)
    (try simp only [Act.put, List.setIfInBounds_toArray, List.set_cons_zero, List.set_cons_succ])
    refine takeH (i := 14) (v := ?_) rfl (by kernel_rfl) (by kernel_rfl) (by kernel_rfl) (fun _ _ _ h => h) (Or.inl ⟨by rfl, ?_⟩) (by assumption) ?_
    rotate_left
    · (intro w hSw; (try dsimp only at hSw); go_simp; first | done | with_reducible rfl)
    (try simp only [Act.put, List.setIfInBounds_toArray, List.set_cons_zero, List.set_cons_succ])
    refine takeH (i := 15) (v := ?_) rfl (by kernel_rfl) (by kernel_rfl) (by kernel_rfl) (fun _ _ _ h => h) (Or.inl ⟨by rfl, ?_⟩) (by assumption) ?_
    rotate_left
    · (intro w hSw; (try dsimp only at hSw); go_simp; first | done | with_reducible rfl)
    (try simp only [Act.put, List.setIfInBounds_toArray, List.set_cons_zero, List.set_cons_succ])
    refine takeH (i := 16) (v := ?_) rfl (by kernel_rfl) (by kernel_rfl) (by kernel_rfl) (fun _ _ _ h => h) (Or.inl ⟨by rfl, ?_⟩) (by assumption) ?_
    rotate_left
    · (intro w hSw; (try dsimp only at hSw); go_simp; first | done | with_reducible rfl)
    (try simp only [Act.put, List.setIfInBounds_toArray, List.set_cons_zero, List.set_cons_succ])
    refine takeH (i := 17) (v := ?_) rfl (by kernel_rfl) (by kernel_rfl) (by kernel_rfl) (fun _ _ _ h => h) (Or.inl ⟨by rfl, ?_⟩) (by assumption) ?_
    rotate_left
    · (intro w hSw; (try dsimp only at hSw); go_simp; first | done | with_reducible rfl)
    (try simp only [Act.put, List.setIfInBounds_toArray, List.set_cons_zero, List.set_cons_succ])
    refine takeH (i := 18) (v := ?_) rfl (by kernel_rfl) (by kernel_rfl) (by kernel_rfl) (fun _ _ _ h => h) (Or.inl ⟨by rfl, ?_⟩) (by assumption) ?_
    rotate_left
    · (intro w hSw; (try dsimp only at hSw); go_simp; first | done | with_reducible rfl)
    (try simp only [Act.put, List.setIfInBounds_toArray, List.set_cons_zero, List.set_cons_succ])
    refine wpAnyH_ready (rs := [19]) (by kernel_rfl) (by simp) ?_
    refine stepH rfl (fun K hK => ?_) AllReadyH.nil
    go_simp
    refine (HEQ.out wb (HF.out.below hb) (HR.out.below hb)).mono ?_
    rintro e wc ⟨rfl, hq⟩
    have hc := bnext hb hq
    go_wp2_with fail
    refine hK.out _ _ (hc) (fun _ => ?_)
    clear hK K
    (try simp only [Act.put, List.setIfInBounds_toArray, List.set_cons_zero, List.set_cons_succ])
    refine takeH (i := 20) (v := ?_) rfl (by kernel_rfl) (by kernel_rfl) (by kernel_rfl) (fun _ _ _ h => h) (Or.inl ⟨by rfl, ?_⟩) (by assumption) ?_
    rotate_left
    · (intro w hSw; (try dsimp only at hSw); go_simp; first | done | with_reducible rfl)
    (try simp only [Act.put, List.setIfInBounds_toArray, List.set_cons_zero, List.set_cons_succ])
    refine takeH (i := 21) (v := ?_) rfl (by kernel_rfl) (by kernel_rfl) (by kernel_rfl) (fun _ _ _ h => h) (Or.inl ⟨by rfl, ?_⟩) (by assumption) ?_
    rotate_left
    · (intro w hSw; (try dsimp only at hSw); go_simp; first | done | with_reducible rfl)
    (try simp only [Act.put, List.setIfInBounds_toArray, List.set_cons_zero, List.set_cons_succ])
    refine wpAnyH_ready (rs := [22]) (by kernel_rfl) (by simp) ?_
    refine stepH rfl (fun K hK => ?_) AllReadyH.nil
    go_simp
    refine (cAwake wc).mono ?_
    rintro e wd ⟨rfl, hq⟩
    have hd := bnext hc hq
    go_wp2_with fail
    refine hK.out _ _ (hd) (fun _ => ?_)
    clear hK K
    (try simp only [Act.put, List.setIfInBounds_toArray, List.set_cons_zero, List.set_cons_succ])
    refine takeH (i := 23) (v := ?_) rfl (by kernel_rfl) (by kernel_rfl) (by kernel_rfl) (fun _ _ _ h => h) (Or.inl ⟨by rfl, ?_⟩) (by assumption) ?_
    rotate_left
    · (intro w hSw; (try dsimp only at hSw); go_simp; first | done | with_reducible rfl)
    (try simp only [Act.put, List.setIfInBounds_toArray, List.set_cons_zero, List.set_cons_succ])
    refine takeH (i := 24) (v := ?_) rfl (by kernel_rfl) (by kernel_rfl) (by kernel_rfl) (fun _ _ _ h => h) (Or.inl ⟨by rfl, ?_⟩) (by assumption) ?_
    rotate_left
    · (intro w hSw; (try dsimp only at hSw); go_simp; first | done | with_reducible rfl)
    (try simp only [Act.put, List.setIfInBounds_toArray, List.set_cons_zero, List.set_cons_succ])
    refine wpAnyH_done (by kernel_rfl) ?_ _
    have HD := Lib.hid (bnext HB.out hd)
    clear ha hb hc hd
    go_wp2
    go_ret
    exact ⟨rfl, HD.out⟩
  · have hne : (E != 0) = true := bne_t h1
    clear hE h1
    go_enter Try.func10, Try.ntmps10
    go_wp2_with fail
    refine HC.out.mono ?_
    rintro e w1 ⟨rfl, hb⟩
    have HB := Lib.hid hb
    clear hb HC HF HTL
    go_wp2_with fail
    refine (cAwake w1).mono ?_
    rintro e w2 ⟨rfl, hb⟩
    go_wp2
    go_ret
    exact ⟨rfl, bnext HB.out hb⟩

end Go.Proofs.Yteeegpojfbgkfaa
