/-
  The law MemberSummarize: it returns true. Conditions: what came in reads.
-/
import Derived.Test.YtkaafbdhgekeeaaGreatMRSum
import Derived.Test.YtkaafbdhgekeeaaGreatMVal
namespace Go.Proofs.YtkaafbdhgekeeaaGreat
open Go.RowKit Go.Joins
open JM (Chg)
open CM (Fp)
open MM (Mem Ent Sm Tri)

theorem bne_t7 {e : Int} (h : ¬ e = 0) : (e != 0) = true := by simpa using h

set_option maxRecDepth 100000 in
set_option maxHeartbeats 4000000 in
theorem lMemberSummarize (u : Value) (k c f : Int) (ms : List Mem) (v : Value) (fs : List Fp) (W : World) (h : RdM W u ms) (hf : RdF W v fs) :
    Calls Tryz.prog 3 #[vw u k c f, v] W fun e w' => e = .returned (.bool true) ∧ Below W.heap.size W w' := by
  obtain ⟨ad, cp, rfl, hcp, hl⟩ := h.shape
  obtain ⟨fa, fc, rfl, hfc, hfl⟩ := hf.shape
  obtain ⟨w1, hw1⟩ : ∃ w1, W.alloc (.cells #[.slice ad ms.length cp, .int .i64 k, .int .i64 c, .int .i64 f] 26) = w1 := ⟨_, rfl⟩
  have hB := below_fresh W (.cells #[.slice ad ms.length cp, .int .i64 k, .int .i64 c, .int .i64 f] 26)
  have hG := heap_alloc_new W (.cells #[.slice ad ms.length cp, .int .i64 k, .int .i64 c, .int .i64 f] 26)
  rw [hw1] at hB hG
  have HM := Lib.hid (h.below hB)
  have HF := Lib.hid (hf.below hB)
  have HAW := Lib.hid (fun w => cAwake w)
  have HG := Lib.hid hG
  have HB := Lib.hid hB
  have HW := Lib.hid hw1
  clear h hf hB hG hw1 hcp hl hfc hfl
  obtain ⟨⟨q0, q1, q2, q3⟩, _⟩ := row4_at HG.out
  by_cases h30 : 30 < fs.length
  · have hq : (30 : Int) < (fs.length : Int) := by omega
    go_enter Tryz.func3, Tryz.ntmps3
    go_upto_region 1 with fail
    rw [HW.out]
    go_wp2_with fail
    refine (HAW.out w1).mono ?_
    rintro e w2 ⟨rfl, hb2⟩
    go_wp2
    go_ret
    exact ⟨rfl, bnext HB.out hb2⟩
  have hq : ¬ (30 : Int) < (fs.length : Int) := by omega
  have HV1 := Lib.hid (fun w (hb : Below w1.heap.size w1 w) => rValGen (.slice ad ms.length cp) k c f ms w (HM.out.below hb))
  have HV2 := Lib.hid (fun w (hb : Below w1.heap.size w1 w) => rValidateC _ fs w (HF.out.below hb))
  have HS : Hid (MM.errG k c f ms = 0 → CM.errL (0, 0) fs = 0 → ∃ T : Sm, (∀ w, Below w1.heap.size w1 w → Calls Tryz.prog 8 #[vw (.slice ad ms.length cp) k c f, .slice fa fs.length fc] w fun e w' => ∃ v, e = .returned v ∧ RdS w' v T ∧ Below w.heap.size w w') ∧
      (∀ w, Below w1.heap.size w1 w → Calls Tryz.prog 9 #[vw (.slice ad ms.length cp) k c f, .slice fa fs.length fc] w fun e w' => ∃ v, e = .returned v ∧ RdS w' v T ∧ Below w.heap.size w w')) := Lib.hid (fun g1 g2 => by
    have hok : CM.Ok fs := g2
    have hm := gen_len g1
    have h9 := hok.nine
    have hall : ∀ x ∈ fs, JM.errP x.1 x.2.1 x.2.2 = 0 := fun x hx => hok.all x hx
    obtain ⟨a1, a2, _⟩ := MM.errG_zero g1
    have heq : MM.summ ms k c f fs = MM.summR ms k c f fs := MM.summ_eq a1 a2 hall (fun x hx y hy e1 e2 => hok.srt.key hx hy ⟨e1, e2⟩)
    refine ⟨MM.summR ms k c f fs, fun w hb => (cSummarize _ _ k c f ms fs w (HM.out.below hb) (HF.out.below hb) g1 (by omega) hall (by omega)).mono ?_, fun w hb => rSummarize _ _ k c f ms fs w (HM.out.below hb) (HF.out.below hb) g1 (by omega) hall (by omega)⟩
    rintro e w' ⟨v, h3, h4, h5⟩
    exact ⟨v, h3, heq ▸ h4.rd, h5⟩)
  generalize MM.errG k c f ms = E1 at HV1 HS
  generalize CM.errL (0, 0) fs = E2 at HV2 HS
  go_enter Tryz.func3, Tryz.ntmps3
  go_upto_region 1 with fail
  rw [HW.out]
  go_wp2_with fail
  refine (HV1.out w1 (Below.refl _ _)).mono ?_
  rintro e w2 ⟨rfl, hb2⟩
  have HB2 := Lib.hid hb2
  have HG2 := Lib.hid (below_block HG.out hb2)
  clear hb2 q0 q1 q2 q3 HV1 HG
  by_cases hE1 : E1 = 0
  case neg =>
    have hne := bne_t7 hE1
    clear hE1
    go_wp2_with fail
    refine (HAW.out w2).mono ?_
    rintro e w3 ⟨rfl, hb3⟩
    go_wp2
    go_ret
    exact ⟨rfl, bnext HB.out (bnext HB2.out hb3)⟩
  subst hE1
  go_wp2_with fail
  refine (HV2.out w2 HB2.out).mono ?_
  rintro e w3 ⟨rfl, hb3⟩
  have HB3 := Lib.hid (bnext HB2.out hb3)
  have HG3 := Lib.hid (below_block HG2.out hb3)
  clear hb3 HV2 HG2 HB2
  by_cases hE2 : E2 = 0
  case neg =>
    have hne := bne_t7 hE2
    clear hE2
    go_wp2_with fail
    refine (HAW.out w3).mono ?_
    rintro e w4 ⟨rfl, hb4⟩
    go_wp2
    go_ret
    exact ⟨rfl, bnext HB.out (bnext HB3.out hb4)⟩
  subst hE2
  obtain ⟨T, hc, hr⟩ := HS.out (by first | rfl | trivial) (by first | rfl | trivial)
  have HC := Lib.hid hc
  have HR := Lib.hid hr
  have HEQ := Lib.hid (fun w (u1 u2 : Value) (h1 : RdS w u1 T) (h2 : RdS w u2 T) => by
    have := rEqSum u1 u2 T T w h1 h2
    rw [MM.eqS_self] at this
    exact this)
  clear hc hr HS HF HM h30
  go_wp2_with fail
  refine wp_region_held_drew (S := fun w' => Below w3.heap.size w3 w') (by kernel_rfl) ((Below.refl _ _).drew) (fun ha => ?_)
  replace ha : Below w3.heap.size w3 w3.drew := (Below.refl _ _).drew
  have HBW := Lib.hid (fun w' (h : Below w3.heap.size w3 w') => bnext HB3.out h)
  generalize w3.drew = wa at ha ⊢
  refine takeH (i := 0) (v := ?_) rfl (by kernel_rfl) (by kernel_rfl) (by kernel_rfl) (fun _ _ _ h => h) (Or.inl ⟨by rfl, ?_⟩) (by assumption) ?_
  rotate_left
  · (intro w0 hSw; (try dsimp only at hSw); obtain ⟨⟨q0, q1, q2, q3⟩, _⟩ := row4_at (below_block HG3.out hSw); go_simp; first | done | with_reducible rfl)
  (try simp only [Act.put, List.setIfInBounds_toArray, List.set_cons_zero, List.set_cons_succ])
  refine takeH (i := 1) (v := ?_) rfl (by kernel_rfl) (by kernel_rfl) (by kernel_rfl) (fun _ _ _ h => h) (Or.inl ⟨by rfl, ?_⟩) (by assumption) ?_
  rotate_left
  · (intro w hSw; (try dsimp only at hSw); go_simp; first | done | with_reducible rfl)
  (try simp only [Act.put, List.setIfInBounds_toArray, List.set_cons_zero, List.set_cons_succ])
  refine takeH (i := 3) (v := ?_) rfl (by kernel_rfl) (by kernel_rfl) (by kernel_rfl) (fun _ _ _ h => h) (Or.inl ⟨by rfl, ?_⟩) (by assumption) ?_
  rotate_left
  · (intro w0 hSw; (try dsimp only at hSw); obtain ⟨⟨q0, q1, q2, q3⟩, _⟩ := row4_at (below_block HG3.out hSw); go_simp; first | done | with_reducible rfl)
  (try simp only [Act.put, List.setIfInBounds_toArray, List.set_cons_zero, List.set_cons_succ])
  refine takeH (i := 4) (v := ?_) rfl (by kernel_rfl) (by kernel_rfl) (by kernel_rfl) (fun _ _ _ h => h) (Or.inl ⟨by rfl, ?_⟩) (by assumption) ?_
  rotate_left
  · (intro w hSw; (try dsimp only at hSw); go_simp; first | done | with_reducible rfl)
  (try simp only [Act.put, List.setIfInBounds_toArray, List.set_cons_zero, List.set_cons_succ])
  refine wpAnyH_ready (rs := [2]) (by kernel_rfl) (by simp) ?_
  refine stepH rfl (fun K hK => ?_) AllReadyH.nil
  go_simp
  refine (HC.out wa (HBW.out _ ha)).mono ?_
  rintro e wb ⟨v1, rfl, hv1, hq⟩
  have hb := bnext ha hq
  go_wp2_with fail
  refine hK.out _ _ (hb) (fun _ => ?_)
  clear hK K
  (try simp only [Act.put, List.setIfInBounds_toArray, List.set_cons_zero, List.set_cons_succ])
  refine wpAnyH_ready (rs := [5]) (by kernel_rfl) (by simp) ?_
  refine stepH rfl (fun K hK => ?_) AllReadyH.nil
  go_simp
  refine (HR.out wb (HBW.out _ hb)).mono ?_
  rintro e wc ⟨v2, rfl, hv2, hq⟩
  replace hv1 := hv1.below hq
  have hc := bnext hb hq
  go_wp2_with fail
  refine hK.out _ _ (hc) (fun _ => ?_)
  clear hK K
  (try simp only [Act.put, List.setIfInBounds_toArray, List.set_cons_zero, List.set_cons_succ])
  refine wpAnyH_ready (rs := [6]) (by kernel_rfl) (by simp) ?_
  refine stepH rfl (fun K hK => ?_) AllReadyH.nil
  go_simp
  refine (HEQ.out wc v1 v2 hv1 hv2).mono ?_
  rintro e wd ⟨rfl, hq⟩
  have hd := bnext hc hq
  go_wp2_with fail
  refine hK.out _ _ (hd) (fun _ => ?_)
  clear hK K
  (try simp only [Act.put, List.setIfInBounds_toArray, List.set_cons_zero, List.set_cons_succ])
  refine takeH (i := 7) (v := ?_) rfl (by kernel_rfl) (by kernel_rfl) (by kernel_rfl) (fun _ _ _ h => h) (Or.inl ⟨by rfl, ?_⟩) (by assumption) ?_
  rotate_left
  · (intro w hSw; (try dsimp only at hSw); go_simp; first | done | with_reducible rfl)
  (try simp only [Act.put, List.setIfInBounds_toArray, List.set_cons_zero, List.set_cons_succ])
  refine wpAnyH_ready (rs := [8]) (by kernel_rfl) (by simp) ?_
  refine stepH rfl (fun K hK => ?_) AllReadyH.nil
  go_simp
  refine (HAW.out wd).mono ?_
  rintro e we ⟨rfl, hq⟩
  have he := bnext hd hq
  go_wp2_with fail
  refine hK.out _ _ (he) (fun _ => ?_)
  clear hK K
  (try simp only [Act.put, List.setIfInBounds_toArray, List.set_cons_zero, List.set_cons_succ])
  refine takeH (i := 9) (v := ?_) rfl (by kernel_rfl) (by kernel_rfl) (by kernel_rfl) (fun _ _ _ h => h) (Or.inl ⟨by rfl, ?_⟩) (by assumption) ?_
  rotate_left
  · (intro w hSw; (try dsimp only at hSw); go_simp; first | done | with_reducible rfl)
  (try simp only [Act.put, List.setIfInBounds_toArray, List.set_cons_zero, List.set_cons_succ])
  refine takeH (i := 10) (v := ?_) rfl (by kernel_rfl) (by kernel_rfl) (by kernel_rfl) (fun _ _ _ h => h) (Or.inl ⟨by rfl, ?_⟩) (by assumption) ?_
  rotate_left
  · (intro w hSw; (try dsimp only at hSw); go_simp; first | done | with_reducible rfl)
  (try simp only [Act.put, List.setIfInBounds_toArray, List.set_cons_zero, List.set_cons_succ])
  refine wpAnyH_done (by kernel_rfl) ?_ _
  have HF := Lib.hid (bnext HB.out (HBW.out _ he))
  clear ha hb hc hd he hv1 hv2
  go_wp2
  go_ret
  exact ⟨rfl, HF.out⟩
end Go.Proofs.YtkaafbdhgekeeaaGreat
