/-
  The laws MemberGenesis and MemberValidate: each returns true. Conditions: what came in reads.
-/
import Derived.Test.YtdipheijagjelaaMAwake
import Derived.Test.YtdipheijagjelaaMVg
import Derived.Test.YtdipheijagjelaaMRIni
namespace Go.Proofs.Ytdipheijagjelaa
open Go.RowKit Go.Joins
open MM (Mem Ent Sm Tri)

set_option maxRecDepth 100000 in
set_option maxHeartbeats 4000000 in
theorem lMemberGenesis (u : Value) (k c f : Int) (ms : List Mem) (W : World) (h : RdM W u ms) :
    Calls Try.prog 3 #[vw u k c f] W fun e w' => e = .returned (.bool true) ∧ Below W.heap.size W w' := by
  obtain ⟨ad, cp, rfl, hcp, hl⟩ := h.shape
  obtain ⟨w1, hw1⟩ : ∃ w1, W.alloc (.cells #[.slice ad ms.length cp, .int .i64 k, .int .i64 c, .int .i64 f] 26) = w1 := ⟨_, rfl⟩
  have hB := below_fresh W (.cells #[.slice ad ms.length cp, .int .i64 k, .int .i64 c, .int .i64 f] 26)
  have hG := heap_alloc_new W (.cells #[.slice ad ms.length cp, .int .i64 k, .int .i64 c, .int .i64 f] 26)
  rw [hw1] at hB hG
  have HM := Lib.hid (h.below hB)
  have HAW := Lib.hid (fun w => cAwake w)
  have HG := Lib.hid hG
  have HB := Lib.hid hB
  have HW := Lib.hid hw1
  clear h hB hG hw1
  obtain ⟨⟨q0, q1, q2, q3⟩, _⟩ := row4_at HG.out
  by_cases h60 : 60 < ms.length
  · have hq : (60 : Int) < (ms.length : Int) := by omega
    go_enter Try.func3, Try.ntmps3
    go_upto_region 1 with fail
    rw [HW.out]
    go_wp2_with fail
    refine (HAW.out w1).mono ?_
    rintro e w2 ⟨rfl, hb2⟩
    go_wp2
    go_ret
    exact ⟨rfl, bnext HB.out hb2⟩
  · have hq : ¬ (60 : Int) < (ms.length : Int) := by omega
    have HL := Lib.hid (show ms.length ≤ 1000000 by omega)
    have HV1 := Lib.hid (fun w (hb : Below w1.heap.size w1 w) => rValGen (.slice ad ms.length cp) k c f ms w (HM.out.below hb))
    have HV2 := Lib.hid (fun w (hb : Below w1.heap.size w1 w) => cValGen (.slice ad ms.length cp) k c f ms w (HM.out.below hb))
    have HI1 := Lib.hid (fun w (hb : Below w1.heap.size w1 w) => cInitial (.slice ad ms.length cp) k c f ms w (HM.out.below hb) HL.out)
    have HI2 := Lib.hid (fun w (hb : Below w1.heap.size w1 w) => rInitial (.slice ad ms.length cp) k c f ms w (HM.out.below hb) HL.out)
    generalize MM.ini ms k c f = S at HI1 HI2
    have HEQ := Lib.hid (fun w (u1 u2 : Value) (h1 : RdS w u1 S) (h2 : RdS w u2 S) => by
      have := rEqSum u1 u2 S S w h1 h2
      rw [MM.eqS_self] at this
      exact this)
    generalize MM.errG k c f ms = E at HV1 HV2
    by_cases hE : E = 0
    · subst hE
      go_enter Try.func3, Try.ntmps3
      go_upto_region 1 with fail
      rw [HW.out]
      go_wp2_with fail
      refine (HV1.out w1 (Below.refl _ _)).mono ?_
      rintro e w2 ⟨rfl, hb2⟩
      have HG2 := Lib.hid (below_block HG.out hb2)
      have HB2 := Lib.hid hb2
      clear hb2 q0 q1 q2 q3
      obtain ⟨⟨q0, q1, q2, q3⟩, _⟩ := row4_at HG2.out
      go_wp2_with fail
      refine (HV2.out w2 HB2.out).mono ?_
      rintro e w3 ⟨rfl, hb3⟩
      have HG3 := Lib.hid (below_block HG2.out hb3)
      have HB3 := Lib.hid (bnext HB2.out hb3)
      clear hb3 q0 q1 q2 q3 HG2 HB2 HV1 HV2
      go_wp2
      refine wp_region_held_drew (S := fun w' => Below w3.heap.size w3 w') (by kernel_rfl) ((Below.refl _ _).drew) (fun ha => ?_)
      replace ha : Below w3.heap.size w3 w3.drew := (Below.refl _ _).drew
      generalize w3.drew = wa at ha ⊢
      refine takeH (i := 0) (v := ?_) rfl (by kernel_rfl) (by kernel_rfl) (by kernel_rfl) (fun _ _ _ h => h) (Or.inl ⟨by rfl, ?_⟩) (by assumption) ?_
      rotate_left
      · (intro w hSw; (try dsimp only at hSw); go_simp; first | done | with_reducible rfl)
      (try simp only [Act.put, List.setIfInBounds_toArray, List.set_cons_zero, List.set_cons_succ])
      refine takeH (i := 1) (v := ?_) rfl (by kernel_rfl) (by kernel_rfl) (by kernel_rfl) (fun _ _ _ h => h) (Or.inl ⟨by rfl, ?_⟩) (by assumption) ?_
      rotate_left
      · (intro w hSw; (try dsimp only at hSw); go_simp; first | done | with_reducible rfl)
      (try simp only [Act.put, List.setIfInBounds_toArray, List.set_cons_zero, List.set_cons_succ])
      refine takeH (i := 2) (v := ?_) rfl (by kernel_rfl) (by kernel_rfl) (by kernel_rfl) (fun _ _ _ h => h) (Or.inl ⟨by rfl, ?_⟩) (by assumption) ?_
      rotate_left
      · (intro w hSw; (try dsimp only at hSw); go_simp; first | done | with_reducible rfl)
      (try simp only [Act.put, List.setIfInBounds_toArray, List.set_cons_zero, List.set_cons_succ])
      refine takeH (i := 3) (v := ?_) rfl (by kernel_rfl) (by kernel_rfl) (by kernel_rfl) (fun _ _ _ h => h) (Or.inl ⟨by rfl, ?_⟩) (by assumption) ?_
      rotate_left
      · (intro w hSw; (try dsimp only at hSw); obtain ⟨⟨q0, q1, q2, q3⟩, _⟩ := row4_at (below_block HG3.out hSw); go_simp; first | done | with_reducible rfl)
      (try simp only [Act.put, List.setIfInBounds_toArray, List.set_cons_zero, List.set_cons_succ])
      refine takeH (i := 5) (v := ?_) rfl (by kernel_rfl) (by kernel_rfl) (by kernel_rfl) (fun _ _ _ h => h) (Or.inl ⟨by rfl, ?_⟩) (by assumption) ?_
      rotate_left
      · (intro w hSw; (try dsimp only at hSw); obtain ⟨⟨q0, q1, q2, q3⟩, _⟩ := row4_at (below_block HG3.out hSw); go_simp; first | done | with_reducible rfl)
      (try simp only [Act.put, List.setIfInBounds_toArray, List.set_cons_zero, List.set_cons_succ])
      refine wpAnyH_ready (rs := [4]) (by kernel_rfl) (by simp) ?_
      refine stepH rfl (fun K hK => ?_) AllReadyH.nil
      go_simp
      refine (HI1.out wa (bnext HB3.out ha)).mono ?_
      rintro e wb ⟨v1, rfl, hr1, hq⟩
      have hr1 := hr1.rd
      have hb := bnext ha hq
      go_wp2_with fail
      refine hK.out _ _ (hb) (fun _ => ?_)
      clear hK K
      (try simp only [Act.put, List.setIfInBounds_toArray, List.set_cons_zero, List.set_cons_succ])
      refine wpAnyH_ready (rs := [6]) (by kernel_rfl) (by simp) ?_
      refine stepH rfl (fun K hK => ?_) AllReadyH.nil
      go_simp
      refine (HI2.out wb (bnext HB3.out hb)).mono ?_
      rintro e wc ⟨v2, rfl, hr2, hq⟩
      have hr2 := hr2.rd
      replace hr1 := hr1.below hq
      have hc := bnext hb hq
      go_wp2_with fail
      refine hK.out _ _ (hc) (fun _ => ?_)
      clear hK K
      (try simp only [Act.put, List.setIfInBounds_toArray, List.set_cons_zero, List.set_cons_succ])
      refine wpAnyH_ready (rs := [7]) (by kernel_rfl) (by simp) ?_
      refine stepH rfl (fun K hK => ?_) AllReadyH.nil
      go_simp
      refine (HEQ.out wc v1 v2 hr1 hr2).mono ?_
      rintro e wd ⟨rfl, hq⟩
      have hd := bnext hc hq
      go_wp2_with fail
      refine hK.out _ _ (hd) (fun _ => ?_)
      clear hK K
      (try simp only [Act.put, List.setIfInBounds_toArray, List.set_cons_zero, List.set_cons_succ])
      refine takeH (i := 8) (v := ?_) rfl (by kernel_rfl) (by kernel_rfl) (by kernel_rfl) (fun _ _ _ h => h) (Or.inl ⟨by rfl, ?_⟩) (by assumption) ?_
      rotate_left
      · (intro w hSw; (try dsimp only at hSw); go_simp; first | done | with_reducible rfl)
      (try simp only [Act.put, List.setIfInBounds_toArray, List.set_cons_zero, List.set_cons_succ])
      refine takeH (i := 9) (v := ?_) rfl (by kernel_rfl) (by kernel_rfl) (by kernel_rfl) (fun _ _ _ h => h) (Or.inl ⟨by rfl, ?_⟩) (by assumption) ?_
      rotate_left
      · (intro w hSw; (try dsimp only at hSw); go_simp; first | done | with_reducible rfl)
      (try simp only [Act.put, List.setIfInBounds_toArray, List.set_cons_zero, List.set_cons_succ])
      refine wpAnyH_ready (rs := [10]) (by kernel_rfl) (by simp) ?_
      refine stepH rfl (fun K hK => ?_) AllReadyH.nil
      go_simp
      refine (HAW.out wd).mono ?_
      rintro e we ⟨rfl, hq⟩
      have he := bnext hd hq
      go_wp2_with fail
      refine hK.out _ _ (he) (fun _ => ?_)
      clear hK K
      (try simp only [Act.put, List.setIfInBounds_toArray, List.set_cons_zero, List.set_cons_succ])
      refine takeH (i := 11) (v := ?_) rfl (by kernel_rfl) (by kernel_rfl) (by kernel_rfl) (fun _ _ _ h => h) (Or.inl ⟨by rfl, ?_⟩) (by assumption) ?_
      rotate_left
      · (intro w hSw; (try dsimp only at hSw); go_simp; first | done | with_reducible rfl)
      (try simp only [Act.put, List.setIfInBounds_toArray, List.set_cons_zero, List.set_cons_succ])
      refine takeH (i := 12) (v := ?_) rfl (by kernel_rfl) (by kernel_rfl) (by kernel_rfl) (fun _ _ _ h => h) (Or.inl ⟨by rfl, ?_⟩) (by assumption) ?_
      rotate_left
      · (intro w hSw; (try dsimp only at hSw); go_simp; first | done | with_reducible rfl)
      (try simp only [Act.put, List.setIfInBounds_toArray, List.set_cons_zero, List.set_cons_succ])
      refine wpAnyH_done (by kernel_rfl) ?_ _
      clear hr1 hr2
      have HF := Lib.hid (bnext HB.out (bnext HB3.out he))
      clear ha hb hc hd he
      go_wp2
      go_ret
      exact ⟨rfl, HF.out⟩
    · have hne : (E != 0) = true := bne_t hE
      have hse : (E != E) = false := by simp
      clear hE
      go_enter Try.func3, Try.ntmps3
      go_upto_region 1 with fail
      rw [HW.out]
      go_wp2_with fail
      refine (HV1.out w1 (Below.refl _ _)).mono ?_
      rintro e w2 ⟨rfl, hb2⟩
      have HG2 := Lib.hid (below_block HG.out hb2)
      have HB2 := Lib.hid hb2
      clear hb2 q0 q1 q2 q3
      obtain ⟨⟨q0, q1, q2, q3⟩, _⟩ := row4_at HG2.out
      go_wp2_with fail
      refine (HV2.out w2 HB2.out).mono ?_
      rintro e w3 ⟨rfl, hb3⟩
      have HB3 := Lib.hid (bnext HB2.out hb3)
      clear hb3 q0 q1 q2 q3 HG2 HB2 HV1 HV2
      go_wp2
      refine wp_region_held_drew (S := fun w' => Below w3.heap.size w3 w') (by kernel_rfl) ((Below.refl _ _).drew) (fun ha => ?_)
      replace ha : Below w3.heap.size w3 w3.drew := (Below.refl _ _).drew
      generalize w3.drew = wa at ha ⊢
      refine takeH (i := 0) (v := ?_) rfl (by kernel_rfl) (by kernel_rfl) (by kernel_rfl) (fun _ _ _ h => h) (Or.inl ⟨by rfl, ?_⟩) (by assumption) ?_
      rotate_left
      · (intro w hSw; (try dsimp only at hSw); go_simp; first | done | with_reducible rfl)
      (try simp only [Act.put, List.setIfInBounds_toArray, List.set_cons_zero, List.set_cons_succ])
      refine takeH (i := 1) (v := ?_) rfl (by kernel_rfl) (by kernel_rfl) (by kernel_rfl) (fun _ _ _ h => h) (Or.inl ⟨by rfl, ?_⟩) (by assumption) ?_
      rotate_left
      · (intro w hSw; (try dsimp only at hSw); go_simp; first | done | with_reducible rfl)
      (try simp only [Act.put, List.setIfInBounds_toArray, List.set_cons_zero, List.set_cons_succ])
      refine takeH (i := 2) (v := ?_) rfl (by kernel_rfl) (by kernel_rfl) (by kernel_rfl) (fun _ _ _ h => h) (Or.inl ⟨by rfl, ?_⟩) (by assumption) ?_
      rotate_left
      · (intro w hSw; (try dsimp only at hSw); go_simp; first | done | with_reducible rfl)
      (try simp only [Act.put, List.setIfInBounds_toArray, List.set_cons_zero, List.set_cons_succ])
      refine takeH (i := 3) (v := undef) rfl (by kernel_rfl) (by kernel_rfl) (by kernel_rfl) (fun _ _ _ h => h) (Or.inr ⟨by rfl, by rfl⟩) (by assumption) ?_
      (try simp only [Act.put, List.setIfInBounds_toArray, List.set_cons_zero, List.set_cons_succ])
      refine takeH (i := 4) (v := undef) rfl (by kernel_rfl) (by kernel_rfl) (by kernel_rfl) (fun _ _ _ h => h) (Or.inr ⟨by rfl, by rfl⟩) (by assumption) ?_
      (try simp only [Act.put, List.setIfInBounds_toArray, List.set_cons_zero, List.set_cons_succ])
      refine takeH (i := 5) (v := undef) rfl (by kernel_rfl) (by kernel_rfl) (by kernel_rfl) (fun _ _ _ h => h) (Or.inr ⟨by rfl, by rfl⟩) (by assumption) ?_
      (try simp only [Act.put, List.setIfInBounds_toArray, List.set_cons_zero, List.set_cons_succ])
      refine takeH (i := 6) (v := undef) rfl (by kernel_rfl) (by kernel_rfl) (by kernel_rfl) (fun _ _ _ h => h) (Or.inr ⟨by rfl, by rfl⟩) (by assumption) ?_
      (try simp only [Act.put, List.setIfInBounds_toArray, List.set_cons_zero, List.set_cons_succ])
      refine takeH (i := 7) (v := undef) rfl (by kernel_rfl) (by kernel_rfl) (by kernel_rfl) (fun _ _ _ h => h) (Or.inr ⟨by rfl, by rfl⟩) (by assumption) ?_
      (try simp only [Act.put, List.setIfInBounds_toArray, List.set_cons_zero, List.set_cons_succ])
      refine takeH (i := 8) (v := ?_) rfl (by kernel_rfl) (by kernel_rfl) (by kernel_rfl) (fun _ _ _ h => h) (Or.inl ⟨by rfl, ?_⟩) (by assumption) ?_
      rotate_left
      · (intro w hSw; (try dsimp only at hSw); go_simp; first | done | with_reducible rfl)
      (try simp only [Act.put, List.setIfInBounds_toArray, List.set_cons_zero, List.set_cons_succ])
      refine takeH (i := 9) (v := ?_) rfl (by kernel_rfl) (by kernel_rfl) (by kernel_rfl) (fun _ _ _ h => h) (Or.inl ⟨by rfl, ?_⟩) (by assumption) ?_
      rotate_left
      · (intro w hSw; (try dsimp only at hSw); go_simp; first | done | with_reducible rfl)
      (try simp only [Act.put, List.setIfInBounds_toArray, List.set_cons_zero, List.set_cons_succ])
      refine wpAnyH_ready (rs := [10]) (by kernel_rfl) (by simp) ?_
      refine stepH rfl (fun K hK => ?_) AllReadyH.nil
      go_simp
      refine (HAW.out wa).mono ?_
      rintro e we ⟨rfl, hq⟩
      have he := bnext ha hq
      go_wp2_with fail
      refine hK.out _ _ (he) (fun _ => ?_)
      clear hK K
      (try simp only [Act.put, List.setIfInBounds_toArray, List.set_cons_zero, List.set_cons_succ])
      refine takeH (i := 11) (v := ?_) rfl (by kernel_rfl) (by kernel_rfl) (by kernel_rfl) (fun _ _ _ h => h) (Or.inl ⟨by rfl, ?_⟩) (by assumption) ?_
      rotate_left
      · (intro w hSw; (try dsimp only at hSw); go_simp; first | done | with_reducible rfl)
      (try simp only [Act.put, List.setIfInBounds_toArray, List.set_cons_zero, List.set_cons_succ])
      refine takeH (i := 12) (v := ?_) rfl (by kernel_rfl) (by kernel_rfl) (by kernel_rfl) (fun _ _ _ h => h) (Or.inl ⟨by rfl, ?_⟩) (by assumption) ?_
      rotate_left
      · (intro w hSw; (try dsimp only at hSw); go_simp; first | done | with_reducible rfl)
      (try simp only [Act.put, List.setIfInBounds_toArray, List.set_cons_zero, List.set_cons_succ])
      refine wpAnyH_done (by kernel_rfl) ?_ _
      have HF := Lib.hid (bnext HB.out (bnext HB3.out he))
      clear ha he
      go_wp2
      go_ret
      exact ⟨rfl, HF.out⟩

/-! Short summaries. -/
def shortB (s : Sm) : Bool := decide (s.J.length ≤ 40) && (decide (s.R.length ≤ 40) && decide (s.W.length ≤ 40))
theorem shortB_iff {s : Sm} : shortB s = true ↔ s.J.length ≤ 40 ∧ s.R.length ≤ 40 ∧ s.W.length ≤ 40 := by unfold shortB; simp
set_option maxRecDepth 100000 in
set_option maxHeartbeats 1000000 in
theorem cShort (v : Value) (s : Sm) (W : World) (h : RdS W v s) :
    Calls Try.prog 16 #[v] W fun e w' => e = .returned (.bool (shortB s)) ∧ Below W.heap.size W w' := by
  obtain ⟨x, y, z, rfl, h1, h2, h3⟩ := h
  obtain ⟨R, hR⟩ : ∃ R, R = shortB s := ⟨_, rfl⟩
  rw [← hR]
  obtain ⟨J, Rm, Ws, k, c, f, v, a, n⟩ := s
  dsimp only at h1 h2 h3
  obtain ⟨ax, cx, rfl, _⟩ := h1.shape
  obtain ⟨ay, cy, rfl, _⟩ := h2.shape
  obtain ⟨az, cz, rfl, _⟩ := h3.shape
  have HR := Lib.hid (show R = (decide (J.length ≤ 40) && (decide (Rm.length ≤ 40) && decide (Ws.length ≤ 40))) from hR)
  have HB := Lib.hid (below_fresh W (.cells (s9 (.slice ax J.length cx) (.slice ay Rm.length cy) (.slice az Ws.length cz) k c f v a n) 34))
  clear h1 h2 h3 hR
  generalize J.length = l1 at *
  generalize Rm.length = l2 at *
  generalize Ws.length = l3 at *
  by_cases b1 : l1 ≤ 40
  · by_cases b2 : l2 ≤ 40
    · by_cases b3 : l3 ≤ 40
      · have g1 : (l1 : Int) ≤ 40 := by omega
        have g2 : (l2 : Int) ≤ 40 := by omega
        have g3 : (l3 : Int) ≤ 40 := by omega
        have HE := Lib.hid (show R = true by rw [HR.out]; simp [b1, b2, b3])
        clear HR b1 b2 b3
        go_enter Try.func16, Try.ntmps16
        go_wp2
        go_ret
        rw [HE.out]; exact ⟨rfl, HB.out⟩
      · have g1 : (l1 : Int) ≤ 40 := by omega
        have g2 : (l2 : Int) ≤ 40 := by omega
        have g3 : ¬ (l3 : Int) ≤ 40 := by omega
        have HE := Lib.hid (show R = false by rw [HR.out]; simp [b3])
        clear HR b1 b2 b3
        go_enter Try.func16, Try.ntmps16
        go_wp2
        go_ret
        rw [HE.out]; exact ⟨rfl, HB.out⟩
    · have g1 : (l1 : Int) ≤ 40 := by omega
      have g2 : ¬ (l2 : Int) ≤ 40 := by omega
      have HE := Lib.hid (show R = false by rw [HR.out]; simp [b2])
      clear HR b1 b2
      go_enter Try.func16, Try.ntmps16
      go_wp2
      go_ret
      rw [HE.out]; exact ⟨rfl, HB.out⟩
  · have g1 : ¬ (l1 : Int) ≤ 40 := by omega
    have HE := Lib.hid (show R = false by rw [HR.out]; simp [b1])
    clear HR b1
    go_enter Try.func16, Try.ntmps16
    go_wp2
    go_ret
    rw [HE.out]; exact ⟨rfl, HB.out⟩

/-- Two summaries that came in, in boxes. -/
theorem two_sums (W : World) (va vb : Value) (s t : Sm) (ha : RdS W va s) (hb : RdS W vb t) :
    ∃ (x y z x' y' z' : Value) (w2 : World), va = sv x y z s.k s.c s.f s.v s.a s.n ∧ vb = sv x' y' z' t.k t.c t.f t.v t.a t.n ∧
      (W.alloc (.cells (s9 x y z s.k s.c s.f s.v s.a s.n) 34)).alloc (.cells (s9 x' y' z' t.k t.c t.f t.v t.a t.n) 34) = w2 ∧ Below W.heap.size W w2 ∧ RdS w2 va s ∧ RdS w2 vb t ∧
      w2.heap[W.heap.size]? = some (.cells (s9 x y z s.k s.c s.f s.v s.a s.n) 34 (0, 0)) ∧ w2.heap[W.heap.size + 1]? = some (.cells (s9 x' y' z' t.k t.c t.f t.v t.a t.n) 34 (0, 0)) := by
  obtain ⟨x, y, z, hva, _⟩ := id ha
  obtain ⟨x', y', z', hvb, _⟩ := id hb
  have b1 := below_fresh W (.cells (s9 x y z s.k s.c s.f s.v s.a s.n) 34)
  have h1 := heap_alloc_new W (.cells (s9 x y z s.k s.c s.f s.v s.a s.n) 34)
  have z1 := World.size_alloc W (.cells (s9 x y z s.k s.c s.f s.v s.a s.n) 34)
  have b2 := below_fresh (W.alloc (.cells (s9 x y z s.k s.c s.f s.v s.a s.n) 34)) (.cells (s9 x' y' z' t.k t.c t.f t.v t.a t.n) 34)
  have h2 := heap_alloc_new (W.alloc (.cells (s9 x y z s.k s.c s.f s.v s.a s.n) 34)) (.cells (s9 x' y' z' t.k t.c t.f t.v t.a t.n) 34)
  rw [z1] at h2
  have hB := bnext b1 b2
  exact ⟨x, y, z, x', y', z', _, hva, hvb, rfl, hB, ha.below hB, hb.below hB, below_block h1 b2, h2⟩

set_option maxRecDepth 100000 in
set_option maxHeartbeats 4000000 in
theorem lMemberValidate (va vb : Value) (s t : Sm) (W : World) (ha : RdS W va s) (hb : RdS W vb t) :
    Calls Try.prog 4 #[va, vb] W fun e w' => e = .returned (.bool true) ∧ Below W.heap.size W w' := by
  obtain ⟨x, y, z, x', y', z', w2, hva, hvb, hw2, hB, hra, hrb, hA, hBb⟩ := two_sums W va vb s t ha hb
  have HS1 := Lib.hid (fun w (hb : Below w2.heap.size w2 w) => cShort va s w (hra.below hb))
  have HS2 := Lib.hid (fun w (hb : Below w2.heap.size w2 w) => cShort vb t w (hrb.below hb))
  have HV1 := Lib.hid (fun w (hb : Below w2.heap.size w2 w) => cValSum va s w (hra.below hb))
  have HV2 := Lib.hid (fun w (hb : Below w2.heap.size w2 w) => rValSum va s w (hra.below hb))
  have HE1 := Lib.hid (fun w (hb : Below w2.heap.size w2 w) => cEqSum va vb s t w (hra.below hb) (hrb.below hb))
  have HE2 := Lib.hid (fun w (hb : Below w2.heap.size w2 w) => rEqSum va vb s t w (hra.below hb) (hrb.below hb))
  have HE3 := Lib.hid (fun w (hb : Below w2.heap.size w2 w) => by
    have := cEqSum va va s s w (hra.below hb) (hra.below hb)
    rw [MM.eqS_self] at this
    exact this)
  have HAW := Lib.hid (fun w => cAwake w)
  generalize MM.errS s = E at HV1 HV2
  generalize MM.eqS s t = Q0 at HE1 HE2
  generalize shortB s = sa at HS1
  generalize shortB t = sb at HS2
  obtain ⟨J, Rm, Ws, k, c, f, v, a, n⟩ := s
  obtain ⟨J', Rm', Ws', k', c', f', v', a', n'⟩ := t
  dsimp only at hva hvb hw2 hA hBb
  subst hva hvb
  have HA := Lib.hid hA
  have HBb := Lib.hid hBb
  have HB := Lib.hid hB
  have HW := Lib.hid hw2
  clear ha hb hra hrb hA hBb hB hw2
  obtain ⟨⟨a0, a1, a2, a3, a4, a5, a6, a7, a8⟩, _⟩ := row9_at HA.out
  obtain ⟨⟨b0, b1, b2, b3, b4, b5, b6, b7, b8⟩, _⟩ := row9_at HBb.out
  cases sa
  · go_enter Try.func4, Try.ntmps4
    go_upto_region 1 with fail
    rw [HW.out]
    go_wp2_with fail
    refine (HS1.out w2 (Below.refl _ _)).mono ?_
    rintro e w3 ⟨rfl, hb3⟩
    go_wp2_with fail
    refine (HAW.out w3).mono ?_
    rintro e w4 ⟨rfl, hb4⟩
    go_wp2
    go_ret
    exact ⟨rfl, bnext HB.out (bnext hb3 hb4)⟩
  go_enter Try.func4, Try.ntmps4
  go_upto_region 1 with fail
  rw [HW.out]
  go_wp2_with fail
  refine (HS1.out w2 (Below.refl _ _)).mono ?_
  rintro e w3 ⟨rfl, hb3⟩
  have HB3 := Lib.hid hb3
  have HA3 := Lib.hid (below_block HA.out hb3)
  have HBb3 := Lib.hid (below_block HBb.out hb3)
  clear hb3 a0 a1 a2 a3 a4 a5 a6 a7 a8 b0 b1 b2 b3 b4 b5 b6 b7 b8 HA HBb HS1
  obtain ⟨⟨b0, b1, b2, b3, b4, b5, b6, b7, b8⟩, _⟩ := row9_at HBb3.out
  cases sb
  · go_wp2_with fail
    refine (HS2.out w3 HB3.out).mono ?_
    rintro e w4 ⟨rfl, hb4⟩
    go_wp2_with fail
    refine (HAW.out w4).mono ?_
    rintro e w5 ⟨rfl, hb5⟩
    go_wp2
    go_ret
    exact ⟨rfl, bnext HB.out (bnext HB3.out (bnext hb4 hb5))⟩
  go_wp2_with fail
  refine (HS2.out w3 HB3.out).mono ?_
  rintro e w4 ⟨rfl, hb4⟩
  have HB4 := Lib.hid (bnext HB3.out hb4)
  have HA4 := Lib.hid (below_block HA3.out hb4)
  have HBb4 := Lib.hid (below_block HBb3.out hb4)
  clear hb4 b0 b1 b2 b3 b4 b5 b6 b7 b8 HA3 HBb3 HS2 HB3
  go_wp2
  refine wp_region_held_drew (S := fun w' => Below w4.heap.size w4 w') (by kernel_rfl) ((Below.refl _ _).drew) (fun ha => ?_)
  replace ha : Below w4.heap.size w4 w4.drew := (Below.refl _ _).drew
  generalize w4.drew = wa at ha ⊢
  refine takeH (i := 0) (v := ?_) rfl (by kernel_rfl) (by kernel_rfl) (by kernel_rfl) (fun _ _ _ h => h) (Or.inl ⟨by rfl, ?_⟩) (by assumption) ?_
  rotate_left
  · (intro w hSw; (try dsimp only at hSw); obtain ⟨⟨a0, a1, a2, a3, a4, a5, a6, a7, a8⟩, _⟩ := row9_at (below_block HA4.out hSw); go_simp; first | done | with_reducible rfl)
  (try simp only [Act.put, List.setIfInBounds_toArray, List.set_cons_zero, List.set_cons_succ])
  refine takeH (i := 2) (v := ?_) rfl (by kernel_rfl) (by kernel_rfl) (by kernel_rfl) (fun _ _ _ h => h) (Or.inl ⟨by rfl, ?_⟩) (by assumption) ?_
  rotate_left
  · (intro w hSw; (try dsimp only at hSw); obtain ⟨⟨a0, a1, a2, a3, a4, a5, a6, a7, a8⟩, _⟩ := row9_at (below_block HA4.out hSw); go_simp; first | done | with_reducible rfl)
  (try simp only [Act.put, List.setIfInBounds_toArray, List.set_cons_zero, List.set_cons_succ])
  refine wpAnyH_ready (rs := [1]) (by kernel_rfl) (by simp) ?_
  refine stepH rfl (fun K hK => ?_) AllReadyH.nil
  go_simp
  refine (HV1.out wa (bnext HB4.out ha)).mono ?_
  rintro e wb ⟨rfl, hq⟩
  have hb := bnext ha hq
  go_wp2_with fail
  refine hK.out _ _ (hb) (fun _ => ?_)
  clear hK K
  (try simp only [Act.put, List.setIfInBounds_toArray, List.set_cons_zero, List.set_cons_succ])
  refine wpAnyH_ready (rs := [3]) (by kernel_rfl) (by simp) ?_
  refine stepH rfl (fun K hK => ?_) AllReadyH.nil
  go_simp
  refine (HV2.out wb (bnext HB4.out hb)).mono ?_
  rintro e wc ⟨rfl, hq⟩
  have hc := bnext hb hq
  go_wp2_with fail
  refine hK.out _ _ (hc) (fun _ => ?_)
  clear hK K
  (try simp only [Act.put, List.setIfInBounds_toArray, List.set_cons_zero, List.set_cons_succ])
  refine takeH (i := 4) (v := ?_) rfl (by kernel_rfl) (by kernel_rfl) (by kernel_rfl) (fun _ _ _ h => h) (Or.inl ⟨by rfl, ?_⟩) (by assumption) ?_
  rotate_left
  · (intro w hSw; (try dsimp only at hSw); go_simp; first | done | with_reducible rfl)
  (try simp only [Act.put, List.setIfInBounds_toArray, List.set_cons_zero, List.set_cons_succ])
  refine takeH (i := 5) (v := ?_) rfl (by kernel_rfl) (by kernel_rfl) (by kernel_rfl) (fun _ _ _ h => h) (Or.inl ⟨by rfl, ?_⟩) (by assumption) ?_
  rotate_left
  · (intro w hSw; (try dsimp only at hSw); go_simp; first | done | with_reducible rfl)
  (try simp only [Act.put, List.setIfInBounds_toArray, List.set_cons_zero, List.set_cons_succ])
  refine takeH (i := 6) (v := ?_) rfl (by kernel_rfl) (by kernel_rfl) (by kernel_rfl) (fun _ _ _ h => h) (Or.inl ⟨by rfl, ?_⟩) (by assumption) ?_
  rotate_left
  · (intro w hSw; (try dsimp only at hSw); obtain ⟨⟨a0, a1, a2, a3, a4, a5, a6, a7, a8⟩, _⟩ := row9_at (below_block HA4.out hSw); go_simp; first | done | with_reducible rfl)
  (try simp only [Act.put, List.setIfInBounds_toArray, List.set_cons_zero, List.set_cons_succ])
  refine takeH (i := 7) (v := ?_) rfl (by kernel_rfl) (by kernel_rfl) (by kernel_rfl) (fun _ _ _ h => h) (Or.inl ⟨by rfl, ?_⟩) (by assumption) ?_
  rotate_left
  · (intro w hSw; (try dsimp only at hSw); obtain ⟨⟨b0, b1, b2, b3, b4, b5, b6, b7, b8⟩, _⟩ := row9_at (below_block HBb4.out hSw); go_simp; first | done | with_reducible rfl)
  (try simp only [Act.put, List.setIfInBounds_toArray, List.set_cons_zero, List.set_cons_succ])
  refine takeH (i := 9) (v := ?_) rfl (by kernel_rfl) (by kernel_rfl) (by kernel_rfl) (fun _ _ _ h => h) (Or.inl ⟨by rfl, ?_⟩) (by assumption) ?_
  rotate_left
  · (intro w hSw; (try dsimp only at hSw); obtain ⟨⟨a0, a1, a2, a3, a4, a5, a6, a7, a8⟩, _⟩ := row9_at (below_block HA4.out hSw); go_simp; first | done | with_reducible rfl)
  (try simp only [Act.put, List.setIfInBounds_toArray, List.set_cons_zero, List.set_cons_succ])
  refine takeH (i := 10) (v := ?_) rfl (by kernel_rfl) (by kernel_rfl) (by kernel_rfl) (fun _ _ _ h => h) (Or.inl ⟨by rfl, ?_⟩) (by assumption) ?_
  rotate_left
  · (intro w hSw; (try dsimp only at hSw); obtain ⟨⟨b0, b1, b2, b3, b4, b5, b6, b7, b8⟩, _⟩ := row9_at (below_block HBb4.out hSw); go_simp; first | done | with_reducible rfl)
  (try simp only [Act.put, List.setIfInBounds_toArray, List.set_cons_zero, List.set_cons_succ])
  refine wpAnyH_ready (rs := [8]) (by kernel_rfl) (by simp) ?_
  refine stepH rfl (fun K hK => ?_) AllReadyH.nil
  go_simp
  refine (HE1.out wc (bnext HB4.out hc)).mono ?_
  rintro e wd ⟨rfl, hq⟩
  have hd := bnext hc hq
  go_wp2_with fail
  refine hK.out _ _ (hd) (fun _ => ?_)
  clear hK K
  (try simp only [Act.put, List.setIfInBounds_toArray, List.set_cons_zero, List.set_cons_succ])
  refine wpAnyH_ready (rs := [11]) (by kernel_rfl) (by simp) ?_
  refine stepH rfl (fun K hK => ?_) AllReadyH.nil
  go_simp
  refine (HE2.out wd (bnext HB4.out hd)).mono ?_
  rintro e we ⟨rfl, hq⟩
  have he := bnext hd hq
  go_wp2_with fail
  refine hK.out _ _ (he) (fun _ => ?_)
  clear hK K
  (try simp only [Act.put, List.setIfInBounds_toArray, List.set_cons_zero, List.set_cons_succ])
  refine takeH (i := 12) (v := ?_) rfl (by kernel_rfl) (by kernel_rfl) (by kernel_rfl) (fun _ _ _ h => h) (Or.inl ⟨by rfl, ?_⟩) (by assumption) ?_
  rotate_left
  · (intro w hSw; (try dsimp only at hSw); go_simp; first | done | with_reducible rfl)
  (try simp only [Act.put, List.setIfInBounds_toArray, List.set_cons_zero, List.set_cons_succ])
  refine takeH (i := 13) (v := ?_) rfl (by kernel_rfl) (by kernel_rfl) (by kernel_rfl) (fun _ _ _ h => h) (Or.inl ⟨by rfl, ?_⟩) (by assumption) ?_
  rotate_left
  · (intro w hSw; (try dsimp only at hSw); go_simp; first | done | with_reducible rfl)
  (try simp only [Act.put, List.setIfInBounds_toArray, List.set_cons_zero, List.set_cons_succ])
  refine takeH (i := 14) (v := ?_) rfl (by kernel_rfl) (by kernel_rfl) (by kernel_rfl) (fun _ _ _ h => h) (Or.inl ⟨by rfl, ?_⟩) (by assumption) ?_
  rotate_left
  · (intro w hSw; (try dsimp only at hSw); go_simp; first | done | with_reducible rfl)
  (try simp only [Act.put, List.setIfInBounds_toArray, List.set_cons_zero, List.set_cons_succ])
  refine takeH (i := 15) (v := ?_) rfl (by kernel_rfl) (by kernel_rfl) (by kernel_rfl) (fun _ _ _ h => h) (Or.inl ⟨by rfl, ?_⟩) (by assumption) ?_
  rotate_left
  · (intro w hSw; (try dsimp only at hSw); obtain ⟨⟨a0, a1, a2, a3, a4, a5, a6, a7, a8⟩, _⟩ := row9_at (below_block HA4.out hSw); go_simp; first | done | with_reducible rfl)
  (try simp only [Act.put, List.setIfInBounds_toArray, List.set_cons_zero, List.set_cons_succ])
  refine takeH (i := 16) (v := ?_) rfl (by kernel_rfl) (by kernel_rfl) (by kernel_rfl) (fun _ _ _ h => h) (Or.inl ⟨by rfl, ?_⟩) (by assumption) ?_
  rotate_left
  · (intro w hSw; (try dsimp only at hSw); obtain ⟨⟨a0, a1, a2, a3, a4, a5, a6, a7, a8⟩, _⟩ := row9_at (below_block HA4.out hSw); go_simp; first | done | with_reducible rfl)
  (try simp only [Act.put, List.setIfInBounds_toArray, List.set_cons_zero, List.set_cons_succ])
  refine wpAnyH_ready (rs := [17]) (by kernel_rfl) (by simp) ?_
  refine stepH rfl (fun K hK => ?_) AllReadyH.nil
  go_simp
  refine (HE3.out we (bnext HB4.out he)).mono ?_
  rintro e wf ⟨rfl, hq⟩
  have hf := bnext he hq
  go_wp2_with fail
  refine hK.out _ _ (hf) (fun _ => ?_)
  clear hK K
  (try simp only [Act.put, List.setIfInBounds_toArray, List.set_cons_zero, List.set_cons_succ])
  refine takeH (i := 18) (v := ?_) rfl (by kernel_rfl) (by kernel_rfl) (by kernel_rfl) (fun _ _ _ h => h) (Or.inl ⟨by rfl, ?_⟩) (by assumption) ?_
  rotate_left
  · (intro w hSw; (try dsimp only at hSw); go_simp; first | done | with_reducible rfl)
  (try simp only [Act.put, List.setIfInBounds_toArray, List.set_cons_zero, List.set_cons_succ])
  refine takeH (i := 19) (v := ?_) rfl (by kernel_rfl) (by kernel_rfl) (by kernel_rfl) (fun _ _ _ h => h) (Or.inl ⟨by rfl, ?_⟩) (by assumption) ?_
  rotate_left
  · (intro w hSw; (try dsimp only at hSw); go_simp; first | done | with_reducible rfl)
  (try simp only [Act.put, List.setIfInBounds_toArray, List.set_cons_zero, List.set_cons_succ])
  refine wpAnyH_ready (rs := [20]) (by kernel_rfl) (by simp) ?_
  refine stepH rfl (fun K hK => ?_) AllReadyH.nil
  go_simp
  refine (HAW.out wf).mono ?_
  rintro e wg ⟨rfl, hq⟩
  have hg := bnext hf hq
  go_wp2_with fail
  refine hK.out _ _ (hg) (fun _ => ?_)
  clear hK K
  (try simp only [Act.put, List.setIfInBounds_toArray, List.set_cons_zero, List.set_cons_succ])
  refine takeH (i := 21) (v := ?_) rfl (by kernel_rfl) (by kernel_rfl) (by kernel_rfl) (fun _ _ _ h => h) (Or.inl ⟨by rfl, ?_⟩) (by assumption) ?_
  rotate_left
  · (intro w hSw; (try dsimp only at hSw); go_simp; first | done | with_reducible rfl)
  (try simp only [Act.put, List.setIfInBounds_toArray, List.set_cons_zero, List.set_cons_succ])
  refine takeH (i := 22) (v := ?_) rfl (by kernel_rfl) (by kernel_rfl) (by kernel_rfl) (fun _ _ _ h => h) (Or.inl ⟨by rfl, ?_⟩) (by assumption) ?_
  rotate_left
  · (intro w hSw; (try dsimp only at hSw); go_simp; first | done | with_reducible rfl)
  (try simp only [Act.put, List.setIfInBounds_toArray, List.set_cons_zero, List.set_cons_succ])
  refine wpAnyH_done (by kernel_rfl) ?_ _
  have HF := Lib.hid (bnext HB.out (bnext HB4.out hg))
  clear ha hb hc hd he hf hg
  go_wp2
  go_ret
  exact ⟨rfl, HF.out⟩

end Go.Proofs.Ytdipheijagjelaa
